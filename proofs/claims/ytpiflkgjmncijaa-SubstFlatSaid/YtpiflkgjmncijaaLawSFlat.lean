/-
  The statement SubstFlat, walked: for any row of binds and any term that lie in memory the call returns true, and nothing that was there has turned.
-/
import Derived.Test.YtpiflkgjmncijaaLawSApp
import Derived.Test.YtpiflkgjmncijaaBSame
import Derived.Deep.RegionLaw
namespace Go.Proofs.Ytpiflkgjmncijaa
open Go.RowKit Go.Shelf Go.Maps

theorem step_append_bd {w : World} {ops : Array Oper} {o : Oper} {a : Act} {K : Act → World → Prop} {Q : Exit → Act → World → Prop} {E : Prop} (hgd : o.guard = none) (s x : Operand)
    (ho : o.op = .call { callee := .builtin .append, args := #[s, x], argTypes := #[44, 44] })
    (base : Nat) (v : Value) (n : Nat) (xs : List Value) (hs : a.eval s = v) (hown : w.ownsRow base 50 5 v n xs)
    (H c : Nat) (news : List Value) (hx : a.eval x = .slice (some ⟨H, 0, none⟩) 1 c) (hl : news.length = 5) (hnews : ∀ j u, news[j]? = some u → w.cell? ((⟨H, 0, none⟩ : Addr).add j) = some u) (h1 : ∀ u ∈ news, u.oneCell' = true)
    (hn : n ≤ 1000000) (hbase : base ≤ w.heap.size)
    (h : ∀ v' w', w'.ownsRow base 50 5 v' (n + 1) (xs ++ news) → w.grownBy w' v.ownBlock → (v'.ownBlock = v.ownBlock ∨ ∀ b, v'.ownBlock = some b → w.heap.size ≤ b) → K (a.put o.dst v') w') :
    if Region.wanted o (yielded ops a.tmps) = true then Oper.wp Try.prog o a w K Q else E := by
  have hw : Region.wanted o (yielded ops a.tmps) = true := by simp [Region.wanted, hgd]
  rw [if_pos hw]
  obtain ⟨i0, hi, hz0, hz1, hz2⟩ := info_parts Try.infoBd
  obtain ⟨v', w', hr, h2, h3, h4⟩ := run_append_any (P := Try.prog) (w := w) base 44 o.type 50 i0 _ 5 64 Try.underlying44 hi hz0 hz1 hz2 rfl (by decide) v n xs hown (some ⟨H, 0, none⟩) 1 c news (by omega) (.inr ⟨_, rfl, hnews⟩) h1 (by unfold maxLen; omega) (by omega) hbase
  unfold Oper.wp execOp
  simp only [ho, resolve, invoke, builtin, Sem.run_bind, Sem.run_pure, Result.andThen_ok, List.map_toArray, List.map_cons, List.map_nil, hs, hx, hr]
  refine h v' w' h2 h3 ?_
  rcases h4 with h4 | h4
  · exact .inl h4
  · exact .inr fun b hb => by rw [h4] at hb; cases hb; exact Nat.le_refl _
theorem szB_flat {σ : Int → Tm} {l : List Bd} (h : ∀ i (h : i < l.length), (l[i].t.bnd σ).right = true) : szB (flatL σ l) ≤ 3000 * l.length := by
  have hr : ∀ b ∈ l, (b.t.bnd σ).size ≤ 3000 := fun b hb => by
    obtain ⟨i, hi, rfl⟩ := List.getElem_of_mem hb
    have := h i hi
    simp only [Tm.right, Bool.and_eq_true, decide_eq_true_eq] at this
    exact this.1.2
  clear h
  unfold szB flatL
  induction l with
  | nil => simp [Tm.sizes]
  | cons b r ih =>
    have h1 := ih (fun x hx => hr x (List.mem_cons_of_mem _ hx))
    have h2 := hr b (List.mem_cons_self)
    simp only [List.map_cons, Tm.sizes, List.length_cons]
    omega

/-- The same, told with where the answer lies. -/
def RAppPostP (u : Tm) (w : World) (e : Ending) (w' : World) : Prop :=
  ∃ X E g c, e = .returned (.tuple #[.agg #[.int .i64 X.kind, .string X.name, .int .i64 X.n, .slice g X.args.length c], .int .i64 E]) ∧ Tm.innP w' (fun b => w.heap.size ≤ b ∧ b < w'.heap.size) X (.slice g X.args.length c) ∧ Below w.heap.size w w' ∧ ((u.right = false ∧ X = kZ ∧ E = 3) ∨ (u.right = true ∧ X = u ∧ E = 0))
theorem innP_kZ (w : World) (ok : Nat → Prop) : Tm.innP w ok kZ (.slice none 0 0) := Tm.innP_mk.2 ⟨⟨by decide, Nat.zero_le _, by decide⟩, none, 0, rfl, Nat.le_refl _, Nat.zero_le _, .inl rfl⟩

set_option maxRecDepth 100000 in
set_option maxHeartbeats 2000000 in
theorem rapply_anyP (l : List Bd) (σ : Int → Tm) (hl : RightL l) (hσ : Sol l σ) (t : Tm) (ht : t.fair = true) (w : World) (svl sv : Value) (hsl : bdsIn w w.heap.size l svl) (hin : Tm.inn w w.heap.size t sv) (hmax : l.length ≤ 1000) :
    Calls Try.prog 32 #[svl, .agg #[.int .i64 t.kind, .string t.name, .int .i64 t.n, sv]] w fun e w' => RAppPostP (t.bnd σ) w e w' := by
  obtain ⟨gl, cl, rfl, _, _, _, _⟩ := id hsl
  obtain ⟨_, g, cap, rfl, hcap, hlen, _⟩ := Tm.inn_iff.1 hin
  have hb0 := al2 w (.cells #[.int .i64 t.kind, .string t.name, .int .i64 t.n, .slice g t.args.length cap] 24) (.cells #[.int .i64 0, .string ⟨#[]⟩, .int .i64 0, .slice none 0 0] 24)
  have hin0 := Tm.inn_mono (Tm.inn_below hin hb0 (Nat.le_refl _)) hb0.size
  obtain ⟨hok, r, hr⟩ := hl
  obtain ⟨M, hM⟩ := bound_of r l.length
  have he := rbecome_any l (by omega) hok σ hσ r hr M t (fun v _ q hq => hM q (place_some hq).1) ht 3000 100 _ _ _ (by omega) (by omega) (by omega) (by omega) (bdsIn_held hsl hb0) hin0
  have hfr := fit_right (hσ.fairT ht)
  obtain ⟨u, hu⟩ : ∃ u, t.bnd σ = u := ⟨_, rfl⟩
  rw [hu] at he hfr ⊢
  have HE := Lib.hid he
  have HB0 := Lib.hid hb0
  have HFR := Lib.hid hfr
  clear he hb0 hin0 hσ hsl hin hok hr hM hu hfr ht
  go_enter Try.func32, Try.ntmps32
  go_wp2_with fail
  refine HE.out.mono ?_
  rintro e w1 ⟨hb1, hpost⟩
  rw [HFR.out] at hpost
  have hs1 : w.heap.size + 2 ≤ w1.heap.size := by have := hb1.size; simpa using this
  have hl1 : w.heap.size + 1 < w1.heap.size := by omega
  have hr1 : w1.heap[w.heap.size + 1]? = some (Obj.cells #[.int .i64 0, .string ⟨#[]⟩, .int .i64 0, .slice none 0 0] 24 (0, 0)) := (hb1.block _ (by simp)).trans (newBlk _ _ _ (by simp))
  have HB1 := Lib.hid (HB0.out.trans (hb1.mono (by simp; omega)))
  obtain ⟨⟨c0, c1, c2, c3⟩, f0, f1, f2, f3⟩ := row4 hr1
  have hbs : (w.alloc (.cells #[.int .i64 t.kind, .string t.name, .int .i64 t.n, .slice g t.args.length cap] 24)).heap.size + 1 = w.heap.size + 2 := by simp
  clear hb1 hr1 HE hbs
  rcases hpost with ⟨hf, rfl⟩ | ⟨hf, gu, cu, rfl, hpu⟩
  · have HF := Lib.hid hf
    clear hf
    go_wp2_with fail
    refine bodyPost_ret (v := .tuple #[.agg #[.int .i64 0, .string ⟨#[]⟩, .int .i64 0, .slice none 0 0], .int .i64 3]) (by simp [results, Try.results32, go_sem, c0, c1, c2, c3, hl1]) rfl ?_
    exact ⟨kZ, 3, none, 0, rfl, innP_kZ _ _, (set4_below HB1.out (by omega) _ _ _ _).alloc (by rw [set4_size]; omega) _, .inl ⟨HF.out, rfl, rfl⟩⟩
  · have HF := Lib.hid hf
    have HPU := Lib.hid hpu
    have hup : ((u.size : Int) == 0) = false := by have := u.size_pos; simp; omega
    clear hf hpu
    go_wp2_with fail
    refine bodyPost_ret (v := .tuple #[.agg #[.int .i64 u.kind, .string u.name, .int .i64 u.n, .slice gu u.args.length cu], .int .i64 0]) (by simp [results, Try.results32, go_sem, c0, c1, c2, c3, hl1]) rfl ?_
    refine ⟨u, 0, gu, cu, rfl, ?_, (set4_below HB1.out (by omega) _ _ _ _).alloc (by rw [set4_size]; omega) _, .inr ⟨HF.out, rfl, rfl⟩⟩
    refine Tm.innP_same (fun b hb' => ⟨by have := hb'.1; simp at this; omega, by have := hb'.2; simp; omega⟩) (fun b o v hb' hc => ?_) _ _ HPU.out
    have hne : b ≠ w.heap.size + 1 := by have := hb'.1; simp at this; omega
    have hc2 := (World.cell?_of_block (a := ⟨b, o, none⟩) (set4_blk w1 (.int .i64 u.kind) (.string u.name) (.int .i64 u.n) (.slice gu u.args.length cu) hne)).trans hc
    have hsz := set4_size w1 (w.heap.size + 1) (.int .i64 u.kind) (.string u.name) (.int .i64 u.n) (.slice gu u.args.length cu)
    exact (World.cell?_alloc_lt _ _ _ (Nat.lt_of_lt_of_eq hb'.2 hsz.symm)).trans hc2

set_option maxRecDepth 100000 in
set_option maxHeartbeats 8000000 in
theorem sflat_any (l : List Bd) (t : Tm) (w : World) (svl svt : Value) (hsl : bdsIn w w.heap.size l svl) (hin : Tm.inn w w.heap.size t svt) :
    Calls Try.prog 9 #[svl, .agg #[.int .i64 t.kind, .string t.name, .int .i64 t.n, svt]] w fun e w' => e = .returned (.bool true) ∧ Below w.heap.size w w' := by
  obtain ⟨gl, cl, rfl, _, _, hwf, _⟩ := id hsl
  obtain ⟨_, g, cap, rfl, hcap, hlen, _⟩ := Tm.inn_iff.1 hin
  obtain ⟨σ, hσ⟩ := sol_any l
  have HS := Lib.hid hσ
  have HWF := Lib.hid hwf
  have A0 := Lib.hid (ASt.start hsl hin)
  clear hσ hsl hin hwf
  go_enter Try.func9, Try.ntmps9
  go_wp2_with fail
  refine (bsome_any l _ _ A0.out.bl).mono ?_
  rintro e W1 ⟨q, rfl, hq, hb1⟩
  have A1 := Lib.hid (A0.out.next hb1)
  have HQ := Lib.hid hq
  obtain ⟨c0, c1, c2, c3⟩ := A1.out.bt.cells
  clear hb1 hq A0
  cases q with
  | false =>
    go_wp2_with fail
    refine (knows3_any W1).mono ?_
    rintro e W2 ⟨rfl, hb2⟩
    have HB := Lib.hid (A1.out.next hb2).hb
    clear hb2
    go_wp2_with fail
    go_ret
    exact ⟨rfl, HB.out⟩
  | true =>
    obtain ⟨hl60, hl4⟩ := HQ.out rfl
    go_wp2_with fail
    have hone := one_slice (newBlk W1 _ _ rfl) ((A1.out.alloc (.cells #[.int .i64 t.kind, .string t.name, .int .i64 t.n, .slice g t.args.length cap] 24)).bt.2)
    refine (some_any [t] _ _ _ (Nat.le_refl _) hone).mono ?_
    rintro e W2 ⟨rfl, hb2⟩
    have A2 := Lib.hid ((A1.out.alloc _).next hb2)
    clear hb2 hone c0 c1 c2 c3 A1
    cases hs : Tm.someB [t] with
    | false =>
      clear hs
      go_wp2_with fail
      refine (knows3_any W2).mono ?_
      rintro e W3 ⟨rfl, hb3⟩
      have HB := Lib.hid (A2.out.next hb3).hb
      clear hb3
      go_wp2_with fail
      go_ret
      exact ⟨rfl, HB.out⟩
    | true =>
      have hsz := Tm.some_size hs (t := t) (by simp)
      clear hs
      go_wp2_with fail
      refine (flat_any l σ HS.out W2 _ A2.out.bl (by omega) (by omega)).mono ?_
      rintro e W3 ⟨F, E, gf, cf, rfl, hinf, hb3, hspec⟩
      have A3 := Lib.hid (A2.out.next hb3)
      have F3 := Lib.hid hinf
      have HSP := Lib.hid hspec
      clear hinf hb3 hspec A2
      go_wp2_with fail
      refine (bright_any l _ _ A3.out.bl (by omega) (by omega)).mono ?_
      rintro e W4 ⟨q4, rfl, hq4, hb4⟩
      have A4 := Lib.hid (A3.out.next hb4)
      have F4 := Lib.hid (bdsIn_held F3.out hb4)
      have HQ4 := Lib.hid hq4
      clear hb4 hq4 A3 F3
      cases q4 with
      | false =>
        have hno : ¬ RightL l := fun h => by have := HQ4.out.2 h; cases this
        have hFE : F = [] ∧ E = 1 := by
          rcases HSP.out with ⟨_, h1, h2⟩ | ⟨h, _⟩ | ⟨h, _⟩
          · exact ⟨h1, h2⟩
          · exact absurd h hno
          · exact absurd h hno
        obtain ⟨rfl, rfl⟩ := hFE
        clear hno
        go_wp2_with fail
        refine (knows3_any W4).mono ?_
        rintro e W5 ⟨rfl, hb5⟩
        have HB := Lib.hid (A4.out.next hb5).hb
        clear hb5
        go_wp2_with fail
        go_ret
        exact ⟨rfl, HB.out⟩
      | true =>
        have hr : RightL l := HQ4.out.1 rfl
        have HR := Lib.hid hr
        clear hr
        go_wp2_with fail
        go_loopw [7, 8, 9, 10] (fun v ii _ _ wr => ∃ k : Nat, k ≤ l.length ∧ ii = .int .i64 k ∧ Hid (∀ j (h : j < l.length), j < k → (l[j].t.bnd σ).right = true) ∧ Hid (∃ xs, wr.ownsRow W4.heap.size 50 5 v k xs ∧ cellsB wr (okRow W4.heap.size wr v) (flatL σ (l.take k)) xs) ∧ Hid (Below W4.heap.size W4 wr)) (fun _ ii _ _ _ => l.length - (intOf ii).toNat)
        case atStart => exact ⟨0, Nat.zero_le _, rfl, fun j _ h => by omega, ⟨[], World.ownsRow_nil _ _ _ _, by simp [flatL, cellsB]⟩, Below.refl _ _⟩
        case round =>
          obtain ⟨wo, rfl⟩ : ∃ x, x = wr := ⟨_, rfl⟩
          obtain ⟨k, hk, rfl, hp, hrow, hb⟩ := hrel
          have HROW := Lib.hid hrow.out
          have HB := Lib.hid hb.out
          have hbs := hb.out.size
          clear hrow hb
          by_cases hlt : k < l.length
          · have hbl := (A4.out.next HB.out).bl
            obtain ⟨b, off, sv, hg, hbB, g0, g1, g2, g3, g4, hin'⟩ := bdsIn_get hbl k hlt
            subst hg
            obtain ⟨ga, capa, rfl⟩ := inn_slice hin'
            have hfair := right_fair (HR.out.1 k hlt).2.2.2
            have hra := rapply_anyP l σ HR.out (HS.out HR.out) l[k].t hfair wo _ _ hbl hin' (by omega)
            obtain ⟨u, hu⟩ : ∃ u, l[k].t.bnd σ = u := ⟨_, rfl⟩
            have hfs := flat_snoc (σ := σ) hlt
            rw [hu] at hra hfs
            have HRA := Lib.hid hra
            have HFS := Lib.hid hfs
            have HU := Lib.hid hu
            clear hbl hin' hfair hra hfs hu
            go_wp2_with fail
            refine HRA.out.mono ?_
            rintro e w3 ⟨X, n, gx, cx, rfl, hinx, hb3, hspec⟩
            have hs3 := hb3.size
            have d0 := (hb3.cell (p := ⟨b, off + k * 5, none⟩) hbB).trans g0
            have HB3 := Lib.hid hb3
            have HPX := Lib.hid hinx
            have HINX := Lib.hid (Tm.inn_of_P (fun b hb' => hb'.2) _ _ hinx)
            clear hb3 hinx g0 g1 g2 g3 g4 HRA
            rcases hspec with ⟨hf, rfl, rfl⟩ | ⟨hf, rfl, rfl⟩
            · have hFE : F = [] ∧ E = 3 := by
                rcases HSP.out with ⟨h, _⟩ | ⟨_, _, h1, h2⟩ | ⟨_, h, _⟩
                · exact absurd HR.out h
                · exact ⟨h1, h2⟩
                · have := h k hlt
                  rw [HU.out, hf] at this; cases this
              obtain ⟨rfl, rfl⟩ := hFE
              have A5 := Lib.hid (((A4.out.next HB.out).next HB3.out).alloc (.cells #[.int .i64 kZ.kind, .string kZ.name, .int .i64 kZ.n, .slice gx kZ.args.length cx] 24))
              clear hf
              go_wp2_with fail
              refine (knows3_any _).mono ?_
              rintro e W6 ⟨rfl, hb6⟩
              have HB6 := Lib.hid (A5.out.next hb6).hb
              clear hb6
              go_wp2_with fail
              go_ret
              exact ⟨rfl, HB6.out⟩
            · have HF := Lib.hid hf
              clear hf
              have hbx : b < w3.heap.size := by omega
              obtain ⟨xs, hown, hcells⟩ := HROW.out
              have HOWN := Lib.hid hown
              have HCELLS := Lib.hid hcells
              have HOWN3 := Lib.hid ((ownsRow_below hown HB3.out).alloc (.cells #[.int .i64 X.kind, .string X.name, .int .i64 X.n, .slice gx X.args.length cx] 24))
              clear hown hcells HROW
              go_wp2_with fail
              go_region_law (((refine step_append_bd (by rfl) _ _ (by rfl) W4.heap.size u7 k xs (by rfl) (World.ownsRow.alloc HOWN3.out _) _ 1 [.int .i64 l[k].v, .int .i64 X.kind, .string X.name, .int .i64 X.n, .slice gx X.args.length cx] (by rfl) rfl (news5 _ (by first | rfl | simp)) one5 (by omega) (by simp; omega) ?_; intro v5 w5 hown5 hgrow hsep)))
              all_goals go_wp2_with fail
              all_goals have hb4 : Below wo.heap.size wo (w3.alloc (.cells #[.int .i64 X.kind, .string X.name, .int .i64 X.n, .slice gx X.args.length cx] 24)).drew := (HB3.out.alloc (by omega) _).drew
              all_goals have hs5 := hgrow.size
              all_goals try simp at hs5
              all_goals refine ⟨⟨k + 1, by omega, by go_num, ?_, ⟨_, hown5, ?_⟩, ?_⟩, ?_⟩
              all_goals first
                | (intro j hj hjk
                   by_cases hjj : j < k
                   · exact hp.out j hj hjj
                   · obtain rfl : j = k := by omega
                     rw [HU.out]; exact HF.out)
                | (rw [HFS.out]
                   exact brow_step (x := ⟨l[k].v, X⟩) HOWN.out HCELLS.out hb4 HB.out.size (Tm.innP_same (fun b hb' => ⟨hb'.1, by have := hb'.2; simp; omega⟩) (fun b o v hb' hc => by rw [World.cell?_drew, World.cell?_alloc_lt _ _ _ (by exact hb'.2)]; exact hc) _ _ HPX.out) hgrow hsep)
                | exact ((HB.out.trans (hb4.mono HB.out.size)).alloc (by simp; omega) _).grown hgrow (by simp; omega) (fun j e => (HOWN.out.lt j e).1)
                | (simp [intOf]; omega)
          · obtain rfl : k = l.length := by omega
            obtain ⟨xs, hown, hcells⟩ := HROW.out
            obtain ⟨gr, cr, rfl⟩ := owns_slice hown
            rw [List.take_length] at hcells
            have hall : ∀ i (h : i < l.length), (l[i].t.bnd σ).right = true := fun i h => hp.out i h h
            have hFE : F = flatL σ l ∧ E = 0 := by
              rcases HSP.out with ⟨h, _⟩ | ⟨_, ⟨i, hi, h⟩, _⟩ | ⟨_, _, h1, h2⟩
              · exact absurd HR.out h
              · rw [hall i hi] at h; cases h
              · exact ⟨h1, h2⟩
            obtain ⟨rfl, rfl⟩ := hFE
            have hfl := flat_length σ l
            have hbds := bds_of_owns (g := gr) (c := cr) (l := flatL σ l) (by rw [hfl]; exact hown) hcells (by omega) (fun b hb => hb.2.1) (fun x hx => by
              obtain ⟨y, hy, rfl⟩ := List.mem_map.1 hx
              exact HWF.out y hy)
            have hfr : RightL (flatL σ l) := flat_right (HS.out HR.out) HR.out (fun b hb => by obtain ⟨i, hi, rfl⟩ := List.getElem_of_mem hb; exact hall i hi)
            have hfs : Sol (flatL σ l) σ := flat_sol (HS.out HR.out) HR.out.1
            have hfz := szB_flat hall
            have A5 := Lib.hid (A4.out.next HB.out)
            have F5 := Lib.hid (bdsIn_held F4.out HB.out)
            obtain ⟨f, hf⟩ : ∃ f, flatL σ l = f := ⟨_, rfl⟩
            rw [hf] at hfl hbds hfr hfs hfz F5 ⊢
            have hfl1 : f.length ≤ l.length := by omega
            have hfl2 : l.length ≤ f.length := by omega
            rw [hfl] at hbds
            have HW5 := Lib.hid hbds
            have HFR := Lib.hid hfr
            have HFSOL := Lib.hid hfs
            clear hown hcells HROW hbds hfr hfs hfl hall hp hf A4 F4 HSP
            go_wp2_with fail
            refine (bsame_any f wo _ _ F5.out HW5.out (by omega)).mono ?_
            rintro e W6 ⟨rfl, hb6⟩
            have A6 := Lib.hid (A5.out.next hb6)
            have F6 := Lib.hid (bdsIn_held F5.out hb6)
            clear hb6 A5 F5 HW5
            go_wp2_with fail
            refine (sright_any f W6 _ F6.out (by omega) (by omega)).mono ?_
            rintro e W7 ⟨q, rfl, hq, hb7⟩
            obtain rfl : q = true := hq.2 HFR.out
            have A7 := Lib.hid (A6.out.next hb7)
            have F7 := Lib.hid (bdsIn_held F6.out hb7)
            obtain ⟨c0, c1, c2, c3⟩ := A7.out.bt.cells
            clear hq hb7 A6 F6
            go_wp2_with fail
            refine (apply_any l σ HS.out t W7 _ _ A7.out.bl A7.out.bt.2 (by omega) (by omega) (by omega)).mono ?_
            rintro e W8 ⟨X, E1, gx, cx, rfl, hinx, hb8, hspec8⟩
            have A8 := Lib.hid ((A7.out.next hb8).alloc (.cells #[.int .i64 X.kind, .string X.name, .int .i64 X.n, .slice gx X.args.length cx] 24))
            have F8 := Lib.hid (bdsIn_held (bdsIn_held F7.out hb8) ((Below.refl W8.heap.size W8).alloc (Nat.le_refl _) (.cells #[.int .i64 X.kind, .string X.name, .int .i64 X.n, .slice gx X.args.length cx] 24)))
            have B8 := Lib.hid (TmBox.new hinx)
            have HSP8 := Lib.hid hspec8
            obtain ⟨d0, d1, d2, d3⟩ := (A7.out.next hb8).bt.cells
            have hlw := (A7.out.next hb8).bt.lt
            clear hinx hb8 hspec8 c0 c1 c2 c3 A7 F7
            go_wp2_with fail
            refine (apply_any f σ (fun _ => HFSOL.out) t _ _ _ F8.out A8.out.bt.2 (by omega) (by omega) (by omega)).mono ?_
            rintro e W9 ⟨Y, E2, gy, cy, rfl, hiny, hb9, hspec9⟩
            have hXY : X = Y ∧ E1 = E2 := by
              rcases HSP8.out with ⟨h, h1, h2⟩ | ⟨h, h1⟩
              · rcases hspec9 with ⟨_, k1, k2⟩ | ⟨k, _⟩
                · exact ⟨by rw [h1, k1], by rw [h2, k2]⟩
                · exact absurd ⟨HR.out, k.2⟩ h
              · rcases hspec9 with ⟨k, _⟩ | ⟨_, k1⟩
                · exact absurd ⟨HFR.out, h.2⟩ k
                · rcases h1 with ⟨h3, h1, h2⟩ | ⟨h3, h1, h2⟩
                  · rcases k1 with ⟨_, k1, k2⟩ | ⟨k3, _⟩
                    · exact ⟨by rw [h1, k1], by rw [h2, k2]⟩
                    · rw [h3] at k3; cases k3
                  · rcases k1 with ⟨k3, _⟩ | ⟨_, k1, k2⟩
                    · rw [h3] at k3; cases k3
                    · exact ⟨by rw [h1, k1], by rw [h2, k2]⟩
            obtain ⟨rfl, rfl⟩ := hXY
            have A9 := Lib.hid ((A8.out.next hb9).alloc (.cells #[.int .i64 X.kind, .string X.name, .int .i64 X.n, .slice gy X.args.length cy] 24))
            have B9 := Lib.hid ((B8.out.next hb9).alloc (.cells #[.int .i64 X.kind, .string X.name, .int .i64 X.n, .slice gy X.args.length cy] 24))
            have C9 := Lib.hid (TmBox.new hiny)
            obtain ⟨z0, z1, z2, z3⟩ := (B8.out.next hb9).cells
            have hl9 := (B8.out.next hb9).lt
            have hee : (E1 == E1) = true := by simp
            have hss := Lib.hid (same_self X)
            clear hiny hb9 hspec9 d0 d1 d2 d3 A8 F8 B8 HSP8
            go_wp2_with fail
            refine (rsame_any X X _ _ _ _ (Nat.le_refl _) B9.out.2 C9.out.2).mono ?_
            rintro e W10 ⟨rfl, hb10⟩
            rw [hss.out]
            have A10 := Lib.hid (A9.out.next hb10)
            clear hb10
            go_wp2_with fail
            refine (knows3_any W10).mono ?_
            rintro e W11 ⟨rfl, hb11⟩
            have HB11 := Lib.hid (A10.out.next hb11).hb
            clear hb11
            go_wp2_with fail
            go_ret
            exact ⟨rfl, HB11.out⟩
end Go.Proofs.Ytpiflkgjmncijaa
