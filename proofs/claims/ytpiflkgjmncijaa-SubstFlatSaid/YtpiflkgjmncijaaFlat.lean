/-
  The program's Flat of a list of binds.
-/
import Derived.Test.YtpiflkgjmncijaaApply
namespace Go.Proofs.Ytpiflkgjmncijaa
open Go.RowKit Go.Shelf Go.Maps

/-- The cells of a row of binds. -/
def cellsB (w : World) (ok : Nat → Prop) : List Bd → List Value → Prop
  | [], xs => xs = []
  | x :: r, xs => ∃ sv xs', xs = .int .i64 x.v :: .int .i64 x.t.kind :: .string x.t.name :: .int .i64 x.t.n :: sv :: xs' ∧ Tm.innP w ok x.t sv ∧ cellsB w ok r xs'
theorem cellsB_same {w w' : World} {ok ok' : Nat → Prop} (hB : ∀ b, ok b → ok' b) (hc : ∀ b o v, ok b → w.cell? ⟨b, o, none⟩ = some v → w'.cell? ⟨b, o, none⟩ = some v) :
    ∀ (l : List Bd) (xs : List Value), cellsB w ok l xs → cellsB w' ok' l xs
  | [], _, h => h
  | x :: r, _, ⟨sv, xs', h1, h2, h3⟩ => ⟨sv, xs', h1, Tm.innP_same hB hc x.t sv h2, cellsB_same hB hc r xs' h3⟩
theorem cellsB_snoc {w : World} {ok : Nat → Prop} {x : Bd} {sv : Value} (ht : Tm.innP w ok x.t sv) : ∀ (l : List Bd) (xs : List Value), cellsB w ok l xs →
    cellsB w ok (l ++ [x]) (xs ++ [.int .i64 x.v, .int .i64 x.t.kind, .string x.t.name, .int .i64 x.t.n, sv])
  | [], _, h => by
    simp only [cellsB] at h
    subst h
    exact ⟨sv, [], rfl, ht, rfl⟩
  | u :: r, _, ⟨sv', xs', h1, h2, h3⟩ => ⟨sv', _, by rw [h1]; rfl, h2, cellsB_snoc ht r xs' h3⟩
theorem rowB_of_cells {w : World} {ok : Nat → Prop} {B b : Nat} (hB : ∀ b, ok b → b < B) : ∀ (l : List Bd) (xs : List Value) (off : Nat), cellsB w ok l xs → (∀ j u, xs[j]? = some u → w.cell? ⟨b, off + j, none⟩ = some u) → ∀ i (h : i < l.length), bdAt w B b (off + i * 5) l[i]
  | [], _, _, _, _, i, h => absurd h (Nat.not_lt_zero _)
  | x :: r, _, off, ⟨sv, xs', h1, h2, h3⟩, hc, i, h => by
    subst h1
    cases i with
    | zero =>
      rw [show off + 0 * 5 = off by omega]
      exact (⟨sv, hc 0 _ rfl, hc 1 _ rfl, hc 2 _ rfl, hc 3 _ rfl, hc 4 _ rfl, Tm.inn_of_P hB _ _ h2⟩ : bdAt w B b off x)
    | succ i =>
      have := rowB_of_cells hB r xs' (off + 5) h3 (fun j u hj => by
        have := hc (j + 5) u (by simpa using hj)
        rwa [show off + (j + 5) = off + 5 + j by omega] at this) i (by simpa using h)
      rw [show off + (i + 1) * 5 = off + 5 + i * 5 by omega]
      exact this
theorem bds_of_owns {w : World} {base : Nat} {e : TypeId} {g : Option Addr} {c : Nat} {l : List Bd} {xs : List Value} {ok : Nat → Prop} (h : w.ownsRow base e 5 (.slice g l.length c) l.length xs) (hc : cellsB w ok l xs) (hlen : l.length ≤ 2199023255552)
    (hB : ∀ b, ok b → b < w.heap.size) (hwf : ∀ x ∈ l, (Lit.int .i64 x.v).wf = true) : bdsIn w w.heap.size l (.slice g l.length c) := by
  rcases h.2 with ⟨e1, h0⟩ | ⟨b, cap, cur, e1, _, hg, hn, _⟩
  · injection e1 with e2 e3 e4
    exact ⟨g, c, rfl, by omega, hlen, hwf, .inl (List.eq_nil_of_length_eq_zero h0)⟩
  · injection e1 with e2 e3 e4
    refine ⟨g, c, rfl, by omega, hlen, hwf, .inr ⟨b, 0, e2, (Array.getElem?_eq_some_iff.1 hg).1, ?_⟩⟩
    refine rowB_of_cells hB l xs 0 hc fun j u hj => ?_
    have := h.cells (g := b) (by rw [e2]; rfl) j u hj
    simpa [Addr.add_lit] using this
/-- One bind more in a row that a call gathers. -/
theorem brow_step {wr w2 w3 : World} {lo : Nat} {e : TypeId} {v v' : Value} {k : Nat} {l : List Bd} {x : Bd} {xs : List Value} {sv : Value} {tmp : Obj}
    (hrow : wr.ownsRow lo e 5 v k xs) (hcells : cellsB wr (okRow lo wr v) l xs) (hb : Below wr.heap.size wr w2) (hlo : lo ≤ wr.heap.size)
    (ht : Tm.innP w2 (fun b => wr.heap.size ≤ b ∧ b < w2.heap.size) x.t sv) (hgrow : (w2.alloc tmp).grownBy w3 v.ownBlock)
    (hsep : v'.ownBlock = v.ownBlock ∨ ∀ b, v'.ownBlock = some b → (w2.alloc tmp).heap.size ≤ b) :
    cellsB w3 (okRow lo w3 v') (l ++ [x]) (xs ++ [.int .i64 x.v, .int .i64 x.t.kind, .string x.t.name, .int .i64 x.t.n, sv]) := by
  have hs3 : w2.heap.size + 1 ≤ w3.heap.size := by simpa using hgrow.size
  have hs2 := hb.size
  have cell3 : ∀ b o u, b < w2.heap.size → v.ownBlock ≠ some b → w2.cell? ⟨b, o, none⟩ = some u → w3.cell? ⟨b, o, none⟩ = some u := fun b o u hlt hne hc =>
    hgrow.cell (a := ⟨b, o, none⟩) (by rw [World.cell?_alloc_lt _ _ _ (by exact hlt)]; exact hc) (fun e => hne e.symm)
  have sep : ∀ b, b < w2.heap.size → v.ownBlock ≠ some b → v'.ownBlock ≠ some b := fun b hlt hne => by
    rcases hsep with h | h
    · rw [h]; exact hne
    · intro e
      have := h b e
      simp at this
      omega
  refine cellsB_snoc (Tm.innP_same (fun b hb' => ?_) (fun b o u hb' hc => ?_) x.t sv ht) l xs (cellsB_same (fun b hb' => ?_) (fun b o u hb' hc => ?_) l xs hcells)
  · have hne : v.ownBlock ≠ some b := fun e => by have := (hrow.lt b e).2; omega
    exact ⟨by omega, by omega, sep b hb'.2 hne⟩
  · have hne : v.ownBlock ≠ some b := fun e => by have := (hrow.lt b e).2; omega
    exact cell3 b o u hb'.2 hne hc
  · exact ⟨hb'.1, by have := hb'.2.1; omega, sep b (by have := hb'.2.1; omega) hb'.2.2⟩
  · exact cell3 b o u (by have := hb'.2.1; omega) hb'.2.2 ((hb.cell (p := ⟨b, o, none⟩) hb'.2.1).trans hc)
theorem one5 {a b d : Int} {s : ByteArray} {g : Option Addr} {m c : Nat} : ∀ u ∈ [Value.int .i64 a, .int .i64 b, .string s, .int .i64 d, .slice g m c], u.oneCell' = true := by
  intro u hu
  simp at hu
  rcases hu with rfl | rfl | rfl | rfl | rfl <;> rfl
theorem news5 {w : World} {a b c d e : Value} {t : TypeId} (H : Nat) (hH : w.heap.size = H) : ∀ (j : Nat) (u : Value), [a, b, c, d, e][j]? = some u → (w.alloc (.cells #[a, b, c, d, e] t)).cell? ((⟨H, 0, none⟩ : Addr).add j) = some u := by
  subst hH
  intro j u hj
  rw [Addr.add_lit]
  simp only [Nat.zero_add]
  rw [World.cell?_alloc_new]
  simpa using hj
theorem flat_snoc {σ : Int → Tm} {l : List Bd} {k : Nat} (h : k < l.length) : flatL σ (l.take (k + 1)) = flatL σ (l.take k) ++ [⟨l[k].v, l[k].t.bnd σ⟩] := by
  rw [List.take_succ_eq_append_getElem h]
  simp only [flatL, List.map_append, List.map_cons, List.map_nil]

def FlatSpec (l : List Bd) (σ : Int → Tm) (F : List Bd) (E : Int) : Prop :=
  (¬ RightL l ∧ F = [] ∧ E = 1) ∨ (RightL l ∧ ((∃ i, ∃ h : i < l.length, (l[i].t.bnd σ).right = false) ∧ F = [] ∧ E = 3)) ∨ (RightL l ∧ (∀ i (h : i < l.length), (l[i].t.bnd σ).right = true) ∧ F = flatL σ l ∧ E = 0)
def FlatPost (l : List Bd) (σ : Int → Tm) (w : World) (e : Ending) (w' : World) : Prop :=
  ∃ F E g c, e = .returned (.tuple #[.slice g F.length c, .int .i64 E]) ∧ bdsIn w' w'.heap.size F (.slice g F.length c) ∧ Below w.heap.size w w' ∧ FlatSpec l σ F E
theorem bds_nil (w : World) (B : Nat) : bdsIn w B [] (.slice none 0 0) := ⟨none, 0, rfl, by simp, by simp, by simp, .inl rfl⟩

set_option maxRecDepth 100000 in
set_option maxHeartbeats 4000000 in
theorem flat_any (l : List Bd) (σ : Int → Tm) (hσ : RightL l → Sol l σ) (w : World) (sv : Value) (hsl : bdsIn w w.heap.size l sv) (hmax : l.length ≤ 1000) (hsz : szB l ≤ 1000000) :
    Calls Try.prog 33 #[sv] w fun e w' => FlatPost l σ w e w' := by
  have he := ends_any l σ hσ w _ hsl hmax hsz
  have hsl0 := hsl
  obtain ⟨g, cap, rfl, hcap, hlen, hwf, _⟩ := hsl0
  have HSL := Lib.hid hsl
  have HE := Lib.hid he
  have HS := Lib.hid hσ
  have HWF := Lib.hid hwf
  clear he hsl hσ hwf
  obtain ⟨i0, hi, hz0, hz1, hz2⟩ := info_parts Try.infoBd
  go_enter Try.func33, Try.ntmps33
  go_wp2_with fail
  refine HE.out.mono ?_
  rintro e w1 ⟨hb1, ⟨hno, rfl⟩ | ⟨hr, m, n, dom, rfl, hM, hdom⟩⟩
  · have HNO := Lib.hid hno
    clear hno
    go_wp2_with fail
    go_ret2
    exact ⟨[], 1, none, 0, rfl, bds_nil _ _, hb1, .inl ⟨HNO.out, rfl, rfl⟩⟩
  · have HR := Lib.hid hr
    have HM := Lib.hid hM
    have HD := Lib.hid hdom
    have HB1 := Lib.hid hb1
    have hs1 := hb1.size
    clear hr hM hdom hb1 HE
    go_wp2_with fail
    go_loopw [6, 8, 9, 10, 20] (fun v _ _ _ ii wr => ∃ k : Nat, k ≤ l.length ∧ ii = .int .i64 k ∧ Hid (∀ j (h : j < l.length), j < k → (l[j].t.bnd σ).right = true) ∧ Hid (∃ xs, wr.ownsRow w1.heap.size 50 5 v k xs ∧ cellsB wr (okRow w1.heap.size wr v) (flatL σ (l.take k)) xs) ∧ Hid (Below w1.heap.size w1 wr)) (fun _ _ _ _ ii _ => l.length - (intOf ii).toNat)
    case atStart => exact ⟨0, Nat.zero_le _, rfl, fun j _ h => by omega, ⟨[], World.ownsRow_nil _ _ _ _, by simp [flatL, cellsB]⟩, Below.refl _ _⟩
    case round =>
      obtain ⟨k, hk, rfl, hp, hrow, hb⟩ := hrel
      have HROW := Lib.hid hrow.out
      have HB := Lib.hid hb.out
      have hbs := hb.out.size
      clear hrow hb
      by_cases hlt : k < l.length
      · obtain ⟨b, off, sv, hg, hbB, g0, g1, g2, g3, g4, hin'⟩ := bdsIn_get (bdsIn_below HSL.out (HB1.out.trans (HB.out.mono hs1)) (Nat.le_refl _)) k hlt
        subst hg
        obtain ⟨ga, capa, rfl⟩ := inn_slice hin'
        have hal : Below wr.heap.size wr (wr.alloc (.cells #[.int .i64 l[k].v, .int .i64 l[k].t.kind, .string l[k].t.name, .int .i64 l[k].t.n, .slice ga l[k].t.args.length capa] 50)) := (Below.refl _ _).alloc (Nat.le_refl _) _
        have hM3 := (HM.out.next HB.out (by omega)).next hal (by omega)
        have hfair := right_fair (HR.out.1 k hlt).2.2.2
        have hbec := become_any l σ (HS.out HR.out) dom HD.out m n w.heap.size l[k].t _ _ hM3 (by simp; omega) hfair (Tm.inn_below hin' hal (by omega))
        have HBEC := Lib.hid hbec
        have HAL := Lib.hid hal
        have HFS := Lib.hid (flat_snoc (σ := σ) hlt)
        obtain ⟨u, hu⟩ : ∃ u, l[k].t.bnd σ = u := ⟨_, rfl⟩
        rw [hu] at HBEC HFS
        have HU := Lib.hid hu
        clear hin' hal hM3 hfair hbec hu
        go_wp2_with fail
        refine HBEC.out.mono ?_
        rintro e w3 ⟨hb3, hpost⟩
        have hs3 : wr.heap.size + 1 ≤ w3.heap.size := by have := hb3.size; simpa using this
        have hx3 : w3.heap[wr.heap.size]? = some (Obj.cells #[.int .i64 l[k].v, .int .i64 l[k].t.kind, .string l[k].t.name, .int .i64 l[k].t.n, .slice ga l[k].t.args.length capa] 50 (0, 0)) := (hb3.block _ (by simp)).trans (newBlk _ _ _ rfl)
        have hl3 : wr.heap.size < w3.heap.size := by omega
        obtain ⟨⟨d0, d1, d2, d3, d4⟩, _⟩ := row5 hx3
        have HB3 := Lib.hid (HAL.out.trans (hb3.mono (by simp)))
        clear hb3 hx3 HBEC g0 g1 g2 g3 g4
        rcases hpost with ⟨hf, rfl⟩ | ⟨hf, gu, cu, rfl, hpu⟩
        · have HF := Lib.hid hf
          clear hf
          go_wp2_with fail
          go_ret2
          exact ⟨[], 3, none, 0, rfl, bds_nil _ _, (HB1.out.trans ((HB.out.trans (HB3.out.mono hbs)).mono hs1)).alloc (by omega) _, .inr (.inl ⟨HR.out, ⟨k, hlt, by rw [HU.out]; exact HF.out⟩, rfl, rfl⟩)⟩
        · have HF := Lib.hid hf
          have HPU := Lib.hid hpu
          obtain ⟨xs, hown, hcells⟩ := HROW.out
          have HOWN := Lib.hid hown
          have HCELLS := Lib.hid hcells
          have HOWN3 := Lib.hid (ownsRow_below hown HB3.out)
          clear hf hpu hown hcells HROW
          go_wp2_with (at_builtin; refine wpList_append_sep _ rfl _ _ 44 rfl w1.heap.size 50 i0 _ 5 64 Try.underlying44 hi hz0 hz1 hz2 rfl (by decide) u6 k xs rfl ((HOWN3.out.alloc _).alloc _) ⟨w3.heap.size + 1, 0, none⟩ 1 1 [.int .i64 l[k].v, .int .i64 u.kind, .string u.name, .int .i64 u.n, .slice gu u.args.length cu] rfl (by decide) rfl (news5 _ (by simp)) one5 (by unfold maxLen; omega) (by omega) (by simp; omega) ?_; intro v' w5 hown5 hgrow hsep)
          go_roundw
          case rel =>
            have hb4 : Below wr.heap.size wr (w3.alloc (.cells #[.int .i64 u.kind, .string u.name, .int .i64 u.n, .slice gu u.args.length cu] 24)) := HB3.out.alloc (by omega) _
            refine ⟨k + 1, by omega, by go_num, fun j hj hjk => ?_, ⟨_, hown5, ?_⟩, (((HB.out.trans (HB3.out.mono hbs)).alloc (by omega) _).alloc (by simp; omega) _).grown hgrow (by simp; omega) (fun j e => (HOWN.out.lt j e).1)⟩
            · by_cases hjj : j < k
              · exact hp.out j hj hjj
              · obtain rfl : j = k := by omega
                rw [HU.out]; exact HF.out
            · rw [HFS.out]
              exact brow_step (x := ⟨l[k].v, u⟩) HOWN.out HCELLS.out hb4 hbs (Tm.innP_same (fun b hb' => ⟨by have := hb'.1; simp at this; omega, by simp; omega⟩) (fun b o v hb' hc => by rw [World.cell?_alloc_lt _ _ _ (by exact hb'.2)]; exact hc) _ _ HPU.out) hgrow hsep
          case measure => simp [intOf]; omega
      · obtain rfl : k = l.length := by omega
        obtain ⟨xs, hown, hcells⟩ := HROW.out
        obtain ⟨gr, cr, rfl⟩ := owns_slice hown
        rw [List.take_length] at hcells
        have hfl := flat_length σ l
        have hbds := bds_of_owns (g := gr) (c := cr) (l := flatL σ l) (by rw [hfl]; exact hown) hcells (by omega) (fun b hb => hb.2.1) (fun x hx => by
          obtain ⟨y, hy, rfl⟩ := List.mem_map.1 hx
          exact HWF.out y hy)
        have HBDS := Lib.hid hbds
        have HFL := Lib.hid hfl
        have HP := Lib.hid hp.out
        clear hown hcells HROW hbds hfl hp
        go_wp2_with fail
        go_ret2
        exact ⟨flatL σ l, 0, gr, cr, by rw [HFL.out]; rfl, HBDS.out, HB1.out.trans (HB.out.mono hs1), .inr (.inr ⟨HR.out, fun i h => HP.out i h h, rfl, rfl⟩)⟩
end Go.Proofs.Ytpiflkgjmncijaa
