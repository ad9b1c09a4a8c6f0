/-
  The program's replaced: a pattern with values in the places of its variables; it shares memory with the values.
-/
import Derived.Test.YtgnbjhiafjpokaaMeet
import Derived.Test.YtgnbjhiafjpokaaRowT
namespace Go.Proofs.Ytgnbjhiafjpokaa
open Go.RowKit Go.Shelf Go.Maps

/-- What lies below a block, or is the call's own and no row's of its own. -/
def okS (B lo : Nat) (W : World) (v : Value) (b : Nat) : Prop := (b < B ∨ lo ≤ b) ∧ b < W.heap.size ∧ v.ownBlock ≠ some b
/-- One term more, that may share memory with what lay before. -/
theorem row_step_s {wr w2 w3 : World} {B lo : Nat} {e : TypeId} {v v' : Value} {k : Nat} {l : List Tm} {t : Tm} {xs : List Value} {sv : Value} {tmp : Obj}
    (hrow : wr.ownsRow lo e 4 v k xs) (hcells : Tm.cellsP wr (okS B lo wr v) l xs) (hb : Below wr.heap.size wr w2) (hB : B ≤ lo) (hlo : lo ≤ wr.heap.size)
    (ht : Tm.innP w2 (fun b => b < B ∨ (wr.heap.size ≤ b ∧ b < w2.heap.size)) t sv) (hgrow : (w2.alloc tmp).grownBy w3 v.ownBlock)
    (hsep : v'.ownBlock = v.ownBlock ∨ ∀ b, v'.ownBlock = some b → (w2.alloc tmp).heap.size ≤ b) :
    Tm.cellsP w3 (okS B lo w3 v') (l ++ [t]) (xs ++ [.int .i64 t.kind, .string t.name, .int .i64 t.n, sv]) := by
  have hs3 : w2.heap.size + 1 ≤ w3.heap.size := by simpa using hgrow.size
  have hs2 := hb.size
  have cell3 : ∀ b o u, b < w2.heap.size → v.ownBlock ≠ some b → w2.cell? ⟨b, o, none⟩ = some u → w3.cell? ⟨b, o, none⟩ = some u := fun b o u hlt hne hc =>
    hgrow.cell (a := ⟨b, o, none⟩) (by rw [World.cell?_alloc_lt _ _ _ (by exact hlt)]; exact hc) (fun e => hne e.symm)
  have sep : ∀ b, b < w2.heap.size → v.ownBlock ≠ some b → v'.ownBlock ≠ some b := fun b hlt hne => by
    rcases hsep with h | h
    · rw [h]; exact hne
    · intro e
      have := h b e
      simp at this
      omega
  refine Tm.cellsP_snoc (Tm.innP_same (fun b hb' => ?_) (fun b o u hb' hc => ?_) t sv ht) l xs (Tm.cellsP_same (fun b hb' => ?_) (fun b o u hb' hc => ?_) l xs hcells)
  · have hne : v.ownBlock ≠ some b := fun e => by have := hrow.lt b e; omega
    have hlt : b < w2.heap.size := by omega
    exact ⟨by omega, by omega, sep b hlt hne⟩
  · have hne : v.ownBlock ≠ some b := fun e => by have := hrow.lt b e; omega
    exact cell3 b o u (by omega) hne hc
  · exact ⟨hb'.1, by have := hb'.2.1; omega, sep b (by have := hb'.2.1; omega) hb'.2.2⟩
  · exact cell3 b o u (by have := hb'.2.1; omega) hb'.2.2 ((hb.cell (p := ⟨b, o, none⟩) hb'.2.1).trans hc)

/-- What the closure has captured. -/
structure REnv (W : World) (B m vb fb K : Nat) (l : List Bd) : Prop where
  kv : Boxed W vb 77 (.map (some m))
  kf : Boxed W fb 76 (.func (.func 93) #[] #[.pointer (some ⟨vb, 0, none⟩), .pointer (some ⟨fb, 0, none⟩)])
  km : MapT W m K B l
  hB : B ≤ W.heap.size
theorem REnv.next {W W' : World} {B m vb fb K : Nat} {l : List Bd} (h : REnv W B m vb fb K l) (hb : Below W.heap.size W W') : REnv W' B m vb fb K l :=
  ⟨(hb.block _ h.kv.lt).trans h.kv, (hb.block _ h.kf.lt).trans h.kf, h.km.next hb h.hB, Nat.le_trans h.hB hb.size⟩
def ReplPost (B : Nat) (u : Tm) (w : World) (e : Ending) (w' : World) : Prop :=
  ∃ g c, e = .returned (.agg #[.int .i64 u.kind, .string u.name, .int .i64 u.n, .slice g u.args.length c]) ∧ Tm.innP w' (fun b => b < B ∨ (w.heap.size ≤ b ∧ b < w'.heap.size)) u (.slice g u.args.length c) ∧ Below w.heap.size w w'
theorem innP_low {w : World} {B : Nat} {ok : Nat → Prop} (h : ∀ b, b < B → ok b) (t : Tm) (sv : Value) (hin : Tm.inn w B t sv) : Tm.innP w ok t sv :=
  Tm.innP_same h (fun _ _ _ _ hc => hc) t sv (innP_of_inn t sv hin)

set_option maxRecDepth 100000 in
set_option maxHeartbeats 4000000 in
theorem repl_any (l : List Bd) (B m vb fb K : Nat) : ∀ (p : Tm) (w : World) (sp : Value), p.fair = true → REnv w B m vb fb K l → Tm.inn w B p sp →
    Calls Try.prog 93 #[.agg #[.int .i64 p.kind, .string p.name, .int .i64 p.n, sp], .pointer (some ⟨vb, 0, none⟩), .pointer (some ⟨fb, 0, none⟩)] w fun e w' => ReplPost B (p.bnd (subF l)) w e w' := by
  refine Tm.ind fun k s n ts ih w sp hf hE hin => ?_
  obtain ⟨⟨hwk, hws, hwn⟩, hsl⟩ := Tm.inn_mk.1 hin
  obtain ⟨g, cap, rfl, hcap, hlen, _⟩ := id hsl
  simp only [Tm.kind, Tm.name, Tm.n]
  have hBw := hE.hB
  have cV := hE.kv.cell
  have lV := hE.kv.lt
  have lV1 : vb < w.heap.size + 1 := by omega
  have lV2 : vb < w.heap.size + 1 + 1 := by omega
  have cF := hE.kf.cell
  have lF := hE.kf.lt
  by_cases hk : k = 1
  · subst hk
    obtain ⟨D, hown, hD⟩ := id hE.km
    have hDv := hD n hwn
    have HOWN := Lib.hid hown
    have HWN := Lib.hid hwn
    cases hp : place l n with
    | some p =>
      obtain ⟨sv, hat, hint⟩ := hDv.1 p hp
      obtain ⟨gt, ct, rfl⟩ := inn_slice hint
      have hu : (Tm.mk 1 s n ts).bnd (subF l) = tAt l p := by simp [Tm.bnd, subF, hp]
      rw [hu]
      obtain ⟨t, ht⟩ : ∃ t, tAt l p = t := ⟨_, rfl⟩
      rw [ht] at hint hat ⊢
      have HAT := Lib.hid hat
      have HINT := Lib.hid hint
      clear hin hsl hown hD hDv hp hat hint ht hu ih hf hE hwk hws hwn
      go_enter Try.func93, Try.ntmps93
      go_wp2_with (at_lookup; refine wpList_lookup_tm _ rfl _ _ rfl m K D rfl ((HOWN.out.alloc _).alloc _) n rfl HWN.out (.agg #[.int .i64 t.kind, .string t.name, .int .i64 t.n, .slice gt t.args.length ct]) true (.inl ⟨rfl, HAT.out⟩) ?_)
      refine bodyPost_ret (v := .agg #[.int .i64 t.kind, .string t.name, .int .i64 t.n, .slice gt t.args.length ct]) (by simp [results, Try.results93, go_sem]) rfl ?_
      exact ⟨gt, ct, rfl, innP_low (fun b hb => .inl hb) _ _ (Tm.inn_below HINT.out (al3 _ _ _ _) (by omega)), al3 _ _ _ _⟩
    | none =>
      have hts : ts = [] := by have := (Tm.fair_var hf).1; simp only [vTm, Tm.mk.injEq] at this; exact this.2.2.2
      subst hts
      have hu : (Tm.mk 1 s n []).bnd (subF l) = .mk 1 s n [] := by
        have := (Tm.fair_var hf).1
        rw [this]
        simp [Tm.bnd, subF, hp, vTm]
      rw [hu]
      have hat := hDv.2 hp
      have HAT := Lib.hid hat
      have HS := Lib.hid hws
      clear hin hsl hown hD hDv hp hat hu ih hf hE hwk hws hwn
      go_enter Try.func93, Try.ntmps93
      go_wp2_with (at_lookup; refine wpList_lookup_tm _ rfl _ _ rfl m K D rfl ((HOWN.out.alloc _).alloc _) n rfl HWN.out (.agg #[.int .i64 0, .string ⟨#[]⟩, .int .i64 0, .slice none 0 0]) false (.inr ⟨rfl, rfl, HAT.out⟩) ?_)
      go_loopw [7, 9, 25] (fun v _ i wr => v = .slice none 0 0 ∧ i = .int .i64 ((0 : Nat) : Int) ∧ Hid (Below w.heap.size w wr) ∧ w.heap.size + 1 < wr.heap.size ∧ Hid (wr.heap[w.heap.size]? = some (Obj.cells #[.int .i64 1, .string s, .int .i64 n, .slice g 0 cap] 27 (0, 0))) ∧ Hid (wr.heap[w.heap.size + 1]? = some (Obj.cells #[.int .i64 0, .string ⟨#[]⟩, .int .i64 0, .slice none 0 0] 27 (0, 0)))) (fun _ _ _ _ => 0)
      case atStart => exact ⟨rfl, rfl, al3 _ _ _ _, by simp, (Below.heap_alloc _ _ _ (by simp; omega)).trans ((Below.heap_alloc _ _ _ (by simp)).trans (newBlk _ _ _ rfl)), (Below.heap_alloc _ _ _ (by simp)).trans (newBlk _ _ _ (by simp))⟩
      case round =>
        obtain ⟨rfl, rfl, hb, hsz, hbox, hres⟩ := hrel
        obtain ⟨⟨b0, b1, b2, b3⟩, _⟩ := row4 hbox.out
        obtain ⟨⟨c0, c1, c2, c3⟩, f0, f1, f2, f3⟩ := row4 hres.out
        have HB := Lib.hid hb.out
        clear hb hbox hres
        go_wp2_with fail
        refine bodyPost_ret (v := .agg #[.int .i64 1, .string s, .int .i64 n, .slice none 0 0]) (by simp [results, Try.results93, go_sem, c0, c1, c2, c3]) rfl ?_
        exact ⟨none, 0, rfl, Tm.innP_mk.2 ⟨⟨by decide, HS.out, HWN.out⟩, none, 0, rfl, Nat.le_refl _, by simp, .inl rfl⟩, set4_below HB.out (by omega) _ _ _ _⟩
  · have hkb : (k == 1) = false := by simpa using hk
    have hu : (Tm.mk k s n ts).bnd (subF l) = .mk k s n (Tm.bnds (subF l) ts) := Tm.bnd_kind _ hk
    rw [hu]
    have hfs := (Tm.fair_alone hf).2.1
    have HU := Lib.hid hu
    have HH := Lib.hid (show (Lit.int .i64 k).wf = true ∧ s.size ≤ maxLen ∧ (Lit.int .i64 n).wf = true from ⟨hwk, hws, hwn⟩)
    have HSL := Lib.hid hsl
    have HIH := Lib.hid ih
    have HFS := Lib.hid hfs
    have HE := Lib.hid hE
    have hl8 := Tm.fair_args hf
    obtain ⟨i0, hi, hz0, hz1, hz2⟩ := info_parts Try.infoTm
    clear hin hsl hu ih hf hE hwk hws hwn hfs hk
    go_enter Try.func93, Try.ntmps93
    go_wp2_with fail
    go_loopw [7, 9, 25] (fun v _ i wr => ∃ k' : Nat, k' ≤ ts.length ∧ i = .int .i64 (k' : Nat) ∧ Hid (∃ xs, wr.ownsRow (w.heap.size + 2) 27 4 v k' xs ∧ Tm.cellsP wr (okS B (w.heap.size + 2) wr v) (Tm.bnds (subF l) (ts.take k')) xs) ∧ Hid (Below w.heap.size w wr) ∧ w.heap.size + 2 ≤ wr.heap.size ∧ Hid (wr.heap[w.heap.size]? = some (Obj.cells #[.int .i64 k, .string s, .int .i64 n, .slice g ts.length cap] 27 (0, 0))) ∧ Hid (wr.heap[w.heap.size + 1]? = some (Obj.cells #[.int .i64 0, .string ⟨#[]⟩, .int .i64 0, .slice none 0 0] 27 (0, 0)))) (fun _ _ i _ => ts.length - (intOf i).toNat)
    case atStart => exact ⟨0, Nat.zero_le _, rfl, ⟨[], World.ownsRow_nil _ _ _ _, by simp [Tm.bnds, Tm.cellsP]⟩, al2 _ _ _, by simp, (Below.heap_alloc _ _ _ (by simp)).trans (newBlk _ _ _ rfl), newBlk _ _ _ (by simp)⟩
    case round =>
      obtain ⟨k', hk', rfl, hrow, hb, hbs, hbox, hres⟩ := hrel
      have HROW := Lib.hid hrow.out
      have HB := Lib.hid hb.out
      have HBOX := Lib.hid hbox.out
      have HRES := Lib.hid hres.out
      clear hrow hb hbox hres
      by_cases hlt : k' < ts.length
      · obtain ⟨b, off, sv, hgt, hbB, g0, g1, g2, g3, hin'⟩ := Tm.sliceIn_get (Tm.sliceIn_below HSL.out HB.out hBw) k' hlt
        subst hgt
        obtain ⟨ga, capa, rfl⟩ := inn_slice hin'
        have hsn := Tm.bnds_take_succ (subF l) ts k' hlt
        obtain ⟨t, ht⟩ : ∃ t, ts[k'] = t := ⟨_, rfl⟩
        have hft := HFS.out _ (List.getElem_mem hlt)
        have hih := HIH.out _ (List.getElem_mem hlt)
        rw [ht] at g0 g1 g2 g3 hin' hsn hft hih
        have hal : Below wr.heap.size wr (wr.alloc (.cells #[.int .i64 t.kind, .string t.name, .int .i64 t.n, .slice ga t.args.length capa] 27)) := (Below.refl _ _).alloc (Nat.le_refl _) _
        have hEr := (HE.out.next HB.out).next hal
        have hcl := hih _ _ hft hEr (Tm.inn_below hin' hal (by omega))
        have cF' := (HE.out.next HB.out).kf.cell
        have lF' := (HE.out.next HB.out).kf.lt
        obtain ⟨u, hu2⟩ : ∃ u, t.bnd (subF l) = u := ⟨_, rfl⟩
        rw [hu2] at hcl hsn
        have hbw : b < wr.heap.size := by omega
        have HCL := Lib.hid hcl
        have HSN := Lib.hid hsn
        have HAL := Lib.hid hal
        clear hin' hsn hft hih hal hEr hcl ht hu2
        go_wp2_with fail
        refine HCL.out.mono ?_
        rintro e w4 ⟨gy, cy, rfl, hpi, hb4⟩
        have hb4' : Below wr.heap.size wr w4 := HAL.out.trans (hb4.mono (by simp))
        obtain ⟨xs, hown, hcells⟩ := HROW.out
        have HOWN := Lib.hid hown
        have HCELLS := Lib.hid hcells
        have HOWN4 := Lib.hid (ownsRow_below hown hb4')
        have HPI := Lib.hid hpi
        have HB4 := Lib.hid hb4'
        have hs4 := hb4'.size
        clear hown hcells hpi hb4 hb4' HROW HCL
        go_wp2_with (at_builtin; refine wpList_append_sep _ rfl _ _ 25 rfl (w.heap.size + 2) 27 i0 _ 4 56 Try.underlying25 hi hz0 hz1 hz2 rfl (by decide) u7 k' xs rfl (HOWN4.out.alloc _) ⟨w4.heap.size, 0, none⟩ 1 1 [.int .i64 u.kind, .string u.name, .int .i64 u.n, .slice gy u.args.length cy] rfl (by decide) rfl news4 one4 (by unfold maxLen; omega) (by omega) (by simp; omega) ?_; intro v' w5 hown5 hgrow hsep)
        go_roundw
        case rel =>
          have hkeep : ∀ j, j < w.heap.size + 2 → w5.heap[j]? = wr.heap[j]? := fun j hj => by
            have hne : u7.ownBlock ≠ some j := fun e => by have := (HOWN.out.lt j e).1; omega
            exact (hgrow.block j (by simp; omega) hne.symm).trans ((Below.heap_alloc _ _ _ (by omega)).trans (HB4.out.block j (by omega)))
          refine ⟨k' + 1, by omega, by go_num, ⟨_, hown5, ?_⟩, ((HB.out.trans (HB4.out.mono (by omega))).alloc (by omega) _).grown hgrow (by simp; omega) (fun j e => by have := (HOWN.out.lt j e).1; omega), by have := hgrow.size; simp at this; omega, (hkeep _ (by omega)).trans HBOX.out, (hkeep _ (by omega)).trans HRES.out⟩
          rw [HSN.out]
          exact row_step_s HOWN.out HCELLS.out HB4.out (by omega) (by omega) (Tm.innP_same (fun b hb' => by simp at hb'; omega) (fun _ _ _ _ h => h) _ _ HPI.out) hgrow hsep
        case measure => simp [intOf]; omega
      · obtain rfl : k' = ts.length := by omega
        obtain ⟨xs, hown, hcells⟩ := HROW.out
        obtain ⟨gv, cv, rfl⟩ := owns_slice hown
        obtain ⟨⟨b0, b1, b2, b3⟩, d0, d1, d2, d3⟩ := row4 HBOX.out
        obtain ⟨⟨c0, c1, c2, c3⟩, f0, f1, f2, f3⟩ := row4 HRES.out
        rw [List.take_length] at hcells
        have hsp : Tm.sliceP (set4 wr (w.heap.size + 1) (.int .i64 k) (.string s) (.int .i64 n) (.slice gv ts.length cv)) (fun b => b < B ∨ (w.heap.size ≤ b ∧ b < (set4 wr (w.heap.size + 1) (.int .i64 k) (.string s) (.int .i64 n) (.slice gv ts.length cv)).heap.size)) (Tm.bnds (subF l) ts) (.slice gv ts.length cv) := by
          have hlen2 : (Tm.bnds (subF l) ts).length = ts.length := Tm.bnds_length _ _
          have h1 := Tm.sliceP_of_owns (ok' := okS B (w.heap.size + 2) wr (.slice none 0 0)) (by rw [hlen2]; exact hown) hcells (by omega) (fun b hb => ⟨hb.1, hb.2.1, by simp [Value.ownBlock]⟩) (fun b hb => ⟨.inr (hown.lt b hb).1, (hown.lt b hb).2, by simp [Value.ownBlock]⟩)
          refine Tm.sliceP_same (fun t _ sv h => Tm.innP_same (ok := okS B (w.heap.size + 2) wr (.slice none 0 0)) (fun b hb => ?_) (fun b o u hb hc => ?_) t sv h) (fun b hb => ?_) (fun b o u hb hc => ?_) h1
          · rw [set4_size]; have := hb.1; have := hb.2.1; omega
          · have hne : b ≠ w.heap.size + 1 := by have := hb.1; omega
            exact (World.cell?_of_block (a := ⟨b, o, none⟩) (set4_blk wr _ _ _ _ hne)).trans hc
          · rw [set4_size]; have := hb.1; have := hb.2.1; omega
          · have hne : b ≠ w.heap.size + 1 := by have := hb.1; omega
            exact (World.cell?_of_block (a := ⟨b, o, none⟩) (set4_blk wr _ _ _ _ hne)).trans hc
        have HSP := Lib.hid hsp
        have hlen2 := Lib.hid (Tm.bnds_length (subF l) ts)
        clear hown hcells HROW hsp
        go_wp2_with fail
        refine bodyPost_ret (v := .agg #[.int .i64 k, .string s, .int .i64 n, .slice gv ts.length cv]) (by simp [results, Try.results93, go_sem, c0, c1, c2, c3]) rfl ?_
        refine ⟨gv, cv, ?_, ?_, set4_below HB.out (by omega) _ _ _ _⟩
        · show Ending.returned (.agg #[.int .i64 k, .string s, .int .i64 n, .slice gv ts.length cv]) = Ending.returned (.agg #[.int .i64 k, .string s, .int .i64 n, .slice gv (Tm.bnds (subF l) ts).length cv])
          rw [hlen2.out]
        · rw [Tm.innP_mk]
          refine ⟨HH.out, ?_⟩
          show Tm.sliceP _ _ _ (.slice gv (Tm.bnds (subF l) ts).length cv)
          rw [hlen2.out]
          exact HSP.out
end Go.Proofs.Ytgnbjhiafjpokaa
