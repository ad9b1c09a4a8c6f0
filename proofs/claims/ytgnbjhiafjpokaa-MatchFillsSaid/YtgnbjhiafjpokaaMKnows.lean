/-
  The walk of the law's 'knows' for matching: the document's examples.
-/
import Derived.Test.YtgnbjhiafjpokaaMatch
import Derived.Test.YtgnbjhiafjpokaaFill
import Derived.Test.YtgnbjhiafjpokaaKnows3
import Derived.Deep.RegionHeld3
import Derived.StillTailTactics
import Derived.Deep.DeepCutAuto
import Derived.Deep.CutRange
import Derived.Deep.LoopGhost
namespace Go.Proofs.Ytgnbjhiafjpokaa
open Go.RowKit Go.Shelf Go.Maps

/-- Several orders that come to the same: what is left behind them is shown once. -/
theorem share4 {Goal : Prop} (F : Nat → Nat → Nat → World → Prop) (G : Nat → Nat → Nat → World → Prop) (main : (∀ a b c W, F a b c W → G a b c W) → Goal) (tail : ∀ a b c W, F a b c W → G a b c W) : Goal := main tail
/-- Four cells of a box. -/
def S4 (b : Nat) (a0 a1 a2 a3 : Value) (W : World) : Prop := W.cell? ⟨b, 0, none⟩ = some a0 ∧ W.cell? ⟨b, 1, none⟩ = some a1 ∧ W.cell? ⟨b, 2, none⟩ = some a2 ∧ W.cell? ⟨b, 3, none⟩ = some a3
theorem S4.nx {b : Nat} {a0 a1 a2 a3 : Value} {W W' : World} (h : S4 b a0 a1 a2 a3 W) (hb : Below W.heap.size W W') : S4 b a0 a1 a2 a3 W' := by
  have key : ∀ b o v, W.cell? ⟨b, o, none⟩ = some v → W'.cell? ⟨b, o, none⟩ = some v := fun b o v h => (hb.cell (p := ⟨b, o, none⟩) (World.block_lt_of_cell? _ _ h)).trans h
  exact ⟨key _ _ _ h.1, key _ _ _ h.2.1, key _ _ _ h.2.2.1, key _ _ _ h.2.2.2⟩
theorem S4.alloc {b : Nat} {a0 a1 a2 a3 : Value} {W : World} (h : S4 b a0 a1 a2 a3 W) (o : Obj) : S4 b a0 a1 a2 a3 (W.alloc o) := h.nx ((Below.refl _ _).alloc (Nat.le_refl _) _)
theorem lift_inn {W W' : World} {t : Tm} {sv : Value} (h : Tm.inn W W.heap.size t sv) (hb : Below W.heap.size W W') : Tm.inn W' W'.heap.size t sv := Tm.inn_mono (Tm.inn_below h hb (Nat.le_refl _)) hb.size
theorem lift_sl {W W' : World} {l : List Tm} {sv : Value} (h : Tm.sliceIn W W.heap.size l sv) (hb : Below W.heap.size W W') : Tm.sliceIn W' W'.heap.size l sv := Tm.sliceIn_mono (Tm.sliceIn_below h hb (Nat.le_refl _)) hb.size
/-- The law's 'fun': a term built from a name and its arguments. -/
theorem mfun0 (s : ByteArray) (w : World) (g : Option Addr) (n c : Nat) :
    Calls Try.prog 69 #[.string s, .slice g n c] w fun e w' => e = .returned (.agg #[.int .i64 3, .string s, .int .i64 0, .slice g n c]) ∧ Below w.heap.size w w' := by
  go_enter Try.func69, Try.ntmps69
  go_wp2_with fail
  refine bodyPost_ret (v := .agg #[.int .i64 3, .string s, .int .i64 0, .slice g n c]) (by simp [results, Try.results69, go_sem]) rfl ?_
  exact ⟨rfl, (Below.refl w.heap.size w).alloc (Nat.le_refl _) _⟩
theorem fun_inn {W : World} {B : Nat} {s : ByteArray} {l : List Tm} {sv : Value} (hs : s.size ≤ maxLen) (h : Tm.sliceIn W B l sv) : Tm.inn W B (.mk 3 s 0 l) sv := Tm.inn_mk.2 ⟨⟨by decide, hs, by decide⟩, h⟩
theorem nil_in {W : World} {B : Nat} : Tm.sliceIn W B [] (.slice none 0 0) := ⟨none, 0, rfl, Nat.le_refl _, Nat.zero_le _, .inl rfl⟩

def kX : Tm := .mk 1 ⟨#[]⟩ 0 []
def kGx : Tm := .mk 3 ⟨#[103]⟩ 0 [kX]
def kFxx : Tm := .mk 3 ⟨#[102]⟩ 0 [kX, kX]
def kFgg : Tm := .mk 3 ⟨#[102]⟩ 0 [kGx, kGx]
def kA : Tm := .mk 3 ⟨#[97]⟩ 0 []
def kB : Tm := .mk 3 ⟨#[98]⟩ 0 []
def kFab : Tm := .mk 3 ⟨#[102]⟩ 0 [kA, kB]
theorem km_right : kX.right = true ∧ kGx.right = true ∧ kFxx.right = true ∧ kFgg.right = true ∧ kA.right = true ∧ kFab.right = true :=
  ⟨by kernel_rfl, by kernel_rfl, by kernel_rfl, by kernel_rfl, by kernel_rfl, by kernel_rfl⟩
theorem km_yes : kFxx.meet kFgg [] = some [⟨0, kGx⟩] := by kernel_rfl
theorem km_no : kFxx.meet kFab [] = none := by kernel_rfl
theorem km_inst : inst kA kX = true := by kernel_rfl
theorem km_fill : kX.bnd (subF [⟨0, kGx⟩]) = kGx := by kernel_rfl

/-- The cells that the last region reads. -/
def MK6 (b0 b1 b2 o2 : Nat) (V W : World) : Prop := W.cell? ⟨b0, 0, none⟩ = some (.int .i64 1) ∧ W.cell? ⟨b0, 1, none⟩ = some (.string ⟨#[]⟩) ∧ W.cell? ⟨b0, 2, none⟩ = some (.int .i64 0) ∧ W.cell? ⟨b0, 3, none⟩ = some (.slice none 0 0) ∧ W.cell? ⟨b1, 1, none⟩ = some (.string ⟨#[103]⟩) ∧ W.cell? ⟨b2, o2, none⟩ = some (.int .i64 0) ∧ Below V.heap.size V W
theorem MK6.next {b0 b1 b2 o2 : Nat} {V W W' : World} (h : MK6 b0 b1 b2 o2 V W) (hb : Below W.heap.size W W') : MK6 b0 b1 b2 o2 V W' := by
  have key : ∀ b o v, W.cell? ⟨b, o, none⟩ = some v → W'.cell? ⟨b, o, none⟩ = some v := fun b o v h => (hb.cell (p := ⟨b, o, none⟩) (World.block_lt_of_cell? _ _ h)).trans h
  obtain ⟨h0, h1, h2, h3, h4, h5, h6⟩ := h
  exact ⟨key _ _ _ h0, key _ _ _ h1, key _ _ _ h2, key _ _ _ h3, key _ _ _ h4, key _ _ _ h5, h6.trans (hb.mono h6.size)⟩
/-- What stands when the pieces of the first example are made. -/
def MK0 (w : World) (bA bB bC : Nat) (W : World) : Prop :=
  S4 w.heap.size (.int .i64 1) (.string ⟨#[]⟩) (.int .i64 0) (.slice none 0 0) W ∧ Below w.heap.size w W ∧ Tm.sliceIn W W.heap.size [kX, kX] (.slice (some ⟨bA, 0, none⟩) 2 2) ∧ Tm.sliceIn W W.heap.size [kX] (.slice (some ⟨bB, 0, none⟩) 1 1) ∧ Tm.sliceIn W W.heap.size [kX] (.slice (some ⟨bC, 0, none⟩) 1 1)
def MK1 (w : World) (s2 s3 s4 : Value) (W : World) : Prop :=
  Below w.heap.size w W ∧ S4 w.heap.size (.int .i64 1) (.string ⟨#[]⟩) (.int .i64 0) (.slice none 0 0) W ∧ s3 = .bool true ∧ s4 = .int .i64 0 ∧ bdsIn W W.heap.size [⟨0, kGx⟩] s2
set_option maxRecDepth 100000 in
set_option maxHeartbeats 8000000 in
theorem mknows_any (w : World) : Calls Try.prog 43 #[] w fun e w' => KnowsPost w e w' := by
  go_enter Try.func43, Try.ntmps43
  go_upto_region 2 with fail
  obtain ⟨W0, hW0⟩ : ∃ W0, w.alloc (.cells #[.int .i64 1, .string ⟨#[]⟩, .int .i64 0, .slice none 0 0] 27) = W0 := ⟨_, rfl⟩
  have hb0 : Below w.heap.size w W0 := by rw [← hW0]; exact (Below.refl _ _).alloc (Nat.le_refl _) _
  have k0 : W0.heap[w.heap.size]? = some (.cells #[.int .i64 1, .string ⟨#[]⟩, .int .i64 0, .slice none 0 0] 27 (0, 0)) := by rw [← hW0]; exact newBlk _ _ _ rfl
  have hs4 : S4 w.heap.size (.int .i64 1) (.string ⟨#[]⟩) (.int .i64 0) (.slice none 0 0) W0 := ⟨by simp [World.cell?, k0], by simp [World.cell?, k0], by simp [World.cell?, k0], by simp [World.cell?, k0]⟩
  have hs4d : S4 w.heap.size (.int .i64 1) (.string ⟨#[]⟩) (.int .i64 0) (.slice none 0 0) W0.drew := hs4
  have HB0 := Lib.hid hb0
  clear k0 hb0 hs4
  try simp only [hW0]
  go_cut [2, 3, 4] from 11 to 27 (fun s2 s3 s4 wx => Hid (MK1 w s2 s3 s4 wx))
  case first =>
    refine wp_region_held_drew (S := fun W' => W'.cell? ⟨w.heap.size, 0, none⟩ = some (.int .i64 1) ∧ W'.cell? ⟨w.heap.size, 1, none⟩ = some (.string ⟨#[]⟩) ∧ W'.cell? ⟨w.heap.size, 2, none⟩ = some (.int .i64 0) ∧ W'.cell? ⟨w.heap.size, 3, none⟩ = some (.slice none 0 0)) (by kernel_rfl) hs4d (fun hHeld => ?_)
    clear hs4d hW0
    refine wpAnyH_take (i := 0) (oi := _) (v := ?_) rfl (by kernel_rfl) (by kernel_rfl) (by kernel_rfl) (fun _ _ _ h => h) (Or.inl ⟨by rfl, ?_⟩) hHeld ?_
    rotate_left
    · (intro w hSw; obtain ⟨c0, c1, c2, c3⟩ := hSw; go_simp; try with_reducible rfl)
    try simp only [Act.put, List.setIfInBounds_toArray, List.set_cons_zero, List.set_cons_succ, List.getElem_toArray, List.getElem_cons_zero]
    refine wpAnyH_take (i := 1) (oi := _) (v := ?_) rfl (by kernel_rfl) (by kernel_rfl) (by kernel_rfl) (fun _ _ _ h => h) (Or.inl ⟨by rfl, ?_⟩) hHeld ?_
    rotate_left
    · (intro w hSw; obtain ⟨c0, c1, c2, c3⟩ := hSw; go_simp; try with_reducible rfl)
    try simp only [Act.put, List.setIfInBounds_toArray, List.set_cons_zero, List.set_cons_succ, List.getElem_toArray, List.getElem_cons_zero, List.getElem_cons_succ]
    refine wpAnyH_take (i := 4) (oi := _) (v := ?_) rfl (by kernel_rfl) (by kernel_rfl) (by kernel_rfl) (fun _ _ _ h => h) (Or.inl ⟨by rfl, ?_⟩) hHeld ?_
    rotate_left
    · (intro w hSw; obtain ⟨c0, c1, c2, c3⟩ := hSw; go_simp; try with_reducible rfl)
    try simp only [Act.put, List.setIfInBounds_toArray, List.set_cons_zero, List.set_cons_succ, List.getElem_toArray, List.getElem_cons_zero, List.getElem_cons_succ]
    refine wpAnyH_take (i := 7) (oi := _) (v := ?_) rfl (by kernel_rfl) (by kernel_rfl) (by kernel_rfl) (fun _ _ _ h => h) (Or.inl ⟨by rfl, ?_⟩) hHeld ?_
    rotate_left
    · (intro w hSw; obtain ⟨c0, c1, c2, c3⟩ := hSw; go_simp; try with_reducible rfl)
    try simp only [Act.put, List.setIfInBounds_toArray, List.set_cons_zero, List.set_cons_succ, List.getElem_toArray, List.getElem_cons_zero, List.getElem_cons_succ]
    apply share4 (MK0 w)
    case main =>
      intro H
      refine wpAnyH_ready (rs := [2, 5, 8]) (by kernel_rfl) (by simp) ?_
      refine AllReadyH.cons (o := _) rfl (fun K hK => ?_) (AllReadyH.cons (o := _) rfl (fun K hK => ?_) (AllReadyH.cons (o := _) rfl (fun K hK => ?_) (AllReadyH.nil)))
      · skip
        go_simp
        refine hK.out _ _ (S4.alloc hHeld _) (fun hHeld => ?_)
        clear hK K
        try simp only [Act.put, List.setIfInBounds_toArray, List.set_cons_zero, List.set_cons_succ, List.getElem_toArray, List.getElem_cons_zero, List.getElem_cons_succ]
        have hft : Tm.sliceIn (W0.alloc (.cells #[.int .i64 1, .string ⟨#[]⟩, .int .i64 0, .slice none 0 0, .int .i64 1, .string ⟨#[]⟩, .int .i64 0, .slice none 0 0] 27)) (W0.alloc (.cells #[.int .i64 1, .string ⟨#[]⟩, .int .i64 0, .slice none 0 0, .int .i64 1, .string ⟨#[]⟩, .int .i64 0, .slice none 0 0] 27)).heap.size [kX, kX] (.slice (some ⟨W0.heap.size, 0, none⟩) 2 2) := two_slice (a := kX) (b := kX) (newBlk _ _ _ rfl) (inn_leaf (by decide)) (inn_leaf (by decide))
        have hnx : Below W0.heap.size W0 (W0.alloc (.cells #[.int .i64 1, .string ⟨#[]⟩, .int .i64 0, .slice none 0 0, .int .i64 1, .string ⟨#[]⟩, .int .i64 0, .slice none 0 0] 27)) := (Below.refl _ _).alloc (Nat.le_refl _) _
        obtain ⟨bA, hbA⟩ : ∃ b, W0.heap.size = b := ⟨_, rfl⟩
        obtain ⟨W1, hW1⟩ : ∃ W', (W0.alloc (.cells #[.int .i64 1, .string ⟨#[]⟩, .int .i64 0, .slice none 0 0, .int .i64 1, .string ⟨#[]⟩, .int .i64 0, .slice none 0 0] 27)).drew = W' := ⟨_, rfl⟩
        have hny : Below W0.heap.size W0 W1 := by rw [← hW1]; exact hnx.drew
        have FA1 := Lib.hid (show Tm.sliceIn W1 W1.heap.size [kX, kX] (.slice (some ⟨bA, 0, none⟩) 2 2) by rw [← hW1, ← hbA]; exact hft)
        simp only [hW1, hbA] at hHeld ⊢
        have HB1 := Lib.hid (HB0.out.trans (hny.mono HB0.out.size))
        clear hny hnx hft
        refine wpAnyH_ready (rs := [3, 5, 8]) (by kernel_rfl) (by simp) ?_
        refine AllReadyH.cons (o := _) rfl (fun K hK => ?_) (AllReadyH.cons (o := _) rfl (fun K hK => ?_) (AllReadyH.cons (o := _) rfl (fun K hK => ?_) (AllReadyH.nil)))
        · skip
          go_simp
          refine (mfun0 ⟨#[102]⟩ _ _ _ _).mono ?_
          rintro e W2 ⟨rfl, hnd⟩
          have hny : Below W1.heap.size W1 W2 := hnd
          have hS4 := Lib.hid (S4.nx (show S4 w.heap.size (.int .i64 1) (.string ⟨#[]⟩) (.int .i64 0) (.slice none 0 0) W1 from hHeld) hny)
          clear hnd hHeld
          go_wp2_with fail
          refine hK.out _ _ (hS4.out) (fun hHeld => ?_)
          clear hK K
          try simp only [Act.put, List.setIfInBounds_toArray, List.set_cons_zero, List.set_cons_succ, List.getElem_toArray, List.getElem_cons_zero, List.getElem_cons_succ]
          clear hS4
          have HB2 := Lib.hid (HB1.out.trans (hny.mono HB1.out.size))
          have FA2 := Lib.hid (lift_sl FA1.out hny)
          clear hny
          refine wpAnyH_ready (rs := [5, 8]) (by kernel_rfl) (by simp) ?_
          refine AllReadyH.cons (o := _) rfl (fun K hK => ?_) (AllReadyH.cons (o := _) rfl (fun K hK => ?_) (AllReadyH.nil))
          · skip
            go_simp
            refine hK.out _ _ (S4.alloc hHeld _) (fun hHeld => ?_)
            clear hK K
            try simp only [Act.put, List.setIfInBounds_toArray, List.set_cons_zero, List.set_cons_succ, List.getElem_toArray, List.getElem_cons_zero, List.getElem_cons_succ]
            have hft : Tm.sliceIn (W2.alloc (.cells #[.int .i64 1, .string ⟨#[]⟩, .int .i64 0, .slice none 0 0] 27)) (W2.alloc (.cells #[.int .i64 1, .string ⟨#[]⟩, .int .i64 0, .slice none 0 0] 27)).heap.size [kX] (.slice (some ⟨W2.heap.size, 0, none⟩) 1 1) := one_slice (t := kX) (newBlk _ _ _ rfl) (inn_leaf (by decide))
            have hnx : Below W2.heap.size W2 (W2.alloc (.cells #[.int .i64 1, .string ⟨#[]⟩, .int .i64 0, .slice none 0 0] 27)) := (Below.refl _ _).alloc (Nat.le_refl _) _
            obtain ⟨bB, hbB⟩ : ∃ b, W2.heap.size = b := ⟨_, rfl⟩
            obtain ⟨W3, hW3⟩ : ∃ W', (W2.alloc (.cells #[.int .i64 1, .string ⟨#[]⟩, .int .i64 0, .slice none 0 0] 27)) = W' := ⟨_, rfl⟩
            have hny : Below W2.heap.size W2 W3 := by rw [← hW3]; exact hnx
            have FB3 := Lib.hid (show Tm.sliceIn W3 W3.heap.size [kX] (.slice (some ⟨bB, 0, none⟩) 1 1) by rw [← hW3, ← hbB]; exact hft)
            simp only [hW3, hbB] at hHeld ⊢
            have HB3 := Lib.hid (HB2.out.trans (hny.mono HB2.out.size))
            have FA3 := Lib.hid (lift_sl FA2.out hny)
            clear hny hnx hft
            refine wpAnyH_ready (rs := [6, 8]) (by kernel_rfl) (by simp) ?_
            refine AllReadyH.cons (o := _) rfl (fun K hK => ?_) (AllReadyH.cons (o := _) rfl (fun K hK => ?_) (AllReadyH.nil))
            · skip
              go_simp
              refine (mfun0 ⟨#[103]⟩ _ _ _ _).mono ?_
              rintro e W4 ⟨rfl, hnd⟩
              have hny : Below W3.heap.size W3 W4 := hnd
              have hS4 := Lib.hid (S4.nx (show S4 w.heap.size (.int .i64 1) (.string ⟨#[]⟩) (.int .i64 0) (.slice none 0 0) W3 from hHeld) hny)
              clear hnd hHeld
              go_wp2_with fail
              refine hK.out _ _ (hS4.out) (fun hHeld => ?_)
              clear hK K
              try simp only [Act.put, List.setIfInBounds_toArray, List.set_cons_zero, List.set_cons_succ, List.getElem_toArray, List.getElem_cons_zero, List.getElem_cons_succ]
              clear hS4
              have HB4 := Lib.hid (HB3.out.trans (hny.mono HB3.out.size))
              have FA4 := Lib.hid (lift_sl FA3.out hny)
              have FB4 := Lib.hid (lift_sl FB3.out hny)
              clear hny
              refine wpAnyH_ready (rs := [8]) (by kernel_rfl) (by simp) ?_
              refine AllReadyH.cons (o := _) rfl (fun K hK => ?_) (AllReadyH.nil)
              go_simp
              refine hK.out _ _ (S4.alloc hHeld _) (fun hHeld => ?_)
              clear hK K
              try simp only [Act.put, List.setIfInBounds_toArray, List.set_cons_zero, List.set_cons_succ, List.getElem_toArray, List.getElem_cons_zero, List.getElem_cons_succ]
              have hft : Tm.sliceIn (W4.alloc (.cells #[.int .i64 1, .string ⟨#[]⟩, .int .i64 0, .slice none 0 0] 27)) (W4.alloc (.cells #[.int .i64 1, .string ⟨#[]⟩, .int .i64 0, .slice none 0 0] 27)).heap.size [kX] (.slice (some ⟨W4.heap.size, 0, none⟩) 1 1) := one_slice (t := kX) (newBlk _ _ _ rfl) (inn_leaf (by decide))
              have hnx : Below W4.heap.size W4 (W4.alloc (.cells #[.int .i64 1, .string ⟨#[]⟩, .int .i64 0, .slice none 0 0] 27)) := (Below.refl _ _).alloc (Nat.le_refl _) _
              obtain ⟨bC, hbC⟩ : ∃ b, W4.heap.size = b := ⟨_, rfl⟩
              obtain ⟨W5, hW5⟩ : ∃ W', (W4.alloc (.cells #[.int .i64 1, .string ⟨#[]⟩, .int .i64 0, .slice none 0 0] 27)) = W' := ⟨_, rfl⟩
              have hny : Below W4.heap.size W4 W5 := by rw [← hW5]; exact hnx
              have FC5 := Lib.hid (show Tm.sliceIn W5 W5.heap.size [kX] (.slice (some ⟨bC, 0, none⟩) 1 1) by rw [← hW5, ← hbC]; exact hft)
              simp only [hW5, hbC] at hHeld ⊢
              have HB5 := Lib.hid (HB4.out.trans (hny.mono HB4.out.size))
              have FA5 := Lib.hid (lift_sl FA4.out hny)
              have FB5 := Lib.hid (lift_sl FB4.out hny)
              clear hny hnx hft
              exact H bA bB bC W5 ⟨hHeld, HB5.out, FA5.out, FB5.out, FC5.out⟩
            · skip
              go_simp
              refine hK.out _ _ (S4.alloc hHeld _) (fun hHeld => ?_)
              clear hK K
              try simp only [Act.put, List.setIfInBounds_toArray, List.set_cons_zero, List.set_cons_succ, List.getElem_toArray, List.getElem_cons_zero, List.getElem_cons_succ]
              have hft : Tm.sliceIn (W3.alloc (.cells #[.int .i64 1, .string ⟨#[]⟩, .int .i64 0, .slice none 0 0] 27)) (W3.alloc (.cells #[.int .i64 1, .string ⟨#[]⟩, .int .i64 0, .slice none 0 0] 27)).heap.size [kX] (.slice (some ⟨W3.heap.size, 0, none⟩) 1 1) := one_slice (t := kX) (newBlk _ _ _ rfl) (inn_leaf (by decide))
              have hnx : Below W3.heap.size W3 (W3.alloc (.cells #[.int .i64 1, .string ⟨#[]⟩, .int .i64 0, .slice none 0 0] 27)) := (Below.refl _ _).alloc (Nat.le_refl _) _
              obtain ⟨bC, hbC⟩ : ∃ b, W3.heap.size = b := ⟨_, rfl⟩
              obtain ⟨W4, hW4⟩ : ∃ W', (W3.alloc (.cells #[.int .i64 1, .string ⟨#[]⟩, .int .i64 0, .slice none 0 0] 27)) = W' := ⟨_, rfl⟩
              have hny : Below W3.heap.size W3 W4 := by rw [← hW4]; exact hnx
              have FC4 := Lib.hid (show Tm.sliceIn W4 W4.heap.size [kX] (.slice (some ⟨bC, 0, none⟩) 1 1) by rw [← hW4, ← hbC]; exact hft)
              simp only [hW4, hbC] at hHeld ⊢
              have HB4 := Lib.hid (HB3.out.trans (hny.mono HB3.out.size))
              have FA4 := Lib.hid (lift_sl FA3.out hny)
              have FB4 := Lib.hid (lift_sl FB3.out hny)
              clear hny hnx hft
              refine wpAnyH_ready (rs := [6]) (by kernel_rfl) (by simp) ?_
              refine AllReadyH.cons (o := _) rfl (fun K hK => ?_) (AllReadyH.nil)
              go_simp
              refine (mfun0 ⟨#[103]⟩ _ _ _ _).mono ?_
              rintro e W5 ⟨rfl, hnd⟩
              have hny : Below W4.heap.size W4 W5 := hnd
              have hS4 := Lib.hid (S4.nx (show S4 w.heap.size (.int .i64 1) (.string ⟨#[]⟩) (.int .i64 0) (.slice none 0 0) W4 from hHeld) hny)
              clear hnd hHeld
              go_wp2_with fail
              refine hK.out _ _ (hS4.out) (fun hHeld => ?_)
              clear hK K
              try simp only [Act.put, List.setIfInBounds_toArray, List.set_cons_zero, List.set_cons_succ, List.getElem_toArray, List.getElem_cons_zero, List.getElem_cons_succ]
              clear hS4
              have HB5 := Lib.hid (HB4.out.trans (hny.mono HB4.out.size))
              have FA5 := Lib.hid (lift_sl FA4.out hny)
              have FB5 := Lib.hid (lift_sl FB4.out hny)
              have FC5 := Lib.hid (lift_sl FC4.out hny)
              clear hny
              exact H bA bB bC W5 ⟨hHeld, HB5.out, FA5.out, FB5.out, FC5.out⟩
          · skip
            go_simp
            refine hK.out _ _ (S4.alloc hHeld _) (fun hHeld => ?_)
            clear hK K
            try simp only [Act.put, List.setIfInBounds_toArray, List.set_cons_zero, List.set_cons_succ, List.getElem_toArray, List.getElem_cons_zero, List.getElem_cons_succ]
            have hft : Tm.sliceIn (W2.alloc (.cells #[.int .i64 1, .string ⟨#[]⟩, .int .i64 0, .slice none 0 0] 27)) (W2.alloc (.cells #[.int .i64 1, .string ⟨#[]⟩, .int .i64 0, .slice none 0 0] 27)).heap.size [kX] (.slice (some ⟨W2.heap.size, 0, none⟩) 1 1) := one_slice (t := kX) (newBlk _ _ _ rfl) (inn_leaf (by decide))
            have hnx : Below W2.heap.size W2 (W2.alloc (.cells #[.int .i64 1, .string ⟨#[]⟩, .int .i64 0, .slice none 0 0] 27)) := (Below.refl _ _).alloc (Nat.le_refl _) _
            obtain ⟨bC, hbC⟩ : ∃ b, W2.heap.size = b := ⟨_, rfl⟩
            obtain ⟨W3, hW3⟩ : ∃ W', (W2.alloc (.cells #[.int .i64 1, .string ⟨#[]⟩, .int .i64 0, .slice none 0 0] 27)) = W' := ⟨_, rfl⟩
            have hny : Below W2.heap.size W2 W3 := by rw [← hW3]; exact hnx
            have FC3 := Lib.hid (show Tm.sliceIn W3 W3.heap.size [kX] (.slice (some ⟨bC, 0, none⟩) 1 1) by rw [← hW3, ← hbC]; exact hft)
            simp only [hW3, hbC] at hHeld ⊢
            have HB3 := Lib.hid (HB2.out.trans (hny.mono HB2.out.size))
            have FA3 := Lib.hid (lift_sl FA2.out hny)
            clear hny hnx hft
            refine wpAnyH_ready (rs := [5]) (by kernel_rfl) (by simp) ?_
            refine AllReadyH.cons (o := _) rfl (fun K hK => ?_) (AllReadyH.nil)
            go_simp
            refine hK.out _ _ (S4.alloc hHeld _) (fun hHeld => ?_)
            clear hK K
            try simp only [Act.put, List.setIfInBounds_toArray, List.set_cons_zero, List.set_cons_succ, List.getElem_toArray, List.getElem_cons_zero, List.getElem_cons_succ]
            have hft : Tm.sliceIn (W3.alloc (.cells #[.int .i64 1, .string ⟨#[]⟩, .int .i64 0, .slice none 0 0] 27)) (W3.alloc (.cells #[.int .i64 1, .string ⟨#[]⟩, .int .i64 0, .slice none 0 0] 27)).heap.size [kX] (.slice (some ⟨W3.heap.size, 0, none⟩) 1 1) := one_slice (t := kX) (newBlk _ _ _ rfl) (inn_leaf (by decide))
            have hnx : Below W3.heap.size W3 (W3.alloc (.cells #[.int .i64 1, .string ⟨#[]⟩, .int .i64 0, .slice none 0 0] 27)) := (Below.refl _ _).alloc (Nat.le_refl _) _
            obtain ⟨bB, hbB⟩ : ∃ b, W3.heap.size = b := ⟨_, rfl⟩
            obtain ⟨W4, hW4⟩ : ∃ W', (W3.alloc (.cells #[.int .i64 1, .string ⟨#[]⟩, .int .i64 0, .slice none 0 0] 27)) = W' := ⟨_, rfl⟩
            have hny : Below W3.heap.size W3 W4 := by rw [← hW4]; exact hnx
            have FB4 := Lib.hid (show Tm.sliceIn W4 W4.heap.size [kX] (.slice (some ⟨bB, 0, none⟩) 1 1) by rw [← hW4, ← hbB]; exact hft)
            simp only [hW4, hbB] at hHeld ⊢
            have HB4 := Lib.hid (HB3.out.trans (hny.mono HB3.out.size))
            have FA4 := Lib.hid (lift_sl FA3.out hny)
            have FC4 := Lib.hid (lift_sl FC3.out hny)
            clear hny hnx hft
            refine wpAnyH_ready (rs := [6]) (by kernel_rfl) (by simp) ?_
            refine AllReadyH.cons (o := _) rfl (fun K hK => ?_) (AllReadyH.nil)
            go_simp
            refine (mfun0 ⟨#[103]⟩ _ _ _ _).mono ?_
            rintro e W5 ⟨rfl, hnd⟩
            have hny : Below W4.heap.size W4 W5 := hnd
            have hS4 := Lib.hid (S4.nx (show S4 w.heap.size (.int .i64 1) (.string ⟨#[]⟩) (.int .i64 0) (.slice none 0 0) W4 from hHeld) hny)
            clear hnd hHeld
            go_wp2_with fail
            refine hK.out _ _ (hS4.out) (fun hHeld => ?_)
            clear hK K
            try simp only [Act.put, List.setIfInBounds_toArray, List.set_cons_zero, List.set_cons_succ, List.getElem_toArray, List.getElem_cons_zero, List.getElem_cons_succ]
            clear hS4
            have HB5 := Lib.hid (HB4.out.trans (hny.mono HB4.out.size))
            have FA5 := Lib.hid (lift_sl FA4.out hny)
            have FC5 := Lib.hid (lift_sl FC4.out hny)
            have FB5 := Lib.hid (lift_sl FB4.out hny)
            clear hny
            exact H bA bB bC W5 ⟨hHeld, HB5.out, FA5.out, FB5.out, FC5.out⟩
        · skip
          go_simp
          refine hK.out _ _ (S4.alloc hHeld _) (fun hHeld => ?_)
          clear hK K
          try simp only [Act.put, List.setIfInBounds_toArray, List.set_cons_zero, List.set_cons_succ, List.getElem_toArray, List.getElem_cons_zero, List.getElem_cons_succ]
          have hft : Tm.sliceIn (W1.alloc (.cells #[.int .i64 1, .string ⟨#[]⟩, .int .i64 0, .slice none 0 0] 27)) (W1.alloc (.cells #[.int .i64 1, .string ⟨#[]⟩, .int .i64 0, .slice none 0 0] 27)).heap.size [kX] (.slice (some ⟨W1.heap.size, 0, none⟩) 1 1) := one_slice (t := kX) (newBlk _ _ _ rfl) (inn_leaf (by decide))
          have hnx : Below W1.heap.size W1 (W1.alloc (.cells #[.int .i64 1, .string ⟨#[]⟩, .int .i64 0, .slice none 0 0] 27)) := (Below.refl _ _).alloc (Nat.le_refl _) _
          obtain ⟨bB, hbB⟩ : ∃ b, W1.heap.size = b := ⟨_, rfl⟩
          obtain ⟨W2, hW2⟩ : ∃ W', (W1.alloc (.cells #[.int .i64 1, .string ⟨#[]⟩, .int .i64 0, .slice none 0 0] 27)) = W' := ⟨_, rfl⟩
          have hny : Below W1.heap.size W1 W2 := by rw [← hW2]; exact hnx
          have FB2 := Lib.hid (show Tm.sliceIn W2 W2.heap.size [kX] (.slice (some ⟨bB, 0, none⟩) 1 1) by rw [← hW2, ← hbB]; exact hft)
          simp only [hW2, hbB] at hHeld ⊢
          have HB2 := Lib.hid (HB1.out.trans (hny.mono HB1.out.size))
          have FA2 := Lib.hid (lift_sl FA1.out hny)
          clear hny hnx hft
          refine wpAnyH_ready (rs := [3, 8]) (by kernel_rfl) (by simp) ?_
          refine AllReadyH.cons (o := _) rfl (fun K hK => ?_) (AllReadyH.cons (o := _) rfl (fun K hK => ?_) (AllReadyH.nil))
          · skip
            go_simp
            refine (mfun0 ⟨#[102]⟩ _ _ _ _).mono ?_
            rintro e W3 ⟨rfl, hnd⟩
            have hny : Below W2.heap.size W2 W3 := hnd
            have hS4 := Lib.hid (S4.nx (show S4 w.heap.size (.int .i64 1) (.string ⟨#[]⟩) (.int .i64 0) (.slice none 0 0) W2 from hHeld) hny)
            clear hnd hHeld
            go_wp2_with fail
            refine hK.out _ _ (hS4.out) (fun hHeld => ?_)
            clear hK K
            try simp only [Act.put, List.setIfInBounds_toArray, List.set_cons_zero, List.set_cons_succ, List.getElem_toArray, List.getElem_cons_zero, List.getElem_cons_succ]
            clear hS4
            have HB3 := Lib.hid (HB2.out.trans (hny.mono HB2.out.size))
            have FA3 := Lib.hid (lift_sl FA2.out hny)
            have FB3 := Lib.hid (lift_sl FB2.out hny)
            clear hny
            refine wpAnyH_ready (rs := [6, 8]) (by kernel_rfl) (by simp) ?_
            refine AllReadyH.cons (o := _) rfl (fun K hK => ?_) (AllReadyH.cons (o := _) rfl (fun K hK => ?_) (AllReadyH.nil))
            · skip
              go_simp
              refine (mfun0 ⟨#[103]⟩ _ _ _ _).mono ?_
              rintro e W4 ⟨rfl, hnd⟩
              have hny : Below W3.heap.size W3 W4 := hnd
              have hS4 := Lib.hid (S4.nx (show S4 w.heap.size (.int .i64 1) (.string ⟨#[]⟩) (.int .i64 0) (.slice none 0 0) W3 from hHeld) hny)
              clear hnd hHeld
              go_wp2_with fail
              refine hK.out _ _ (hS4.out) (fun hHeld => ?_)
              clear hK K
              try simp only [Act.put, List.setIfInBounds_toArray, List.set_cons_zero, List.set_cons_succ, List.getElem_toArray, List.getElem_cons_zero, List.getElem_cons_succ]
              clear hS4
              have HB4 := Lib.hid (HB3.out.trans (hny.mono HB3.out.size))
              have FA4 := Lib.hid (lift_sl FA3.out hny)
              have FB4 := Lib.hid (lift_sl FB3.out hny)
              clear hny
              refine wpAnyH_ready (rs := [8]) (by kernel_rfl) (by simp) ?_
              refine AllReadyH.cons (o := _) rfl (fun K hK => ?_) (AllReadyH.nil)
              go_simp
              refine hK.out _ _ (S4.alloc hHeld _) (fun hHeld => ?_)
              clear hK K
              try simp only [Act.put, List.setIfInBounds_toArray, List.set_cons_zero, List.set_cons_succ, List.getElem_toArray, List.getElem_cons_zero, List.getElem_cons_succ]
              have hft : Tm.sliceIn (W4.alloc (.cells #[.int .i64 1, .string ⟨#[]⟩, .int .i64 0, .slice none 0 0] 27)) (W4.alloc (.cells #[.int .i64 1, .string ⟨#[]⟩, .int .i64 0, .slice none 0 0] 27)).heap.size [kX] (.slice (some ⟨W4.heap.size, 0, none⟩) 1 1) := one_slice (t := kX) (newBlk _ _ _ rfl) (inn_leaf (by decide))
              have hnx : Below W4.heap.size W4 (W4.alloc (.cells #[.int .i64 1, .string ⟨#[]⟩, .int .i64 0, .slice none 0 0] 27)) := (Below.refl _ _).alloc (Nat.le_refl _) _
              obtain ⟨bC, hbC⟩ : ∃ b, W4.heap.size = b := ⟨_, rfl⟩
              obtain ⟨W5, hW5⟩ : ∃ W', (W4.alloc (.cells #[.int .i64 1, .string ⟨#[]⟩, .int .i64 0, .slice none 0 0] 27)) = W' := ⟨_, rfl⟩
              have hny : Below W4.heap.size W4 W5 := by rw [← hW5]; exact hnx
              have FC5 := Lib.hid (show Tm.sliceIn W5 W5.heap.size [kX] (.slice (some ⟨bC, 0, none⟩) 1 1) by rw [← hW5, ← hbC]; exact hft)
              simp only [hW5, hbC] at hHeld ⊢
              have HB5 := Lib.hid (HB4.out.trans (hny.mono HB4.out.size))
              have FA5 := Lib.hid (lift_sl FA4.out hny)
              have FB5 := Lib.hid (lift_sl FB4.out hny)
              clear hny hnx hft
              exact H bA bB bC W5 ⟨hHeld, HB5.out, FA5.out, FB5.out, FC5.out⟩
            · skip
              go_simp
              refine hK.out _ _ (S4.alloc hHeld _) (fun hHeld => ?_)
              clear hK K
              try simp only [Act.put, List.setIfInBounds_toArray, List.set_cons_zero, List.set_cons_succ, List.getElem_toArray, List.getElem_cons_zero, List.getElem_cons_succ]
              have hft : Tm.sliceIn (W3.alloc (.cells #[.int .i64 1, .string ⟨#[]⟩, .int .i64 0, .slice none 0 0] 27)) (W3.alloc (.cells #[.int .i64 1, .string ⟨#[]⟩, .int .i64 0, .slice none 0 0] 27)).heap.size [kX] (.slice (some ⟨W3.heap.size, 0, none⟩) 1 1) := one_slice (t := kX) (newBlk _ _ _ rfl) (inn_leaf (by decide))
              have hnx : Below W3.heap.size W3 (W3.alloc (.cells #[.int .i64 1, .string ⟨#[]⟩, .int .i64 0, .slice none 0 0] 27)) := (Below.refl _ _).alloc (Nat.le_refl _) _
              obtain ⟨bC, hbC⟩ : ∃ b, W3.heap.size = b := ⟨_, rfl⟩
              obtain ⟨W4, hW4⟩ : ∃ W', (W3.alloc (.cells #[.int .i64 1, .string ⟨#[]⟩, .int .i64 0, .slice none 0 0] 27)) = W' := ⟨_, rfl⟩
              have hny : Below W3.heap.size W3 W4 := by rw [← hW4]; exact hnx
              have FC4 := Lib.hid (show Tm.sliceIn W4 W4.heap.size [kX] (.slice (some ⟨bC, 0, none⟩) 1 1) by rw [← hW4, ← hbC]; exact hft)
              simp only [hW4, hbC] at hHeld ⊢
              have HB4 := Lib.hid (HB3.out.trans (hny.mono HB3.out.size))
              have FA4 := Lib.hid (lift_sl FA3.out hny)
              have FB4 := Lib.hid (lift_sl FB3.out hny)
              clear hny hnx hft
              refine wpAnyH_ready (rs := [6]) (by kernel_rfl) (by simp) ?_
              refine AllReadyH.cons (o := _) rfl (fun K hK => ?_) (AllReadyH.nil)
              go_simp
              refine (mfun0 ⟨#[103]⟩ _ _ _ _).mono ?_
              rintro e W5 ⟨rfl, hnd⟩
              have hny : Below W4.heap.size W4 W5 := hnd
              have hS4 := Lib.hid (S4.nx (show S4 w.heap.size (.int .i64 1) (.string ⟨#[]⟩) (.int .i64 0) (.slice none 0 0) W4 from hHeld) hny)
              clear hnd hHeld
              go_wp2_with fail
              refine hK.out _ _ (hS4.out) (fun hHeld => ?_)
              clear hK K
              try simp only [Act.put, List.setIfInBounds_toArray, List.set_cons_zero, List.set_cons_succ, List.getElem_toArray, List.getElem_cons_zero, List.getElem_cons_succ]
              clear hS4
              have HB5 := Lib.hid (HB4.out.trans (hny.mono HB4.out.size))
              have FA5 := Lib.hid (lift_sl FA4.out hny)
              have FB5 := Lib.hid (lift_sl FB4.out hny)
              have FC5 := Lib.hid (lift_sl FC4.out hny)
              clear hny
              exact H bA bB bC W5 ⟨hHeld, HB5.out, FA5.out, FB5.out, FC5.out⟩
          · skip
            go_simp
            refine hK.out _ _ (S4.alloc hHeld _) (fun hHeld => ?_)
            clear hK K
            try simp only [Act.put, List.setIfInBounds_toArray, List.set_cons_zero, List.set_cons_succ, List.getElem_toArray, List.getElem_cons_zero, List.getElem_cons_succ]
            have hft : Tm.sliceIn (W2.alloc (.cells #[.int .i64 1, .string ⟨#[]⟩, .int .i64 0, .slice none 0 0] 27)) (W2.alloc (.cells #[.int .i64 1, .string ⟨#[]⟩, .int .i64 0, .slice none 0 0] 27)).heap.size [kX] (.slice (some ⟨W2.heap.size, 0, none⟩) 1 1) := one_slice (t := kX) (newBlk _ _ _ rfl) (inn_leaf (by decide))
            have hnx : Below W2.heap.size W2 (W2.alloc (.cells #[.int .i64 1, .string ⟨#[]⟩, .int .i64 0, .slice none 0 0] 27)) := (Below.refl _ _).alloc (Nat.le_refl _) _
            obtain ⟨bC, hbC⟩ : ∃ b, W2.heap.size = b := ⟨_, rfl⟩
            obtain ⟨W3, hW3⟩ : ∃ W', (W2.alloc (.cells #[.int .i64 1, .string ⟨#[]⟩, .int .i64 0, .slice none 0 0] 27)) = W' := ⟨_, rfl⟩
            have hny : Below W2.heap.size W2 W3 := by rw [← hW3]; exact hnx
            have FC3 := Lib.hid (show Tm.sliceIn W3 W3.heap.size [kX] (.slice (some ⟨bC, 0, none⟩) 1 1) by rw [← hW3, ← hbC]; exact hft)
            simp only [hW3, hbC] at hHeld ⊢
            have HB3 := Lib.hid (HB2.out.trans (hny.mono HB2.out.size))
            have FA3 := Lib.hid (lift_sl FA2.out hny)
            have FB3 := Lib.hid (lift_sl FB2.out hny)
            clear hny hnx hft
            refine wpAnyH_ready (rs := [3]) (by kernel_rfl) (by simp) ?_
            refine AllReadyH.cons (o := _) rfl (fun K hK => ?_) (AllReadyH.nil)
            go_simp
            refine (mfun0 ⟨#[102]⟩ _ _ _ _).mono ?_
            rintro e W4 ⟨rfl, hnd⟩
            have hny : Below W3.heap.size W3 W4 := hnd
            have hS4 := Lib.hid (S4.nx (show S4 w.heap.size (.int .i64 1) (.string ⟨#[]⟩) (.int .i64 0) (.slice none 0 0) W3 from hHeld) hny)
            clear hnd hHeld
            go_wp2_with fail
            refine hK.out _ _ (hS4.out) (fun hHeld => ?_)
            clear hK K
            try simp only [Act.put, List.setIfInBounds_toArray, List.set_cons_zero, List.set_cons_succ, List.getElem_toArray, List.getElem_cons_zero, List.getElem_cons_succ]
            clear hS4
            have HB4 := Lib.hid (HB3.out.trans (hny.mono HB3.out.size))
            have FA4 := Lib.hid (lift_sl FA3.out hny)
            have FB4 := Lib.hid (lift_sl FB3.out hny)
            have FC4 := Lib.hid (lift_sl FC3.out hny)
            clear hny
            refine wpAnyH_ready (rs := [6]) (by kernel_rfl) (by simp) ?_
            refine AllReadyH.cons (o := _) rfl (fun K hK => ?_) (AllReadyH.nil)
            go_simp
            refine (mfun0 ⟨#[103]⟩ _ _ _ _).mono ?_
            rintro e W5 ⟨rfl, hnd⟩
            have hny : Below W4.heap.size W4 W5 := hnd
            have hS4 := Lib.hid (S4.nx (show S4 w.heap.size (.int .i64 1) (.string ⟨#[]⟩) (.int .i64 0) (.slice none 0 0) W4 from hHeld) hny)
            clear hnd hHeld
            go_wp2_with fail
            refine hK.out _ _ (hS4.out) (fun hHeld => ?_)
            clear hK K
            try simp only [Act.put, List.setIfInBounds_toArray, List.set_cons_zero, List.set_cons_succ, List.getElem_toArray, List.getElem_cons_zero, List.getElem_cons_succ]
            clear hS4
            have HB5 := Lib.hid (HB4.out.trans (hny.mono HB4.out.size))
            have FA5 := Lib.hid (lift_sl FA4.out hny)
            have FB5 := Lib.hid (lift_sl FB4.out hny)
            have FC5 := Lib.hid (lift_sl FC4.out hny)
            clear hny
            exact H bA bB bC W5 ⟨hHeld, HB5.out, FA5.out, FB5.out, FC5.out⟩
        · skip
          go_simp
          refine hK.out _ _ (S4.alloc hHeld _) (fun hHeld => ?_)
          clear hK K
          try simp only [Act.put, List.setIfInBounds_toArray, List.set_cons_zero, List.set_cons_succ, List.getElem_toArray, List.getElem_cons_zero, List.getElem_cons_succ]
          have hft : Tm.sliceIn (W1.alloc (.cells #[.int .i64 1, .string ⟨#[]⟩, .int .i64 0, .slice none 0 0] 27)) (W1.alloc (.cells #[.int .i64 1, .string ⟨#[]⟩, .int .i64 0, .slice none 0 0] 27)).heap.size [kX] (.slice (some ⟨W1.heap.size, 0, none⟩) 1 1) := one_slice (t := kX) (newBlk _ _ _ rfl) (inn_leaf (by decide))
          have hnx : Below W1.heap.size W1 (W1.alloc (.cells #[.int .i64 1, .string ⟨#[]⟩, .int .i64 0, .slice none 0 0] 27)) := (Below.refl _ _).alloc (Nat.le_refl _) _
          obtain ⟨bC, hbC⟩ : ∃ b, W1.heap.size = b := ⟨_, rfl⟩
          obtain ⟨W2, hW2⟩ : ∃ W', (W1.alloc (.cells #[.int .i64 1, .string ⟨#[]⟩, .int .i64 0, .slice none 0 0] 27)) = W' := ⟨_, rfl⟩
          have hny : Below W1.heap.size W1 W2 := by rw [← hW2]; exact hnx
          have FC2 := Lib.hid (show Tm.sliceIn W2 W2.heap.size [kX] (.slice (some ⟨bC, 0, none⟩) 1 1) by rw [← hW2, ← hbC]; exact hft)
          simp only [hW2, hbC] at hHeld ⊢
          have HB2 := Lib.hid (HB1.out.trans (hny.mono HB1.out.size))
          have FA2 := Lib.hid (lift_sl FA1.out hny)
          clear hny hnx hft
          refine wpAnyH_ready (rs := [3, 5]) (by kernel_rfl) (by simp) ?_
          refine AllReadyH.cons (o := _) rfl (fun K hK => ?_) (AllReadyH.cons (o := _) rfl (fun K hK => ?_) (AllReadyH.nil))
          · skip
            go_simp
            refine (mfun0 ⟨#[102]⟩ _ _ _ _).mono ?_
            rintro e W3 ⟨rfl, hnd⟩
            have hny : Below W2.heap.size W2 W3 := hnd
            have hS4 := Lib.hid (S4.nx (show S4 w.heap.size (.int .i64 1) (.string ⟨#[]⟩) (.int .i64 0) (.slice none 0 0) W2 from hHeld) hny)
            clear hnd hHeld
            go_wp2_with fail
            refine hK.out _ _ (hS4.out) (fun hHeld => ?_)
            clear hK K
            try simp only [Act.put, List.setIfInBounds_toArray, List.set_cons_zero, List.set_cons_succ, List.getElem_toArray, List.getElem_cons_zero, List.getElem_cons_succ]
            clear hS4
            have HB3 := Lib.hid (HB2.out.trans (hny.mono HB2.out.size))
            have FA3 := Lib.hid (lift_sl FA2.out hny)
            have FC3 := Lib.hid (lift_sl FC2.out hny)
            clear hny
            refine wpAnyH_ready (rs := [5]) (by kernel_rfl) (by simp) ?_
            refine AllReadyH.cons (o := _) rfl (fun K hK => ?_) (AllReadyH.nil)
            go_simp
            refine hK.out _ _ (S4.alloc hHeld _) (fun hHeld => ?_)
            clear hK K
            try simp only [Act.put, List.setIfInBounds_toArray, List.set_cons_zero, List.set_cons_succ, List.getElem_toArray, List.getElem_cons_zero, List.getElem_cons_succ]
            have hft : Tm.sliceIn (W3.alloc (.cells #[.int .i64 1, .string ⟨#[]⟩, .int .i64 0, .slice none 0 0] 27)) (W3.alloc (.cells #[.int .i64 1, .string ⟨#[]⟩, .int .i64 0, .slice none 0 0] 27)).heap.size [kX] (.slice (some ⟨W3.heap.size, 0, none⟩) 1 1) := one_slice (t := kX) (newBlk _ _ _ rfl) (inn_leaf (by decide))
            have hnx : Below W3.heap.size W3 (W3.alloc (.cells #[.int .i64 1, .string ⟨#[]⟩, .int .i64 0, .slice none 0 0] 27)) := (Below.refl _ _).alloc (Nat.le_refl _) _
            obtain ⟨bB, hbB⟩ : ∃ b, W3.heap.size = b := ⟨_, rfl⟩
            obtain ⟨W4, hW4⟩ : ∃ W', (W3.alloc (.cells #[.int .i64 1, .string ⟨#[]⟩, .int .i64 0, .slice none 0 0] 27)) = W' := ⟨_, rfl⟩
            have hny : Below W3.heap.size W3 W4 := by rw [← hW4]; exact hnx
            have FB4 := Lib.hid (show Tm.sliceIn W4 W4.heap.size [kX] (.slice (some ⟨bB, 0, none⟩) 1 1) by rw [← hW4, ← hbB]; exact hft)
            simp only [hW4, hbB] at hHeld ⊢
            have HB4 := Lib.hid (HB3.out.trans (hny.mono HB3.out.size))
            have FA4 := Lib.hid (lift_sl FA3.out hny)
            have FC4 := Lib.hid (lift_sl FC3.out hny)
            clear hny hnx hft
            refine wpAnyH_ready (rs := [6]) (by kernel_rfl) (by simp) ?_
            refine AllReadyH.cons (o := _) rfl (fun K hK => ?_) (AllReadyH.nil)
            go_simp
            refine (mfun0 ⟨#[103]⟩ _ _ _ _).mono ?_
            rintro e W5 ⟨rfl, hnd⟩
            have hny : Below W4.heap.size W4 W5 := hnd
            have hS4 := Lib.hid (S4.nx (show S4 w.heap.size (.int .i64 1) (.string ⟨#[]⟩) (.int .i64 0) (.slice none 0 0) W4 from hHeld) hny)
            clear hnd hHeld
            go_wp2_with fail
            refine hK.out _ _ (hS4.out) (fun hHeld => ?_)
            clear hK K
            try simp only [Act.put, List.setIfInBounds_toArray, List.set_cons_zero, List.set_cons_succ, List.getElem_toArray, List.getElem_cons_zero, List.getElem_cons_succ]
            clear hS4
            have HB5 := Lib.hid (HB4.out.trans (hny.mono HB4.out.size))
            have FA5 := Lib.hid (lift_sl FA4.out hny)
            have FC5 := Lib.hid (lift_sl FC4.out hny)
            have FB5 := Lib.hid (lift_sl FB4.out hny)
            clear hny
            exact H bA bB bC W5 ⟨hHeld, HB5.out, FA5.out, FB5.out, FC5.out⟩
          · skip
            go_simp
            refine hK.out _ _ (S4.alloc hHeld _) (fun hHeld => ?_)
            clear hK K
            try simp only [Act.put, List.setIfInBounds_toArray, List.set_cons_zero, List.set_cons_succ, List.getElem_toArray, List.getElem_cons_zero, List.getElem_cons_succ]
            have hft : Tm.sliceIn (W2.alloc (.cells #[.int .i64 1, .string ⟨#[]⟩, .int .i64 0, .slice none 0 0] 27)) (W2.alloc (.cells #[.int .i64 1, .string ⟨#[]⟩, .int .i64 0, .slice none 0 0] 27)).heap.size [kX] (.slice (some ⟨W2.heap.size, 0, none⟩) 1 1) := one_slice (t := kX) (newBlk _ _ _ rfl) (inn_leaf (by decide))
            have hnx : Below W2.heap.size W2 (W2.alloc (.cells #[.int .i64 1, .string ⟨#[]⟩, .int .i64 0, .slice none 0 0] 27)) := (Below.refl _ _).alloc (Nat.le_refl _) _
            obtain ⟨bB, hbB⟩ : ∃ b, W2.heap.size = b := ⟨_, rfl⟩
            obtain ⟨W3, hW3⟩ : ∃ W', (W2.alloc (.cells #[.int .i64 1, .string ⟨#[]⟩, .int .i64 0, .slice none 0 0] 27)) = W' := ⟨_, rfl⟩
            have hny : Below W2.heap.size W2 W3 := by rw [← hW3]; exact hnx
            have FB3 := Lib.hid (show Tm.sliceIn W3 W3.heap.size [kX] (.slice (some ⟨bB, 0, none⟩) 1 1) by rw [← hW3, ← hbB]; exact hft)
            simp only [hW3, hbB] at hHeld ⊢
            have HB3 := Lib.hid (HB2.out.trans (hny.mono HB2.out.size))
            have FA3 := Lib.hid (lift_sl FA2.out hny)
            have FC3 := Lib.hid (lift_sl FC2.out hny)
            clear hny hnx hft
            refine wpAnyH_ready (rs := [3]) (by kernel_rfl) (by simp) ?_
            refine AllReadyH.cons (o := _) rfl (fun K hK => ?_) (AllReadyH.nil)
            go_simp
            refine (mfun0 ⟨#[102]⟩ _ _ _ _).mono ?_
            rintro e W4 ⟨rfl, hnd⟩
            have hny : Below W3.heap.size W3 W4 := hnd
            have hS4 := Lib.hid (S4.nx (show S4 w.heap.size (.int .i64 1) (.string ⟨#[]⟩) (.int .i64 0) (.slice none 0 0) W3 from hHeld) hny)
            clear hnd hHeld
            go_wp2_with fail
            refine hK.out _ _ (hS4.out) (fun hHeld => ?_)
            clear hK K
            try simp only [Act.put, List.setIfInBounds_toArray, List.set_cons_zero, List.set_cons_succ, List.getElem_toArray, List.getElem_cons_zero, List.getElem_cons_succ]
            clear hS4
            have HB4 := Lib.hid (HB3.out.trans (hny.mono HB3.out.size))
            have FA4 := Lib.hid (lift_sl FA3.out hny)
            have FC4 := Lib.hid (lift_sl FC3.out hny)
            have FB4 := Lib.hid (lift_sl FB3.out hny)
            clear hny
            refine wpAnyH_ready (rs := [6]) (by kernel_rfl) (by simp) ?_
            refine AllReadyH.cons (o := _) rfl (fun K hK => ?_) (AllReadyH.nil)
            go_simp
            refine (mfun0 ⟨#[103]⟩ _ _ _ _).mono ?_
            rintro e W5 ⟨rfl, hnd⟩
            have hny : Below W4.heap.size W4 W5 := hnd
            have hS4 := Lib.hid (S4.nx (show S4 w.heap.size (.int .i64 1) (.string ⟨#[]⟩) (.int .i64 0) (.slice none 0 0) W4 from hHeld) hny)
            clear hnd hHeld
            go_wp2_with fail
            refine hK.out _ _ (hS4.out) (fun hHeld => ?_)
            clear hK K
            try simp only [Act.put, List.setIfInBounds_toArray, List.set_cons_zero, List.set_cons_succ, List.getElem_toArray, List.getElem_cons_zero, List.getElem_cons_succ]
            clear hS4
            have HB5 := Lib.hid (HB4.out.trans (hny.mono HB4.out.size))
            have FA5 := Lib.hid (lift_sl FA4.out hny)
            have FC5 := Lib.hid (lift_sl FC4.out hny)
            have FB5 := Lib.hid (lift_sl FB4.out hny)
            clear hny
            exact H bA bB bC W5 ⟨hHeld, HB5.out, FA5.out, FB5.out, FC5.out⟩
      · skip
        go_simp
        refine hK.out _ _ (S4.alloc hHeld _) (fun hHeld => ?_)
        clear hK K
        try simp only [Act.put, List.setIfInBounds_toArray, List.set_cons_zero, List.set_cons_succ, List.getElem_toArray, List.getElem_cons_zero, List.getElem_cons_succ]
        have hft : Tm.sliceIn (W0.alloc (.cells #[.int .i64 1, .string ⟨#[]⟩, .int .i64 0, .slice none 0 0] 27)) (W0.alloc (.cells #[.int .i64 1, .string ⟨#[]⟩, .int .i64 0, .slice none 0 0] 27)).heap.size [kX] (.slice (some ⟨W0.heap.size, 0, none⟩) 1 1) := one_slice (t := kX) (newBlk _ _ _ rfl) (inn_leaf (by decide))
        have hnx : Below W0.heap.size W0 (W0.alloc (.cells #[.int .i64 1, .string ⟨#[]⟩, .int .i64 0, .slice none 0 0] 27)) := (Below.refl _ _).alloc (Nat.le_refl _) _
        obtain ⟨bB, hbB⟩ : ∃ b, W0.heap.size = b := ⟨_, rfl⟩
        obtain ⟨W1, hW1⟩ : ∃ W', (W0.alloc (.cells #[.int .i64 1, .string ⟨#[]⟩, .int .i64 0, .slice none 0 0] 27)).drew = W' := ⟨_, rfl⟩
        have hny : Below W0.heap.size W0 W1 := by rw [← hW1]; exact hnx.drew
        have FB1 := Lib.hid (show Tm.sliceIn W1 W1.heap.size [kX] (.slice (some ⟨bB, 0, none⟩) 1 1) by rw [← hW1, ← hbB]; exact hft)
        simp only [hW1, hbB] at hHeld ⊢
        have HB1 := Lib.hid (HB0.out.trans (hny.mono HB0.out.size))
        clear hny hnx hft
        refine wpAnyH_ready (rs := [2, 8]) (by kernel_rfl) (by simp) ?_
        refine AllReadyH.cons (o := _) rfl (fun K hK => ?_) (AllReadyH.cons (o := _) rfl (fun K hK => ?_) (AllReadyH.nil))
        · skip
          go_simp
          refine hK.out _ _ (S4.alloc hHeld _) (fun hHeld => ?_)
          clear hK K
          try simp only [Act.put, List.setIfInBounds_toArray, List.set_cons_zero, List.set_cons_succ, List.getElem_toArray, List.getElem_cons_zero, List.getElem_cons_succ]
          have hft : Tm.sliceIn (W1.alloc (.cells #[.int .i64 1, .string ⟨#[]⟩, .int .i64 0, .slice none 0 0, .int .i64 1, .string ⟨#[]⟩, .int .i64 0, .slice none 0 0] 27)) (W1.alloc (.cells #[.int .i64 1, .string ⟨#[]⟩, .int .i64 0, .slice none 0 0, .int .i64 1, .string ⟨#[]⟩, .int .i64 0, .slice none 0 0] 27)).heap.size [kX, kX] (.slice (some ⟨W1.heap.size, 0, none⟩) 2 2) := two_slice (a := kX) (b := kX) (newBlk _ _ _ rfl) (inn_leaf (by decide)) (inn_leaf (by decide))
          have hnx : Below W1.heap.size W1 (W1.alloc (.cells #[.int .i64 1, .string ⟨#[]⟩, .int .i64 0, .slice none 0 0, .int .i64 1, .string ⟨#[]⟩, .int .i64 0, .slice none 0 0] 27)) := (Below.refl _ _).alloc (Nat.le_refl _) _
          obtain ⟨bA, hbA⟩ : ∃ b, W1.heap.size = b := ⟨_, rfl⟩
          obtain ⟨W2, hW2⟩ : ∃ W', (W1.alloc (.cells #[.int .i64 1, .string ⟨#[]⟩, .int .i64 0, .slice none 0 0, .int .i64 1, .string ⟨#[]⟩, .int .i64 0, .slice none 0 0] 27)) = W' := ⟨_, rfl⟩
          have hny : Below W1.heap.size W1 W2 := by rw [← hW2]; exact hnx
          have FA2 := Lib.hid (show Tm.sliceIn W2 W2.heap.size [kX, kX] (.slice (some ⟨bA, 0, none⟩) 2 2) by rw [← hW2, ← hbA]; exact hft)
          simp only [hW2, hbA] at hHeld ⊢
          have HB2 := Lib.hid (HB1.out.trans (hny.mono HB1.out.size))
          have FB2 := Lib.hid (lift_sl FB1.out hny)
          clear hny hnx hft
          refine wpAnyH_ready (rs := [3, 8]) (by kernel_rfl) (by simp) ?_
          refine AllReadyH.cons (o := _) rfl (fun K hK => ?_) (AllReadyH.cons (o := _) rfl (fun K hK => ?_) (AllReadyH.nil))
          · skip
            go_simp
            refine (mfun0 ⟨#[102]⟩ _ _ _ _).mono ?_
            rintro e W3 ⟨rfl, hnd⟩
            have hny : Below W2.heap.size W2 W3 := hnd
            have hS4 := Lib.hid (S4.nx (show S4 w.heap.size (.int .i64 1) (.string ⟨#[]⟩) (.int .i64 0) (.slice none 0 0) W2 from hHeld) hny)
            clear hnd hHeld
            go_wp2_with fail
            refine hK.out _ _ (hS4.out) (fun hHeld => ?_)
            clear hK K
            try simp only [Act.put, List.setIfInBounds_toArray, List.set_cons_zero, List.set_cons_succ, List.getElem_toArray, List.getElem_cons_zero, List.getElem_cons_succ]
            clear hS4
            have HB3 := Lib.hid (HB2.out.trans (hny.mono HB2.out.size))
            have FB3 := Lib.hid (lift_sl FB2.out hny)
            have FA3 := Lib.hid (lift_sl FA2.out hny)
            clear hny
            refine wpAnyH_ready (rs := [6, 8]) (by kernel_rfl) (by simp) ?_
            refine AllReadyH.cons (o := _) rfl (fun K hK => ?_) (AllReadyH.cons (o := _) rfl (fun K hK => ?_) (AllReadyH.nil))
            · skip
              go_simp
              refine (mfun0 ⟨#[103]⟩ _ _ _ _).mono ?_
              rintro e W4 ⟨rfl, hnd⟩
              have hny : Below W3.heap.size W3 W4 := hnd
              have hS4 := Lib.hid (S4.nx (show S4 w.heap.size (.int .i64 1) (.string ⟨#[]⟩) (.int .i64 0) (.slice none 0 0) W3 from hHeld) hny)
              clear hnd hHeld
              go_wp2_with fail
              refine hK.out _ _ (hS4.out) (fun hHeld => ?_)
              clear hK K
              try simp only [Act.put, List.setIfInBounds_toArray, List.set_cons_zero, List.set_cons_succ, List.getElem_toArray, List.getElem_cons_zero, List.getElem_cons_succ]
              clear hS4
              have HB4 := Lib.hid (HB3.out.trans (hny.mono HB3.out.size))
              have FB4 := Lib.hid (lift_sl FB3.out hny)
              have FA4 := Lib.hid (lift_sl FA3.out hny)
              clear hny
              refine wpAnyH_ready (rs := [8]) (by kernel_rfl) (by simp) ?_
              refine AllReadyH.cons (o := _) rfl (fun K hK => ?_) (AllReadyH.nil)
              go_simp
              refine hK.out _ _ (S4.alloc hHeld _) (fun hHeld => ?_)
              clear hK K
              try simp only [Act.put, List.setIfInBounds_toArray, List.set_cons_zero, List.set_cons_succ, List.getElem_toArray, List.getElem_cons_zero, List.getElem_cons_succ]
              have hft : Tm.sliceIn (W4.alloc (.cells #[.int .i64 1, .string ⟨#[]⟩, .int .i64 0, .slice none 0 0] 27)) (W4.alloc (.cells #[.int .i64 1, .string ⟨#[]⟩, .int .i64 0, .slice none 0 0] 27)).heap.size [kX] (.slice (some ⟨W4.heap.size, 0, none⟩) 1 1) := one_slice (t := kX) (newBlk _ _ _ rfl) (inn_leaf (by decide))
              have hnx : Below W4.heap.size W4 (W4.alloc (.cells #[.int .i64 1, .string ⟨#[]⟩, .int .i64 0, .slice none 0 0] 27)) := (Below.refl _ _).alloc (Nat.le_refl _) _
              obtain ⟨bC, hbC⟩ : ∃ b, W4.heap.size = b := ⟨_, rfl⟩
              obtain ⟨W5, hW5⟩ : ∃ W', (W4.alloc (.cells #[.int .i64 1, .string ⟨#[]⟩, .int .i64 0, .slice none 0 0] 27)) = W' := ⟨_, rfl⟩
              have hny : Below W4.heap.size W4 W5 := by rw [← hW5]; exact hnx
              have FC5 := Lib.hid (show Tm.sliceIn W5 W5.heap.size [kX] (.slice (some ⟨bC, 0, none⟩) 1 1) by rw [← hW5, ← hbC]; exact hft)
              simp only [hW5, hbC] at hHeld ⊢
              have HB5 := Lib.hid (HB4.out.trans (hny.mono HB4.out.size))
              have FB5 := Lib.hid (lift_sl FB4.out hny)
              have FA5 := Lib.hid (lift_sl FA4.out hny)
              clear hny hnx hft
              exact H bA bB bC W5 ⟨hHeld, HB5.out, FA5.out, FB5.out, FC5.out⟩
            · skip
              go_simp
              refine hK.out _ _ (S4.alloc hHeld _) (fun hHeld => ?_)
              clear hK K
              try simp only [Act.put, List.setIfInBounds_toArray, List.set_cons_zero, List.set_cons_succ, List.getElem_toArray, List.getElem_cons_zero, List.getElem_cons_succ]
              have hft : Tm.sliceIn (W3.alloc (.cells #[.int .i64 1, .string ⟨#[]⟩, .int .i64 0, .slice none 0 0] 27)) (W3.alloc (.cells #[.int .i64 1, .string ⟨#[]⟩, .int .i64 0, .slice none 0 0] 27)).heap.size [kX] (.slice (some ⟨W3.heap.size, 0, none⟩) 1 1) := one_slice (t := kX) (newBlk _ _ _ rfl) (inn_leaf (by decide))
              have hnx : Below W3.heap.size W3 (W3.alloc (.cells #[.int .i64 1, .string ⟨#[]⟩, .int .i64 0, .slice none 0 0] 27)) := (Below.refl _ _).alloc (Nat.le_refl _) _
              obtain ⟨bC, hbC⟩ : ∃ b, W3.heap.size = b := ⟨_, rfl⟩
              obtain ⟨W4, hW4⟩ : ∃ W', (W3.alloc (.cells #[.int .i64 1, .string ⟨#[]⟩, .int .i64 0, .slice none 0 0] 27)) = W' := ⟨_, rfl⟩
              have hny : Below W3.heap.size W3 W4 := by rw [← hW4]; exact hnx
              have FC4 := Lib.hid (show Tm.sliceIn W4 W4.heap.size [kX] (.slice (some ⟨bC, 0, none⟩) 1 1) by rw [← hW4, ← hbC]; exact hft)
              simp only [hW4, hbC] at hHeld ⊢
              have HB4 := Lib.hid (HB3.out.trans (hny.mono HB3.out.size))
              have FB4 := Lib.hid (lift_sl FB3.out hny)
              have FA4 := Lib.hid (lift_sl FA3.out hny)
              clear hny hnx hft
              refine wpAnyH_ready (rs := [6]) (by kernel_rfl) (by simp) ?_
              refine AllReadyH.cons (o := _) rfl (fun K hK => ?_) (AllReadyH.nil)
              go_simp
              refine (mfun0 ⟨#[103]⟩ _ _ _ _).mono ?_
              rintro e W5 ⟨rfl, hnd⟩
              have hny : Below W4.heap.size W4 W5 := hnd
              have hS4 := Lib.hid (S4.nx (show S4 w.heap.size (.int .i64 1) (.string ⟨#[]⟩) (.int .i64 0) (.slice none 0 0) W4 from hHeld) hny)
              clear hnd hHeld
              go_wp2_with fail
              refine hK.out _ _ (hS4.out) (fun hHeld => ?_)
              clear hK K
              try simp only [Act.put, List.setIfInBounds_toArray, List.set_cons_zero, List.set_cons_succ, List.getElem_toArray, List.getElem_cons_zero, List.getElem_cons_succ]
              clear hS4
              have HB5 := Lib.hid (HB4.out.trans (hny.mono HB4.out.size))
              have FB5 := Lib.hid (lift_sl FB4.out hny)
              have FA5 := Lib.hid (lift_sl FA4.out hny)
              have FC5 := Lib.hid (lift_sl FC4.out hny)
              clear hny
              exact H bA bB bC W5 ⟨hHeld, HB5.out, FA5.out, FB5.out, FC5.out⟩
          · skip
            go_simp
            refine hK.out _ _ (S4.alloc hHeld _) (fun hHeld => ?_)
            clear hK K
            try simp only [Act.put, List.setIfInBounds_toArray, List.set_cons_zero, List.set_cons_succ, List.getElem_toArray, List.getElem_cons_zero, List.getElem_cons_succ]
            have hft : Tm.sliceIn (W2.alloc (.cells #[.int .i64 1, .string ⟨#[]⟩, .int .i64 0, .slice none 0 0] 27)) (W2.alloc (.cells #[.int .i64 1, .string ⟨#[]⟩, .int .i64 0, .slice none 0 0] 27)).heap.size [kX] (.slice (some ⟨W2.heap.size, 0, none⟩) 1 1) := one_slice (t := kX) (newBlk _ _ _ rfl) (inn_leaf (by decide))
            have hnx : Below W2.heap.size W2 (W2.alloc (.cells #[.int .i64 1, .string ⟨#[]⟩, .int .i64 0, .slice none 0 0] 27)) := (Below.refl _ _).alloc (Nat.le_refl _) _
            obtain ⟨bC, hbC⟩ : ∃ b, W2.heap.size = b := ⟨_, rfl⟩
            obtain ⟨W3, hW3⟩ : ∃ W', (W2.alloc (.cells #[.int .i64 1, .string ⟨#[]⟩, .int .i64 0, .slice none 0 0] 27)) = W' := ⟨_, rfl⟩
            have hny : Below W2.heap.size W2 W3 := by rw [← hW3]; exact hnx
            have FC3 := Lib.hid (show Tm.sliceIn W3 W3.heap.size [kX] (.slice (some ⟨bC, 0, none⟩) 1 1) by rw [← hW3, ← hbC]; exact hft)
            simp only [hW3, hbC] at hHeld ⊢
            have HB3 := Lib.hid (HB2.out.trans (hny.mono HB2.out.size))
            have FB3 := Lib.hid (lift_sl FB2.out hny)
            have FA3 := Lib.hid (lift_sl FA2.out hny)
            clear hny hnx hft
            refine wpAnyH_ready (rs := [3]) (by kernel_rfl) (by simp) ?_
            refine AllReadyH.cons (o := _) rfl (fun K hK => ?_) (AllReadyH.nil)
            go_simp
            refine (mfun0 ⟨#[102]⟩ _ _ _ _).mono ?_
            rintro e W4 ⟨rfl, hnd⟩
            have hny : Below W3.heap.size W3 W4 := hnd
            have hS4 := Lib.hid (S4.nx (show S4 w.heap.size (.int .i64 1) (.string ⟨#[]⟩) (.int .i64 0) (.slice none 0 0) W3 from hHeld) hny)
            clear hnd hHeld
            go_wp2_with fail
            refine hK.out _ _ (hS4.out) (fun hHeld => ?_)
            clear hK K
            try simp only [Act.put, List.setIfInBounds_toArray, List.set_cons_zero, List.set_cons_succ, List.getElem_toArray, List.getElem_cons_zero, List.getElem_cons_succ]
            clear hS4
            have HB4 := Lib.hid (HB3.out.trans (hny.mono HB3.out.size))
            have FB4 := Lib.hid (lift_sl FB3.out hny)
            have FA4 := Lib.hid (lift_sl FA3.out hny)
            have FC4 := Lib.hid (lift_sl FC3.out hny)
            clear hny
            refine wpAnyH_ready (rs := [6]) (by kernel_rfl) (by simp) ?_
            refine AllReadyH.cons (o := _) rfl (fun K hK => ?_) (AllReadyH.nil)
            go_simp
            refine (mfun0 ⟨#[103]⟩ _ _ _ _).mono ?_
            rintro e W5 ⟨rfl, hnd⟩
            have hny : Below W4.heap.size W4 W5 := hnd
            have hS4 := Lib.hid (S4.nx (show S4 w.heap.size (.int .i64 1) (.string ⟨#[]⟩) (.int .i64 0) (.slice none 0 0) W4 from hHeld) hny)
            clear hnd hHeld
            go_wp2_with fail
            refine hK.out _ _ (hS4.out) (fun hHeld => ?_)
            clear hK K
            try simp only [Act.put, List.setIfInBounds_toArray, List.set_cons_zero, List.set_cons_succ, List.getElem_toArray, List.getElem_cons_zero, List.getElem_cons_succ]
            clear hS4
            have HB5 := Lib.hid (HB4.out.trans (hny.mono HB4.out.size))
            have FB5 := Lib.hid (lift_sl FB4.out hny)
            have FA5 := Lib.hid (lift_sl FA4.out hny)
            have FC5 := Lib.hid (lift_sl FC4.out hny)
            clear hny
            exact H bA bB bC W5 ⟨hHeld, HB5.out, FA5.out, FB5.out, FC5.out⟩
        · skip
          go_simp
          refine hK.out _ _ (S4.alloc hHeld _) (fun hHeld => ?_)
          clear hK K
          try simp only [Act.put, List.setIfInBounds_toArray, List.set_cons_zero, List.set_cons_succ, List.getElem_toArray, List.getElem_cons_zero, List.getElem_cons_succ]
          have hft : Tm.sliceIn (W1.alloc (.cells #[.int .i64 1, .string ⟨#[]⟩, .int .i64 0, .slice none 0 0] 27)) (W1.alloc (.cells #[.int .i64 1, .string ⟨#[]⟩, .int .i64 0, .slice none 0 0] 27)).heap.size [kX] (.slice (some ⟨W1.heap.size, 0, none⟩) 1 1) := one_slice (t := kX) (newBlk _ _ _ rfl) (inn_leaf (by decide))
          have hnx : Below W1.heap.size W1 (W1.alloc (.cells #[.int .i64 1, .string ⟨#[]⟩, .int .i64 0, .slice none 0 0] 27)) := (Below.refl _ _).alloc (Nat.le_refl _) _
          obtain ⟨bC, hbC⟩ : ∃ b, W1.heap.size = b := ⟨_, rfl⟩
          obtain ⟨W2, hW2⟩ : ∃ W', (W1.alloc (.cells #[.int .i64 1, .string ⟨#[]⟩, .int .i64 0, .slice none 0 0] 27)) = W' := ⟨_, rfl⟩
          have hny : Below W1.heap.size W1 W2 := by rw [← hW2]; exact hnx
          have FC2 := Lib.hid (show Tm.sliceIn W2 W2.heap.size [kX] (.slice (some ⟨bC, 0, none⟩) 1 1) by rw [← hW2, ← hbC]; exact hft)
          simp only [hW2, hbC] at hHeld ⊢
          have HB2 := Lib.hid (HB1.out.trans (hny.mono HB1.out.size))
          have FB2 := Lib.hid (lift_sl FB1.out hny)
          clear hny hnx hft
          refine wpAnyH_ready (rs := [2]) (by kernel_rfl) (by simp) ?_
          refine AllReadyH.cons (o := _) rfl (fun K hK => ?_) (AllReadyH.nil)
          go_simp
          refine hK.out _ _ (S4.alloc hHeld _) (fun hHeld => ?_)
          clear hK K
          try simp only [Act.put, List.setIfInBounds_toArray, List.set_cons_zero, List.set_cons_succ, List.getElem_toArray, List.getElem_cons_zero, List.getElem_cons_succ]
          have hft : Tm.sliceIn (W2.alloc (.cells #[.int .i64 1, .string ⟨#[]⟩, .int .i64 0, .slice none 0 0, .int .i64 1, .string ⟨#[]⟩, .int .i64 0, .slice none 0 0] 27)) (W2.alloc (.cells #[.int .i64 1, .string ⟨#[]⟩, .int .i64 0, .slice none 0 0, .int .i64 1, .string ⟨#[]⟩, .int .i64 0, .slice none 0 0] 27)).heap.size [kX, kX] (.slice (some ⟨W2.heap.size, 0, none⟩) 2 2) := two_slice (a := kX) (b := kX) (newBlk _ _ _ rfl) (inn_leaf (by decide)) (inn_leaf (by decide))
          have hnx : Below W2.heap.size W2 (W2.alloc (.cells #[.int .i64 1, .string ⟨#[]⟩, .int .i64 0, .slice none 0 0, .int .i64 1, .string ⟨#[]⟩, .int .i64 0, .slice none 0 0] 27)) := (Below.refl _ _).alloc (Nat.le_refl _) _
          obtain ⟨bA, hbA⟩ : ∃ b, W2.heap.size = b := ⟨_, rfl⟩
          obtain ⟨W3, hW3⟩ : ∃ W', (W2.alloc (.cells #[.int .i64 1, .string ⟨#[]⟩, .int .i64 0, .slice none 0 0, .int .i64 1, .string ⟨#[]⟩, .int .i64 0, .slice none 0 0] 27)) = W' := ⟨_, rfl⟩
          have hny : Below W2.heap.size W2 W3 := by rw [← hW3]; exact hnx
          have FA3 := Lib.hid (show Tm.sliceIn W3 W3.heap.size [kX, kX] (.slice (some ⟨bA, 0, none⟩) 2 2) by rw [← hW3, ← hbA]; exact hft)
          simp only [hW3, hbA] at hHeld ⊢
          have HB3 := Lib.hid (HB2.out.trans (hny.mono HB2.out.size))
          have FB3 := Lib.hid (lift_sl FB2.out hny)
          have FC3 := Lib.hid (lift_sl FC2.out hny)
          clear hny hnx hft
          refine wpAnyH_ready (rs := [3]) (by kernel_rfl) (by simp) ?_
          refine AllReadyH.cons (o := _) rfl (fun K hK => ?_) (AllReadyH.nil)
          go_simp
          refine (mfun0 ⟨#[102]⟩ _ _ _ _).mono ?_
          rintro e W4 ⟨rfl, hnd⟩
          have hny : Below W3.heap.size W3 W4 := hnd
          have hS4 := Lib.hid (S4.nx (show S4 w.heap.size (.int .i64 1) (.string ⟨#[]⟩) (.int .i64 0) (.slice none 0 0) W3 from hHeld) hny)
          clear hnd hHeld
          go_wp2_with fail
          refine hK.out _ _ (hS4.out) (fun hHeld => ?_)
          clear hK K
          try simp only [Act.put, List.setIfInBounds_toArray, List.set_cons_zero, List.set_cons_succ, List.getElem_toArray, List.getElem_cons_zero, List.getElem_cons_succ]
          clear hS4
          have HB4 := Lib.hid (HB3.out.trans (hny.mono HB3.out.size))
          have FB4 := Lib.hid (lift_sl FB3.out hny)
          have FC4 := Lib.hid (lift_sl FC3.out hny)
          have FA4 := Lib.hid (lift_sl FA3.out hny)
          clear hny
          refine wpAnyH_ready (rs := [6]) (by kernel_rfl) (by simp) ?_
          refine AllReadyH.cons (o := _) rfl (fun K hK => ?_) (AllReadyH.nil)
          go_simp
          refine (mfun0 ⟨#[103]⟩ _ _ _ _).mono ?_
          rintro e W5 ⟨rfl, hnd⟩
          have hny : Below W4.heap.size W4 W5 := hnd
          have hS4 := Lib.hid (S4.nx (show S4 w.heap.size (.int .i64 1) (.string ⟨#[]⟩) (.int .i64 0) (.slice none 0 0) W4 from hHeld) hny)
          clear hnd hHeld
          go_wp2_with fail
          refine hK.out _ _ (hS4.out) (fun hHeld => ?_)
          clear hK K
          try simp only [Act.put, List.setIfInBounds_toArray, List.set_cons_zero, List.set_cons_succ, List.getElem_toArray, List.getElem_cons_zero, List.getElem_cons_succ]
          clear hS4
          have HB5 := Lib.hid (HB4.out.trans (hny.mono HB4.out.size))
          have FB5 := Lib.hid (lift_sl FB4.out hny)
          have FC5 := Lib.hid (lift_sl FC4.out hny)
          have FA5 := Lib.hid (lift_sl FA4.out hny)
          clear hny
          exact H bA bB bC W5 ⟨hHeld, HB5.out, FA5.out, FB5.out, FC5.out⟩
      · skip
        go_simp
        refine hK.out _ _ (S4.alloc hHeld _) (fun hHeld => ?_)
        clear hK K
        try simp only [Act.put, List.setIfInBounds_toArray, List.set_cons_zero, List.set_cons_succ, List.getElem_toArray, List.getElem_cons_zero, List.getElem_cons_succ]
        have hft : Tm.sliceIn (W0.alloc (.cells #[.int .i64 1, .string ⟨#[]⟩, .int .i64 0, .slice none 0 0] 27)) (W0.alloc (.cells #[.int .i64 1, .string ⟨#[]⟩, .int .i64 0, .slice none 0 0] 27)).heap.size [kX] (.slice (some ⟨W0.heap.size, 0, none⟩) 1 1) := one_slice (t := kX) (newBlk _ _ _ rfl) (inn_leaf (by decide))
        have hnx : Below W0.heap.size W0 (W0.alloc (.cells #[.int .i64 1, .string ⟨#[]⟩, .int .i64 0, .slice none 0 0] 27)) := (Below.refl _ _).alloc (Nat.le_refl _) _
        obtain ⟨bC, hbC⟩ : ∃ b, W0.heap.size = b := ⟨_, rfl⟩
        obtain ⟨W1, hW1⟩ : ∃ W', (W0.alloc (.cells #[.int .i64 1, .string ⟨#[]⟩, .int .i64 0, .slice none 0 0] 27)).drew = W' := ⟨_, rfl⟩
        have hny : Below W0.heap.size W0 W1 := by rw [← hW1]; exact hnx.drew
        have FC1 := Lib.hid (show Tm.sliceIn W1 W1.heap.size [kX] (.slice (some ⟨bC, 0, none⟩) 1 1) by rw [← hW1, ← hbC]; exact hft)
        simp only [hW1, hbC] at hHeld ⊢
        have HB1 := Lib.hid (HB0.out.trans (hny.mono HB0.out.size))
        clear hny hnx hft
        refine wpAnyH_ready (rs := [2, 5]) (by kernel_rfl) (by simp) ?_
        refine AllReadyH.cons (o := _) rfl (fun K hK => ?_) (AllReadyH.cons (o := _) rfl (fun K hK => ?_) (AllReadyH.nil))
        · skip
          go_simp
          refine hK.out _ _ (S4.alloc hHeld _) (fun hHeld => ?_)
          clear hK K
          try simp only [Act.put, List.setIfInBounds_toArray, List.set_cons_zero, List.set_cons_succ, List.getElem_toArray, List.getElem_cons_zero, List.getElem_cons_succ]
          have hft : Tm.sliceIn (W1.alloc (.cells #[.int .i64 1, .string ⟨#[]⟩, .int .i64 0, .slice none 0 0, .int .i64 1, .string ⟨#[]⟩, .int .i64 0, .slice none 0 0] 27)) (W1.alloc (.cells #[.int .i64 1, .string ⟨#[]⟩, .int .i64 0, .slice none 0 0, .int .i64 1, .string ⟨#[]⟩, .int .i64 0, .slice none 0 0] 27)).heap.size [kX, kX] (.slice (some ⟨W1.heap.size, 0, none⟩) 2 2) := two_slice (a := kX) (b := kX) (newBlk _ _ _ rfl) (inn_leaf (by decide)) (inn_leaf (by decide))
          have hnx : Below W1.heap.size W1 (W1.alloc (.cells #[.int .i64 1, .string ⟨#[]⟩, .int .i64 0, .slice none 0 0, .int .i64 1, .string ⟨#[]⟩, .int .i64 0, .slice none 0 0] 27)) := (Below.refl _ _).alloc (Nat.le_refl _) _
          obtain ⟨bA, hbA⟩ : ∃ b, W1.heap.size = b := ⟨_, rfl⟩
          obtain ⟨W2, hW2⟩ : ∃ W', (W1.alloc (.cells #[.int .i64 1, .string ⟨#[]⟩, .int .i64 0, .slice none 0 0, .int .i64 1, .string ⟨#[]⟩, .int .i64 0, .slice none 0 0] 27)) = W' := ⟨_, rfl⟩
          have hny : Below W1.heap.size W1 W2 := by rw [← hW2]; exact hnx
          have FA2 := Lib.hid (show Tm.sliceIn W2 W2.heap.size [kX, kX] (.slice (some ⟨bA, 0, none⟩) 2 2) by rw [← hW2, ← hbA]; exact hft)
          simp only [hW2, hbA] at hHeld ⊢
          have HB2 := Lib.hid (HB1.out.trans (hny.mono HB1.out.size))
          have FC2 := Lib.hid (lift_sl FC1.out hny)
          clear hny hnx hft
          refine wpAnyH_ready (rs := [3, 5]) (by kernel_rfl) (by simp) ?_
          refine AllReadyH.cons (o := _) rfl (fun K hK => ?_) (AllReadyH.cons (o := _) rfl (fun K hK => ?_) (AllReadyH.nil))
          · skip
            go_simp
            refine (mfun0 ⟨#[102]⟩ _ _ _ _).mono ?_
            rintro e W3 ⟨rfl, hnd⟩
            have hny : Below W2.heap.size W2 W3 := hnd
            have hS4 := Lib.hid (S4.nx (show S4 w.heap.size (.int .i64 1) (.string ⟨#[]⟩) (.int .i64 0) (.slice none 0 0) W2 from hHeld) hny)
            clear hnd hHeld
            go_wp2_with fail
            refine hK.out _ _ (hS4.out) (fun hHeld => ?_)
            clear hK K
            try simp only [Act.put, List.setIfInBounds_toArray, List.set_cons_zero, List.set_cons_succ, List.getElem_toArray, List.getElem_cons_zero, List.getElem_cons_succ]
            clear hS4
            have HB3 := Lib.hid (HB2.out.trans (hny.mono HB2.out.size))
            have FC3 := Lib.hid (lift_sl FC2.out hny)
            have FA3 := Lib.hid (lift_sl FA2.out hny)
            clear hny
            refine wpAnyH_ready (rs := [5]) (by kernel_rfl) (by simp) ?_
            refine AllReadyH.cons (o := _) rfl (fun K hK => ?_) (AllReadyH.nil)
            go_simp
            refine hK.out _ _ (S4.alloc hHeld _) (fun hHeld => ?_)
            clear hK K
            try simp only [Act.put, List.setIfInBounds_toArray, List.set_cons_zero, List.set_cons_succ, List.getElem_toArray, List.getElem_cons_zero, List.getElem_cons_succ]
            have hft : Tm.sliceIn (W3.alloc (.cells #[.int .i64 1, .string ⟨#[]⟩, .int .i64 0, .slice none 0 0] 27)) (W3.alloc (.cells #[.int .i64 1, .string ⟨#[]⟩, .int .i64 0, .slice none 0 0] 27)).heap.size [kX] (.slice (some ⟨W3.heap.size, 0, none⟩) 1 1) := one_slice (t := kX) (newBlk _ _ _ rfl) (inn_leaf (by decide))
            have hnx : Below W3.heap.size W3 (W3.alloc (.cells #[.int .i64 1, .string ⟨#[]⟩, .int .i64 0, .slice none 0 0] 27)) := (Below.refl _ _).alloc (Nat.le_refl _) _
            obtain ⟨bB, hbB⟩ : ∃ b, W3.heap.size = b := ⟨_, rfl⟩
            obtain ⟨W4, hW4⟩ : ∃ W', (W3.alloc (.cells #[.int .i64 1, .string ⟨#[]⟩, .int .i64 0, .slice none 0 0] 27)) = W' := ⟨_, rfl⟩
            have hny : Below W3.heap.size W3 W4 := by rw [← hW4]; exact hnx
            have FB4 := Lib.hid (show Tm.sliceIn W4 W4.heap.size [kX] (.slice (some ⟨bB, 0, none⟩) 1 1) by rw [← hW4, ← hbB]; exact hft)
            simp only [hW4, hbB] at hHeld ⊢
            have HB4 := Lib.hid (HB3.out.trans (hny.mono HB3.out.size))
            have FC4 := Lib.hid (lift_sl FC3.out hny)
            have FA4 := Lib.hid (lift_sl FA3.out hny)
            clear hny hnx hft
            refine wpAnyH_ready (rs := [6]) (by kernel_rfl) (by simp) ?_
            refine AllReadyH.cons (o := _) rfl (fun K hK => ?_) (AllReadyH.nil)
            go_simp
            refine (mfun0 ⟨#[103]⟩ _ _ _ _).mono ?_
            rintro e W5 ⟨rfl, hnd⟩
            have hny : Below W4.heap.size W4 W5 := hnd
            have hS4 := Lib.hid (S4.nx (show S4 w.heap.size (.int .i64 1) (.string ⟨#[]⟩) (.int .i64 0) (.slice none 0 0) W4 from hHeld) hny)
            clear hnd hHeld
            go_wp2_with fail
            refine hK.out _ _ (hS4.out) (fun hHeld => ?_)
            clear hK K
            try simp only [Act.put, List.setIfInBounds_toArray, List.set_cons_zero, List.set_cons_succ, List.getElem_toArray, List.getElem_cons_zero, List.getElem_cons_succ]
            clear hS4
            have HB5 := Lib.hid (HB4.out.trans (hny.mono HB4.out.size))
            have FC5 := Lib.hid (lift_sl FC4.out hny)
            have FA5 := Lib.hid (lift_sl FA4.out hny)
            have FB5 := Lib.hid (lift_sl FB4.out hny)
            clear hny
            exact H bA bB bC W5 ⟨hHeld, HB5.out, FA5.out, FB5.out, FC5.out⟩
          · skip
            go_simp
            refine hK.out _ _ (S4.alloc hHeld _) (fun hHeld => ?_)
            clear hK K
            try simp only [Act.put, List.setIfInBounds_toArray, List.set_cons_zero, List.set_cons_succ, List.getElem_toArray, List.getElem_cons_zero, List.getElem_cons_succ]
            have hft : Tm.sliceIn (W2.alloc (.cells #[.int .i64 1, .string ⟨#[]⟩, .int .i64 0, .slice none 0 0] 27)) (W2.alloc (.cells #[.int .i64 1, .string ⟨#[]⟩, .int .i64 0, .slice none 0 0] 27)).heap.size [kX] (.slice (some ⟨W2.heap.size, 0, none⟩) 1 1) := one_slice (t := kX) (newBlk _ _ _ rfl) (inn_leaf (by decide))
            have hnx : Below W2.heap.size W2 (W2.alloc (.cells #[.int .i64 1, .string ⟨#[]⟩, .int .i64 0, .slice none 0 0] 27)) := (Below.refl _ _).alloc (Nat.le_refl _) _
            obtain ⟨bB, hbB⟩ : ∃ b, W2.heap.size = b := ⟨_, rfl⟩
            obtain ⟨W3, hW3⟩ : ∃ W', (W2.alloc (.cells #[.int .i64 1, .string ⟨#[]⟩, .int .i64 0, .slice none 0 0] 27)) = W' := ⟨_, rfl⟩
            have hny : Below W2.heap.size W2 W3 := by rw [← hW3]; exact hnx
            have FB3 := Lib.hid (show Tm.sliceIn W3 W3.heap.size [kX] (.slice (some ⟨bB, 0, none⟩) 1 1) by rw [← hW3, ← hbB]; exact hft)
            simp only [hW3, hbB] at hHeld ⊢
            have HB3 := Lib.hid (HB2.out.trans (hny.mono HB2.out.size))
            have FC3 := Lib.hid (lift_sl FC2.out hny)
            have FA3 := Lib.hid (lift_sl FA2.out hny)
            clear hny hnx hft
            refine wpAnyH_ready (rs := [3]) (by kernel_rfl) (by simp) ?_
            refine AllReadyH.cons (o := _) rfl (fun K hK => ?_) (AllReadyH.nil)
            go_simp
            refine (mfun0 ⟨#[102]⟩ _ _ _ _).mono ?_
            rintro e W4 ⟨rfl, hnd⟩
            have hny : Below W3.heap.size W3 W4 := hnd
            have hS4 := Lib.hid (S4.nx (show S4 w.heap.size (.int .i64 1) (.string ⟨#[]⟩) (.int .i64 0) (.slice none 0 0) W3 from hHeld) hny)
            clear hnd hHeld
            go_wp2_with fail
            refine hK.out _ _ (hS4.out) (fun hHeld => ?_)
            clear hK K
            try simp only [Act.put, List.setIfInBounds_toArray, List.set_cons_zero, List.set_cons_succ, List.getElem_toArray, List.getElem_cons_zero, List.getElem_cons_succ]
            clear hS4
            have HB4 := Lib.hid (HB3.out.trans (hny.mono HB3.out.size))
            have FC4 := Lib.hid (lift_sl FC3.out hny)
            have FA4 := Lib.hid (lift_sl FA3.out hny)
            have FB4 := Lib.hid (lift_sl FB3.out hny)
            clear hny
            refine wpAnyH_ready (rs := [6]) (by kernel_rfl) (by simp) ?_
            refine AllReadyH.cons (o := _) rfl (fun K hK => ?_) (AllReadyH.nil)
            go_simp
            refine (mfun0 ⟨#[103]⟩ _ _ _ _).mono ?_
            rintro e W5 ⟨rfl, hnd⟩
            have hny : Below W4.heap.size W4 W5 := hnd
            have hS4 := Lib.hid (S4.nx (show S4 w.heap.size (.int .i64 1) (.string ⟨#[]⟩) (.int .i64 0) (.slice none 0 0) W4 from hHeld) hny)
            clear hnd hHeld
            go_wp2_with fail
            refine hK.out _ _ (hS4.out) (fun hHeld => ?_)
            clear hK K
            try simp only [Act.put, List.setIfInBounds_toArray, List.set_cons_zero, List.set_cons_succ, List.getElem_toArray, List.getElem_cons_zero, List.getElem_cons_succ]
            clear hS4
            have HB5 := Lib.hid (HB4.out.trans (hny.mono HB4.out.size))
            have FC5 := Lib.hid (lift_sl FC4.out hny)
            have FA5 := Lib.hid (lift_sl FA4.out hny)
            have FB5 := Lib.hid (lift_sl FB4.out hny)
            clear hny
            exact H bA bB bC W5 ⟨hHeld, HB5.out, FA5.out, FB5.out, FC5.out⟩
        · skip
          go_simp
          refine hK.out _ _ (S4.alloc hHeld _) (fun hHeld => ?_)
          clear hK K
          try simp only [Act.put, List.setIfInBounds_toArray, List.set_cons_zero, List.set_cons_succ, List.getElem_toArray, List.getElem_cons_zero, List.getElem_cons_succ]
          have hft : Tm.sliceIn (W1.alloc (.cells #[.int .i64 1, .string ⟨#[]⟩, .int .i64 0, .slice none 0 0] 27)) (W1.alloc (.cells #[.int .i64 1, .string ⟨#[]⟩, .int .i64 0, .slice none 0 0] 27)).heap.size [kX] (.slice (some ⟨W1.heap.size, 0, none⟩) 1 1) := one_slice (t := kX) (newBlk _ _ _ rfl) (inn_leaf (by decide))
          have hnx : Below W1.heap.size W1 (W1.alloc (.cells #[.int .i64 1, .string ⟨#[]⟩, .int .i64 0, .slice none 0 0] 27)) := (Below.refl _ _).alloc (Nat.le_refl _) _
          obtain ⟨bB, hbB⟩ : ∃ b, W1.heap.size = b := ⟨_, rfl⟩
          obtain ⟨W2, hW2⟩ : ∃ W', (W1.alloc (.cells #[.int .i64 1, .string ⟨#[]⟩, .int .i64 0, .slice none 0 0] 27)) = W' := ⟨_, rfl⟩
          have hny : Below W1.heap.size W1 W2 := by rw [← hW2]; exact hnx
          have FB2 := Lib.hid (show Tm.sliceIn W2 W2.heap.size [kX] (.slice (some ⟨bB, 0, none⟩) 1 1) by rw [← hW2, ← hbB]; exact hft)
          simp only [hW2, hbB] at hHeld ⊢
          have HB2 := Lib.hid (HB1.out.trans (hny.mono HB1.out.size))
          have FC2 := Lib.hid (lift_sl FC1.out hny)
          clear hny hnx hft
          refine wpAnyH_ready (rs := [2]) (by kernel_rfl) (by simp) ?_
          refine AllReadyH.cons (o := _) rfl (fun K hK => ?_) (AllReadyH.nil)
          go_simp
          refine hK.out _ _ (S4.alloc hHeld _) (fun hHeld => ?_)
          clear hK K
          try simp only [Act.put, List.setIfInBounds_toArray, List.set_cons_zero, List.set_cons_succ, List.getElem_toArray, List.getElem_cons_zero, List.getElem_cons_succ]
          have hft : Tm.sliceIn (W2.alloc (.cells #[.int .i64 1, .string ⟨#[]⟩, .int .i64 0, .slice none 0 0, .int .i64 1, .string ⟨#[]⟩, .int .i64 0, .slice none 0 0] 27)) (W2.alloc (.cells #[.int .i64 1, .string ⟨#[]⟩, .int .i64 0, .slice none 0 0, .int .i64 1, .string ⟨#[]⟩, .int .i64 0, .slice none 0 0] 27)).heap.size [kX, kX] (.slice (some ⟨W2.heap.size, 0, none⟩) 2 2) := two_slice (a := kX) (b := kX) (newBlk _ _ _ rfl) (inn_leaf (by decide)) (inn_leaf (by decide))
          have hnx : Below W2.heap.size W2 (W2.alloc (.cells #[.int .i64 1, .string ⟨#[]⟩, .int .i64 0, .slice none 0 0, .int .i64 1, .string ⟨#[]⟩, .int .i64 0, .slice none 0 0] 27)) := (Below.refl _ _).alloc (Nat.le_refl _) _
          obtain ⟨bA, hbA⟩ : ∃ b, W2.heap.size = b := ⟨_, rfl⟩
          obtain ⟨W3, hW3⟩ : ∃ W', (W2.alloc (.cells #[.int .i64 1, .string ⟨#[]⟩, .int .i64 0, .slice none 0 0, .int .i64 1, .string ⟨#[]⟩, .int .i64 0, .slice none 0 0] 27)) = W' := ⟨_, rfl⟩
          have hny : Below W2.heap.size W2 W3 := by rw [← hW3]; exact hnx
          have FA3 := Lib.hid (show Tm.sliceIn W3 W3.heap.size [kX, kX] (.slice (some ⟨bA, 0, none⟩) 2 2) by rw [← hW3, ← hbA]; exact hft)
          simp only [hW3, hbA] at hHeld ⊢
          have HB3 := Lib.hid (HB2.out.trans (hny.mono HB2.out.size))
          have FC3 := Lib.hid (lift_sl FC2.out hny)
          have FB3 := Lib.hid (lift_sl FB2.out hny)
          clear hny hnx hft
          refine wpAnyH_ready (rs := [3]) (by kernel_rfl) (by simp) ?_
          refine AllReadyH.cons (o := _) rfl (fun K hK => ?_) (AllReadyH.nil)
          go_simp
          refine (mfun0 ⟨#[102]⟩ _ _ _ _).mono ?_
          rintro e W4 ⟨rfl, hnd⟩
          have hny : Below W3.heap.size W3 W4 := hnd
          have hS4 := Lib.hid (S4.nx (show S4 w.heap.size (.int .i64 1) (.string ⟨#[]⟩) (.int .i64 0) (.slice none 0 0) W3 from hHeld) hny)
          clear hnd hHeld
          go_wp2_with fail
          refine hK.out _ _ (hS4.out) (fun hHeld => ?_)
          clear hK K
          try simp only [Act.put, List.setIfInBounds_toArray, List.set_cons_zero, List.set_cons_succ, List.getElem_toArray, List.getElem_cons_zero, List.getElem_cons_succ]
          clear hS4
          have HB4 := Lib.hid (HB3.out.trans (hny.mono HB3.out.size))
          have FC4 := Lib.hid (lift_sl FC3.out hny)
          have FB4 := Lib.hid (lift_sl FB3.out hny)
          have FA4 := Lib.hid (lift_sl FA3.out hny)
          clear hny
          refine wpAnyH_ready (rs := [6]) (by kernel_rfl) (by simp) ?_
          refine AllReadyH.cons (o := _) rfl (fun K hK => ?_) (AllReadyH.nil)
          go_simp
          refine (mfun0 ⟨#[103]⟩ _ _ _ _).mono ?_
          rintro e W5 ⟨rfl, hnd⟩
          have hny : Below W4.heap.size W4 W5 := hnd
          have hS4 := Lib.hid (S4.nx (show S4 w.heap.size (.int .i64 1) (.string ⟨#[]⟩) (.int .i64 0) (.slice none 0 0) W4 from hHeld) hny)
          clear hnd hHeld
          go_wp2_with fail
          refine hK.out _ _ (hS4.out) (fun hHeld => ?_)
          clear hK K
          try simp only [Act.put, List.setIfInBounds_toArray, List.set_cons_zero, List.set_cons_succ, List.getElem_toArray, List.getElem_cons_zero, List.getElem_cons_succ]
          clear hS4
          have HB5 := Lib.hid (HB4.out.trans (hny.mono HB4.out.size))
          have FC5 := Lib.hid (lift_sl FC4.out hny)
          have FB5 := Lib.hid (lift_sl FB4.out hny)
          have FA5 := Lib.hid (lift_sl FA4.out hny)
          clear hny
          exact H bA bB bC W5 ⟨hHeld, HB5.out, FA5.out, FB5.out, FC5.out⟩
    case tail =>
      intro bA bB bC W5 hmk
      obtain ⟨hHeld, hb5, hA, hB, hC⟩ := hmk
      have HB5 := Lib.hid hb5
      have FA := Lib.hid hA
      have FB := Lib.hid hB
      have FC := Lib.hid hC
      clear hb5 hA hB hC
      refine wpAnyH_ready (rs := [9]) (by kernel_rfl) (by simp) ?_
      refine AllReadyH.cons (o := _) rfl (fun K hK => ?_) (AllReadyH.nil)
      go_simp
      refine (mfun0 ⟨#[103]⟩ _ _ _ _).mono ?_
      rintro e W6 ⟨rfl, hny⟩
      have HS6 := Lib.hid (S4.nx (show S4 w.heap.size (.int .i64 1) (.string ⟨#[]⟩) (.int .i64 0) (.slice none 0 0) W5 from hHeld) hny)
      have HB6 := Lib.hid (HB5.out.trans (hny.mono HB5.out.size))
      have FA6 := Lib.hid (lift_sl FA.out hny)
      have FB6 := Lib.hid (lift_sl FB.out hny)
      have FC6 := Lib.hid (lift_sl FC.out hny)
      clear hHeld hny FA FB FC HB5
      go_wp2_with fail
      refine hK.out _ _ (HS6.out) (fun hHeld => ?_)
      clear hK K
      try simp only [Act.put, List.setIfInBounds_toArray, List.set_cons_zero, List.set_cons_succ, List.getElem_toArray, List.getElem_cons_zero, List.getElem_cons_succ]
      clear HS6
      refine wpAnyH_ready (rs := [10]) (by kernel_rfl) (by simp) ?_
      refine AllReadyH.cons (o := _) rfl (fun K hK => ?_) (AllReadyH.nil)
      go_simp
      refine hK.out _ _ (S4.alloc hHeld _) (fun hHeld => ?_)
      clear hK K
      try simp only [Act.put, List.setIfInBounds_toArray, List.set_cons_zero, List.set_cons_succ, List.getElem_toArray, List.getElem_cons_zero, List.getElem_cons_succ]
      have hnx : Below W6.heap.size W6 (W6.alloc (.cells #[.int .i64 3, .string ⟨#[103]⟩, .int .i64 0, .slice (some ⟨bB, 0, none⟩) 1 1, .int .i64 3, .string ⟨#[103]⟩, .int .i64 0, .slice (some ⟨bC, 0, none⟩) 1 1] 27)) := (Below.refl _ _).alloc (Nat.le_refl _) _
      have hft := two_slice (a := kGx) (b := kGx) (newBlk W6 (.cells #[.int .i64 3, .string ⟨#[103]⟩, .int .i64 0, .slice (some ⟨bB, 0, none⟩) 1 1, .int .i64 3, .string ⟨#[103]⟩, .int .i64 0, .slice (some ⟨bC, 0, none⟩) 1 1] 27) _ rfl) (lift_inn (fun_inn (by decide) FB6.out) hnx) (lift_inn (fun_inn (by decide) FC6.out) hnx)
      obtain ⟨bD, hbD⟩ : ∃ b, W6.heap.size = b := ⟨_, rfl⟩
      obtain ⟨W7, hW7⟩ : ∃ W', (W6.alloc (.cells #[.int .i64 3, .string ⟨#[103]⟩, .int .i64 0, .slice (some ⟨bB, 0, none⟩) 1 1, .int .i64 3, .string ⟨#[103]⟩, .int .i64 0, .slice (some ⟨bC, 0, none⟩) 1 1] 27)) = W' := ⟨_, rfl⟩
      rw [hW7] at hft hnx
      rw [hbD] at hft
      have HB7 := Lib.hid (HB6.out.trans (hnx.mono HB6.out.size))
      have FA7 := Lib.hid (lift_sl FA6.out hnx)
      have FD7 := Lib.hid hft
      simp only [hW7, hbD] at hHeld ⊢
      clear hnx hft hW7 hbD FA6 FB6 FC6 HB6
      refine wpAnyH_ready (rs := [11]) (by kernel_rfl) (by simp) ?_
      refine AllReadyH.cons (o := _) rfl (fun K hK => ?_) (AllReadyH.nil)
      go_simp
      refine (mfun0 ⟨#[102]⟩ _ _ _ _).mono ?_
      rintro e W8 ⟨rfl, hny⟩
      have HS8 := Lib.hid (S4.nx (show S4 w.heap.size (.int .i64 1) (.string ⟨#[]⟩) (.int .i64 0) (.slice none 0 0) W7 from hHeld) hny)
      have HB8 := Lib.hid (HB7.out.trans (hny.mono HB7.out.size))
      have hm := match_any kFxx kFgg W8 _ _ (fun_inn (by decide) (lift_sl FA7.out hny)) (fun_inn (by decide) (lift_sl FD7.out hny)) (by decide) (by decide)
      have HMC := Lib.hid hm
      clear hHeld hny hm FA7 FD7 HB7
      go_wp2_with fail
      refine hK.out _ _ (HS8.out) (fun hHeld => ?_)
      clear hK K
      try simp only [Act.put, List.setIfInBounds_toArray, List.set_cons_zero, List.set_cons_succ, List.getElem_toArray, List.getElem_cons_zero, List.getElem_cons_succ]
      clear HS8
      refine wpAnyH_ready (rs := [12]) (by kernel_rfl) (by simp) ?_
      refine AllReadyH.cons (o := _) rfl (fun K hK => ?_) (AllReadyH.nil)
      go_simp
      refine HMC.out.mono ?_
      rintro e W9 ⟨hny, hcase⟩
      have HS9 := Lib.hid (S4.nx (show S4 w.heap.size (.int .i64 1) (.string ⟨#[]⟩) (.int .i64 0) (.slice none 0 0) W8 from hHeld) hny)
      have HB9 := Lib.hid (HB8.out.trans (hny.mono HB8.out.size))
      obtain ⟨sv, rfl, hbd⟩ : ∃ sv, e = .returned (.tuple #[sv, .bool true, .int .i64 0]) ∧ bdsIn W9 W9.heap.size [⟨0, kGx⟩] sv := by
        rcases hcase with ⟨h, _⟩ | ⟨_, ⟨l, sv, h1, h2, h3⟩ | ⟨h, _⟩⟩
        · exact absurd ⟨km_right.2.2.1, km_right.2.2.2.1⟩ h
        · rw [km_yes] at h1
          cases h1
          exact ⟨sv, h2, h3⟩
        · rw [km_yes] at h; cases h
      have HBD := Lib.hid hbd
      clear hHeld hny hcase hbd HB8 HMC
      go_wp2_with fail
      refine hK.out _ _ (HS9.out) (fun hHeld => ?_)
      clear hK K
      try simp only [Act.put, List.setIfInBounds_toArray, List.set_cons_zero, List.set_cons_succ, List.getElem_toArray, List.getElem_cons_zero, List.getElem_cons_succ]
      refine wpAnyH_take (i := 13) (oi := _) (v := ?_) rfl (by kernel_rfl) (by kernel_rfl) (by kernel_rfl) (fun _ _ _ h => h) (Or.inl ⟨by rfl, ?_⟩) hHeld ?_
      rotate_left
      · (intro w hSw; obtain ⟨c0, c1, c2, c3⟩ := hSw; go_simp; try with_reducible rfl)
      try simp only [Act.put, List.setIfInBounds_toArray, List.set_cons_zero, List.set_cons_succ, List.getElem_toArray, List.getElem_cons_zero, List.getElem_cons_succ]
      refine wpAnyH_take (i := 14) (oi := _) (v := ?_) rfl (by kernel_rfl) (by kernel_rfl) (by kernel_rfl) (fun _ _ _ h => h) (Or.inl ⟨by rfl, ?_⟩) hHeld ?_
      rotate_left
      · (intro w hSw; obtain ⟨c0, c1, c2, c3⟩ := hSw; go_simp; try with_reducible rfl)
      try simp only [Act.put, List.setIfInBounds_toArray, List.set_cons_zero, List.set_cons_succ, List.getElem_toArray, List.getElem_cons_zero, List.getElem_cons_succ]
      refine wpAnyH_take (i := 15) (oi := _) (v := ?_) rfl (by kernel_rfl) (by kernel_rfl) (by kernel_rfl) (fun _ _ _ h => h) (Or.inl ⟨by rfl, ?_⟩) hHeld ?_
      rotate_left
      · (intro w hSw; obtain ⟨c0, c1, c2, c3⟩ := hSw; go_simp; try with_reducible rfl)
      try simp only [Act.put, List.setIfInBounds_toArray, List.set_cons_zero, List.set_cons_succ, List.getElem_toArray, List.getElem_cons_zero, List.getElem_cons_succ]
      refine wpAnyH_take (i := 16) (oi := _) (v := ?_) rfl (by kernel_rfl) (by kernel_rfl) (by kernel_rfl) (fun _ _ _ h => h) (Or.inl ⟨by rfl, ?_⟩) hHeld ?_
      rotate_left
      · (intro w hSw; obtain ⟨c0, c1, c2, c3⟩ := hSw; go_simp; try with_reducible rfl)
      try simp only [Act.put, List.setIfInBounds_toArray, List.set_cons_zero, List.set_cons_succ, List.getElem_toArray, List.getElem_cons_zero, List.getElem_cons_succ]
      refine wpAnyH_ready (rs := [17]) (by kernel_rfl) (by simp) ?_
      refine AllReadyH.cons (o := _) rfl (fun K hK => ?_) (AllReadyH.nil)
      go_simp
      refine hK.out _ _ (hHeld) (fun hHeld => ?_)
      clear hK K
      try simp only [Act.put, List.setIfInBounds_toArray, List.set_cons_zero, List.set_cons_succ, List.getElem_toArray, List.getElem_cons_zero, List.getElem_cons_succ]
      refine wpAnyH_ready (rs := [18]) (by kernel_rfl) (by simp) ?_
      refine AllReadyH.cons (o := _) rfl (fun K hK => ?_) (AllReadyH.nil)
      go_simp
      refine hK.out _ _ (hHeld) (fun hHeld => ?_)
      clear hK K
      try simp only [Act.put, List.setIfInBounds_toArray, List.set_cons_zero, List.set_cons_succ, List.getElem_toArray, List.getElem_cons_zero, List.getElem_cons_succ]
      refine wpAnyH_ready (rs := [19]) (by kernel_rfl) (by simp) ?_
      refine AllReadyH.cons (o := _) rfl (fun K hK => ?_) (AllReadyH.nil)
      go_simp
      refine hK.out _ _ (hHeld) (fun hHeld => ?_)
      clear hK K
      try simp only [Act.put, List.setIfInBounds_toArray, List.set_cons_zero, List.set_cons_succ, List.getElem_toArray, List.getElem_cons_zero, List.getElem_cons_succ]
      refine wpAnyH_done (by kernel_rfl) ?_ _
      go_wp2_with fail
      go_meet
      exact ⟨HB9.out, HS9.out, rfl, rfl, HBD.out⟩
  case rest =>
    obtain ⟨hb1, hs1, rfl, rfl, hbd⟩ := hcut.out
    obtain ⟨gl, cl, rfl, _, _, _, _⟩ := id hbd
    obtain ⟨x0, x1, x2, x3⟩ := id hs1
    have HB1 := Lib.hid hb1
    have HS1 := Lib.hid hs1
    have HBD := Lib.hid hbd
    have hfl := fill_any kX [⟨0, kGx⟩] wc _ _ (inn_leaf (by decide)) hbd (by decide) (by simp [kGx, kX, Tm.size, Tm.sizes]) (by decide) (by rw [km_fill]; intro _ _; decide)
    have HFL := Lib.hid hfl
    clear hb1 hs1 hbd hfl hcut
    go_wp2_with fail
    refine HFL.out.mono ?_
    rintro e w1 ⟨X, E, gx, cx, rfl, hinx, hb2, hspec⟩
    have hXE : X = kGx ∧ E = 0 := by
      have hok : okL [⟨0, kGx⟩] := fun i hi => by
        have : i = 0 := by simp at hi; exact hi
        subst this
        exact ⟨show (0 : Int) ≤ 0 by decide, show (0 : Int) < 1000000 by decide, by kernel_rfl, km_right.2.1⟩
      rcases hspec with ⟨h, _⟩ | ⟨_, ⟨h, _⟩ | ⟨_, h1, h2⟩⟩
      · exact absurd ⟨hok, km_right.1⟩ h
      · rw [km_fill, km_right.2.1] at h; cases h
      · rw [km_fill] at h1; exact ⟨h1, h2⟩
    obtain ⟨rfl, rfl⟩ := hXE
    simp only [show kGx.kind = 3 from rfl, show kGx.name = ⟨#[103]⟩ from rfl, show kGx.n = 0 from rfl, show kGx.args.length = 1 from rfl]
    have HB2 := Lib.hid (HB1.out.trans (hb2.mono HB1.out.size))
    have HS2 := Lib.hid (HS1.out.nx hb2)
    have HBD2 := Lib.hid (bdsIn_held HBD.out hb2)
    obtain ⟨y0, y1, y2, y3⟩ := id HS2.out
    have hlx := World.block_lt_of_cell? _ _ y0
    have HX2 := Lib.hid hlx
    clear hinx hb2 hspec x0 x1 x2 x3 HB1 HS1 HBD HFL
    go_wp2_with fail
    obtain ⟨W2, hW2⟩ : ∃ W2, (w1.alloc (.cells #[.int .i64 3, .string ⟨#[103]⟩, .int .i64 0, .slice gx 1 cx] 27)).alloc (.cells #[.int .i64 1, .string ⟨#[]⟩, .int .i64 0, .slice none 0 0, .int .i64 1, .string ⟨#[]⟩, .int .i64 0, .slice none 0 0] 27) = W2 := ⟨_, rfl⟩
    have hal : Below w1.heap.size w1 W2 := by rw [← hW2]; exact al2 _ _ _
    have hbox : W2.heap[w1.heap.size]? = some (.cells #[.int .i64 3, .string ⟨#[103]⟩, .int .i64 0, .slice gx 1 cx] 27 (0, 0)) := by rw [← hW2, Below.heap_alloc _ _ _ (by simp)]; exact newBlk _ _ _ rfl
    have hxx : Tm.sliceIn W2 W2.heap.size [kX, kX] (.slice (some ⟨w1.heap.size + 1, 0, none⟩) 2 2) := by rw [← hW2]; exact two_slice (a := kX) (b := kX) (newBlk _ _ _ (by simp)) (inn_leaf (by decide)) (inn_leaf (by decide))
    have HXX := Lib.hid hxx
    have HBOX := Lib.hid hbox
    have HB3 := Lib.hid (HB2.out.trans (hal.mono HB2.out.size))
    have HS3 := Lib.hid (HS2.out.nx hal)
    have HBD3 := Lib.hid (bdsIn_held HBD2.out hal)
    have HW2 := Lib.hid hW2
    clear hal hbox hxx hW2 y0 y1 y2 y3 HB2 HS2 HBD2
    rw [HW2.out]
    refine (mfun0 ⟨#[102]⟩ _ _ _ _).mono ?_
    rintro e W3 ⟨rfl, h3⟩
    have H3 := Lib.hid h3
    clear h3
    go_wp2_with fail
    refine (mfun0 ⟨#[97]⟩ _ _ _ _).mono ?_
    rintro e W4 ⟨rfl, h4⟩
    have H4 := Lib.hid (H3.out.trans (h4.mono H3.out.size))
    clear h4 H3
    go_wp2_with fail
    refine (mfun0 ⟨#[98]⟩ _ _ _ _).mono ?_
    rintro e W5 ⟨rfl, h5⟩
    have H5 := Lib.hid (H4.out.trans (h5.mono H4.out.size))
    clear h5 H4
    go_wp2_with fail
    have hab := two_slice (a := kA) (b := kB) (newBlk W5 (.cells #[.int .i64 3, .string ⟨#[97]⟩, .int .i64 0, .slice none 0 0, .int .i64 3, .string ⟨#[98]⟩, .int .i64 0, .slice none 0 0] 27) _ rfl) (fun_inn (by decide) nil_in) (fun_inn (by decide) nil_in)
    have hal5 : Below W5.heap.size W5 (W5.alloc (.cells #[.int .i64 3, .string ⟨#[97]⟩, .int .i64 0, .slice none 0 0, .int .i64 3, .string ⟨#[98]⟩, .int .i64 0, .slice none 0 0] 27)) := (Below.refl _ _).alloc (Nat.le_refl _) _
    have HAB := Lib.hid hab
    have H5A := Lib.hid (H5.out.trans (hal5.mono H5.out.size))
    clear hab hal5 H5
    refine (mfun0 ⟨#[102]⟩ _ _ _ _).mono ?_
    rintro e W6 ⟨rfl, h6⟩
    have H6 := Lib.hid (H5A.out.trans (h6.mono H5A.out.size))
    have hm := match_any kFxx kFab W6 _ _ (fun_inn (by decide) (lift_sl HXX.out H6.out)) (fun_inn (by decide) (lift_sl HAB.out h6)) (by decide) (by decide)
    have HMC := Lib.hid hm
    clear h6 hm HAB HXX H5A
    go_wp2_with fail
    refine HMC.out.mono ?_
    rintro e W7 ⟨h7, hcase⟩
    obtain rfl : e = .returned (.tuple #[.slice none 0 0, .bool false, .int .i64 0]) := by
      rcases hcase with ⟨h, _⟩ | ⟨_, ⟨l, sv, h1, h2, h3⟩ | ⟨_, h⟩⟩
      · exact absurd ⟨km_right.2.2.1, km_right.2.2.2.2.2⟩ h
      · rw [km_no] at h1; cases h1
      · exact h
    have h27 : Below W2.heap.size W2 W7 := H6.out.trans (h7.mono H6.out.size)
    obtain ⟨bb, ob, svb, hg, hbl, q0, _, _, _, _, _⟩ := bdsIn_get (bdsIn_held HBD3.out h27) 0 (by decide)
    subst hg
    simp only [Nat.zero_mul, Nat.add_zero] at q0
    obtain ⟨x0, x1, x2, x3⟩ := HS3.out.nx h27
    have hsz2 : w1.heap.size < W2.heap.size := (Array.getElem?_eq_some_iff.1 HBOX.out).1
    obtain ⟨⟨_, z1, _, _⟩, _⟩ := row4 ((h27.block _ hsz2).trans HBOX.out)
    have HB7 := Lib.hid (HB3.out.trans (h27.mono HB3.out.size))
    have hs6 : MK6 w.heap.size w1.heap.size bb ob W7 W7.drew := ⟨x0, x1, x2, x3, z1, q0, (Below.refl _ _).drew⟩
    have hin : (kX.right && kA.right && inst kA kX) = true := by rw [km_right.1, km_right.2.2.2.2.1, km_inst]; rfl
    have hinst := fun (W : World) => instance_any kA kX W (.slice none 0 0) (.slice none 0 0) (fun_inn (by decide) nil_in) (inn_leaf (by decide)) (by decide) (by decide)
    rw [hin] at hinst
    have HIN := Lib.hid hinst
    clear h7 hcase h27 x0 x1 x2 x3 z1 q0 hsz2 hin hinst HMC H6 HS3 HBD3 HBOX HW2 HB3 HX2 hlx hbl
    go_wp2_with fail
    go_region_held3 (fun W' => W'.cell? ⟨w.heap.size, 0, none⟩ = some (.int .i64 1) ∧ W'.cell? ⟨w.heap.size, 1, none⟩ = some (.string ⟨#[]⟩) ∧ W'.cell? ⟨w.heap.size, 2, none⟩ = some (.int .i64 0) ∧ W'.cell? ⟨w.heap.size, 3, none⟩ = some (.slice none 0 0) ∧ W'.cell? ⟨w1.heap.size, 1, none⟩ = some (.string ⟨#[103]⟩) ∧ W'.cell? ⟨bb, ob, none⟩ = some (.int .i64 0) ∧ Below W7.heap.size W7 W')
      (first | exact hs6 | exact MK6.next (b0 := w.heap.size) (b1 := w1.heap.size) (b2 := bb) (o2 := ob) (V := W7) (by assumption) (by assumption))
      (first
        | (go_at_call 69; refine (mfun0 ⟨#[97]⟩ _ _ _ _).mono ?_; rintro e w' ⟨rfl, hb⟩)
        | (go_at_call 45; refine (HIN.out _).mono ?_; rintro e w' ⟨rfl, hb⟩))
    rename_i hheld
    have HBF := Lib.hid (HB7.out.trans (hheld.2.2.2.2.2.2.mono HB7.out.size))
    clear hheld
    go_wp2_with fail
    go_ret
    exact ⟨rfl, HBF.out⟩
end Go.Proofs.Ytgnbjhiafjpokaa
