/-
  What the laws of unify use besides: the document's Small, the law's own 'fun'.
  The walk of the law's 'knows'.
-/
import Derived.Test.YtgnbjhiafjpokaaMgu
import Derived.Test.YtgnbjhiafjpokaaRef
import Derived.Test.YtgnbjhiafjpokaaKnows3
import Derived.Test.YtgnbjhiafjpokaaJJoin
namespace Go.Proofs.Ytgnbjhiafjpokaa
open Go.RowKit

/-- What 'Small' tells. -/
def Tm.smallB (l : List Tm) : Bool := decide (0 ≤ Tm.fews l 60 200)
theorem Tm.smallB_says {l : List Tm} (h : Tm.smallB l = true) : Tm.sizes l ≤ 60 := by
  have hq : 0 ≤ Tm.fews l 60 200 := by simpa [Tm.smallB] using h
  have := (Tm.fews_says l (fun t _ m d => Tm.few_says t m d) _ _ hq).1
  omega

set_option maxHeartbeats 400000 in
theorem usmall_any (l : List Tm) (w : World) (B : Nat) (sv : Value) (hB : B ≤ w.heap.size) (hsl : Tm.sliceIn w B l sv) :
    Calls Try.prog 30 #[sv] w fun e w' => e = .returned (.bool (Tm.smallB l)) ∧ Below w.heap.size w w' := by
  have hsl0 := hsl
  obtain ⟨g, cap, rfl, hcap, hlen, _⟩ := hsl0
  have hr : ∀ k, k ≤ l.length → -1 ≤ Tm.fews (l.take k) 60 200 ∧ Tm.fews (l.take k) 60 200 ≤ 60 := fun k _ =>
    Tm.fews_rng _ (fun t _ m d h => Tm.few_rng t m d h) _ _ (by omega)
  have HR := Lib.hid hr
  clear hr
  go_enter Try.func30, Try.ntmps30
  go_wp2_with fail
  go_loopw [3, 4] (fun q i wr => ∃ k : Nat, k ≤ l.length ∧ i = .int .i64 k ∧ q = .int .i64 (Tm.fews (l.take k) 60 200) ∧ Below w.heap.size w wr) (fun _ i _ => l.length - (intOf i).toNat)
  case atStart => exact ⟨0, Nat.zero_le _, rfl, by simp [Tm.fews], Below.refl _ _⟩
  case round =>
    obtain ⟨k, hk, rfl, rfl, hb⟩ := hrel
    have hrk := HR.out k hk
    by_cases hlt : k < l.length
    · by_cases hq : 0 ≤ Tm.fews (l.take k) 60 200
      · obtain ⟨b, off, sv, rfl, hbB, g0, g1, g2, g3, hin'⟩ := Tm.sliceIn_get (Tm.sliceIn_below hsl hb hB) k hlt
        have hm := Tm.fews_take_succ l k hlt 60 200 hq
        have hih := few_any l[k] wr B sv (Tm.fews (l.take k) 60 200) 200 (by have := hb.size; omega) hin' hq (by omega) (by omega) (by omega)
        have HM := Lib.hid hm
        clear hm hsl hin'
        go_wp2_with fail
        refine hih.mono ?_
        rintro e w1 ⟨rfl, hb1⟩
        go_wp2_with fail
        go_roundw
        case rel =>
          refine ⟨k + 1, by omega, by go_num, ?_, hb.trans (hb1.mono hb.size)⟩
          rw [HM.out]
        case measure => simp [intOf]; omega
      · have hst := Tm.fews_stop l k 60 200 (by omega)
        have hf : Tm.smallB l = false := by simp [Tm.smallB, hst] <;> omega
        have HS := Lib.hid hf
        clear hst hsl hf
        go_wp2_with fail
        go_ret
        exact ⟨by rw [HS.out]; simp; try omega, hb⟩
    · have : k = l.length := by omega
      subst this
      rw [List.take_length] at hrk ⊢
      clear hsl
      go_wp2_with fail
      go_ret
      exact ⟨rfl, hb⟩

/-- The law's 'fun': a term built from a name and its arguments. -/
theorem ufun_any (s : ByteArray) (l : List Tm) (w : World) (sv : Value) (hs : s.size ≤ maxLen) (hsl : Tm.sliceIn w w.heap.size l sv) :
    Calls Try.prog 62 #[.string s, sv] w fun e w' => (e = .returned (.agg #[.int .i64 3, .string s, .int .i64 0, sv]) ∧ Tm.inn w' w'.heap.size (.mk 3 s 0 l) sv) ∧ Below w.heap.size w w' := by
  have hsl0 := hsl
  obtain ⟨g, cap, rfl, hcap, hlen, _⟩ := hsl0
  have HSL := Lib.hid hsl
  clear hsl
  go_enter Try.func62, Try.ntmps62
  go_wp2_with fail
  refine bodyPost_ret (v := .agg #[.int .i64 3, .string s, .int .i64 0, .slice g l.length cap]) (by simp [results, Try.results62, go_sem]) rfl ?_
  have hB := (Below.refl w.heap.size w).alloc (Nat.le_refl _) (.cells #[.int .i64 3, .string s, .int .i64 0, .slice g l.length cap] 27)
  exact ⟨⟨rfl, Tm.inn_mk.2 ⟨⟨by decide, hs, by decide⟩, Tm.sliceIn_mono (Tm.sliceIn_below HSL.out hB (Nat.le_refl _)) (by simp)⟩⟩, hB⟩

/-! The examples. -/
def kX : Tm := .mk 1 ⟨#[]⟩ 0 []
def kY : Tm := .mk 1 ⟨#[]⟩ 1 []
def kGx : Tm := .mk 3 ⟨#[103]⟩ 0 [kX]
def kGy : Tm := .mk 3 ⟨#[103]⟩ 0 [kY]
def kL : Tm := .mk 3 ⟨#[102]⟩ 0 [kX, kGy]
def kR : Tm := .mk 3 ⟨#[102]⟩ 0 [exA, kGx]
def kFx : Tm := .mk 3 ⟨#[102]⟩ 0 [kX]
theorem k_right : kL.right = true ∧ kR.right = true ∧ kX.right = true ∧ kFx.right = true ∧ kY.right = true :=
  ⟨by kernel_rfl, by kernel_rfl, by kernel_rfl, by kernel_rfl, by kernel_rfl⟩
theorem k_y {l : List Bd} {σ : Int → Tm} (h : MguOf [] kL kR l) (hs : Sol l σ) : kY.bnd σ = exA := by
  have h1 := ((h.iff σ).1 (hs.solves h.right.1)).2
  simp [kL, kR, kX, kY, kGx, kGy, exA, Tm.bnd, Tm.bnds] at h1 ⊢
  rw [h1.2, h1.1]
theorem k_no {l : List Bd} (h : MguOf [] kX kFx l) : False := by
  obtain ⟨σ, hσ⟩ := sol_of h.right
  have h1 := ((h.iff σ).1 (hσ.solves h.right.1)).2
  simp [kX, kFx, Tm.bnd, Tm.bnds] at h1
  have := congrArg Tm.size h1
  simp [Tm.size, Tm.sizes] at this
theorem k_yes (h : NoMgu [] kL kR) : False := by
  refine h (fun _ => exA) (fun x hx => absurd hx (by simp)) ?_
  simp [kL, kR, kX, kY, kGx, kGy, exA, Tm.bnd, Tm.bnds]
end Go.Proofs.Ytgnbjhiafjpokaa

namespace Go.Proofs.Ytgnbjhiafjpokaa
open Go.RowKit
theorem lift_inn {W W' : World} {t : Tm} {sv : Value} (h : Tm.inn W W.heap.size t sv) (hb : Below W.heap.size W W') : Tm.inn W' W'.heap.size t sv := Tm.inn_mono (Tm.inn_below h hb (Nat.le_refl _)) hb.size
theorem lift_sl {W W' : World} {l : List Tm} {sv : Value} (h : Tm.sliceIn W W.heap.size l sv) (hb : Below W.heap.size W W') : Tm.sliceIn W' W'.heap.size l sv := Tm.sliceIn_mono (Tm.sliceIn_below h hb (Nat.le_refl _)) hb.size
theorem exA_in {W : World} {B : Nat} : Tm.inn W B exA (.slice none 0 0) := Tm.inn_mk.2 ⟨⟨by decide, by decide, by decide⟩, none, 0, rfl, Nat.le_refl _, Nat.zero_le _, .inl rfl⟩
theorem nil_in {W : World} {B : Nat} : Tm.sliceIn W B [] (.slice none 0 0) := ⟨none, 0, rfl, Nat.le_refl _, Nat.zero_le _, .inl rfl⟩
theorem S8.nx {b : Nat} {a0 a1 a2 a3 b0 b1 b2 b3 : Value} {W W' : World} (h : S8 b a0 a1 a2 a3 b0 b1 b2 b3 W) (hb : Below W.heap.size W W') : S8 b a0 a1 a2 a3 b0 b1 b2 b3 W' := h.block (hb.block _ h.lt.1) (hb.block _ h.lt.2)
def UK1 (w : World) (s3 s4 s5 : Value) (wx : World) : Prop := Below w.heap.size w wx ∧ S8 w.heap.size (.int .i64 1) (.string ⟨#[]⟩) (.int .i64 0) (.slice none 0 0) (.int .i64 1) (.string ⟨#[]⟩) (.int .i64 1) (.slice none 0 0) wx ∧ s4 = .bool true ∧ s5 = .int .i64 0 ∧ ∃ l, bdsIn wx wx.heap.size l s3 ∧ MguOf [] kL kR l ∧ inV [0, 1] l
set_option maxRecDepth 100000 in
set_option maxHeartbeats 4000000 in
theorem uknows_any (w : World) : Calls Try.prog 31 #[] w fun e w' => KnowsPost w e w' := by
  go_enter Try.func31, Try.ntmps31
  go_upto_region 2 with fail
  obtain ⟨W0, hW0⟩ : ∃ W0, (w.alloc (.cells #[.int .i64 1, .string ⟨#[]⟩, .int .i64 0, .slice none 0 0] 27)).alloc (.cells #[.int .i64 1, .string ⟨#[]⟩, .int .i64 1, .slice none 0 0] 27) = W0 := ⟨_, rfl⟩
  have hb0 : Below w.heap.size w W0 := by rw [← hW0]; exact al2 _ _ _
  have hs0 : W0.heap.size = w.heap.size + 2 := by rw [← hW0]; simp
  have k0 : W0.heap[w.heap.size]? = some (.cells #[.int .i64 1, .string ⟨#[]⟩, .int .i64 0, .slice none 0 0] 27 (0, 0)) := by rw [← hW0, Below.heap_alloc _ _ _ (by simp)]; exact newBlk _ _ _ rfl
  have k1 : W0.heap[w.heap.size + 1]? = some (.cells #[.int .i64 1, .string ⟨#[]⟩, .int .i64 1, .slice none 0 0] 27 (0, 0)) := by rw [← hW0]; exact newBlk _ _ _ (by simp)
  have hs8 : S8 w.heap.size (.int .i64 1) (.string ⟨#[]⟩) (.int .i64 0) (.slice none 0 0) (.int .i64 1) (.string ⟨#[]⟩) (.int .i64 1) (.slice none 0 0) W0 := by
    exact ⟨by simp [World.cell?, k0], by simp [World.cell?, k0], by simp [World.cell?, k0], by simp [World.cell?, k0], by simp [World.cell?, k1], by simp [World.cell?, k1], by simp [World.cell?, k1], by simp [World.cell?, k1]⟩
  clear k0 k1
  have hs8d : S8 w.heap.size (.int .i64 1) (.string ⟨#[]⟩) (.int .i64 0) (.slice none 0 0) (.int .i64 1) (.string ⟨#[]⟩) (.int .i64 1) (.slice none 0 0) W0.drew := hs8
  try simp only [hW0]
  go_cut [3, 4, 5] from 13 to 29 (fun s3 s4 s5 wx => Hid (UK1 w s3 s4 s5 wx))
  case first =>
    refine wp_region_held_drew (S := fun W' => W'.cell? ⟨w.heap.size, 0, none⟩ = some (.int .i64 1) ∧ W'.cell? ⟨w.heap.size, 1, none⟩ = some (.string ⟨#[]⟩) ∧ W'.cell? ⟨w.heap.size, 2, none⟩ = some (.int .i64 0) ∧ W'.cell? ⟨w.heap.size, 3, none⟩ = some (.slice none 0 0) ∧ W'.cell? ⟨w.heap.size + 1, 0, none⟩ = some (.int .i64 1) ∧ W'.cell? ⟨w.heap.size + 1, 1, none⟩ = some (.string ⟨#[]⟩) ∧ W'.cell? ⟨w.heap.size + 1, 2, none⟩ = some (.int .i64 1) ∧ W'.cell? ⟨w.heap.size + 1, 3, none⟩ = some (.slice none 0 0)) (by kernel_rfl) hs8d (fun hHeld => ?_)
    clear hs8d hs8 hs0
    have HB0 := Lib.hid hb0
    clear hb0 hW0
    refine wpAnyH_take (i := 0) (oi := _) (v := ?_) rfl (by kernel_rfl) (by kernel_rfl) (by kernel_rfl) (fun _ _ _ h => h) (Or.inl ⟨by rfl, ?_⟩) hHeld ?_
    rotate_left
    · (intro w hSw; obtain ⟨c0, c1, c2, c3, d0, d1, d2, d3⟩ := hSw; go_simp; try with_reducible rfl)
    try simp only [Act.put, List.setIfInBounds_toArray, List.set_cons_zero, List.set_cons_succ, List.getElem_toArray, List.getElem_cons_zero]
    refine wpAnyH_take (i := 1) (oi := _) (v := ?_) rfl (by kernel_rfl) (by kernel_rfl) (by kernel_rfl) (fun _ _ _ h => h) (Or.inl ⟨by rfl, ?_⟩) hHeld ?_
    rotate_left
    · (intro w hSw; obtain ⟨c0, c1, c2, c3, d0, d1, d2, d3⟩ := hSw; go_simp; try with_reducible rfl)
    try simp only [Act.put, List.setIfInBounds_toArray, List.set_cons_zero, List.set_cons_succ, List.getElem_toArray, List.getElem_cons_zero, List.getElem_cons_succ]
    refine wpAnyH_take (i := 7) (oi := _) (v := ?_) rfl (by kernel_rfl) (by kernel_rfl) (by kernel_rfl) (fun _ _ _ h => h) (Or.inl ⟨by rfl, ?_⟩) hHeld ?_
    rotate_left
    · (intro w hSw; obtain ⟨c0, c1, c2, c3, d0, d1, d2, d3⟩ := hSw; go_simp; try with_reducible rfl)
    try simp only [Act.put, List.setIfInBounds_toArray, List.set_cons_zero, List.set_cons_succ, List.getElem_toArray, List.getElem_cons_zero, List.getElem_cons_succ]
    refine wpAnyH_ready (rs := [2, 8]) (by kernel_rfl) (by simp) ?_
    refine AllReadyH.cons (o := _) rfl (fun K hK => ?_) (AllReadyH.cons (o := _) rfl (fun K hK => ?_) (AllReadyH.nil))
    · skip
      go_simp
      refine hK.out _ _ (S8.alloc hHeld _) (fun hHeld => ?_)
      clear hK K
      try simp only [Act.put, List.setIfInBounds_toArray, List.set_cons_zero, List.set_cons_succ, List.getElem_toArray, List.getElem_cons_zero, List.getElem_cons_succ]
      have hnx : Below W0.heap.size W0 (W0.alloc (.cells #[.int .i64 1, .string ⟨#[]⟩, .int .i64 1, .slice none 0 0] 27)) := (Below.refl _ _).alloc (Nat.le_refl _) _
      have hft : Tm.sliceIn (W0.alloc (.cells #[.int .i64 1, .string ⟨#[]⟩, .int .i64 1, .slice none 0 0] 27)) (W0.alloc (.cells #[.int .i64 1, .string ⟨#[]⟩, .int .i64 1, .slice none 0 0] 27)).heap.size [kY] (.slice (some ⟨W0.heap.size, 0, none⟩) 1 1) := one_slice (t := kY) (newBlk _ _ _ rfl) (inn_leaf (by decide))
      obtain ⟨W1, hW1⟩ : ∃ W', (W0.alloc (.cells #[.int .i64 1, .string ⟨#[]⟩, .int .i64 1, .slice none 0 0] 27)).drew = W' := ⟨_, rfl⟩
      have hny : Below W0.heap.size W0 W1 := by rw [← hW1]; exact hnx.drew
      have FA1 := Lib.hid (show Tm.sliceIn W1 W1.heap.size [kY] (.slice (some ⟨W0.heap.size, 0, none⟩) 1 1) by rw [← hW1]; exact hft)
      simp only [hW1] at hHeld ⊢
      have HB1 := Lib.hid (HB0.out.trans (hny.mono HB0.out.size))
      clear hny hnx hft
      refine wpAnyH_ready (rs := [3, 8]) (by kernel_rfl) (by simp) ?_
      refine AllReadyH.cons (o := _) rfl (fun K hK => ?_) (AllReadyH.cons (o := _) rfl (fun K hK => ?_) (AllReadyH.nil))
      · skip
        go_simp
        refine (ufun_any ⟨#[103]⟩ [kY] _ _ (by decide) FA1.out).mono ?_
        rintro e W2 ⟨⟨rfl, hin⟩, hnd⟩
        have hny : Below W1.heap.size W1 W2 := hnd
        have FG2 := Lib.hid (show Tm.inn W2 W2.heap.size kGy _ from hin)
        have hS8 := Lib.hid (S8.nx (show S8 w.heap.size (.int .i64 1) (.string ⟨#[]⟩) (.int .i64 0) (.slice none 0 0) (.int .i64 1) (.string ⟨#[]⟩) (.int .i64 1) (.slice none 0 0) W1 from hHeld) hny)
        clear hin hnd hHeld
        go_wp2_with fail
        refine hK.out _ _ (hS8.out) (fun hHeld => ?_)
        clear hK K
        try simp only [Act.put, List.setIfInBounds_toArray, List.set_cons_zero, List.set_cons_succ, List.getElem_toArray, List.getElem_cons_zero, List.getElem_cons_succ]
        clear hS8
        have HB2 := Lib.hid (HB1.out.trans (hny.mono HB1.out.size))
        have FA2 := Lib.hid (lift_sl FA1.out hny)
        clear hny
        refine wpAnyH_ready (rs := [4, 8]) (by kernel_rfl) (by simp) ?_
        refine AllReadyH.cons (o := _) rfl (fun K hK => ?_) (AllReadyH.cons (o := _) rfl (fun K hK => ?_) (AllReadyH.nil))
        · skip
          go_simp
          refine hK.out _ _ (S8.alloc hHeld _) (fun hHeld => ?_)
          clear hK K
          try simp only [Act.put, List.setIfInBounds_toArray, List.set_cons_zero, List.set_cons_succ, List.getElem_toArray, List.getElem_cons_zero, List.getElem_cons_succ]
          have hnx : Below W2.heap.size W2 (W2.alloc (.cells #[.int .i64 1, .string ⟨#[]⟩, .int .i64 0, .slice none 0 0, .int .i64 3, .string ⟨#[103]⟩, .int .i64 0, .slice (some ⟨W0.heap.size, 0, none⟩) 1 1] 27)) := (Below.refl _ _).alloc (Nat.le_refl _) _
          have hft : Tm.sliceIn (W2.alloc (.cells #[.int .i64 1, .string ⟨#[]⟩, .int .i64 0, .slice none 0 0, .int .i64 3, .string ⟨#[103]⟩, .int .i64 0, .slice (some ⟨W0.heap.size, 0, none⟩) 1 1] 27)) (W2.alloc (.cells #[.int .i64 1, .string ⟨#[]⟩, .int .i64 0, .slice none 0 0, .int .i64 3, .string ⟨#[103]⟩, .int .i64 0, .slice (some ⟨W0.heap.size, 0, none⟩) 1 1] 27)).heap.size [kX, kGy] (.slice (some ⟨W2.heap.size, 0, none⟩) 2 2) := two_slice (a := kX) (b := kGy) (newBlk _ _ _ rfl) (inn_leaf (by decide)) (lift_inn FG2.out hnx)
          obtain ⟨W3, hW3⟩ : ∃ W', (W2.alloc (.cells #[.int .i64 1, .string ⟨#[]⟩, .int .i64 0, .slice none 0 0, .int .i64 3, .string ⟨#[103]⟩, .int .i64 0, .slice (some ⟨W0.heap.size, 0, none⟩) 1 1] 27)) = W' := ⟨_, rfl⟩
          have hny : Below W2.heap.size W2 W3 := by rw [← hW3]; exact hnx
          have FS3 := Lib.hid (show Tm.sliceIn W3 W3.heap.size [kX, kGy] (.slice (some ⟨W2.heap.size, 0, none⟩) 2 2) by rw [← hW3]; exact hft)
          simp only [hW3] at hHeld ⊢
          have HB3 := Lib.hid (HB2.out.trans (hny.mono HB2.out.size))
          have FG3 := Lib.hid (lift_inn FG2.out hny)
          clear hny hnx hft
          refine wpAnyH_ready (rs := [5, 8]) (by kernel_rfl) (by simp) ?_
          refine AllReadyH.cons (o := _) rfl (fun K hK => ?_) (AllReadyH.cons (o := _) rfl (fun K hK => ?_) (AllReadyH.nil))
          · skip
            go_simp
            refine (ufun_any ⟨#[102]⟩ [kX, kGy] _ _ (by decide) FS3.out).mono ?_
            rintro e W4 ⟨⟨rfl, hin⟩, hnd⟩
            have hny : Below W3.heap.size W3 W4 := hnd
            have FL4 := Lib.hid (show Tm.inn W4 W4.heap.size kL _ from hin)
            have hS8 := Lib.hid (S8.nx (show S8 w.heap.size (.int .i64 1) (.string ⟨#[]⟩) (.int .i64 0) (.slice none 0 0) (.int .i64 1) (.string ⟨#[]⟩) (.int .i64 1) (.slice none 0 0) W3 from hHeld) hny)
            clear hin hnd hHeld
            go_wp2_with fail
            refine hK.out _ _ (hS8.out) (fun hHeld => ?_)
            clear hK K
            try simp only [Act.put, List.setIfInBounds_toArray, List.set_cons_zero, List.set_cons_succ, List.getElem_toArray, List.getElem_cons_zero, List.getElem_cons_succ]
            clear hS8
            have HB4 := Lib.hid (HB3.out.trans (hny.mono HB3.out.size))
            have FS4 := Lib.hid (lift_sl FS3.out hny)
            clear hny
            refine wpAnyH_ready (rs := [6, 8]) (by kernel_rfl) (by simp) ?_
            refine AllReadyH.cons (o := _) rfl (fun K hK => ?_) (AllReadyH.cons (o := _) rfl (fun K hK => ?_) (AllReadyH.nil))
            · skip
              go_simp
              refine (ufun_any ⟨#[97]⟩ [] _ _ (by decide) nil_in).mono ?_
              rintro e W5 ⟨⟨rfl, hin⟩, hnd⟩
              have hny : Below W4.heap.size W4 W5 := hnd
              have FC5 := Lib.hid (show Tm.inn W5 W5.heap.size exA _ from hin)
              have hS8 := Lib.hid (S8.nx (show S8 w.heap.size (.int .i64 1) (.string ⟨#[]⟩) (.int .i64 0) (.slice none 0 0) (.int .i64 1) (.string ⟨#[]⟩) (.int .i64 1) (.slice none 0 0) W4 from hHeld) hny)
              clear hin hnd hHeld
              go_wp2_with fail
              refine hK.out _ _ (hS8.out) (fun hHeld => ?_)
              clear hK K
              try simp only [Act.put, List.setIfInBounds_toArray, List.set_cons_zero, List.set_cons_succ, List.getElem_toArray, List.getElem_cons_zero, List.getElem_cons_succ]
              clear hS8
              have HB5 := Lib.hid (HB4.out.trans (hny.mono HB4.out.size))
              have FL5 := Lib.hid (lift_inn FL4.out hny)
              clear hny
              refine wpAnyH_ready (rs := [8]) (by kernel_rfl) (by simp) ?_
              refine AllReadyH.cons (o := _) rfl (fun K hK => ?_) (AllReadyH.nil)
              go_simp
              refine hK.out _ _ (S8.alloc hHeld _) (fun hHeld => ?_)
              clear hK K
              try simp only [Act.put, List.setIfInBounds_toArray, List.set_cons_zero, List.set_cons_succ, List.getElem_toArray, List.getElem_cons_zero, List.getElem_cons_succ]
              have hnx : Below W5.heap.size W5 (W5.alloc (.cells #[.int .i64 1, .string ⟨#[]⟩, .int .i64 0, .slice none 0 0] 27)) := (Below.refl _ _).alloc (Nat.le_refl _) _
              have hft : Tm.sliceIn (W5.alloc (.cells #[.int .i64 1, .string ⟨#[]⟩, .int .i64 0, .slice none 0 0] 27)) (W5.alloc (.cells #[.int .i64 1, .string ⟨#[]⟩, .int .i64 0, .slice none 0 0] 27)).heap.size [kX] (.slice (some ⟨W5.heap.size, 0, none⟩) 1 1) := one_slice (t := kX) (newBlk _ _ _ rfl) (inn_leaf (by decide))
              obtain ⟨W6, hW6⟩ : ∃ W', (W5.alloc (.cells #[.int .i64 1, .string ⟨#[]⟩, .int .i64 0, .slice none 0 0] 27)) = W' := ⟨_, rfl⟩
              have hny : Below W5.heap.size W5 W6 := by rw [← hW6]; exact hnx
              have FB6 := Lib.hid (show Tm.sliceIn W6 W6.heap.size [kX] (.slice (some ⟨W5.heap.size, 0, none⟩) 1 1) by rw [← hW6]; exact hft)
              simp only [hW6] at hHeld ⊢
              have HB6 := Lib.hid (HB5.out.trans (hny.mono HB5.out.size))
              have FL6 := Lib.hid (lift_inn FL5.out hny)
              have FC6 := Lib.hid (lift_inn FC5.out hny)
              clear hny hnx hft
              refine wpAnyH_ready (rs := [9]) (by kernel_rfl) (by simp) ?_
              refine AllReadyH.cons (o := _) rfl (fun K hK => ?_) (AllReadyH.nil)
              go_simp
              refine (ufun_any ⟨#[103]⟩ [kX] _ _ (by decide) FB6.out).mono ?_
              rintro e W7 ⟨⟨rfl, hin⟩, hnd⟩
              have hny : Below W6.heap.size W6 W7 := hnd
              have FH7 := Lib.hid (show Tm.inn W7 W7.heap.size kGx _ from hin)
              have hS8 := Lib.hid (S8.nx (show S8 w.heap.size (.int .i64 1) (.string ⟨#[]⟩) (.int .i64 0) (.slice none 0 0) (.int .i64 1) (.string ⟨#[]⟩) (.int .i64 1) (.slice none 0 0) W6 from hHeld) hny)
              clear hin hnd hHeld
              go_wp2_with fail
              refine hK.out _ _ (hS8.out) (fun hHeld => ?_)
              clear hK K
              try simp only [Act.put, List.setIfInBounds_toArray, List.set_cons_zero, List.set_cons_succ, List.getElem_toArray, List.getElem_cons_zero, List.getElem_cons_succ]
              clear hS8
              have HB7 := Lib.hid (HB6.out.trans (hny.mono HB6.out.size))
              have FL7 := Lib.hid (lift_inn FL6.out hny)
              have FC7 := Lib.hid (lift_inn FC6.out hny)
              have FB7 := Lib.hid (lift_sl FB6.out hny)
              clear hny
              refine wpAnyH_ready (rs := [10]) (by kernel_rfl) (by simp) ?_
              refine AllReadyH.cons (o := _) rfl (fun K hK => ?_) (AllReadyH.nil)
              go_simp
              refine hK.out _ _ (S8.alloc hHeld _) (fun hHeld => ?_)
              clear hK K
              try simp only [Act.put, List.setIfInBounds_toArray, List.set_cons_zero, List.set_cons_succ, List.getElem_toArray, List.getElem_cons_zero, List.getElem_cons_succ]
              have hnx : Below W7.heap.size W7 (W7.alloc (.cells #[.int .i64 3, .string ⟨#[97]⟩, .int .i64 0, .slice none 0 0, .int .i64 3, .string ⟨#[103]⟩, .int .i64 0, .slice (some ⟨W5.heap.size, 0, none⟩) 1 1] 27)) := (Below.refl _ _).alloc (Nat.le_refl _) _
              have hft : Tm.sliceIn (W7.alloc (.cells #[.int .i64 3, .string ⟨#[97]⟩, .int .i64 0, .slice none 0 0, .int .i64 3, .string ⟨#[103]⟩, .int .i64 0, .slice (some ⟨W5.heap.size, 0, none⟩) 1 1] 27)) (W7.alloc (.cells #[.int .i64 3, .string ⟨#[97]⟩, .int .i64 0, .slice none 0 0, .int .i64 3, .string ⟨#[103]⟩, .int .i64 0, .slice (some ⟨W5.heap.size, 0, none⟩) 1 1] 27)).heap.size [exA, kGx] (.slice (some ⟨W7.heap.size, 0, none⟩) 2 2) := two_slice (a := exA) (b := kGx) (newBlk _ _ _ rfl) exA_in (lift_inn FH7.out hnx)
              obtain ⟨W8, hW8⟩ : ∃ W', (W7.alloc (.cells #[.int .i64 3, .string ⟨#[97]⟩, .int .i64 0, .slice none 0 0, .int .i64 3, .string ⟨#[103]⟩, .int .i64 0, .slice (some ⟨W5.heap.size, 0, none⟩) 1 1] 27)) = W' := ⟨_, rfl⟩
              have hny : Below W7.heap.size W7 W8 := by rw [← hW8]; exact hnx
              have FT8 := Lib.hid (show Tm.sliceIn W8 W8.heap.size [exA, kGx] (.slice (some ⟨W7.heap.size, 0, none⟩) 2 2) by rw [← hW8]; exact hft)
              simp only [hW8] at hHeld ⊢
              have HB8 := Lib.hid (HB7.out.trans (hny.mono HB7.out.size))
              have FL8 := Lib.hid (lift_inn FL7.out hny)
              have FC8 := Lib.hid (lift_inn FC7.out hny)
              have FH8 := Lib.hid (lift_inn FH7.out hny)
              clear hny hnx hft
              refine wpAnyH_ready (rs := [11]) (by kernel_rfl) (by simp) ?_
              refine AllReadyH.cons (o := _) rfl (fun K hK => ?_) (AllReadyH.nil)
              go_simp
              refine (ufun_any ⟨#[102]⟩ [exA, kGx] _ _ (by decide) FT8.out).mono ?_
              rintro e W9 ⟨⟨rfl, hin⟩, hnd⟩
              have hny : Below W8.heap.size W8 W9 := hnd
              have FR9 := Lib.hid (show Tm.inn W9 W9.heap.size kR _ from hin)
              have hS8 := Lib.hid (S8.nx (show S8 w.heap.size (.int .i64 1) (.string ⟨#[]⟩) (.int .i64 0) (.slice none 0 0) (.int .i64 1) (.string ⟨#[]⟩) (.int .i64 1) (.slice none 0 0) W8 from hHeld) hny)
              clear hin hnd hHeld
              go_wp2_with fail
              refine hK.out _ _ (hS8.out) (fun hHeld => ?_)
              clear hK K
              try simp only [Act.put, List.setIfInBounds_toArray, List.set_cons_zero, List.set_cons_succ, List.getElem_toArray, List.getElem_cons_zero, List.getElem_cons_succ]
              clear hS8
              have HB9 := Lib.hid (HB8.out.trans (hny.mono HB8.out.size))
              have FL9 := Lib.hid (lift_inn FL8.out hny)
              have FC9 := Lib.hid (lift_inn FC8.out hny)
              have FT9 := Lib.hid (lift_sl FT8.out hny)
              clear hny
              refine wpAnyH_ready (rs := [12]) (by kernel_rfl) (by simp) ?_
              refine AllReadyH.cons (o := _) rfl (fun K hK => ?_) (AllReadyH.nil)
              go_simp
              refine (mgu_any (V := [0, 1]) (by decide) k_right.1 k_right.2.1 (by decide) (by decide) FL9.out FR9.out).mono ?_
              rintro e W10 hpost
              obtain ⟨hnd, hpost⟩ := hpost
              have hny : Below W9.heap.size W9 W10 := hnd
              rcases hpost with ⟨l, sv, rfl, hbl, hm, hv⟩ | ⟨_, hno⟩
              rotate_left
              · exact absurd hno k_yes
              have hS8 := Lib.hid (S8.nx (show S8 w.heap.size (.int .i64 1) (.string ⟨#[]⟩) (.int .i64 0) (.slice none 0 0) (.int .i64 1) (.string ⟨#[]⟩) (.int .i64 1) (.slice none 0 0) W9 from hHeld) hny)
              have HU := Lib.hid (show UK1 w sv (.bool true) (.int .i64 0) W10 from ⟨HB9.out.trans (hny.mono HB9.out.size), hS8.out, rfl, rfl, l, hbl, hm, hv⟩)
              clear hnd hHeld hbl hm hv hny
              go_wp2_with fail
              refine hK.out _ _ (hS8.out) (fun hHeld => ?_)
              clear hK K
              try simp only [Act.put, List.setIfInBounds_toArray, List.set_cons_zero, List.set_cons_succ, List.getElem_toArray, List.getElem_cons_zero, List.getElem_cons_succ]
              refine wpAnyH_take (i := 13) (oi := _) (v := ?_) rfl (by kernel_rfl) (by kernel_rfl) (by kernel_rfl) (fun _ _ _ h => h) (Or.inl ⟨by rfl, ?_⟩) hHeld ?_
              rotate_left
              · (intro w hSw; obtain ⟨c0, c1, c2, c3, d0, d1, d2, d3⟩ := hSw; go_simp; try with_reducible rfl)
              try simp only [Act.put, List.setIfInBounds_toArray, List.set_cons_zero, List.set_cons_succ, List.getElem_toArray, List.getElem_cons_zero, List.getElem_cons_succ]
              refine wpAnyH_take (i := 14) (oi := _) (v := ?_) rfl (by kernel_rfl) (by kernel_rfl) (by kernel_rfl) (fun _ _ _ h => h) (Or.inl ⟨by rfl, ?_⟩) hHeld ?_
              rotate_left
              · (intro w hSw; obtain ⟨c0, c1, c2, c3, d0, d1, d2, d3⟩ := hSw; go_simp; try with_reducible rfl)
              try simp only [Act.put, List.setIfInBounds_toArray, List.set_cons_zero, List.set_cons_succ, List.getElem_toArray, List.getElem_cons_zero, List.getElem_cons_succ]
              refine wpAnyH_take (i := 15) (oi := _) (v := ?_) rfl (by kernel_rfl) (by kernel_rfl) (by kernel_rfl) (fun _ _ _ h => h) (Or.inl ⟨by rfl, ?_⟩) hHeld ?_
              rotate_left
              · (intro w hSw; obtain ⟨c0, c1, c2, c3, d0, d1, d2, d3⟩ := hSw; go_simp; try with_reducible rfl)
              try simp only [Act.put, List.setIfInBounds_toArray, List.set_cons_zero, List.set_cons_succ, List.getElem_toArray, List.getElem_cons_zero, List.getElem_cons_succ]
              refine wpAnyH_take (i := 16) (oi := _) (v := ?_) rfl (by kernel_rfl) (by kernel_rfl) (by kernel_rfl) (fun _ _ _ h => h) (Or.inl ⟨by rfl, ?_⟩) hHeld ?_
              rotate_left
              · (intro w hSw; obtain ⟨c0, c1, c2, c3, d0, d1, d2, d3⟩ := hSw; go_simp; try with_reducible rfl)
              try simp only [Act.put, List.setIfInBounds_toArray, List.set_cons_zero, List.set_cons_succ, List.getElem_toArray, List.getElem_cons_zero, List.getElem_cons_succ]
              refine wpAnyH_ready (rs := [17]) (by kernel_rfl) (by simp) ?_
              refine AllReadyH.cons (o := _) rfl (fun K hK => ?_) (AllReadyH.nil)
              go_simp
              refine hK.out _ _ (hHeld) (fun hHeld => ?_)
              clear hK K
              try simp only [Act.put, List.setIfInBounds_toArray, List.set_cons_zero, List.set_cons_succ, List.getElem_toArray, List.getElem_cons_zero, List.getElem_cons_succ]
              refine wpAnyH_ready (rs := [18]) (by kernel_rfl) (by simp) ?_
              refine AllReadyH.cons (o := _) rfl (fun K hK => ?_) (AllReadyH.nil)
              go_simp
              refine hK.out _ _ (hHeld) (fun hHeld => ?_)
              clear hK K
              try simp only [Act.put, List.setIfInBounds_toArray, List.set_cons_zero, List.set_cons_succ, List.getElem_toArray, List.getElem_cons_zero, List.getElem_cons_succ]
              refine wpAnyH_ready (rs := [19]) (by kernel_rfl) (by simp) ?_
              refine AllReadyH.cons (o := _) rfl (fun K hK => ?_) (AllReadyH.nil)
              go_simp
              refine hK.out _ _ (hHeld) (fun hHeld => ?_)
              clear hK K
              try simp only [Act.put, List.setIfInBounds_toArray, List.set_cons_zero, List.set_cons_succ, List.getElem_toArray, List.getElem_cons_zero, List.getElem_cons_succ]
              refine wpAnyH_done (by kernel_rfl) ?_ _
              go_wp2_with fail
              go_meet
              exact HU
            · skip
              go_simp
              refine hK.out _ _ (S8.alloc hHeld _) (fun hHeld => ?_)
              clear hK K
              try simp only [Act.put, List.setIfInBounds_toArray, List.set_cons_zero, List.set_cons_succ, List.getElem_toArray, List.getElem_cons_zero, List.getElem_cons_succ]
              have hnx : Below W4.heap.size W4 (W4.alloc (.cells #[.int .i64 1, .string ⟨#[]⟩, .int .i64 0, .slice none 0 0] 27)) := (Below.refl _ _).alloc (Nat.le_refl _) _
              have hft : Tm.sliceIn (W4.alloc (.cells #[.int .i64 1, .string ⟨#[]⟩, .int .i64 0, .slice none 0 0] 27)) (W4.alloc (.cells #[.int .i64 1, .string ⟨#[]⟩, .int .i64 0, .slice none 0 0] 27)).heap.size [kX] (.slice (some ⟨W4.heap.size, 0, none⟩) 1 1) := one_slice (t := kX) (newBlk _ _ _ rfl) (inn_leaf (by decide))
              obtain ⟨W5, hW5⟩ : ∃ W', (W4.alloc (.cells #[.int .i64 1, .string ⟨#[]⟩, .int .i64 0, .slice none 0 0] 27)) = W' := ⟨_, rfl⟩
              have hny : Below W4.heap.size W4 W5 := by rw [← hW5]; exact hnx
              have FB5 := Lib.hid (show Tm.sliceIn W5 W5.heap.size [kX] (.slice (some ⟨W4.heap.size, 0, none⟩) 1 1) by rw [← hW5]; exact hft)
              simp only [hW5] at hHeld ⊢
              have HB5 := Lib.hid (HB4.out.trans (hny.mono HB4.out.size))
              have FL5 := Lib.hid (lift_inn FL4.out hny)
              clear hny hnx hft
              refine wpAnyH_ready (rs := [6]) (by kernel_rfl) (by simp) ?_
              refine AllReadyH.cons (o := _) rfl (fun K hK => ?_) (AllReadyH.nil)
              go_simp
              refine (ufun_any ⟨#[97]⟩ [] _ _ (by decide) nil_in).mono ?_
              rintro e W6 ⟨⟨rfl, hin⟩, hnd⟩
              have hny : Below W5.heap.size W5 W6 := hnd
              have FC6 := Lib.hid (show Tm.inn W6 W6.heap.size exA _ from hin)
              have hS8 := Lib.hid (S8.nx (show S8 w.heap.size (.int .i64 1) (.string ⟨#[]⟩) (.int .i64 0) (.slice none 0 0) (.int .i64 1) (.string ⟨#[]⟩) (.int .i64 1) (.slice none 0 0) W5 from hHeld) hny)
              clear hin hnd hHeld
              go_wp2_with fail
              refine hK.out _ _ (hS8.out) (fun hHeld => ?_)
              clear hK K
              try simp only [Act.put, List.setIfInBounds_toArray, List.set_cons_zero, List.set_cons_succ, List.getElem_toArray, List.getElem_cons_zero, List.getElem_cons_succ]
              clear hS8
              have HB6 := Lib.hid (HB5.out.trans (hny.mono HB5.out.size))
              have FL6 := Lib.hid (lift_inn FL5.out hny)
              have FB6 := Lib.hid (lift_sl FB5.out hny)
              clear hny
              refine wpAnyH_ready (rs := [9]) (by kernel_rfl) (by simp) ?_
              refine AllReadyH.cons (o := _) rfl (fun K hK => ?_) (AllReadyH.nil)
              go_simp
              refine (ufun_any ⟨#[103]⟩ [kX] _ _ (by decide) FB6.out).mono ?_
              rintro e W7 ⟨⟨rfl, hin⟩, hnd⟩
              have hny : Below W6.heap.size W6 W7 := hnd
              have FH7 := Lib.hid (show Tm.inn W7 W7.heap.size kGx _ from hin)
              have hS8 := Lib.hid (S8.nx (show S8 w.heap.size (.int .i64 1) (.string ⟨#[]⟩) (.int .i64 0) (.slice none 0 0) (.int .i64 1) (.string ⟨#[]⟩) (.int .i64 1) (.slice none 0 0) W6 from hHeld) hny)
              clear hin hnd hHeld
              go_wp2_with fail
              refine hK.out _ _ (hS8.out) (fun hHeld => ?_)
              clear hK K
              try simp only [Act.put, List.setIfInBounds_toArray, List.set_cons_zero, List.set_cons_succ, List.getElem_toArray, List.getElem_cons_zero, List.getElem_cons_succ]
              clear hS8
              have HB7 := Lib.hid (HB6.out.trans (hny.mono HB6.out.size))
              have FL7 := Lib.hid (lift_inn FL6.out hny)
              have FB7 := Lib.hid (lift_sl FB6.out hny)
              have FC7 := Lib.hid (lift_inn FC6.out hny)
              clear hny
              refine wpAnyH_ready (rs := [10]) (by kernel_rfl) (by simp) ?_
              refine AllReadyH.cons (o := _) rfl (fun K hK => ?_) (AllReadyH.nil)
              go_simp
              refine hK.out _ _ (S8.alloc hHeld _) (fun hHeld => ?_)
              clear hK K
              try simp only [Act.put, List.setIfInBounds_toArray, List.set_cons_zero, List.set_cons_succ, List.getElem_toArray, List.getElem_cons_zero, List.getElem_cons_succ]
              have hnx : Below W7.heap.size W7 (W7.alloc (.cells #[.int .i64 3, .string ⟨#[97]⟩, .int .i64 0, .slice none 0 0, .int .i64 3, .string ⟨#[103]⟩, .int .i64 0, .slice (some ⟨W4.heap.size, 0, none⟩) 1 1] 27)) := (Below.refl _ _).alloc (Nat.le_refl _) _
              have hft : Tm.sliceIn (W7.alloc (.cells #[.int .i64 3, .string ⟨#[97]⟩, .int .i64 0, .slice none 0 0, .int .i64 3, .string ⟨#[103]⟩, .int .i64 0, .slice (some ⟨W4.heap.size, 0, none⟩) 1 1] 27)) (W7.alloc (.cells #[.int .i64 3, .string ⟨#[97]⟩, .int .i64 0, .slice none 0 0, .int .i64 3, .string ⟨#[103]⟩, .int .i64 0, .slice (some ⟨W4.heap.size, 0, none⟩) 1 1] 27)).heap.size [exA, kGx] (.slice (some ⟨W7.heap.size, 0, none⟩) 2 2) := two_slice (a := exA) (b := kGx) (newBlk _ _ _ rfl) exA_in (lift_inn FH7.out hnx)
              obtain ⟨W8, hW8⟩ : ∃ W', (W7.alloc (.cells #[.int .i64 3, .string ⟨#[97]⟩, .int .i64 0, .slice none 0 0, .int .i64 3, .string ⟨#[103]⟩, .int .i64 0, .slice (some ⟨W4.heap.size, 0, none⟩) 1 1] 27)) = W' := ⟨_, rfl⟩
              have hny : Below W7.heap.size W7 W8 := by rw [← hW8]; exact hnx
              have FT8 := Lib.hid (show Tm.sliceIn W8 W8.heap.size [exA, kGx] (.slice (some ⟨W7.heap.size, 0, none⟩) 2 2) by rw [← hW8]; exact hft)
              simp only [hW8] at hHeld ⊢
              have HB8 := Lib.hid (HB7.out.trans (hny.mono HB7.out.size))
              have FL8 := Lib.hid (lift_inn FL7.out hny)
              have FC8 := Lib.hid (lift_inn FC7.out hny)
              have FH8 := Lib.hid (lift_inn FH7.out hny)
              clear hny hnx hft
              refine wpAnyH_ready (rs := [11]) (by kernel_rfl) (by simp) ?_
              refine AllReadyH.cons (o := _) rfl (fun K hK => ?_) (AllReadyH.nil)
              go_simp
              refine (ufun_any ⟨#[102]⟩ [exA, kGx] _ _ (by decide) FT8.out).mono ?_
              rintro e W9 ⟨⟨rfl, hin⟩, hnd⟩
              have hny : Below W8.heap.size W8 W9 := hnd
              have FR9 := Lib.hid (show Tm.inn W9 W9.heap.size kR _ from hin)
              have hS8 := Lib.hid (S8.nx (show S8 w.heap.size (.int .i64 1) (.string ⟨#[]⟩) (.int .i64 0) (.slice none 0 0) (.int .i64 1) (.string ⟨#[]⟩) (.int .i64 1) (.slice none 0 0) W8 from hHeld) hny)
              clear hin hnd hHeld
              go_wp2_with fail
              refine hK.out _ _ (hS8.out) (fun hHeld => ?_)
              clear hK K
              try simp only [Act.put, List.setIfInBounds_toArray, List.set_cons_zero, List.set_cons_succ, List.getElem_toArray, List.getElem_cons_zero, List.getElem_cons_succ]
              clear hS8
              have HB9 := Lib.hid (HB8.out.trans (hny.mono HB8.out.size))
              have FL9 := Lib.hid (lift_inn FL8.out hny)
              have FC9 := Lib.hid (lift_inn FC8.out hny)
              have FT9 := Lib.hid (lift_sl FT8.out hny)
              clear hny
              refine wpAnyH_ready (rs := [12]) (by kernel_rfl) (by simp) ?_
              refine AllReadyH.cons (o := _) rfl (fun K hK => ?_) (AllReadyH.nil)
              go_simp
              refine (mgu_any (V := [0, 1]) (by decide) k_right.1 k_right.2.1 (by decide) (by decide) FL9.out FR9.out).mono ?_
              rintro e W10 hpost
              obtain ⟨hnd, hpost⟩ := hpost
              have hny : Below W9.heap.size W9 W10 := hnd
              rcases hpost with ⟨l, sv, rfl, hbl, hm, hv⟩ | ⟨_, hno⟩
              rotate_left
              · exact absurd hno k_yes
              have hS8 := Lib.hid (S8.nx (show S8 w.heap.size (.int .i64 1) (.string ⟨#[]⟩) (.int .i64 0) (.slice none 0 0) (.int .i64 1) (.string ⟨#[]⟩) (.int .i64 1) (.slice none 0 0) W9 from hHeld) hny)
              have HU := Lib.hid (show UK1 w sv (.bool true) (.int .i64 0) W10 from ⟨HB9.out.trans (hny.mono HB9.out.size), hS8.out, rfl, rfl, l, hbl, hm, hv⟩)
              clear hnd hHeld hbl hm hv hny
              go_wp2_with fail
              refine hK.out _ _ (hS8.out) (fun hHeld => ?_)
              clear hK K
              try simp only [Act.put, List.setIfInBounds_toArray, List.set_cons_zero, List.set_cons_succ, List.getElem_toArray, List.getElem_cons_zero, List.getElem_cons_succ]
              refine wpAnyH_take (i := 13) (oi := _) (v := ?_) rfl (by kernel_rfl) (by kernel_rfl) (by kernel_rfl) (fun _ _ _ h => h) (Or.inl ⟨by rfl, ?_⟩) hHeld ?_
              rotate_left
              · (intro w hSw; obtain ⟨c0, c1, c2, c3, d0, d1, d2, d3⟩ := hSw; go_simp; try with_reducible rfl)
              try simp only [Act.put, List.setIfInBounds_toArray, List.set_cons_zero, List.set_cons_succ, List.getElem_toArray, List.getElem_cons_zero, List.getElem_cons_succ]
              refine wpAnyH_take (i := 14) (oi := _) (v := ?_) rfl (by kernel_rfl) (by kernel_rfl) (by kernel_rfl) (fun _ _ _ h => h) (Or.inl ⟨by rfl, ?_⟩) hHeld ?_
              rotate_left
              · (intro w hSw; obtain ⟨c0, c1, c2, c3, d0, d1, d2, d3⟩ := hSw; go_simp; try with_reducible rfl)
              try simp only [Act.put, List.setIfInBounds_toArray, List.set_cons_zero, List.set_cons_succ, List.getElem_toArray, List.getElem_cons_zero, List.getElem_cons_succ]
              refine wpAnyH_take (i := 15) (oi := _) (v := ?_) rfl (by kernel_rfl) (by kernel_rfl) (by kernel_rfl) (fun _ _ _ h => h) (Or.inl ⟨by rfl, ?_⟩) hHeld ?_
              rotate_left
              · (intro w hSw; obtain ⟨c0, c1, c2, c3, d0, d1, d2, d3⟩ := hSw; go_simp; try with_reducible rfl)
              try simp only [Act.put, List.setIfInBounds_toArray, List.set_cons_zero, List.set_cons_succ, List.getElem_toArray, List.getElem_cons_zero, List.getElem_cons_succ]
              refine wpAnyH_take (i := 16) (oi := _) (v := ?_) rfl (by kernel_rfl) (by kernel_rfl) (by kernel_rfl) (fun _ _ _ h => h) (Or.inl ⟨by rfl, ?_⟩) hHeld ?_
              rotate_left
              · (intro w hSw; obtain ⟨c0, c1, c2, c3, d0, d1, d2, d3⟩ := hSw; go_simp; try with_reducible rfl)
              try simp only [Act.put, List.setIfInBounds_toArray, List.set_cons_zero, List.set_cons_succ, List.getElem_toArray, List.getElem_cons_zero, List.getElem_cons_succ]
              refine wpAnyH_ready (rs := [17]) (by kernel_rfl) (by simp) ?_
              refine AllReadyH.cons (o := _) rfl (fun K hK => ?_) (AllReadyH.nil)
              go_simp
              refine hK.out _ _ (hHeld) (fun hHeld => ?_)
              clear hK K
              try simp only [Act.put, List.setIfInBounds_toArray, List.set_cons_zero, List.set_cons_succ, List.getElem_toArray, List.getElem_cons_zero, List.getElem_cons_succ]
              refine wpAnyH_ready (rs := [18]) (by kernel_rfl) (by simp) ?_
              refine AllReadyH.cons (o := _) rfl (fun K hK => ?_) (AllReadyH.nil)
              go_simp
              refine hK.out _ _ (hHeld) (fun hHeld => ?_)
              clear hK K
              try simp only [Act.put, List.setIfInBounds_toArray, List.set_cons_zero, List.set_cons_succ, List.getElem_toArray, List.getElem_cons_zero, List.getElem_cons_succ]
              refine wpAnyH_ready (rs := [19]) (by kernel_rfl) (by simp) ?_
              refine AllReadyH.cons (o := _) rfl (fun K hK => ?_) (AllReadyH.nil)
              go_simp
              refine hK.out _ _ (hHeld) (fun hHeld => ?_)
              clear hK K
              try simp only [Act.put, List.setIfInBounds_toArray, List.set_cons_zero, List.set_cons_succ, List.getElem_toArray, List.getElem_cons_zero, List.getElem_cons_succ]
              refine wpAnyH_done (by kernel_rfl) ?_ _
              go_wp2_with fail
              go_meet
              exact HU
          · skip
            go_simp
            refine hK.out _ _ (S8.alloc hHeld _) (fun hHeld => ?_)
            clear hK K
            try simp only [Act.put, List.setIfInBounds_toArray, List.set_cons_zero, List.set_cons_succ, List.getElem_toArray, List.getElem_cons_zero, List.getElem_cons_succ]
            have hnx : Below W3.heap.size W3 (W3.alloc (.cells #[.int .i64 1, .string ⟨#[]⟩, .int .i64 0, .slice none 0 0] 27)) := (Below.refl _ _).alloc (Nat.le_refl _) _
            have hft : Tm.sliceIn (W3.alloc (.cells #[.int .i64 1, .string ⟨#[]⟩, .int .i64 0, .slice none 0 0] 27)) (W3.alloc (.cells #[.int .i64 1, .string ⟨#[]⟩, .int .i64 0, .slice none 0 0] 27)).heap.size [kX] (.slice (some ⟨W3.heap.size, 0, none⟩) 1 1) := one_slice (t := kX) (newBlk _ _ _ rfl) (inn_leaf (by decide))
            obtain ⟨W4, hW4⟩ : ∃ W', (W3.alloc (.cells #[.int .i64 1, .string ⟨#[]⟩, .int .i64 0, .slice none 0 0] 27)) = W' := ⟨_, rfl⟩
            have hny : Below W3.heap.size W3 W4 := by rw [← hW4]; exact hnx
            have FB4 := Lib.hid (show Tm.sliceIn W4 W4.heap.size [kX] (.slice (some ⟨W3.heap.size, 0, none⟩) 1 1) by rw [← hW4]; exact hft)
            simp only [hW4] at hHeld ⊢
            have HB4 := Lib.hid (HB3.out.trans (hny.mono HB3.out.size))
            have FS4 := Lib.hid (lift_sl FS3.out hny)
            clear hny hnx hft
            refine wpAnyH_ready (rs := [5]) (by kernel_rfl) (by simp) ?_
            refine AllReadyH.cons (o := _) rfl (fun K hK => ?_) (AllReadyH.nil)
            go_simp
            refine (ufun_any ⟨#[102]⟩ [kX, kGy] _ _ (by decide) FS4.out).mono ?_
            rintro e W5 ⟨⟨rfl, hin⟩, hnd⟩
            have hny : Below W4.heap.size W4 W5 := hnd
            have FL5 := Lib.hid (show Tm.inn W5 W5.heap.size kL _ from hin)
            have hS8 := Lib.hid (S8.nx (show S8 w.heap.size (.int .i64 1) (.string ⟨#[]⟩) (.int .i64 0) (.slice none 0 0) (.int .i64 1) (.string ⟨#[]⟩) (.int .i64 1) (.slice none 0 0) W4 from hHeld) hny)
            clear hin hnd hHeld
            go_wp2_with fail
            refine hK.out _ _ (hS8.out) (fun hHeld => ?_)
            clear hK K
            try simp only [Act.put, List.setIfInBounds_toArray, List.set_cons_zero, List.set_cons_succ, List.getElem_toArray, List.getElem_cons_zero, List.getElem_cons_succ]
            clear hS8
            have HB5 := Lib.hid (HB4.out.trans (hny.mono HB4.out.size))
            have FS5 := Lib.hid (lift_sl FS4.out hny)
            have FB5 := Lib.hid (lift_sl FB4.out hny)
            clear hny
            refine wpAnyH_ready (rs := [6]) (by kernel_rfl) (by simp) ?_
            refine AllReadyH.cons (o := _) rfl (fun K hK => ?_) (AllReadyH.nil)
            go_simp
            refine (ufun_any ⟨#[97]⟩ [] _ _ (by decide) nil_in).mono ?_
            rintro e W6 ⟨⟨rfl, hin⟩, hnd⟩
            have hny : Below W5.heap.size W5 W6 := hnd
            have FC6 := Lib.hid (show Tm.inn W6 W6.heap.size exA _ from hin)
            have hS8 := Lib.hid (S8.nx (show S8 w.heap.size (.int .i64 1) (.string ⟨#[]⟩) (.int .i64 0) (.slice none 0 0) (.int .i64 1) (.string ⟨#[]⟩) (.int .i64 1) (.slice none 0 0) W5 from hHeld) hny)
            clear hin hnd hHeld
            go_wp2_with fail
            refine hK.out _ _ (hS8.out) (fun hHeld => ?_)
            clear hK K
            try simp only [Act.put, List.setIfInBounds_toArray, List.set_cons_zero, List.set_cons_succ, List.getElem_toArray, List.getElem_cons_zero, List.getElem_cons_succ]
            clear hS8
            have HB6 := Lib.hid (HB5.out.trans (hny.mono HB5.out.size))
            have FB6 := Lib.hid (lift_sl FB5.out hny)
            have FL6 := Lib.hid (lift_inn FL5.out hny)
            clear hny
            refine wpAnyH_ready (rs := [9]) (by kernel_rfl) (by simp) ?_
            refine AllReadyH.cons (o := _) rfl (fun K hK => ?_) (AllReadyH.nil)
            go_simp
            refine (ufun_any ⟨#[103]⟩ [kX] _ _ (by decide) FB6.out).mono ?_
            rintro e W7 ⟨⟨rfl, hin⟩, hnd⟩
            have hny : Below W6.heap.size W6 W7 := hnd
            have FH7 := Lib.hid (show Tm.inn W7 W7.heap.size kGx _ from hin)
            have hS8 := Lib.hid (S8.nx (show S8 w.heap.size (.int .i64 1) (.string ⟨#[]⟩) (.int .i64 0) (.slice none 0 0) (.int .i64 1) (.string ⟨#[]⟩) (.int .i64 1) (.slice none 0 0) W6 from hHeld) hny)
            clear hin hnd hHeld
            go_wp2_with fail
            refine hK.out _ _ (hS8.out) (fun hHeld => ?_)
            clear hK K
            try simp only [Act.put, List.setIfInBounds_toArray, List.set_cons_zero, List.set_cons_succ, List.getElem_toArray, List.getElem_cons_zero, List.getElem_cons_succ]
            clear hS8
            have HB7 := Lib.hid (HB6.out.trans (hny.mono HB6.out.size))
            have FB7 := Lib.hid (lift_sl FB6.out hny)
            have FL7 := Lib.hid (lift_inn FL6.out hny)
            have FC7 := Lib.hid (lift_inn FC6.out hny)
            clear hny
            refine wpAnyH_ready (rs := [10]) (by kernel_rfl) (by simp) ?_
            refine AllReadyH.cons (o := _) rfl (fun K hK => ?_) (AllReadyH.nil)
            go_simp
            refine hK.out _ _ (S8.alloc hHeld _) (fun hHeld => ?_)
            clear hK K
            try simp only [Act.put, List.setIfInBounds_toArray, List.set_cons_zero, List.set_cons_succ, List.getElem_toArray, List.getElem_cons_zero, List.getElem_cons_succ]
            have hnx : Below W7.heap.size W7 (W7.alloc (.cells #[.int .i64 3, .string ⟨#[97]⟩, .int .i64 0, .slice none 0 0, .int .i64 3, .string ⟨#[103]⟩, .int .i64 0, .slice (some ⟨W3.heap.size, 0, none⟩) 1 1] 27)) := (Below.refl _ _).alloc (Nat.le_refl _) _
            have hft : Tm.sliceIn (W7.alloc (.cells #[.int .i64 3, .string ⟨#[97]⟩, .int .i64 0, .slice none 0 0, .int .i64 3, .string ⟨#[103]⟩, .int .i64 0, .slice (some ⟨W3.heap.size, 0, none⟩) 1 1] 27)) (W7.alloc (.cells #[.int .i64 3, .string ⟨#[97]⟩, .int .i64 0, .slice none 0 0, .int .i64 3, .string ⟨#[103]⟩, .int .i64 0, .slice (some ⟨W3.heap.size, 0, none⟩) 1 1] 27)).heap.size [exA, kGx] (.slice (some ⟨W7.heap.size, 0, none⟩) 2 2) := two_slice (a := exA) (b := kGx) (newBlk _ _ _ rfl) exA_in (lift_inn FH7.out hnx)
            obtain ⟨W8, hW8⟩ : ∃ W', (W7.alloc (.cells #[.int .i64 3, .string ⟨#[97]⟩, .int .i64 0, .slice none 0 0, .int .i64 3, .string ⟨#[103]⟩, .int .i64 0, .slice (some ⟨W3.heap.size, 0, none⟩) 1 1] 27)) = W' := ⟨_, rfl⟩
            have hny : Below W7.heap.size W7 W8 := by rw [← hW8]; exact hnx
            have FT8 := Lib.hid (show Tm.sliceIn W8 W8.heap.size [exA, kGx] (.slice (some ⟨W7.heap.size, 0, none⟩) 2 2) by rw [← hW8]; exact hft)
            simp only [hW8] at hHeld ⊢
            have HB8 := Lib.hid (HB7.out.trans (hny.mono HB7.out.size))
            have FL8 := Lib.hid (lift_inn FL7.out hny)
            have FC8 := Lib.hid (lift_inn FC7.out hny)
            have FH8 := Lib.hid (lift_inn FH7.out hny)
            clear hny hnx hft
            refine wpAnyH_ready (rs := [11]) (by kernel_rfl) (by simp) ?_
            refine AllReadyH.cons (o := _) rfl (fun K hK => ?_) (AllReadyH.nil)
            go_simp
            refine (ufun_any ⟨#[102]⟩ [exA, kGx] _ _ (by decide) FT8.out).mono ?_
            rintro e W9 ⟨⟨rfl, hin⟩, hnd⟩
            have hny : Below W8.heap.size W8 W9 := hnd
            have FR9 := Lib.hid (show Tm.inn W9 W9.heap.size kR _ from hin)
            have hS8 := Lib.hid (S8.nx (show S8 w.heap.size (.int .i64 1) (.string ⟨#[]⟩) (.int .i64 0) (.slice none 0 0) (.int .i64 1) (.string ⟨#[]⟩) (.int .i64 1) (.slice none 0 0) W8 from hHeld) hny)
            clear hin hnd hHeld
            go_wp2_with fail
            refine hK.out _ _ (hS8.out) (fun hHeld => ?_)
            clear hK K
            try simp only [Act.put, List.setIfInBounds_toArray, List.set_cons_zero, List.set_cons_succ, List.getElem_toArray, List.getElem_cons_zero, List.getElem_cons_succ]
            clear hS8
            have HB9 := Lib.hid (HB8.out.trans (hny.mono HB8.out.size))
            have FL9 := Lib.hid (lift_inn FL8.out hny)
            have FC9 := Lib.hid (lift_inn FC8.out hny)
            have FT9 := Lib.hid (lift_sl FT8.out hny)
            clear hny
            refine wpAnyH_ready (rs := [12]) (by kernel_rfl) (by simp) ?_
            refine AllReadyH.cons (o := _) rfl (fun K hK => ?_) (AllReadyH.nil)
            go_simp
            refine (mgu_any (V := [0, 1]) (by decide) k_right.1 k_right.2.1 (by decide) (by decide) FL9.out FR9.out).mono ?_
            rintro e W10 hpost
            obtain ⟨hnd, hpost⟩ := hpost
            have hny : Below W9.heap.size W9 W10 := hnd
            rcases hpost with ⟨l, sv, rfl, hbl, hm, hv⟩ | ⟨_, hno⟩
            rotate_left
            · exact absurd hno k_yes
            have hS8 := Lib.hid (S8.nx (show S8 w.heap.size (.int .i64 1) (.string ⟨#[]⟩) (.int .i64 0) (.slice none 0 0) (.int .i64 1) (.string ⟨#[]⟩) (.int .i64 1) (.slice none 0 0) W9 from hHeld) hny)
            have HU := Lib.hid (show UK1 w sv (.bool true) (.int .i64 0) W10 from ⟨HB9.out.trans (hny.mono HB9.out.size), hS8.out, rfl, rfl, l, hbl, hm, hv⟩)
            clear hnd hHeld hbl hm hv hny
            go_wp2_with fail
            refine hK.out _ _ (hS8.out) (fun hHeld => ?_)
            clear hK K
            try simp only [Act.put, List.setIfInBounds_toArray, List.set_cons_zero, List.set_cons_succ, List.getElem_toArray, List.getElem_cons_zero, List.getElem_cons_succ]
            refine wpAnyH_take (i := 13) (oi := _) (v := ?_) rfl (by kernel_rfl) (by kernel_rfl) (by kernel_rfl) (fun _ _ _ h => h) (Or.inl ⟨by rfl, ?_⟩) hHeld ?_
            rotate_left
            · (intro w hSw; obtain ⟨c0, c1, c2, c3, d0, d1, d2, d3⟩ := hSw; go_simp; try with_reducible rfl)
            try simp only [Act.put, List.setIfInBounds_toArray, List.set_cons_zero, List.set_cons_succ, List.getElem_toArray, List.getElem_cons_zero, List.getElem_cons_succ]
            refine wpAnyH_take (i := 14) (oi := _) (v := ?_) rfl (by kernel_rfl) (by kernel_rfl) (by kernel_rfl) (fun _ _ _ h => h) (Or.inl ⟨by rfl, ?_⟩) hHeld ?_
            rotate_left
            · (intro w hSw; obtain ⟨c0, c1, c2, c3, d0, d1, d2, d3⟩ := hSw; go_simp; try with_reducible rfl)
            try simp only [Act.put, List.setIfInBounds_toArray, List.set_cons_zero, List.set_cons_succ, List.getElem_toArray, List.getElem_cons_zero, List.getElem_cons_succ]
            refine wpAnyH_take (i := 15) (oi := _) (v := ?_) rfl (by kernel_rfl) (by kernel_rfl) (by kernel_rfl) (fun _ _ _ h => h) (Or.inl ⟨by rfl, ?_⟩) hHeld ?_
            rotate_left
            · (intro w hSw; obtain ⟨c0, c1, c2, c3, d0, d1, d2, d3⟩ := hSw; go_simp; try with_reducible rfl)
            try simp only [Act.put, List.setIfInBounds_toArray, List.set_cons_zero, List.set_cons_succ, List.getElem_toArray, List.getElem_cons_zero, List.getElem_cons_succ]
            refine wpAnyH_take (i := 16) (oi := _) (v := ?_) rfl (by kernel_rfl) (by kernel_rfl) (by kernel_rfl) (fun _ _ _ h => h) (Or.inl ⟨by rfl, ?_⟩) hHeld ?_
            rotate_left
            · (intro w hSw; obtain ⟨c0, c1, c2, c3, d0, d1, d2, d3⟩ := hSw; go_simp; try with_reducible rfl)
            try simp only [Act.put, List.setIfInBounds_toArray, List.set_cons_zero, List.set_cons_succ, List.getElem_toArray, List.getElem_cons_zero, List.getElem_cons_succ]
            refine wpAnyH_ready (rs := [17]) (by kernel_rfl) (by simp) ?_
            refine AllReadyH.cons (o := _) rfl (fun K hK => ?_) (AllReadyH.nil)
            go_simp
            refine hK.out _ _ (hHeld) (fun hHeld => ?_)
            clear hK K
            try simp only [Act.put, List.setIfInBounds_toArray, List.set_cons_zero, List.set_cons_succ, List.getElem_toArray, List.getElem_cons_zero, List.getElem_cons_succ]
            refine wpAnyH_ready (rs := [18]) (by kernel_rfl) (by simp) ?_
            refine AllReadyH.cons (o := _) rfl (fun K hK => ?_) (AllReadyH.nil)
            go_simp
            refine hK.out _ _ (hHeld) (fun hHeld => ?_)
            clear hK K
            try simp only [Act.put, List.setIfInBounds_toArray, List.set_cons_zero, List.set_cons_succ, List.getElem_toArray, List.getElem_cons_zero, List.getElem_cons_succ]
            refine wpAnyH_ready (rs := [19]) (by kernel_rfl) (by simp) ?_
            refine AllReadyH.cons (o := _) rfl (fun K hK => ?_) (AllReadyH.nil)
            go_simp
            refine hK.out _ _ (hHeld) (fun hHeld => ?_)
            clear hK K
            try simp only [Act.put, List.setIfInBounds_toArray, List.set_cons_zero, List.set_cons_succ, List.getElem_toArray, List.getElem_cons_zero, List.getElem_cons_succ]
            refine wpAnyH_done (by kernel_rfl) ?_ _
            go_wp2_with fail
            go_meet
            exact HU
        · skip
          go_simp
          refine hK.out _ _ (S8.alloc hHeld _) (fun hHeld => ?_)
          clear hK K
          try simp only [Act.put, List.setIfInBounds_toArray, List.set_cons_zero, List.set_cons_succ, List.getElem_toArray, List.getElem_cons_zero, List.getElem_cons_succ]
          have hnx : Below W2.heap.size W2 (W2.alloc (.cells #[.int .i64 1, .string ⟨#[]⟩, .int .i64 0, .slice none 0 0] 27)) := (Below.refl _ _).alloc (Nat.le_refl _) _
          have hft : Tm.sliceIn (W2.alloc (.cells #[.int .i64 1, .string ⟨#[]⟩, .int .i64 0, .slice none 0 0] 27)) (W2.alloc (.cells #[.int .i64 1, .string ⟨#[]⟩, .int .i64 0, .slice none 0 0] 27)).heap.size [kX] (.slice (some ⟨W2.heap.size, 0, none⟩) 1 1) := one_slice (t := kX) (newBlk _ _ _ rfl) (inn_leaf (by decide))
          obtain ⟨W3, hW3⟩ : ∃ W', (W2.alloc (.cells #[.int .i64 1, .string ⟨#[]⟩, .int .i64 0, .slice none 0 0] 27)) = W' := ⟨_, rfl⟩
          have hny : Below W2.heap.size W2 W3 := by rw [← hW3]; exact hnx
          have FB3 := Lib.hid (show Tm.sliceIn W3 W3.heap.size [kX] (.slice (some ⟨W2.heap.size, 0, none⟩) 1 1) by rw [← hW3]; exact hft)
          simp only [hW3] at hHeld ⊢
          have HB3 := Lib.hid (HB2.out.trans (hny.mono HB2.out.size))
          have FG3 := Lib.hid (lift_inn FG2.out hny)
          clear hny hnx hft
          refine wpAnyH_ready (rs := [4]) (by kernel_rfl) (by simp) ?_
          refine AllReadyH.cons (o := _) rfl (fun K hK => ?_) (AllReadyH.nil)
          go_simp
          refine hK.out _ _ (S8.alloc hHeld _) (fun hHeld => ?_)
          clear hK K
          try simp only [Act.put, List.setIfInBounds_toArray, List.set_cons_zero, List.set_cons_succ, List.getElem_toArray, List.getElem_cons_zero, List.getElem_cons_succ]
          have hnx : Below W3.heap.size W3 (W3.alloc (.cells #[.int .i64 1, .string ⟨#[]⟩, .int .i64 0, .slice none 0 0, .int .i64 3, .string ⟨#[103]⟩, .int .i64 0, .slice (some ⟨W0.heap.size, 0, none⟩) 1 1] 27)) := (Below.refl _ _).alloc (Nat.le_refl _) _
          have hft : Tm.sliceIn (W3.alloc (.cells #[.int .i64 1, .string ⟨#[]⟩, .int .i64 0, .slice none 0 0, .int .i64 3, .string ⟨#[103]⟩, .int .i64 0, .slice (some ⟨W0.heap.size, 0, none⟩) 1 1] 27)) (W3.alloc (.cells #[.int .i64 1, .string ⟨#[]⟩, .int .i64 0, .slice none 0 0, .int .i64 3, .string ⟨#[103]⟩, .int .i64 0, .slice (some ⟨W0.heap.size, 0, none⟩) 1 1] 27)).heap.size [kX, kGy] (.slice (some ⟨W3.heap.size, 0, none⟩) 2 2) := two_slice (a := kX) (b := kGy) (newBlk _ _ _ rfl) (inn_leaf (by decide)) (lift_inn FG3.out hnx)
          obtain ⟨W4, hW4⟩ : ∃ W', (W3.alloc (.cells #[.int .i64 1, .string ⟨#[]⟩, .int .i64 0, .slice none 0 0, .int .i64 3, .string ⟨#[103]⟩, .int .i64 0, .slice (some ⟨W0.heap.size, 0, none⟩) 1 1] 27)) = W' := ⟨_, rfl⟩
          have hny : Below W3.heap.size W3 W4 := by rw [← hW4]; exact hnx
          have FS4 := Lib.hid (show Tm.sliceIn W4 W4.heap.size [kX, kGy] (.slice (some ⟨W3.heap.size, 0, none⟩) 2 2) by rw [← hW4]; exact hft)
          simp only [hW4] at hHeld ⊢
          have HB4 := Lib.hid (HB3.out.trans (hny.mono HB3.out.size))
          have FG4 := Lib.hid (lift_inn FG3.out hny)
          have FB4 := Lib.hid (lift_sl FB3.out hny)
          clear hny hnx hft
          refine wpAnyH_ready (rs := [5]) (by kernel_rfl) (by simp) ?_
          refine AllReadyH.cons (o := _) rfl (fun K hK => ?_) (AllReadyH.nil)
          go_simp
          refine (ufun_any ⟨#[102]⟩ [kX, kGy] _ _ (by decide) FS4.out).mono ?_
          rintro e W5 ⟨⟨rfl, hin⟩, hnd⟩
          have hny : Below W4.heap.size W4 W5 := hnd
          have FL5 := Lib.hid (show Tm.inn W5 W5.heap.size kL _ from hin)
          have hS8 := Lib.hid (S8.nx (show S8 w.heap.size (.int .i64 1) (.string ⟨#[]⟩) (.int .i64 0) (.slice none 0 0) (.int .i64 1) (.string ⟨#[]⟩) (.int .i64 1) (.slice none 0 0) W4 from hHeld) hny)
          clear hin hnd hHeld
          go_wp2_with fail
          refine hK.out _ _ (hS8.out) (fun hHeld => ?_)
          clear hK K
          try simp only [Act.put, List.setIfInBounds_toArray, List.set_cons_zero, List.set_cons_succ, List.getElem_toArray, List.getElem_cons_zero, List.getElem_cons_succ]
          clear hS8
          have HB5 := Lib.hid (HB4.out.trans (hny.mono HB4.out.size))
          have FB5 := Lib.hid (lift_sl FB4.out hny)
          have FS5 := Lib.hid (lift_sl FS4.out hny)
          clear hny
          refine wpAnyH_ready (rs := [6]) (by kernel_rfl) (by simp) ?_
          refine AllReadyH.cons (o := _) rfl (fun K hK => ?_) (AllReadyH.nil)
          go_simp
          refine (ufun_any ⟨#[97]⟩ [] _ _ (by decide) nil_in).mono ?_
          rintro e W6 ⟨⟨rfl, hin⟩, hnd⟩
          have hny : Below W5.heap.size W5 W6 := hnd
          have FC6 := Lib.hid (show Tm.inn W6 W6.heap.size exA _ from hin)
          have hS8 := Lib.hid (S8.nx (show S8 w.heap.size (.int .i64 1) (.string ⟨#[]⟩) (.int .i64 0) (.slice none 0 0) (.int .i64 1) (.string ⟨#[]⟩) (.int .i64 1) (.slice none 0 0) W5 from hHeld) hny)
          clear hin hnd hHeld
          go_wp2_with fail
          refine hK.out _ _ (hS8.out) (fun hHeld => ?_)
          clear hK K
          try simp only [Act.put, List.setIfInBounds_toArray, List.set_cons_zero, List.set_cons_succ, List.getElem_toArray, List.getElem_cons_zero, List.getElem_cons_succ]
          clear hS8
          have HB6 := Lib.hid (HB5.out.trans (hny.mono HB5.out.size))
          have FB6 := Lib.hid (lift_sl FB5.out hny)
          have FL6 := Lib.hid (lift_inn FL5.out hny)
          clear hny
          refine wpAnyH_ready (rs := [9]) (by kernel_rfl) (by simp) ?_
          refine AllReadyH.cons (o := _) rfl (fun K hK => ?_) (AllReadyH.nil)
          go_simp
          refine (ufun_any ⟨#[103]⟩ [kX] _ _ (by decide) FB6.out).mono ?_
          rintro e W7 ⟨⟨rfl, hin⟩, hnd⟩
          have hny : Below W6.heap.size W6 W7 := hnd
          have FH7 := Lib.hid (show Tm.inn W7 W7.heap.size kGx _ from hin)
          have hS8 := Lib.hid (S8.nx (show S8 w.heap.size (.int .i64 1) (.string ⟨#[]⟩) (.int .i64 0) (.slice none 0 0) (.int .i64 1) (.string ⟨#[]⟩) (.int .i64 1) (.slice none 0 0) W6 from hHeld) hny)
          clear hin hnd hHeld
          go_wp2_with fail
          refine hK.out _ _ (hS8.out) (fun hHeld => ?_)
          clear hK K
          try simp only [Act.put, List.setIfInBounds_toArray, List.set_cons_zero, List.set_cons_succ, List.getElem_toArray, List.getElem_cons_zero, List.getElem_cons_succ]
          clear hS8
          have HB7 := Lib.hid (HB6.out.trans (hny.mono HB6.out.size))
          have FB7 := Lib.hid (lift_sl FB6.out hny)
          have FL7 := Lib.hid (lift_inn FL6.out hny)
          have FC7 := Lib.hid (lift_inn FC6.out hny)
          clear hny
          refine wpAnyH_ready (rs := [10]) (by kernel_rfl) (by simp) ?_
          refine AllReadyH.cons (o := _) rfl (fun K hK => ?_) (AllReadyH.nil)
          go_simp
          refine hK.out _ _ (S8.alloc hHeld _) (fun hHeld => ?_)
          clear hK K
          try simp only [Act.put, List.setIfInBounds_toArray, List.set_cons_zero, List.set_cons_succ, List.getElem_toArray, List.getElem_cons_zero, List.getElem_cons_succ]
          have hnx : Below W7.heap.size W7 (W7.alloc (.cells #[.int .i64 3, .string ⟨#[97]⟩, .int .i64 0, .slice none 0 0, .int .i64 3, .string ⟨#[103]⟩, .int .i64 0, .slice (some ⟨W2.heap.size, 0, none⟩) 1 1] 27)) := (Below.refl _ _).alloc (Nat.le_refl _) _
          have hft : Tm.sliceIn (W7.alloc (.cells #[.int .i64 3, .string ⟨#[97]⟩, .int .i64 0, .slice none 0 0, .int .i64 3, .string ⟨#[103]⟩, .int .i64 0, .slice (some ⟨W2.heap.size, 0, none⟩) 1 1] 27)) (W7.alloc (.cells #[.int .i64 3, .string ⟨#[97]⟩, .int .i64 0, .slice none 0 0, .int .i64 3, .string ⟨#[103]⟩, .int .i64 0, .slice (some ⟨W2.heap.size, 0, none⟩) 1 1] 27)).heap.size [exA, kGx] (.slice (some ⟨W7.heap.size, 0, none⟩) 2 2) := two_slice (a := exA) (b := kGx) (newBlk _ _ _ rfl) exA_in (lift_inn FH7.out hnx)
          obtain ⟨W8, hW8⟩ : ∃ W', (W7.alloc (.cells #[.int .i64 3, .string ⟨#[97]⟩, .int .i64 0, .slice none 0 0, .int .i64 3, .string ⟨#[103]⟩, .int .i64 0, .slice (some ⟨W2.heap.size, 0, none⟩) 1 1] 27)) = W' := ⟨_, rfl⟩
          have hny : Below W7.heap.size W7 W8 := by rw [← hW8]; exact hnx
          have FT8 := Lib.hid (show Tm.sliceIn W8 W8.heap.size [exA, kGx] (.slice (some ⟨W7.heap.size, 0, none⟩) 2 2) by rw [← hW8]; exact hft)
          simp only [hW8] at hHeld ⊢
          have HB8 := Lib.hid (HB7.out.trans (hny.mono HB7.out.size))
          have FL8 := Lib.hid (lift_inn FL7.out hny)
          have FC8 := Lib.hid (lift_inn FC7.out hny)
          have FH8 := Lib.hid (lift_inn FH7.out hny)
          clear hny hnx hft
          refine wpAnyH_ready (rs := [11]) (by kernel_rfl) (by simp) ?_
          refine AllReadyH.cons (o := _) rfl (fun K hK => ?_) (AllReadyH.nil)
          go_simp
          refine (ufun_any ⟨#[102]⟩ [exA, kGx] _ _ (by decide) FT8.out).mono ?_
          rintro e W9 ⟨⟨rfl, hin⟩, hnd⟩
          have hny : Below W8.heap.size W8 W9 := hnd
          have FR9 := Lib.hid (show Tm.inn W9 W9.heap.size kR _ from hin)
          have hS8 := Lib.hid (S8.nx (show S8 w.heap.size (.int .i64 1) (.string ⟨#[]⟩) (.int .i64 0) (.slice none 0 0) (.int .i64 1) (.string ⟨#[]⟩) (.int .i64 1) (.slice none 0 0) W8 from hHeld) hny)
          clear hin hnd hHeld
          go_wp2_with fail
          refine hK.out _ _ (hS8.out) (fun hHeld => ?_)
          clear hK K
          try simp only [Act.put, List.setIfInBounds_toArray, List.set_cons_zero, List.set_cons_succ, List.getElem_toArray, List.getElem_cons_zero, List.getElem_cons_succ]
          clear hS8
          have HB9 := Lib.hid (HB8.out.trans (hny.mono HB8.out.size))
          have FL9 := Lib.hid (lift_inn FL8.out hny)
          have FC9 := Lib.hid (lift_inn FC8.out hny)
          have FT9 := Lib.hid (lift_sl FT8.out hny)
          clear hny
          refine wpAnyH_ready (rs := [12]) (by kernel_rfl) (by simp) ?_
          refine AllReadyH.cons (o := _) rfl (fun K hK => ?_) (AllReadyH.nil)
          go_simp
          refine (mgu_any (V := [0, 1]) (by decide) k_right.1 k_right.2.1 (by decide) (by decide) FL9.out FR9.out).mono ?_
          rintro e W10 hpost
          obtain ⟨hnd, hpost⟩ := hpost
          have hny : Below W9.heap.size W9 W10 := hnd
          rcases hpost with ⟨l, sv, rfl, hbl, hm, hv⟩ | ⟨_, hno⟩
          rotate_left
          · exact absurd hno k_yes
          have hS8 := Lib.hid (S8.nx (show S8 w.heap.size (.int .i64 1) (.string ⟨#[]⟩) (.int .i64 0) (.slice none 0 0) (.int .i64 1) (.string ⟨#[]⟩) (.int .i64 1) (.slice none 0 0) W9 from hHeld) hny)
          have HU := Lib.hid (show UK1 w sv (.bool true) (.int .i64 0) W10 from ⟨HB9.out.trans (hny.mono HB9.out.size), hS8.out, rfl, rfl, l, hbl, hm, hv⟩)
          clear hnd hHeld hbl hm hv hny
          go_wp2_with fail
          refine hK.out _ _ (hS8.out) (fun hHeld => ?_)
          clear hK K
          try simp only [Act.put, List.setIfInBounds_toArray, List.set_cons_zero, List.set_cons_succ, List.getElem_toArray, List.getElem_cons_zero, List.getElem_cons_succ]
          refine wpAnyH_take (i := 13) (oi := _) (v := ?_) rfl (by kernel_rfl) (by kernel_rfl) (by kernel_rfl) (fun _ _ _ h => h) (Or.inl ⟨by rfl, ?_⟩) hHeld ?_
          rotate_left
          · (intro w hSw; obtain ⟨c0, c1, c2, c3, d0, d1, d2, d3⟩ := hSw; go_simp; try with_reducible rfl)
          try simp only [Act.put, List.setIfInBounds_toArray, List.set_cons_zero, List.set_cons_succ, List.getElem_toArray, List.getElem_cons_zero, List.getElem_cons_succ]
          refine wpAnyH_take (i := 14) (oi := _) (v := ?_) rfl (by kernel_rfl) (by kernel_rfl) (by kernel_rfl) (fun _ _ _ h => h) (Or.inl ⟨by rfl, ?_⟩) hHeld ?_
          rotate_left
          · (intro w hSw; obtain ⟨c0, c1, c2, c3, d0, d1, d2, d3⟩ := hSw; go_simp; try with_reducible rfl)
          try simp only [Act.put, List.setIfInBounds_toArray, List.set_cons_zero, List.set_cons_succ, List.getElem_toArray, List.getElem_cons_zero, List.getElem_cons_succ]
          refine wpAnyH_take (i := 15) (oi := _) (v := ?_) rfl (by kernel_rfl) (by kernel_rfl) (by kernel_rfl) (fun _ _ _ h => h) (Or.inl ⟨by rfl, ?_⟩) hHeld ?_
          rotate_left
          · (intro w hSw; obtain ⟨c0, c1, c2, c3, d0, d1, d2, d3⟩ := hSw; go_simp; try with_reducible rfl)
          try simp only [Act.put, List.setIfInBounds_toArray, List.set_cons_zero, List.set_cons_succ, List.getElem_toArray, List.getElem_cons_zero, List.getElem_cons_succ]
          refine wpAnyH_take (i := 16) (oi := _) (v := ?_) rfl (by kernel_rfl) (by kernel_rfl) (by kernel_rfl) (fun _ _ _ h => h) (Or.inl ⟨by rfl, ?_⟩) hHeld ?_
          rotate_left
          · (intro w hSw; obtain ⟨c0, c1, c2, c3, d0, d1, d2, d3⟩ := hSw; go_simp; try with_reducible rfl)
          try simp only [Act.put, List.setIfInBounds_toArray, List.set_cons_zero, List.set_cons_succ, List.getElem_toArray, List.getElem_cons_zero, List.getElem_cons_succ]
          refine wpAnyH_ready (rs := [17]) (by kernel_rfl) (by simp) ?_
          refine AllReadyH.cons (o := _) rfl (fun K hK => ?_) (AllReadyH.nil)
          go_simp
          refine hK.out _ _ (hHeld) (fun hHeld => ?_)
          clear hK K
          try simp only [Act.put, List.setIfInBounds_toArray, List.set_cons_zero, List.set_cons_succ, List.getElem_toArray, List.getElem_cons_zero, List.getElem_cons_succ]
          refine wpAnyH_ready (rs := [18]) (by kernel_rfl) (by simp) ?_
          refine AllReadyH.cons (o := _) rfl (fun K hK => ?_) (AllReadyH.nil)
          go_simp
          refine hK.out _ _ (hHeld) (fun hHeld => ?_)
          clear hK K
          try simp only [Act.put, List.setIfInBounds_toArray, List.set_cons_zero, List.set_cons_succ, List.getElem_toArray, List.getElem_cons_zero, List.getElem_cons_succ]
          refine wpAnyH_ready (rs := [19]) (by kernel_rfl) (by simp) ?_
          refine AllReadyH.cons (o := _) rfl (fun K hK => ?_) (AllReadyH.nil)
          go_simp
          refine hK.out _ _ (hHeld) (fun hHeld => ?_)
          clear hK K
          try simp only [Act.put, List.setIfInBounds_toArray, List.set_cons_zero, List.set_cons_succ, List.getElem_toArray, List.getElem_cons_zero, List.getElem_cons_succ]
          refine wpAnyH_done (by kernel_rfl) ?_ _
          go_wp2_with fail
          go_meet
          exact HU
      · skip
        go_simp
        refine hK.out _ _ (S8.alloc hHeld _) (fun hHeld => ?_)
        clear hK K
        try simp only [Act.put, List.setIfInBounds_toArray, List.set_cons_zero, List.set_cons_succ, List.getElem_toArray, List.getElem_cons_zero, List.getElem_cons_succ]
        have hnx : Below W1.heap.size W1 (W1.alloc (.cells #[.int .i64 1, .string ⟨#[]⟩, .int .i64 0, .slice none 0 0] 27)) := (Below.refl _ _).alloc (Nat.le_refl _) _
        have hft : Tm.sliceIn (W1.alloc (.cells #[.int .i64 1, .string ⟨#[]⟩, .int .i64 0, .slice none 0 0] 27)) (W1.alloc (.cells #[.int .i64 1, .string ⟨#[]⟩, .int .i64 0, .slice none 0 0] 27)).heap.size [kX] (.slice (some ⟨W1.heap.size, 0, none⟩) 1 1) := one_slice (t := kX) (newBlk _ _ _ rfl) (inn_leaf (by decide))
        obtain ⟨W2, hW2⟩ : ∃ W', (W1.alloc (.cells #[.int .i64 1, .string ⟨#[]⟩, .int .i64 0, .slice none 0 0] 27)) = W' := ⟨_, rfl⟩
        have hny : Below W1.heap.size W1 W2 := by rw [← hW2]; exact hnx
        have FB2 := Lib.hid (show Tm.sliceIn W2 W2.heap.size [kX] (.slice (some ⟨W1.heap.size, 0, none⟩) 1 1) by rw [← hW2]; exact hft)
        simp only [hW2] at hHeld ⊢
        have HB2 := Lib.hid (HB1.out.trans (hny.mono HB1.out.size))
        have FA2 := Lib.hid (lift_sl FA1.out hny)
        clear hny hnx hft
        refine wpAnyH_ready (rs := [3]) (by kernel_rfl) (by simp) ?_
        refine AllReadyH.cons (o := _) rfl (fun K hK => ?_) (AllReadyH.nil)
        go_simp
        refine (ufun_any ⟨#[103]⟩ [kY] _ _ (by decide) FA2.out).mono ?_
        rintro e W3 ⟨⟨rfl, hin⟩, hnd⟩
        have hny : Below W2.heap.size W2 W3 := hnd
        have FG3 := Lib.hid (show Tm.inn W3 W3.heap.size kGy _ from hin)
        have hS8 := Lib.hid (S8.nx (show S8 w.heap.size (.int .i64 1) (.string ⟨#[]⟩) (.int .i64 0) (.slice none 0 0) (.int .i64 1) (.string ⟨#[]⟩) (.int .i64 1) (.slice none 0 0) W2 from hHeld) hny)
        clear hin hnd hHeld
        go_wp2_with fail
        refine hK.out _ _ (hS8.out) (fun hHeld => ?_)
        clear hK K
        try simp only [Act.put, List.setIfInBounds_toArray, List.set_cons_zero, List.set_cons_succ, List.getElem_toArray, List.getElem_cons_zero, List.getElem_cons_succ]
        clear hS8
        have HB3 := Lib.hid (HB2.out.trans (hny.mono HB2.out.size))
        have FA3 := Lib.hid (lift_sl FA2.out hny)
        have FB3 := Lib.hid (lift_sl FB2.out hny)
        clear hny
        refine wpAnyH_ready (rs := [4]) (by kernel_rfl) (by simp) ?_
        refine AllReadyH.cons (o := _) rfl (fun K hK => ?_) (AllReadyH.nil)
        go_simp
        refine hK.out _ _ (S8.alloc hHeld _) (fun hHeld => ?_)
        clear hK K
        try simp only [Act.put, List.setIfInBounds_toArray, List.set_cons_zero, List.set_cons_succ, List.getElem_toArray, List.getElem_cons_zero, List.getElem_cons_succ]
        have hnx : Below W3.heap.size W3 (W3.alloc (.cells #[.int .i64 1, .string ⟨#[]⟩, .int .i64 0, .slice none 0 0, .int .i64 3, .string ⟨#[103]⟩, .int .i64 0, .slice (some ⟨W0.heap.size, 0, none⟩) 1 1] 27)) := (Below.refl _ _).alloc (Nat.le_refl _) _
        have hft : Tm.sliceIn (W3.alloc (.cells #[.int .i64 1, .string ⟨#[]⟩, .int .i64 0, .slice none 0 0, .int .i64 3, .string ⟨#[103]⟩, .int .i64 0, .slice (some ⟨W0.heap.size, 0, none⟩) 1 1] 27)) (W3.alloc (.cells #[.int .i64 1, .string ⟨#[]⟩, .int .i64 0, .slice none 0 0, .int .i64 3, .string ⟨#[103]⟩, .int .i64 0, .slice (some ⟨W0.heap.size, 0, none⟩) 1 1] 27)).heap.size [kX, kGy] (.slice (some ⟨W3.heap.size, 0, none⟩) 2 2) := two_slice (a := kX) (b := kGy) (newBlk _ _ _ rfl) (inn_leaf (by decide)) (lift_inn FG3.out hnx)
        obtain ⟨W4, hW4⟩ : ∃ W', (W3.alloc (.cells #[.int .i64 1, .string ⟨#[]⟩, .int .i64 0, .slice none 0 0, .int .i64 3, .string ⟨#[103]⟩, .int .i64 0, .slice (some ⟨W0.heap.size, 0, none⟩) 1 1] 27)) = W' := ⟨_, rfl⟩
        have hny : Below W3.heap.size W3 W4 := by rw [← hW4]; exact hnx
        have FS4 := Lib.hid (show Tm.sliceIn W4 W4.heap.size [kX, kGy] (.slice (some ⟨W3.heap.size, 0, none⟩) 2 2) by rw [← hW4]; exact hft)
        simp only [hW4] at hHeld ⊢
        have HB4 := Lib.hid (HB3.out.trans (hny.mono HB3.out.size))
        have FB4 := Lib.hid (lift_sl FB3.out hny)
        have FG4 := Lib.hid (lift_inn FG3.out hny)
        clear hny hnx hft
        refine wpAnyH_ready (rs := [5]) (by kernel_rfl) (by simp) ?_
        refine AllReadyH.cons (o := _) rfl (fun K hK => ?_) (AllReadyH.nil)
        go_simp
        refine (ufun_any ⟨#[102]⟩ [kX, kGy] _ _ (by decide) FS4.out).mono ?_
        rintro e W5 ⟨⟨rfl, hin⟩, hnd⟩
        have hny : Below W4.heap.size W4 W5 := hnd
        have FL5 := Lib.hid (show Tm.inn W5 W5.heap.size kL _ from hin)
        have hS8 := Lib.hid (S8.nx (show S8 w.heap.size (.int .i64 1) (.string ⟨#[]⟩) (.int .i64 0) (.slice none 0 0) (.int .i64 1) (.string ⟨#[]⟩) (.int .i64 1) (.slice none 0 0) W4 from hHeld) hny)
        clear hin hnd hHeld
        go_wp2_with fail
        refine hK.out _ _ (hS8.out) (fun hHeld => ?_)
        clear hK K
        try simp only [Act.put, List.setIfInBounds_toArray, List.set_cons_zero, List.set_cons_succ, List.getElem_toArray, List.getElem_cons_zero, List.getElem_cons_succ]
        clear hS8
        have HB5 := Lib.hid (HB4.out.trans (hny.mono HB4.out.size))
        have FB5 := Lib.hid (lift_sl FB4.out hny)
        have FS5 := Lib.hid (lift_sl FS4.out hny)
        clear hny
        refine wpAnyH_ready (rs := [6]) (by kernel_rfl) (by simp) ?_
        refine AllReadyH.cons (o := _) rfl (fun K hK => ?_) (AllReadyH.nil)
        go_simp
        refine (ufun_any ⟨#[97]⟩ [] _ _ (by decide) nil_in).mono ?_
        rintro e W6 ⟨⟨rfl, hin⟩, hnd⟩
        have hny : Below W5.heap.size W5 W6 := hnd
        have FC6 := Lib.hid (show Tm.inn W6 W6.heap.size exA _ from hin)
        have hS8 := Lib.hid (S8.nx (show S8 w.heap.size (.int .i64 1) (.string ⟨#[]⟩) (.int .i64 0) (.slice none 0 0) (.int .i64 1) (.string ⟨#[]⟩) (.int .i64 1) (.slice none 0 0) W5 from hHeld) hny)
        clear hin hnd hHeld
        go_wp2_with fail
        refine hK.out _ _ (hS8.out) (fun hHeld => ?_)
        clear hK K
        try simp only [Act.put, List.setIfInBounds_toArray, List.set_cons_zero, List.set_cons_succ, List.getElem_toArray, List.getElem_cons_zero, List.getElem_cons_succ]
        clear hS8
        have HB6 := Lib.hid (HB5.out.trans (hny.mono HB5.out.size))
        have FB6 := Lib.hid (lift_sl FB5.out hny)
        have FL6 := Lib.hid (lift_inn FL5.out hny)
        clear hny
        refine wpAnyH_ready (rs := [9]) (by kernel_rfl) (by simp) ?_
        refine AllReadyH.cons (o := _) rfl (fun K hK => ?_) (AllReadyH.nil)
        go_simp
        refine (ufun_any ⟨#[103]⟩ [kX] _ _ (by decide) FB6.out).mono ?_
        rintro e W7 ⟨⟨rfl, hin⟩, hnd⟩
        have hny : Below W6.heap.size W6 W7 := hnd
        have FH7 := Lib.hid (show Tm.inn W7 W7.heap.size kGx _ from hin)
        have hS8 := Lib.hid (S8.nx (show S8 w.heap.size (.int .i64 1) (.string ⟨#[]⟩) (.int .i64 0) (.slice none 0 0) (.int .i64 1) (.string ⟨#[]⟩) (.int .i64 1) (.slice none 0 0) W6 from hHeld) hny)
        clear hin hnd hHeld
        go_wp2_with fail
        refine hK.out _ _ (hS8.out) (fun hHeld => ?_)
        clear hK K
        try simp only [Act.put, List.setIfInBounds_toArray, List.set_cons_zero, List.set_cons_succ, List.getElem_toArray, List.getElem_cons_zero, List.getElem_cons_succ]
        clear hS8
        have HB7 := Lib.hid (HB6.out.trans (hny.mono HB6.out.size))
        have FB7 := Lib.hid (lift_sl FB6.out hny)
        have FL7 := Lib.hid (lift_inn FL6.out hny)
        have FC7 := Lib.hid (lift_inn FC6.out hny)
        clear hny
        refine wpAnyH_ready (rs := [10]) (by kernel_rfl) (by simp) ?_
        refine AllReadyH.cons (o := _) rfl (fun K hK => ?_) (AllReadyH.nil)
        go_simp
        refine hK.out _ _ (S8.alloc hHeld _) (fun hHeld => ?_)
        clear hK K
        try simp only [Act.put, List.setIfInBounds_toArray, List.set_cons_zero, List.set_cons_succ, List.getElem_toArray, List.getElem_cons_zero, List.getElem_cons_succ]
        have hnx : Below W7.heap.size W7 (W7.alloc (.cells #[.int .i64 3, .string ⟨#[97]⟩, .int .i64 0, .slice none 0 0, .int .i64 3, .string ⟨#[103]⟩, .int .i64 0, .slice (some ⟨W1.heap.size, 0, none⟩) 1 1] 27)) := (Below.refl _ _).alloc (Nat.le_refl _) _
        have hft : Tm.sliceIn (W7.alloc (.cells #[.int .i64 3, .string ⟨#[97]⟩, .int .i64 0, .slice none 0 0, .int .i64 3, .string ⟨#[103]⟩, .int .i64 0, .slice (some ⟨W1.heap.size, 0, none⟩) 1 1] 27)) (W7.alloc (.cells #[.int .i64 3, .string ⟨#[97]⟩, .int .i64 0, .slice none 0 0, .int .i64 3, .string ⟨#[103]⟩, .int .i64 0, .slice (some ⟨W1.heap.size, 0, none⟩) 1 1] 27)).heap.size [exA, kGx] (.slice (some ⟨W7.heap.size, 0, none⟩) 2 2) := two_slice (a := exA) (b := kGx) (newBlk _ _ _ rfl) exA_in (lift_inn FH7.out hnx)
        obtain ⟨W8, hW8⟩ : ∃ W', (W7.alloc (.cells #[.int .i64 3, .string ⟨#[97]⟩, .int .i64 0, .slice none 0 0, .int .i64 3, .string ⟨#[103]⟩, .int .i64 0, .slice (some ⟨W1.heap.size, 0, none⟩) 1 1] 27)) = W' := ⟨_, rfl⟩
        have hny : Below W7.heap.size W7 W8 := by rw [← hW8]; exact hnx
        have FT8 := Lib.hid (show Tm.sliceIn W8 W8.heap.size [exA, kGx] (.slice (some ⟨W7.heap.size, 0, none⟩) 2 2) by rw [← hW8]; exact hft)
        simp only [hW8] at hHeld ⊢
        have HB8 := Lib.hid (HB7.out.trans (hny.mono HB7.out.size))
        have FL8 := Lib.hid (lift_inn FL7.out hny)
        have FC8 := Lib.hid (lift_inn FC7.out hny)
        have FH8 := Lib.hid (lift_inn FH7.out hny)
        clear hny hnx hft
        refine wpAnyH_ready (rs := [11]) (by kernel_rfl) (by simp) ?_
        refine AllReadyH.cons (o := _) rfl (fun K hK => ?_) (AllReadyH.nil)
        go_simp
        refine (ufun_any ⟨#[102]⟩ [exA, kGx] _ _ (by decide) FT8.out).mono ?_
        rintro e W9 ⟨⟨rfl, hin⟩, hnd⟩
        have hny : Below W8.heap.size W8 W9 := hnd
        have FR9 := Lib.hid (show Tm.inn W9 W9.heap.size kR _ from hin)
        have hS8 := Lib.hid (S8.nx (show S8 w.heap.size (.int .i64 1) (.string ⟨#[]⟩) (.int .i64 0) (.slice none 0 0) (.int .i64 1) (.string ⟨#[]⟩) (.int .i64 1) (.slice none 0 0) W8 from hHeld) hny)
        clear hin hnd hHeld
        go_wp2_with fail
        refine hK.out _ _ (hS8.out) (fun hHeld => ?_)
        clear hK K
        try simp only [Act.put, List.setIfInBounds_toArray, List.set_cons_zero, List.set_cons_succ, List.getElem_toArray, List.getElem_cons_zero, List.getElem_cons_succ]
        clear hS8
        have HB9 := Lib.hid (HB8.out.trans (hny.mono HB8.out.size))
        have FL9 := Lib.hid (lift_inn FL8.out hny)
        have FC9 := Lib.hid (lift_inn FC8.out hny)
        have FT9 := Lib.hid (lift_sl FT8.out hny)
        clear hny
        refine wpAnyH_ready (rs := [12]) (by kernel_rfl) (by simp) ?_
        refine AllReadyH.cons (o := _) rfl (fun K hK => ?_) (AllReadyH.nil)
        go_simp
        refine (mgu_any (V := [0, 1]) (by decide) k_right.1 k_right.2.1 (by decide) (by decide) FL9.out FR9.out).mono ?_
        rintro e W10 hpost
        obtain ⟨hnd, hpost⟩ := hpost
        have hny : Below W9.heap.size W9 W10 := hnd
        rcases hpost with ⟨l, sv, rfl, hbl, hm, hv⟩ | ⟨_, hno⟩
        rotate_left
        · exact absurd hno k_yes
        have hS8 := Lib.hid (S8.nx (show S8 w.heap.size (.int .i64 1) (.string ⟨#[]⟩) (.int .i64 0) (.slice none 0 0) (.int .i64 1) (.string ⟨#[]⟩) (.int .i64 1) (.slice none 0 0) W9 from hHeld) hny)
        have HU := Lib.hid (show UK1 w sv (.bool true) (.int .i64 0) W10 from ⟨HB9.out.trans (hny.mono HB9.out.size), hS8.out, rfl, rfl, l, hbl, hm, hv⟩)
        clear hnd hHeld hbl hm hv hny
        go_wp2_with fail
        refine hK.out _ _ (hS8.out) (fun hHeld => ?_)
        clear hK K
        try simp only [Act.put, List.setIfInBounds_toArray, List.set_cons_zero, List.set_cons_succ, List.getElem_toArray, List.getElem_cons_zero, List.getElem_cons_succ]
        refine wpAnyH_take (i := 13) (oi := _) (v := ?_) rfl (by kernel_rfl) (by kernel_rfl) (by kernel_rfl) (fun _ _ _ h => h) (Or.inl ⟨by rfl, ?_⟩) hHeld ?_
        rotate_left
        · (intro w hSw; obtain ⟨c0, c1, c2, c3, d0, d1, d2, d3⟩ := hSw; go_simp; try with_reducible rfl)
        try simp only [Act.put, List.setIfInBounds_toArray, List.set_cons_zero, List.set_cons_succ, List.getElem_toArray, List.getElem_cons_zero, List.getElem_cons_succ]
        refine wpAnyH_take (i := 14) (oi := _) (v := ?_) rfl (by kernel_rfl) (by kernel_rfl) (by kernel_rfl) (fun _ _ _ h => h) (Or.inl ⟨by rfl, ?_⟩) hHeld ?_
        rotate_left
        · (intro w hSw; obtain ⟨c0, c1, c2, c3, d0, d1, d2, d3⟩ := hSw; go_simp; try with_reducible rfl)
        try simp only [Act.put, List.setIfInBounds_toArray, List.set_cons_zero, List.set_cons_succ, List.getElem_toArray, List.getElem_cons_zero, List.getElem_cons_succ]
        refine wpAnyH_take (i := 15) (oi := _) (v := ?_) rfl (by kernel_rfl) (by kernel_rfl) (by kernel_rfl) (fun _ _ _ h => h) (Or.inl ⟨by rfl, ?_⟩) hHeld ?_
        rotate_left
        · (intro w hSw; obtain ⟨c0, c1, c2, c3, d0, d1, d2, d3⟩ := hSw; go_simp; try with_reducible rfl)
        try simp only [Act.put, List.setIfInBounds_toArray, List.set_cons_zero, List.set_cons_succ, List.getElem_toArray, List.getElem_cons_zero, List.getElem_cons_succ]
        refine wpAnyH_take (i := 16) (oi := _) (v := ?_) rfl (by kernel_rfl) (by kernel_rfl) (by kernel_rfl) (fun _ _ _ h => h) (Or.inl ⟨by rfl, ?_⟩) hHeld ?_
        rotate_left
        · (intro w hSw; obtain ⟨c0, c1, c2, c3, d0, d1, d2, d3⟩ := hSw; go_simp; try with_reducible rfl)
        try simp only [Act.put, List.setIfInBounds_toArray, List.set_cons_zero, List.set_cons_succ, List.getElem_toArray, List.getElem_cons_zero, List.getElem_cons_succ]
        refine wpAnyH_ready (rs := [17]) (by kernel_rfl) (by simp) ?_
        refine AllReadyH.cons (o := _) rfl (fun K hK => ?_) (AllReadyH.nil)
        go_simp
        refine hK.out _ _ (hHeld) (fun hHeld => ?_)
        clear hK K
        try simp only [Act.put, List.setIfInBounds_toArray, List.set_cons_zero, List.set_cons_succ, List.getElem_toArray, List.getElem_cons_zero, List.getElem_cons_succ]
        refine wpAnyH_ready (rs := [18]) (by kernel_rfl) (by simp) ?_
        refine AllReadyH.cons (o := _) rfl (fun K hK => ?_) (AllReadyH.nil)
        go_simp
        refine hK.out _ _ (hHeld) (fun hHeld => ?_)
        clear hK K
        try simp only [Act.put, List.setIfInBounds_toArray, List.set_cons_zero, List.set_cons_succ, List.getElem_toArray, List.getElem_cons_zero, List.getElem_cons_succ]
        refine wpAnyH_ready (rs := [19]) (by kernel_rfl) (by simp) ?_
        refine AllReadyH.cons (o := _) rfl (fun K hK => ?_) (AllReadyH.nil)
        go_simp
        refine hK.out _ _ (hHeld) (fun hHeld => ?_)
        clear hK K
        try simp only [Act.put, List.setIfInBounds_toArray, List.set_cons_zero, List.set_cons_succ, List.getElem_toArray, List.getElem_cons_zero, List.getElem_cons_succ]
        refine wpAnyH_done (by kernel_rfl) ?_ _
        go_wp2_with fail
        go_meet
        exact HU
    · skip
      go_simp
      refine hK.out _ _ (S8.alloc hHeld _) (fun hHeld => ?_)
      clear hK K
      try simp only [Act.put, List.setIfInBounds_toArray, List.set_cons_zero, List.set_cons_succ, List.getElem_toArray, List.getElem_cons_zero, List.getElem_cons_succ]
      have hnx : Below W0.heap.size W0 (W0.alloc (.cells #[.int .i64 1, .string ⟨#[]⟩, .int .i64 0, .slice none 0 0] 27)) := (Below.refl _ _).alloc (Nat.le_refl _) _
      have hft : Tm.sliceIn (W0.alloc (.cells #[.int .i64 1, .string ⟨#[]⟩, .int .i64 0, .slice none 0 0] 27)) (W0.alloc (.cells #[.int .i64 1, .string ⟨#[]⟩, .int .i64 0, .slice none 0 0] 27)).heap.size [kX] (.slice (some ⟨W0.heap.size, 0, none⟩) 1 1) := one_slice (t := kX) (newBlk _ _ _ rfl) (inn_leaf (by decide))
      obtain ⟨W1, hW1⟩ : ∃ W', (W0.alloc (.cells #[.int .i64 1, .string ⟨#[]⟩, .int .i64 0, .slice none 0 0] 27)).drew = W' := ⟨_, rfl⟩
      have hny : Below W0.heap.size W0 W1 := by rw [← hW1]; exact hnx.drew
      have FB1 := Lib.hid (show Tm.sliceIn W1 W1.heap.size [kX] (.slice (some ⟨W0.heap.size, 0, none⟩) 1 1) by rw [← hW1]; exact hft)
      simp only [hW1] at hHeld ⊢
      have HB1 := Lib.hid (HB0.out.trans (hny.mono HB0.out.size))
      clear hny hnx hft
      refine wpAnyH_ready (rs := [2]) (by kernel_rfl) (by simp) ?_
      refine AllReadyH.cons (o := _) rfl (fun K hK => ?_) (AllReadyH.nil)
      go_simp
      refine hK.out _ _ (S8.alloc hHeld _) (fun hHeld => ?_)
      clear hK K
      try simp only [Act.put, List.setIfInBounds_toArray, List.set_cons_zero, List.set_cons_succ, List.getElem_toArray, List.getElem_cons_zero, List.getElem_cons_succ]
      have hnx : Below W1.heap.size W1 (W1.alloc (.cells #[.int .i64 1, .string ⟨#[]⟩, .int .i64 1, .slice none 0 0] 27)) := (Below.refl _ _).alloc (Nat.le_refl _) _
      have hft : Tm.sliceIn (W1.alloc (.cells #[.int .i64 1, .string ⟨#[]⟩, .int .i64 1, .slice none 0 0] 27)) (W1.alloc (.cells #[.int .i64 1, .string ⟨#[]⟩, .int .i64 1, .slice none 0 0] 27)).heap.size [kY] (.slice (some ⟨W1.heap.size, 0, none⟩) 1 1) := one_slice (t := kY) (newBlk _ _ _ rfl) (inn_leaf (by decide))
      obtain ⟨W2, hW2⟩ : ∃ W', (W1.alloc (.cells #[.int .i64 1, .string ⟨#[]⟩, .int .i64 1, .slice none 0 0] 27)) = W' := ⟨_, rfl⟩
      have hny : Below W1.heap.size W1 W2 := by rw [← hW2]; exact hnx
      have FA2 := Lib.hid (show Tm.sliceIn W2 W2.heap.size [kY] (.slice (some ⟨W1.heap.size, 0, none⟩) 1 1) by rw [← hW2]; exact hft)
      simp only [hW2] at hHeld ⊢
      have HB2 := Lib.hid (HB1.out.trans (hny.mono HB1.out.size))
      have FB2 := Lib.hid (lift_sl FB1.out hny)
      clear hny hnx hft
      refine wpAnyH_ready (rs := [3]) (by kernel_rfl) (by simp) ?_
      refine AllReadyH.cons (o := _) rfl (fun K hK => ?_) (AllReadyH.nil)
      go_simp
      refine (ufun_any ⟨#[103]⟩ [kY] _ _ (by decide) FA2.out).mono ?_
      rintro e W3 ⟨⟨rfl, hin⟩, hnd⟩
      have hny : Below W2.heap.size W2 W3 := hnd
      have FG3 := Lib.hid (show Tm.inn W3 W3.heap.size kGy _ from hin)
      have hS8 := Lib.hid (S8.nx (show S8 w.heap.size (.int .i64 1) (.string ⟨#[]⟩) (.int .i64 0) (.slice none 0 0) (.int .i64 1) (.string ⟨#[]⟩) (.int .i64 1) (.slice none 0 0) W2 from hHeld) hny)
      clear hin hnd hHeld
      go_wp2_with fail
      refine hK.out _ _ (hS8.out) (fun hHeld => ?_)
      clear hK K
      try simp only [Act.put, List.setIfInBounds_toArray, List.set_cons_zero, List.set_cons_succ, List.getElem_toArray, List.getElem_cons_zero, List.getElem_cons_succ]
      clear hS8
      have HB3 := Lib.hid (HB2.out.trans (hny.mono HB2.out.size))
      have FB3 := Lib.hid (lift_sl FB2.out hny)
      have FA3 := Lib.hid (lift_sl FA2.out hny)
      clear hny
      refine wpAnyH_ready (rs := [4]) (by kernel_rfl) (by simp) ?_
      refine AllReadyH.cons (o := _) rfl (fun K hK => ?_) (AllReadyH.nil)
      go_simp
      refine hK.out _ _ (S8.alloc hHeld _) (fun hHeld => ?_)
      clear hK K
      try simp only [Act.put, List.setIfInBounds_toArray, List.set_cons_zero, List.set_cons_succ, List.getElem_toArray, List.getElem_cons_zero, List.getElem_cons_succ]
      have hnx : Below W3.heap.size W3 (W3.alloc (.cells #[.int .i64 1, .string ⟨#[]⟩, .int .i64 0, .slice none 0 0, .int .i64 3, .string ⟨#[103]⟩, .int .i64 0, .slice (some ⟨W1.heap.size, 0, none⟩) 1 1] 27)) := (Below.refl _ _).alloc (Nat.le_refl _) _
      have hft : Tm.sliceIn (W3.alloc (.cells #[.int .i64 1, .string ⟨#[]⟩, .int .i64 0, .slice none 0 0, .int .i64 3, .string ⟨#[103]⟩, .int .i64 0, .slice (some ⟨W1.heap.size, 0, none⟩) 1 1] 27)) (W3.alloc (.cells #[.int .i64 1, .string ⟨#[]⟩, .int .i64 0, .slice none 0 0, .int .i64 3, .string ⟨#[103]⟩, .int .i64 0, .slice (some ⟨W1.heap.size, 0, none⟩) 1 1] 27)).heap.size [kX, kGy] (.slice (some ⟨W3.heap.size, 0, none⟩) 2 2) := two_slice (a := kX) (b := kGy) (newBlk _ _ _ rfl) (inn_leaf (by decide)) (lift_inn FG3.out hnx)
      obtain ⟨W4, hW4⟩ : ∃ W', (W3.alloc (.cells #[.int .i64 1, .string ⟨#[]⟩, .int .i64 0, .slice none 0 0, .int .i64 3, .string ⟨#[103]⟩, .int .i64 0, .slice (some ⟨W1.heap.size, 0, none⟩) 1 1] 27)) = W' := ⟨_, rfl⟩
      have hny : Below W3.heap.size W3 W4 := by rw [← hW4]; exact hnx
      have FS4 := Lib.hid (show Tm.sliceIn W4 W4.heap.size [kX, kGy] (.slice (some ⟨W3.heap.size, 0, none⟩) 2 2) by rw [← hW4]; exact hft)
      simp only [hW4] at hHeld ⊢
      have HB4 := Lib.hid (HB3.out.trans (hny.mono HB3.out.size))
      have FB4 := Lib.hid (lift_sl FB3.out hny)
      have FG4 := Lib.hid (lift_inn FG3.out hny)
      clear hny hnx hft
      refine wpAnyH_ready (rs := [5]) (by kernel_rfl) (by simp) ?_
      refine AllReadyH.cons (o := _) rfl (fun K hK => ?_) (AllReadyH.nil)
      go_simp
      refine (ufun_any ⟨#[102]⟩ [kX, kGy] _ _ (by decide) FS4.out).mono ?_
      rintro e W5 ⟨⟨rfl, hin⟩, hnd⟩
      have hny : Below W4.heap.size W4 W5 := hnd
      have FL5 := Lib.hid (show Tm.inn W5 W5.heap.size kL _ from hin)
      have hS8 := Lib.hid (S8.nx (show S8 w.heap.size (.int .i64 1) (.string ⟨#[]⟩) (.int .i64 0) (.slice none 0 0) (.int .i64 1) (.string ⟨#[]⟩) (.int .i64 1) (.slice none 0 0) W4 from hHeld) hny)
      clear hin hnd hHeld
      go_wp2_with fail
      refine hK.out _ _ (hS8.out) (fun hHeld => ?_)
      clear hK K
      try simp only [Act.put, List.setIfInBounds_toArray, List.set_cons_zero, List.set_cons_succ, List.getElem_toArray, List.getElem_cons_zero, List.getElem_cons_succ]
      clear hS8
      have HB5 := Lib.hid (HB4.out.trans (hny.mono HB4.out.size))
      have FB5 := Lib.hid (lift_sl FB4.out hny)
      have FS5 := Lib.hid (lift_sl FS4.out hny)
      clear hny
      refine wpAnyH_ready (rs := [6]) (by kernel_rfl) (by simp) ?_
      refine AllReadyH.cons (o := _) rfl (fun K hK => ?_) (AllReadyH.nil)
      go_simp
      refine (ufun_any ⟨#[97]⟩ [] _ _ (by decide) nil_in).mono ?_
      rintro e W6 ⟨⟨rfl, hin⟩, hnd⟩
      have hny : Below W5.heap.size W5 W6 := hnd
      have FC6 := Lib.hid (show Tm.inn W6 W6.heap.size exA _ from hin)
      have hS8 := Lib.hid (S8.nx (show S8 w.heap.size (.int .i64 1) (.string ⟨#[]⟩) (.int .i64 0) (.slice none 0 0) (.int .i64 1) (.string ⟨#[]⟩) (.int .i64 1) (.slice none 0 0) W5 from hHeld) hny)
      clear hin hnd hHeld
      go_wp2_with fail
      refine hK.out _ _ (hS8.out) (fun hHeld => ?_)
      clear hK K
      try simp only [Act.put, List.setIfInBounds_toArray, List.set_cons_zero, List.set_cons_succ, List.getElem_toArray, List.getElem_cons_zero, List.getElem_cons_succ]
      clear hS8
      have HB6 := Lib.hid (HB5.out.trans (hny.mono HB5.out.size))
      have FB6 := Lib.hid (lift_sl FB5.out hny)
      have FL6 := Lib.hid (lift_inn FL5.out hny)
      clear hny
      refine wpAnyH_ready (rs := [9]) (by kernel_rfl) (by simp) ?_
      refine AllReadyH.cons (o := _) rfl (fun K hK => ?_) (AllReadyH.nil)
      go_simp
      refine (ufun_any ⟨#[103]⟩ [kX] _ _ (by decide) FB6.out).mono ?_
      rintro e W7 ⟨⟨rfl, hin⟩, hnd⟩
      have hny : Below W6.heap.size W6 W7 := hnd
      have FH7 := Lib.hid (show Tm.inn W7 W7.heap.size kGx _ from hin)
      have hS8 := Lib.hid (S8.nx (show S8 w.heap.size (.int .i64 1) (.string ⟨#[]⟩) (.int .i64 0) (.slice none 0 0) (.int .i64 1) (.string ⟨#[]⟩) (.int .i64 1) (.slice none 0 0) W6 from hHeld) hny)
      clear hin hnd hHeld
      go_wp2_with fail
      refine hK.out _ _ (hS8.out) (fun hHeld => ?_)
      clear hK K
      try simp only [Act.put, List.setIfInBounds_toArray, List.set_cons_zero, List.set_cons_succ, List.getElem_toArray, List.getElem_cons_zero, List.getElem_cons_succ]
      clear hS8
      have HB7 := Lib.hid (HB6.out.trans (hny.mono HB6.out.size))
      have FB7 := Lib.hid (lift_sl FB6.out hny)
      have FL7 := Lib.hid (lift_inn FL6.out hny)
      have FC7 := Lib.hid (lift_inn FC6.out hny)
      clear hny
      refine wpAnyH_ready (rs := [10]) (by kernel_rfl) (by simp) ?_
      refine AllReadyH.cons (o := _) rfl (fun K hK => ?_) (AllReadyH.nil)
      go_simp
      refine hK.out _ _ (S8.alloc hHeld _) (fun hHeld => ?_)
      clear hK K
      try simp only [Act.put, List.setIfInBounds_toArray, List.set_cons_zero, List.set_cons_succ, List.getElem_toArray, List.getElem_cons_zero, List.getElem_cons_succ]
      have hnx : Below W7.heap.size W7 (W7.alloc (.cells #[.int .i64 3, .string ⟨#[97]⟩, .int .i64 0, .slice none 0 0, .int .i64 3, .string ⟨#[103]⟩, .int .i64 0, .slice (some ⟨W0.heap.size, 0, none⟩) 1 1] 27)) := (Below.refl _ _).alloc (Nat.le_refl _) _
      have hft : Tm.sliceIn (W7.alloc (.cells #[.int .i64 3, .string ⟨#[97]⟩, .int .i64 0, .slice none 0 0, .int .i64 3, .string ⟨#[103]⟩, .int .i64 0, .slice (some ⟨W0.heap.size, 0, none⟩) 1 1] 27)) (W7.alloc (.cells #[.int .i64 3, .string ⟨#[97]⟩, .int .i64 0, .slice none 0 0, .int .i64 3, .string ⟨#[103]⟩, .int .i64 0, .slice (some ⟨W0.heap.size, 0, none⟩) 1 1] 27)).heap.size [exA, kGx] (.slice (some ⟨W7.heap.size, 0, none⟩) 2 2) := two_slice (a := exA) (b := kGx) (newBlk _ _ _ rfl) exA_in (lift_inn FH7.out hnx)
      obtain ⟨W8, hW8⟩ : ∃ W', (W7.alloc (.cells #[.int .i64 3, .string ⟨#[97]⟩, .int .i64 0, .slice none 0 0, .int .i64 3, .string ⟨#[103]⟩, .int .i64 0, .slice (some ⟨W0.heap.size, 0, none⟩) 1 1] 27)) = W' := ⟨_, rfl⟩
      have hny : Below W7.heap.size W7 W8 := by rw [← hW8]; exact hnx
      have FT8 := Lib.hid (show Tm.sliceIn W8 W8.heap.size [exA, kGx] (.slice (some ⟨W7.heap.size, 0, none⟩) 2 2) by rw [← hW8]; exact hft)
      simp only [hW8] at hHeld ⊢
      have HB8 := Lib.hid (HB7.out.trans (hny.mono HB7.out.size))
      have FL8 := Lib.hid (lift_inn FL7.out hny)
      have FC8 := Lib.hid (lift_inn FC7.out hny)
      have FH8 := Lib.hid (lift_inn FH7.out hny)
      clear hny hnx hft
      refine wpAnyH_ready (rs := [11]) (by kernel_rfl) (by simp) ?_
      refine AllReadyH.cons (o := _) rfl (fun K hK => ?_) (AllReadyH.nil)
      go_simp
      refine (ufun_any ⟨#[102]⟩ [exA, kGx] _ _ (by decide) FT8.out).mono ?_
      rintro e W9 ⟨⟨rfl, hin⟩, hnd⟩
      have hny : Below W8.heap.size W8 W9 := hnd
      have FR9 := Lib.hid (show Tm.inn W9 W9.heap.size kR _ from hin)
      have hS8 := Lib.hid (S8.nx (show S8 w.heap.size (.int .i64 1) (.string ⟨#[]⟩) (.int .i64 0) (.slice none 0 0) (.int .i64 1) (.string ⟨#[]⟩) (.int .i64 1) (.slice none 0 0) W8 from hHeld) hny)
      clear hin hnd hHeld
      go_wp2_with fail
      refine hK.out _ _ (hS8.out) (fun hHeld => ?_)
      clear hK K
      try simp only [Act.put, List.setIfInBounds_toArray, List.set_cons_zero, List.set_cons_succ, List.getElem_toArray, List.getElem_cons_zero, List.getElem_cons_succ]
      clear hS8
      have HB9 := Lib.hid (HB8.out.trans (hny.mono HB8.out.size))
      have FL9 := Lib.hid (lift_inn FL8.out hny)
      have FC9 := Lib.hid (lift_inn FC8.out hny)
      have FT9 := Lib.hid (lift_sl FT8.out hny)
      clear hny
      refine wpAnyH_ready (rs := [12]) (by kernel_rfl) (by simp) ?_
      refine AllReadyH.cons (o := _) rfl (fun K hK => ?_) (AllReadyH.nil)
      go_simp
      refine (mgu_any (V := [0, 1]) (by decide) k_right.1 k_right.2.1 (by decide) (by decide) FL9.out FR9.out).mono ?_
      rintro e W10 hpost
      obtain ⟨hnd, hpost⟩ := hpost
      have hny : Below W9.heap.size W9 W10 := hnd
      rcases hpost with ⟨l, sv, rfl, hbl, hm, hv⟩ | ⟨_, hno⟩
      rotate_left
      · exact absurd hno k_yes
      have hS8 := Lib.hid (S8.nx (show S8 w.heap.size (.int .i64 1) (.string ⟨#[]⟩) (.int .i64 0) (.slice none 0 0) (.int .i64 1) (.string ⟨#[]⟩) (.int .i64 1) (.slice none 0 0) W9 from hHeld) hny)
      have HU := Lib.hid (show UK1 w sv (.bool true) (.int .i64 0) W10 from ⟨HB9.out.trans (hny.mono HB9.out.size), hS8.out, rfl, rfl, l, hbl, hm, hv⟩)
      clear hnd hHeld hbl hm hv hny
      go_wp2_with fail
      refine hK.out _ _ (hS8.out) (fun hHeld => ?_)
      clear hK K
      try simp only [Act.put, List.setIfInBounds_toArray, List.set_cons_zero, List.set_cons_succ, List.getElem_toArray, List.getElem_cons_zero, List.getElem_cons_succ]
      refine wpAnyH_take (i := 13) (oi := _) (v := ?_) rfl (by kernel_rfl) (by kernel_rfl) (by kernel_rfl) (fun _ _ _ h => h) (Or.inl ⟨by rfl, ?_⟩) hHeld ?_
      rotate_left
      · (intro w hSw; obtain ⟨c0, c1, c2, c3, d0, d1, d2, d3⟩ := hSw; go_simp; try with_reducible rfl)
      try simp only [Act.put, List.setIfInBounds_toArray, List.set_cons_zero, List.set_cons_succ, List.getElem_toArray, List.getElem_cons_zero, List.getElem_cons_succ]
      refine wpAnyH_take (i := 14) (oi := _) (v := ?_) rfl (by kernel_rfl) (by kernel_rfl) (by kernel_rfl) (fun _ _ _ h => h) (Or.inl ⟨by rfl, ?_⟩) hHeld ?_
      rotate_left
      · (intro w hSw; obtain ⟨c0, c1, c2, c3, d0, d1, d2, d3⟩ := hSw; go_simp; try with_reducible rfl)
      try simp only [Act.put, List.setIfInBounds_toArray, List.set_cons_zero, List.set_cons_succ, List.getElem_toArray, List.getElem_cons_zero, List.getElem_cons_succ]
      refine wpAnyH_take (i := 15) (oi := _) (v := ?_) rfl (by kernel_rfl) (by kernel_rfl) (by kernel_rfl) (fun _ _ _ h => h) (Or.inl ⟨by rfl, ?_⟩) hHeld ?_
      rotate_left
      · (intro w hSw; obtain ⟨c0, c1, c2, c3, d0, d1, d2, d3⟩ := hSw; go_simp; try with_reducible rfl)
      try simp only [Act.put, List.setIfInBounds_toArray, List.set_cons_zero, List.set_cons_succ, List.getElem_toArray, List.getElem_cons_zero, List.getElem_cons_succ]
      refine wpAnyH_take (i := 16) (oi := _) (v := ?_) rfl (by kernel_rfl) (by kernel_rfl) (by kernel_rfl) (fun _ _ _ h => h) (Or.inl ⟨by rfl, ?_⟩) hHeld ?_
      rotate_left
      · (intro w hSw; obtain ⟨c0, c1, c2, c3, d0, d1, d2, d3⟩ := hSw; go_simp; try with_reducible rfl)
      try simp only [Act.put, List.setIfInBounds_toArray, List.set_cons_zero, List.set_cons_succ, List.getElem_toArray, List.getElem_cons_zero, List.getElem_cons_succ]
      refine wpAnyH_ready (rs := [17]) (by kernel_rfl) (by simp) ?_
      refine AllReadyH.cons (o := _) rfl (fun K hK => ?_) (AllReadyH.nil)
      go_simp
      refine hK.out _ _ (hHeld) (fun hHeld => ?_)
      clear hK K
      try simp only [Act.put, List.setIfInBounds_toArray, List.set_cons_zero, List.set_cons_succ, List.getElem_toArray, List.getElem_cons_zero, List.getElem_cons_succ]
      refine wpAnyH_ready (rs := [18]) (by kernel_rfl) (by simp) ?_
      refine AllReadyH.cons (o := _) rfl (fun K hK => ?_) (AllReadyH.nil)
      go_simp
      refine hK.out _ _ (hHeld) (fun hHeld => ?_)
      clear hK K
      try simp only [Act.put, List.setIfInBounds_toArray, List.set_cons_zero, List.set_cons_succ, List.getElem_toArray, List.getElem_cons_zero, List.getElem_cons_succ]
      refine wpAnyH_ready (rs := [19]) (by kernel_rfl) (by simp) ?_
      refine AllReadyH.cons (o := _) rfl (fun K hK => ?_) (AllReadyH.nil)
      go_simp
      refine hK.out _ _ (hHeld) (fun hHeld => ?_)
      clear hK K
      try simp only [Act.put, List.setIfInBounds_toArray, List.set_cons_zero, List.set_cons_succ, List.getElem_toArray, List.getElem_cons_zero, List.getElem_cons_succ]
      refine wpAnyH_done (by kernel_rfl) ?_ _
      go_wp2_with fail
      go_meet
      exact HU
  case rest =>
    obtain ⟨hbx, hs8x, rfl, rfl, l, hbl, hm, hv⟩ := hcut.out
    obtain ⟨σ, hσ⟩ := sol_of hm.right
    have hlen := okL_inV hm.right.1 hv
    have hlen2 : l.length ≤ 2 := hlen
    have hszl := szB_right hm.right.1
    obtain ⟨x0, x1, x2, x3, y0, y1, y2, y3⟩ := id hs8x
    have HM := Lib.hid hm
    have HS := Lib.hid hσ
    have HB := Lib.hid hbx
    have HS8 := Lib.hid hs8x
    clear hcut hm hσ hv hlen hs8d hs8 hs8x hb0 hbx
    go_wp2_with fail
    refine (apply_any l σ (fun _ => HS.out) kY _ _ _ hbl (inn_leaf (by decide)) (by omega) (by omega) (by decide)).mono ?_
    rintro e w1 ⟨X, E, gx, cx, rfl, hinx, hb1, hspec⟩
    have hXE : X = exA ∧ E = 0 := by
      have hy := k_y HM.out HS.out
      have hr : exA.right = true := by kernel_rfl
      rcases hspec with ⟨h, _⟩ | ⟨_, ⟨h, _⟩ | ⟨_, h1, h2⟩⟩
      · exact absurd ⟨HM.out.right, k_right.2.2.2.2⟩ h
      · rw [hy, hr] at h; cases h
      · rw [hy] at h1; exact ⟨h1, h2⟩
    obtain ⟨rfl, rfl⟩ := hXE
    have HB1 := Lib.hid (HB.out.trans (hb1.mono HB.out.size))
    have HS1 := Lib.hid (HS8.out.nx hb1)
    simp only [show exA.kind = 3 from rfl, show exA.name = ⟨#[97]⟩ from rfl, show exA.n = 0 from rfl, show exA.args.length = 0 from rfl]
    clear hbl hinx hb1 hspec hszl hlen2 HM HS HB HS8 x0 x1 x2 x3 y0 y1 y2 y3
    go_upto_region 4 with fail
    obtain ⟨W0, hW0⟩ : ∃ W', w1.alloc (.cells #[.int .i64 3, .string ⟨#[97]⟩, .int .i64 0, .slice gx 0 cx] 27) = W' := ⟨_, rfl⟩
    have hal : Below w1.heap.size w1 W0 := by rw [← hW0]; exact (Below.refl _ _).alloc (Nat.le_refl _) _
    have hz : W0.heap[w1.heap.size]? = some (.cells #[.int .i64 3, .string ⟨#[97]⟩, .int .i64 0, .slice gx 0 cx] 27 (0, 0)) := by rw [← hW0]; exact newBlk _ _ _ rfl
    have hz0 : w1.heap.size < W0.heap.size := by rw [← hW0]; simp
    have HB0 := Lib.hid (HB1.out.trans (hal.mono HB1.out.size))
    have hs8d : S8 w.heap.size (.int .i64 1) (.string ⟨#[]⟩) (.int .i64 0) (.slice none 0 0) (.int .i64 1) (.string ⟨#[]⟩) (.int .i64 1) (.slice none 0 0) W0.drew := HS1.out.nx hal.drew
    have HZ := Lib.hid (And.intro hz hz0)
    try simp only [hW0]
    clear hal hz hz0 hW0 HB1 HS1
    refine wp_region_held_drew (S := fun W' => W'.cell? ⟨w.heap.size, 0, none⟩ = some (.int .i64 1) ∧ W'.cell? ⟨w.heap.size, 1, none⟩ = some (.string ⟨#[]⟩) ∧ W'.cell? ⟨w.heap.size, 2, none⟩ = some (.int .i64 0) ∧ W'.cell? ⟨w.heap.size, 3, none⟩ = some (.slice none 0 0) ∧ W'.cell? ⟨w.heap.size + 1, 0, none⟩ = some (.int .i64 1) ∧ W'.cell? ⟨w.heap.size + 1, 1, none⟩ = some (.string ⟨#[]⟩) ∧ W'.cell? ⟨w.heap.size + 1, 2, none⟩ = some (.int .i64 1) ∧ W'.cell? ⟨w.heap.size + 1, 3, none⟩ = some (.slice none 0 0)) (by kernel_rfl) hs8d (fun hHeld => ?_)
    clear hs8d
    refine wpAnyH_take (i := 0) (oi := _) (v := ?_) rfl (by kernel_rfl) (by kernel_rfl) (by kernel_rfl) (fun _ _ _ h => h) (Or.inl ⟨by rfl, ?_⟩) hHeld ?_
    rotate_left
    · (intro w hSw; obtain ⟨c0, c1, c2, c3, d0, d1, d2, d3⟩ := hSw; go_simp; try with_reducible rfl)
    try simp only [Act.put, List.setIfInBounds_toArray, List.set_cons_zero, List.set_cons_succ, List.getElem_toArray, List.getElem_cons_zero]
    refine wpAnyH_take (i := 1) (oi := _) (v := ?_) rfl (by kernel_rfl) (by kernel_rfl) (by kernel_rfl) (fun _ _ _ h => h) (Or.inl ⟨by rfl, ?_⟩) hHeld ?_
    rotate_left
    · (intro w hSw; obtain ⟨c0, c1, c2, c3, d0, d1, d2, d3⟩ := hSw; go_simp; try with_reducible rfl)
    try simp only [Act.put, List.setIfInBounds_toArray, List.set_cons_zero, List.set_cons_succ, List.getElem_toArray, List.getElem_cons_zero, List.getElem_cons_succ]
    refine wpAnyH_ready (rs := [2]) (by kernel_rfl) (by simp) ?_
    refine AllReadyH.cons (o := _) rfl (fun K hK => ?_) (AllReadyH.nil)
    go_simp
    refine hK.out _ _ (S8.alloc hHeld _) (fun hHeld => ?_)
    clear hK K
    try simp only [Act.put, List.setIfInBounds_toArray, List.set_cons_zero, List.set_cons_succ, List.getElem_toArray, List.getElem_cons_zero, List.getElem_cons_succ]
    have hnx : Below W0.heap.size W0 (W0.alloc (.cells #[.int .i64 1, .string ⟨#[]⟩, .int .i64 0, .slice none 0 0] 27)) := (Below.refl _ _).alloc (Nat.le_refl _) _
    have hft : Tm.sliceIn (W0.alloc (.cells #[.int .i64 1, .string ⟨#[]⟩, .int .i64 0, .slice none 0 0] 27)) (W0.alloc (.cells #[.int .i64 1, .string ⟨#[]⟩, .int .i64 0, .slice none 0 0] 27)).heap.size [kX] (.slice (some ⟨W0.heap.size, 0, none⟩) 1 1) := one_slice (t := kX) (newBlk _ _ _ rfl) (inn_leaf (by decide))
    obtain ⟨W1, hW1⟩ : ∃ W', (W0.alloc (.cells #[.int .i64 1, .string ⟨#[]⟩, .int .i64 0, .slice none 0 0] 27)).drew = W' := ⟨_, rfl⟩
    have hny : Below W0.heap.size W0 W1 := by rw [← hW1]; exact hnx.drew
    have FB1 := Lib.hid (show Tm.sliceIn W1 W1.heap.size [kX] (.slice (some ⟨W0.heap.size, 0, none⟩) 1 1) by rw [← hW1]; exact hft)
    simp only [hW1] at hHeld ⊢
    have HB1 := Lib.hid (HB0.out.trans (hny.mono HB0.out.size))
    have HZ1 := Lib.hid (And.intro ((hny.block _ HZ.out.2).trans HZ.out.1) (Nat.lt_of_lt_of_le HZ.out.2 hny.size))
    clear hny hnx hft
    refine wpAnyH_ready (rs := [3]) (by kernel_rfl) (by simp) ?_
    refine AllReadyH.cons (o := _) rfl (fun K hK => ?_) (AllReadyH.nil)
    go_simp
    refine (ufun_any ⟨#[102]⟩ [kX] _ _ (by decide) FB1.out).mono ?_
    rintro e W2 ⟨⟨rfl, hin⟩, hnd⟩
    have hny : Below W1.heap.size W1 W2 := hnd
    have FF2 := Lib.hid (show Tm.inn W2 W2.heap.size kFx _ from hin)
    have hS8 := Lib.hid (S8.nx (show S8 w.heap.size (.int .i64 1) (.string ⟨#[]⟩) (.int .i64 0) (.slice none 0 0) (.int .i64 1) (.string ⟨#[]⟩) (.int .i64 1) (.slice none 0 0) W1 from hHeld) hny)
    have HB2 := Lib.hid (HB1.out.trans (hny.mono HB1.out.size))
    have HZ2 := Lib.hid (And.intro ((hny.block _ HZ1.out.2).trans HZ1.out.1) (Nat.lt_of_lt_of_le HZ1.out.2 hny.size))
    clear hin hnd hHeld hny HZ1 HB1
    go_wp2_with fail
    refine hK.out _ _ (hS8.out) (fun hHeld => ?_)
    clear hK K
    try simp only [Act.put, List.setIfInBounds_toArray, List.set_cons_zero, List.set_cons_succ, List.getElem_toArray, List.getElem_cons_zero, List.getElem_cons_succ]
    clear hS8
    refine wpAnyH_ready (rs := [4]) (by kernel_rfl) (by simp) ?_
    refine AllReadyH.cons (o := _) rfl (fun K hK => ?_) (AllReadyH.nil)
    go_simp
    refine (mgu_any (V := [0, 1]) (by decide) k_right.2.2.1 k_right.2.2.2.1 (by decide) (by decide) (inn_leaf (by decide)) FF2.out).mono ?_
    rintro e W3 hpost
    obtain ⟨hnd, hpost⟩ := hpost
    have hny : Below W2.heap.size W2 W3 := hnd
    rcases hpost with ⟨l, sv, _, _, hm, _⟩ | ⟨rfl, hno⟩
    · exact absurd hm k_no
    have hS8 := Lib.hid (S8.nx (show S8 w.heap.size (.int .i64 1) (.string ⟨#[]⟩) (.int .i64 0) (.slice none 0 0) (.int .i64 1) (.string ⟨#[]⟩) (.int .i64 1) (.slice none 0 0) W2 from hHeld) hny)
    have HB3 := Lib.hid (HB2.out.trans (hny.mono HB2.out.size))
    have HZ3 := Lib.hid ((hny.block _ HZ2.out.2).trans HZ2.out.1)
    clear hnd hHeld hny HZ2 HB2 hno
    go_wp2_with fail
    refine hK.out _ _ (hS8.out) (fun hHeld => ?_)
    clear hK K
    try simp only [Act.put, List.setIfInBounds_toArray, List.set_cons_zero, List.set_cons_succ, List.getElem_toArray, List.getElem_cons_zero, List.getElem_cons_succ]
    clear hS8
    refine wpAnyH_take (i := 5) (oi := _) (v := ?_) rfl (by kernel_rfl) (by kernel_rfl) (by kernel_rfl) (fun _ _ _ h => h) (Or.inl ⟨by rfl, ?_⟩) hHeld ?_
    rotate_left
    · (intro w hSw; obtain ⟨c0, c1, c2, c3, d0, d1, d2, d3⟩ := hSw; go_simp; try with_reducible rfl)
    try simp only [Act.put, List.setIfInBounds_toArray, List.set_cons_zero, List.set_cons_succ, List.getElem_toArray, List.getElem_cons_zero, List.getElem_cons_succ]
    refine wpAnyH_take (i := 6) (oi := _) (v := ?_) rfl (by kernel_rfl) (by kernel_rfl) (by kernel_rfl) (fun _ _ _ h => h) (Or.inl ⟨by rfl, ?_⟩) hHeld ?_
    rotate_left
    · (intro w hSw; obtain ⟨c0, c1, c2, c3, d0, d1, d2, d3⟩ := hSw; go_simp; try with_reducible rfl)
    try simp only [Act.put, List.setIfInBounds_toArray, List.set_cons_zero, List.set_cons_succ, List.getElem_toArray, List.getElem_cons_zero, List.getElem_cons_succ]
    refine wpAnyH_take (i := 7) (oi := _) (v := ?_) rfl (by kernel_rfl) (by kernel_rfl) (by kernel_rfl) (fun _ _ _ h => h) (Or.inl ⟨by rfl, ?_⟩) hHeld ?_
    rotate_left
    · (intro w hSw; obtain ⟨c0, c1, c2, c3, d0, d1, d2, d3⟩ := hSw; go_simp; try with_reducible rfl)
    try simp only [Act.put, List.setIfInBounds_toArray, List.set_cons_zero, List.set_cons_succ, List.getElem_toArray, List.getElem_cons_zero, List.getElem_cons_succ]
    refine wpAnyH_take (i := 8) (oi := _) (v := ?_) rfl (by kernel_rfl) (by kernel_rfl) (by kernel_rfl) (fun _ _ _ h => h) (Or.inl ⟨by rfl, ?_⟩) hHeld ?_
    rotate_left
    · (intro w hSw; obtain ⟨c0, c1, c2, c3, d0, d1, d2, d3⟩ := hSw; go_simp; try with_reducible rfl)
    try simp only [Act.put, List.setIfInBounds_toArray, List.set_cons_zero, List.set_cons_succ, List.getElem_toArray, List.getElem_cons_zero, List.getElem_cons_succ]
    refine wpAnyH_ready (rs := [9]) (by kernel_rfl) (by simp) ?_
    refine AllReadyH.cons (o := _) rfl (fun K hK => ?_) (AllReadyH.nil)
    go_simp
    refine hK.out _ _ (hHeld) (fun hHeld => ?_)
    clear hK K
    try simp only [Act.put, List.setIfInBounds_toArray, List.set_cons_zero, List.set_cons_succ, List.getElem_toArray, List.getElem_cons_zero, List.getElem_cons_succ]
    refine wpAnyH_ready (rs := [10]) (by kernel_rfl) (by simp) ?_
    refine AllReadyH.cons (o := _) rfl (fun K hK => ?_) (AllReadyH.nil)
    go_simp
    refine hK.out _ _ (hHeld) (fun hHeld => ?_)
    clear hK K
    try simp only [Act.put, List.setIfInBounds_toArray, List.set_cons_zero, List.set_cons_succ, List.getElem_toArray, List.getElem_cons_zero, List.getElem_cons_succ]
    refine wpAnyH_ready (rs := [11]) (by kernel_rfl) (by simp) ?_
    refine AllReadyH.cons (o := _) rfl (fun K hK => ?_) (AllReadyH.nil)
    go_simp
    refine hK.out _ _ (hHeld) (fun hHeld => ?_)
    clear hK K
    try simp only [Act.put, List.setIfInBounds_toArray, List.set_cons_zero, List.set_cons_succ, List.getElem_toArray, List.getElem_cons_zero, List.getElem_cons_succ]
    refine wpAnyH_done (by kernel_rfl) ?_ _
    have hz3 := HZ3.out
    obtain ⟨⟨z0, z1, z2, z3⟩, _⟩ := row4 hz3
    clear hz3 hHeld
    go_wp2_with fail
    go_ret
    exact ⟨rfl, HB3.out⟩
end Go.Proofs.Ytgnbjhiafjpokaa
