/-
  The document's Small: have some terms at most sixty in all?
-/
import Derived.Test.YtomdccejgmhfoaaRef
namespace Go.Proofs.Ytomdccejgmhfoaa
open Go.RowKit

/-- What 'Small' tells. -/
def Tm.smallB (l : List Tm) : Bool := decide (0 ≤ Tm.fews l 60 200)
theorem Tm.smallB_says {l : List Tm} (h : Tm.smallB l = true) : Tm.sizes l ≤ 60 := by
  have hq : 0 ≤ Tm.fews l 60 200 := by simpa [Tm.smallB] using h
  have := (Tm.fews_says l (fun t _ m d => Tm.few_says t m d) _ _ hq).1
  omega

set_option maxHeartbeats 400000 in
theorem usmall_any (l : List Tm) (w : World) (B : Nat) (sv : Value) (hB : B ≤ w.heap.size) (hsl : Tm.sliceIn w B l sv) :
    Calls Try.prog 32 #[sv] w fun e w' => e = .returned (.bool (Tm.smallB l)) ∧ Below w.heap.size w w' := by
  have hsl0 := hsl
  obtain ⟨g, cap, rfl, hcap, hlen, _⟩ := hsl0
  have hr : ∀ k, k ≤ l.length → -1 ≤ Tm.fews (l.take k) 60 200 ∧ Tm.fews (l.take k) 60 200 ≤ 60 := fun k _ =>
    Tm.fews_rng _ (fun t _ m d h => Tm.few_rng t m d h) _ _ (by omega)
  have HR := Lib.hid hr
  clear hr
  go_enter Try.func32, Try.ntmps32
  go_wp2_with fail
  go_loopw [3, 4] (fun q i wr => ∃ k : Nat, k ≤ l.length ∧ i = .int .i64 k ∧ q = .int .i64 (Tm.fews (l.take k) 60 200) ∧ Below w.heap.size w wr) (fun _ i _ => l.length - (intOf i).toNat)
  case atStart => exact ⟨0, Nat.zero_le _, rfl, by simp [Tm.fews], Below.refl _ _⟩
  case round =>
    obtain ⟨k, hk, rfl, rfl, hb⟩ := hrel
    have hrk := HR.out k hk
    by_cases hlt : k < l.length
    · by_cases hq : 0 ≤ Tm.fews (l.take k) 60 200
      · obtain ⟨b, off, sv, rfl, hbB, g0, g1, g2, g3, hin'⟩ := Tm.sliceIn_get (Tm.sliceIn_below hsl hb hB) k hlt
        have hm := Tm.fews_take_succ l k hlt 60 200 hq
        have hih := few_any l[k] wr B sv (Tm.fews (l.take k) 60 200) 200 (by have := hb.size; omega) hin' hq (by omega) (by omega) (by omega)
        have HM := Lib.hid hm
        clear hm hsl hin'
        go_wp2_with fail
        refine hih.mono ?_
        rintro e w1 ⟨rfl, hb1⟩
        go_wp2_with fail
        go_roundw
        case rel =>
          refine ⟨k + 1, by omega, by go_num, ?_, hb.trans (hb1.mono hb.size)⟩
          rw [HM.out]
        case measure => simp [intOf]; omega
      · have hst := Tm.fews_stop l k 60 200 (by omega)
        have hf : Tm.smallB l = false := by simp [Tm.smallB, hst] <;> omega
        have HS := Lib.hid hf
        clear hst hsl hf
        go_wp2_with fail
        go_ret
        exact ⟨by rw [HS.out]; simp; try omega, hb⟩
    · have : k = l.length := by omega
      subst this
      rw [List.take_length] at hrk ⊢
      clear hsl
      go_wp2_with fail
      go_ret
      exact ⟨rfl, hb⟩

end Go.Proofs.Ytomdccejgmhfoaa
