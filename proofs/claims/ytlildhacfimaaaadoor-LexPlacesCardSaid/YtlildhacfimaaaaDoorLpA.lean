/-
  The program's small functions: of which sort a character is.
-/
import Derived.Test.YtlildhacfimaaaaDoorLxC
import Derived.Test.YtlildhacfimaaaaDoorShelf
import Derived.Lib.OthersKept
import Derived.BigQuiet
namespace Go.Proofs.YtlildhacfimaaaaDoor
open Go.RowKit

/-! ### characters -/
def lowR (r : Int) : Bool := decide (97 ≤ r ∧ r ≤ 122)
def upR (r : Int) : Bool := decide ((65 ≤ r ∧ r ≤ 90) ∨ r = 95)
def digR (r : Int) : Bool := decide (48 ≤ r ∧ r ≤ 57)
def worR (r : Int) : Bool := lowR r || upR r || digR r
def asB (r : Int) : UInt8 := r.toNat.toUInt8
def sigR (r : Int) : Bool := decide (r < 128) && isSign (asB r)
theorem asB_of (c : UInt8) : asB (c.toNat : Nat) = c := by simp [asB]
theorem low_of (c : UInt8) : lowR (c.toNat : Nat) = decide (srt c = 1) := by
  unfold lowR srt
  rw [Bool.eq_iff_iff, decide_eq_true_eq, decide_eq_true_eq]
  repeat' split
  all_goals omega
theorem up_of (c : UInt8) : upR (c.toNat : Nat) = decide (srt c = 2) := by
  unfold upR srt
  rw [Bool.eq_iff_iff, decide_eq_true_eq, decide_eq_true_eq]
  repeat' split
  all_goals omega
theorem dig_of (c : UInt8) : digR (c.toNat : Nat) = isDigit c := by
  unfold digR isDigit srt
  rw [Bool.eq_iff_iff, decide_eq_true_eq, beq_iff_eq]
  repeat' split
  all_goals omega
theorem wor_of (c : UInt8) : worR (c.toNat : Nat) = isWord c := by
  unfold worR isWord
  rw [low_of, up_of, dig_of, isDigit, Bool.eq_iff_iff]
  simp only [Bool.or_eq_true, decide_eq_true_eq, beq_iff_eq]
  omega
theorem sig_of (c : UInt8) : sigR (c.toNat : Nat) = isSign c := by
  unfold sigR
  rw [asB_of]
  by_cases h : c.toNat < 128
  · have : ((c.toNat : Nat) : Int) < 128 := by omega
    simp [this]
  · have h1 : isSign c = false := by
      unfold isSign srt
      rw [beq_eq_false_iff_ne]
      have : sgn c = false := by
        unfold sgn
        rw [Bool.eq_false_iff]
        intro hc
        rw [List.contains_iff_mem] at hc
        simp only [List.mem_cons, List.not_mem_nil, or_false] at hc
        rcases hc with rfl | rfl | rfl | rfl | rfl | rfl | rfl | rfl | rfl | rfl | rfl | rfl | rfl | rfl | rfl | rfl <;> exact h (by decide)
      rw [this]
      simp only [Bool.false_eq_true, false_or]
      repeat' split
      all_goals omega
    rw [h1]
    simp
theorem wor_high {r : Int} (h : 128 ≤ r) : worR r = false := by
  unfold worR lowR upR digR
  simp only [Bool.or_eq_false_iff, decide_eq_false_iff_not]
  omega
theorem dig_high {r : Int} (h : 128 ≤ r) : digR r = false := by
  unfold digR
  rw [decide_eq_false_iff_not]
  omega
theorem sig_high {r : Int} (h : 128 ≤ r) : sigR r = false := by
  unfold sigR
  rw [Bool.and_eq_false_iff, decide_eq_false_iff_not]
  omega

set_option maxRecDepth 100000 in
theorem plow_any (r : Int) (w : World) : Calls Tryd.prog 16 #[.int .i32 r] w fun e w' => e = .returned (.bool (lowR r)) ∧ w = w' := by
  obtain ⟨b, hb⟩ : ∃ b, lowR r = b := ⟨_, rfl⟩
  rw [hb]
  unfold lowR at hb
  by_cases h1 : 97 ≤ r
  · by_cases h2 : r ≤ 122
    · obtain rfl : true = b := by rw [← hb]; simp [h1, h2]
      clear hb
      go_enter Tryd.func16, Tryd.ntmps16
      go_wp2_with fail
      go_ret
      exact ⟨rfl, rfl⟩
    · obtain rfl : false = b := by rw [← hb]; simp [h2]
      clear hb
      go_enter Tryd.func16, Tryd.ntmps16
      go_wp2_with fail
      go_ret
      exact ⟨rfl, rfl⟩
  · obtain rfl : false = b := by rw [← hb]; simp [h1]
    have h3 : r < 97 := by omega
    clear hb h1
    go_enter Tryd.func16, Tryd.ntmps16
    go_wp2_with fail
    go_ret
    exact ⟨rfl, rfl⟩
set_option maxRecDepth 100000 in
theorem pdig_any (r : Int) (w : World) : Calls Tryd.prog 20 #[.int .i32 r] w fun e w' => e = .returned (.bool (digR r)) ∧ w = w' := by
  obtain ⟨b, hb⟩ : ∃ b, digR r = b := ⟨_, rfl⟩
  rw [hb]
  unfold digR at hb
  by_cases h1 : 48 ≤ r
  · by_cases h2 : r ≤ 57
    · obtain rfl : true = b := by rw [← hb]; simp [h1, h2]
      clear hb
      go_enter Tryd.func20, Tryd.ntmps20
      go_wp2_with fail
      go_ret
      exact ⟨rfl, rfl⟩
    · obtain rfl : false = b := by rw [← hb]; simp [h2]
      clear hb
      go_enter Tryd.func20, Tryd.ntmps20
      go_wp2_with fail
      go_ret
      exact ⟨rfl, rfl⟩
  · obtain rfl : false = b := by rw [← hb]; simp [h1]
    have h3 : r < 48 := by omega
    clear hb h1
    go_enter Tryd.func20, Tryd.ntmps20
    go_wp2_with fail
    go_ret
    exact ⟨rfl, rfl⟩
set_option maxRecDepth 100000 in
theorem pup_any (r : Int) (w : World) : Calls Tryd.prog 19 #[.int .i32 r] w fun e w' => e = .returned (.bool (upR r)) ∧ w = w' := by
  obtain ⟨b, hb⟩ : ∃ b, upR r = b := ⟨_, rfl⟩
  rw [hb]
  unfold upR at hb
  by_cases h0 : r = 95
  · obtain rfl : true = b := by rw [← hb]; simp [h0]
    subst h0
    clear hb
    go_enter Tryd.func19, Tryd.ntmps19
    go_wp2_with fail
    go_ret
    exact ⟨rfl, rfl⟩
  have h5 : (r == 95) = false := by rw [beq_eq_false_iff_ne]; exact h0
  by_cases h1 : 65 ≤ r
  · by_cases h2 : r ≤ 90
    · obtain rfl : true = b := by rw [← hb]; simp [h1, h2]
      clear hb h0
      go_enter Tryd.func19, Tryd.ntmps19
      go_wp2_with fail
      go_ret
      exact ⟨rfl, rfl⟩
    · obtain rfl : false = b := by rw [← hb]; simp [h0, h2]
      clear hb h0
      go_enter Tryd.func19, Tryd.ntmps19
      go_wp2_with fail
      go_ret
      exact ⟨rfl, rfl⟩
  · obtain rfl : false = b := by rw [← hb]; simp [h0, h1]
    have h3 : r < 65 := by omega
    clear hb h1 h0
    go_enter Tryd.func19, Tryd.ntmps19
    go_wp2_with fail
    go_ret
    exact ⟨rfl, rfl⟩
set_option maxRecDepth 100000 in
theorem pwor_any (r : Int) (w : World) : Calls Tryd.prog 18 #[.int .i32 r] w fun e w' => e = .returned (.bool (worR r)) ∧ w = w' := by
  have H1 := Lib.hid (fun u => plow_any r u)
  have H2 := Lib.hid (fun u => pup_any r u)
  have H3 := Lib.hid (fun u => pdig_any r u)
  unfold worR
  generalize lowR r = b1 at H1 ⊢
  generalize upR r = b2 at H2 ⊢
  generalize digR r = b3 at H3 ⊢
  cases b1 <;> cases b2 <;> cases b3
  all_goals
    go_enter Tryd.func18, Tryd.ntmps18
    go_wp2_with (first
      | (go_at_call 16; (with_reducible refine (H1.out _).mono ?_); rintro e w1 ⟨rfl, rfl⟩)
      | (go_at_call 19; (with_reducible refine (H2.out _).mono ?_); rintro e w1 ⟨rfl, rfl⟩)
      | (go_at_call 20; (with_reducible refine (H3.out _).mono ?_); rintro e w1 ⟨rfl, rfl⟩))
    go_ret
    exact ⟨rfl, rfl⟩
end Go.Proofs.YtlildhacfimaaaaDoor
