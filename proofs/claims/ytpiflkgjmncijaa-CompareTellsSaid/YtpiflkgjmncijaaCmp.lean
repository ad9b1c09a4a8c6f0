/-
  The library's comparisons of two numbers and of two strings, and its Or, as the program's order uses them.
-/
import Derived.Test.YtpiflkgjmncijaaOrd
import Derived.Test.YtpiflkgjmncijaaChecked
import Derived.Lib.Hide
import Derived.WalkLawsBesides
namespace Go.Proofs.Ytpiflkgjmncijaa
open Go.RowKit

theorem nanInt_any (a : Int) (w : World) : Calls Try.prog 73 #[.int .i64 a] w fun e w' => e = .returned (.bool false) ∧ w' = w := by
  go_enter Try.func73, Try.ntmps73
  go_wp2_with fail
  go_ret
  exact ⟨by simp, rfl⟩
theorem nanStr_any (a : ByteArray) (w : World) : Calls Try.prog 74 #[.string a] w fun e w' => e = .returned (.bool false) ∧ w' = w := by
  go_enter Try.func74, Try.ntmps74
  go_wp2_with fail
  go_ret
  exact ⟨by simp, rfl⟩

theorem cmpInt_any (a b : Int) (w : World) : Calls Try.prog 58 #[.int .i64 a, .int .i64 b] w fun e w' => e = .returned (.int .i64 (cmpI a b)) ∧ w' = w := by
  by_cases h : a < b
  · have HC := Lib.hid (cmpI_lt h)
    go_enter Try.func58, Try.ntmps58
    go_wp2_with (first | (go_at_call 73; refine (nanInt_any _ _).mono ?_; rintro e w' ⟨rfl, rfl⟩))
    go_ret
    exact ⟨ret_int HC.out.symm, rfl⟩
  · by_cases h' : b < a
    · have HC := Lib.hid (cmpI_gt h')
      go_enter Try.func58, Try.ntmps58
      go_wp2_with (first | (go_at_call 73; refine (nanInt_any _ _).mono ?_; rintro e w' ⟨rfl, rfl⟩))
      go_ret
      exact ⟨ret_int HC.out.symm, rfl⟩
    · have HC := Lib.hid (cmpI_eq0.2 (show a = b by omega))
      go_enter Try.func58, Try.ntmps58
      go_wp2_with (first | (go_at_call 73; refine (nanInt_any _ _).mono ?_; rintro e w' ⟨rfl, rfl⟩))
      go_ret
      exact ⟨ret_int HC.out.symm, rfl⟩

theorem cmpStr_any (a b : ByteArray) (w : World) : Calls Try.prog 59 #[.string a, .string b] w fun e w' => e = .returned (.int .i64 (cmpS a.toList b.toList)) ∧ w' = w := by
  go_enter Try.func59, Try.ntmps59
  go_wp2_with (first | (go_at_call 74; refine (nanStr_any _ _).mono ?_; rintro e w' ⟨rfl, rfl⟩))
  all_goals go_ret
  · exact ⟨ret_int (cmpS_less (by assumption)).symm, rfl⟩
  · have h1 : Op.bytesLess a.toList b.toList = false := by assumption
    have h2 : (!a.toList == b.toList) = true := by assumption
    exact ⟨ret_int (cmpS_more h1 (by simpa using h2)).symm, rfl⟩
  · have h1 : Op.bytesLess a.toList b.toList = false := by assumption
    have h2 : (!a.toList == b.toList) = false := by assumption
    exact ⟨ret_int (cmpS_same h1 (by simpa using h2)).symm, rfl⟩

/-- The first number of a row that isn't 0. -/
theorem or_any (l : List Int) (b c : Nat) (w : World) (hl : l.length ≤ 1000000) (hc : ∀ i (h : i < l.length), w.cell? ⟨b, i, none⟩ = some (.int .i64 l[i])) :
    Calls Try.prog 57 #[.slice (some ⟨b, 0, none⟩) l.length c] w fun e w' => e = .returned (.int .i64 (orL l)) ∧ w' = w := by
  have HC := Lib.hid hc
  clear hc
  go_enter Try.func57, Try.ntmps57
  go_wp2_with fail
  go_loop [5, 8] (fun _ i => ∃ k : Nat, k ≤ l.length ∧ i = .int .i64 k ∧ Hid (orL l = orL (l.drop k))) (fun _ i => l.length - (intOf i).toNat)
  case atStart => exact ⟨0, Nat.zero_le _, rfl, (by simp [Hid])⟩
  case round =>
    obtain ⟨k, hk, rfl, hp⟩ := hrel
    by_cases hlt : k < l.length
    · have hcell := HC.out k hlt
      have HS := Lib.hid (orL_step hlt)
      by_cases h0 : l[k] = 0
      · rw [h0] at hcell
        have HR := Lib.hid ((hp.out.trans HS.out).trans (by rw [h0, orI_zero]))
        clear hp HS h0
        go_wp2_with fail
        go_round
        case rel => exact ⟨k + 1, by omega, by go_num, HR⟩
        case measure => simp [intOf]; omega
      · have hb : (l[k] == 0) = false := by simpa using h0
        have HR := Lib.hid ((hp.out.trans HS.out).trans (orI_ne h0 _))
        clear hp HS h0
        go_wp2_with fail
        go_ret
        exact ⟨ret_int HR.out.symm, rfl⟩
    · have HR := Lib.hid (hp.out.trans (orL_end (by omega)))
      clear hp
      go_wp2_with fail
      go_ret
      exact ⟨ret_int HR.out.symm, rfl⟩
end Go.Proofs.Ytpiflkgjmncijaa
