/-
  math/bits.Len of small numbers; the next power of two.
-/
import Derived.Test.YtpiflkgjmncijaaSortC
import Derived.Sort.LotD1
namespace Go.Proofs.Ytpiflkgjmncijaa
open Go.RowKit Go.Sort
theorem tab_of (x : ByteArray) (f : Nat → Nat) (hx : ∀ m, m < 256 → (x.data[m]!).toNat = f m) (n : Nat) (hn : n < 256) (h : n < x.size) : (x[n]'h).toNat = f n := by
  rw [← hx n hn]
  have h' : n < x.data.size := h
  rw [getElem!_pos x.data n h']
  rfl
set_option maxRecDepth 100000 in
theorem len64_exact (n : Nat) (hn : n < 256) (w : World) : Calls Try.prog 91 #[.int .u64 n] w fun e w' => e = .returned (.int .i64 (bitsLen n : Nat)) ∧ w = w' := by
  have h1 : ¬ (4294967296 : Int) ≤ n := by omega
  have h2 : ¬ (65536 : Int) ≤ n := by omega
  have h3 : ¬ (256 : Int) ≤ n := by omega
  go_enter Try.func91, Try.ntmps91
  go_wp2_with fail
  go_ret
  refine ⟨ret_int ((byte_wrap _).trans (congrArg Int.ofNat ?_)), rfl⟩
  refine tab_of _ bitsLen ?_ n hn _
  decide +kernel
set_option maxRecDepth 100000 in
theorem len_exact (n : Nat) (hn : n < 256) (w : World) : Calls Try.prog 81 #[.int .u64 n] w fun e w' => e = .returned (.int .i64 (bitsLen n : Nat)) ∧ w = w' := by
  have h3 : (n : Int) < 256 := by omega
  go_enter Try.func81, Try.ntmps81
  go_wp2_with fail
  refine (len64_exact n hn w).mono ?_
  rintro e w' ⟨rfl, rfl⟩
  go_wp2_with fail
  go_ret
  exact ⟨rfl, rfl⟩
/-- '2 ^ k' fits a uint64 for k up to 62, and is '1 <<< k'. -/
theorem two_pow_wrap (k : Nat) (hk : k ≤ 62) : IntKind.u64.wrap ((2 : Int) ^ k) = ((1 <<< k : Nat) : Int) := by
  have h : (2 : Nat) ^ k ≤ 2 ^ 62 := Nat.pow_le_pow_right (by decide) hk
  rw [IntKind.wrap_u64, Nat.one_shiftLeft, show ((2 : Int) ^ k) = ((2 ^ k : Nat) : Int) by push_cast; rfl]
  generalize (2 : Nat) ^ k = p at h
  omega
set_option maxRecDepth 100000 in
theorem power_any (n : Nat) (hn : n < 256) (w : World) : Calls Try.prog 93 #[.int .i64 n] w fun e w' => e = .returned (.int .u64 ((1 <<< bitsLen n : Nat) : Int)) ∧ w = w' := by
  have hk : bitsLen n ≤ 62 := (bitsLen_le_iff n 62).2 (by omega)
  have hp := two_pow_wrap (bitsLen n) hk
  go_enter Try.func93, Try.ntmps93
  go_wp2_with fail
  refine (len_exact n hn w).mono ?_
  rintro e w' ⟨rfl, rfl⟩
  go_wp2_with fail
  go_ret
  exact ⟨rfl, rfl⟩
end Go.Proofs.Ytpiflkgjmncijaa
