/-
  The document's digits and sort.
-/
import Derived.Test.YtliapkajonbndaaDoorWrP
import Derived.Test.YtliapkajonbndaaDoorChecked
import Derived.WalkKit
import Derived.Lib.Hide
import Derived.BigQuiet
import Derived.Deep.QuietTactic
import Derived.StillTailTactics
import Derived.Laws.IdiomStrings
namespace Go.Proofs.YtliapkajonbndaaDoor
open Go.RowKit

theorem ba_app (a b : List UInt8) : (⟨a.toArray⟩ ++ ⟨b.toArray⟩ : ByteArray) = ⟨(a ++ b).toArray⟩ := by
  apply ByteArray.ext
  simp
theorem conv_one (w : World) (k : Nat) (hk : k < 10) : (convert 44 9 (.slice (some ⟨w.heap.size, 0, none⟩) 1 1)).run Tryd.prog (w.alloc (.cells #[.int .u8 (48 + (k : Int))] 5)) = .ok (.string ⟨[UInt8.ofNat (48 + k)].toArray⟩) (w.alloc (.cells #[.int .u8 (48 + (k : Int))] 5)) :=
  run_convert_bytes_back (P := Tryd.prog) _ 44 9 5 ⟨w.heap.size, 0, none⟩ 1 [UInt8.ofNat (48 + k)] Tryd.underlying44 Tryd.underlying5 Tryd.underlying9 (fun j hj => by
    obtain rfl : j = 0 := by simpa using hj
    have h2 : (UInt8.ofNat (48 + k)).toNat = 48 + k := by simp; omega
    simp only [List.getElem_cons_zero, h2]
    simp [Addr.add])
set_option maxRecDepth 100000 in
set_option maxHeartbeats 2000000 in
theorem ddigits_pos (n : Nat) (hn : n ≤ 9223372036854775807) (w : World) :
    Calls Tryd.prog 24 #[.int .i64 ((n : Nat))] w fun e w' => e = .returned (.string ⟨(dgs n).toArray⟩) ∧ Below w.heap.size w w' := by
  go_enter Tryd.func24, Tryd.ntmps24
  have kn : ((n : Int) < 0) = False := by simp only [eq_iff_iff, iff_false]; omega
  go_wp2_with fail
  go_loopw [0, 3] (fun i s wr => ∃ (m : Nat) (x : List UInt8), i = .int .i64 ((m : Nat)) ∧ s = .string ⟨x.toArray⟩ ∧ dgs n = dgs m ++ x ∧ m ≤ n ∧ Below w.heap.size w wr) (fun i _ _ => (intOf i).natAbs)
  case atStart => exact ⟨n, [], rfl, rfl, by simp, Nat.le_refl _, Below.refl _ _⟩
  case round =>
    obtain ⟨m, x, rfl, rfl, hx, hmn, hb⟩ := hrel
    have HB := Lib.hid hb
    have HX := Lib.hid hx
    clear hb hx
    have k1 : ((m : Int).tmod 10) = ((m % 10 : Nat) : Int) := by rw [Int.tmod_eq_emod_of_nonneg (by omega)]; omega
    have hk : m % 10 < 10 := Nat.mod_lt _ (by omega)
    obtain ⟨k, hkm⟩ : ∃ k, m % 10 = k := ⟨_, rfl⟩
    have k3 : (m : Int) % 10 = (k : Int) := by omega
    have k4 : ((k : Int) < 0) = False := by simp only [eq_iff_iff, iff_false]; omega
    rw [hkm] at hk
    have hc := conv_one wr k hk
    obtain ⟨c, hcc⟩ : ∃ c, UInt8.ofNat (48 + k) = c := ⟨_, rfl⟩
    rw [hcc] at hc
    have hlx : dgs m = (if m / 10 = 0 then [c] else dgs (m / 10) ++ [c]) := by
      by_cases h : m < 10
      · rw [if_pos (by omega), dgs_small h, ← hcc, ← hkm, Nat.mod_eq_of_lt h]
      · rw [if_neg (by omega), dgs_more h, ← hcc, ← hkm]
    have HLX := Lib.hid hlx
    clear hlx hcc
    have hsz := HB.out.size
    have hxl : x.length ≤ 19 := by
      have h1 := congrArg List.length HX.out
      have h2 := dgs_len 18 n (by omega)
      simp only [List.length_append] at h1
      omega
    have hnl : (9223372036854775807 < 1 + x.length) = False := by simp only [eq_iff_iff, iff_false]; omega
    have hba : (⟨#[c]⟩ ++ ⟨x.toArray⟩ : ByteArray) = ⟨(c :: x).toArray⟩ := ba_app [c] x
    have k2 : ((m : Int).tdiv 10) = ((m / 10 : Nat) : Int) := by rw [Int.tdiv_eq_ediv_of_nonneg (by omega)]; omega
    by_cases hz : m / 10 = 0
    · have k5 : ((m : Int) / 10 == 0) = true := by rw [beq_iff_eq]; omega
      have hfin : c :: x = dgs n := by rw [HX.out, HLX.out, if_pos hz]; rfl
      go_wp2_with fail
      go_ret
      exact ⟨rfl, HB.out.alloc hsz _⟩
    · have k5 : ((m : Int) / 10 == 0) = false := by rw [beq_eq_false_iff_ne]; omega
      have hnx : dgs n = dgs (m / 10) ++ c :: x := by rw [HX.out, HLX.out, if_neg hz]; simp
      have hmx : m / 10 ≤ n := Nat.le_trans (Nat.div_le_self _ _) hmn
      have hlt : m / 10 < m := Nat.div_lt_self (by omega) (by omega)
      have hbb := HB.out.alloc hsz (.cells #[.int .u8 (48 + (k : Int))] 5)
      go_wp2_with fail
      exact ⟨⟨m / 10, c :: x, by go_num, rfl, hnx, hmx, hbb⟩, by simp [intOf]; omega⟩
set_option maxRecDepth 100000 in
set_option maxHeartbeats 2000000 in
theorem ddigits_neg (n : Nat) (hn : n ≤ 9223372036854775808) (hpos : 1 ≤ n) (w : World) :
    Calls Tryd.prog 24 #[.int .i64 (-(n : Nat))] w fun e w' => e = .returned (.string ⟨(45 :: dgs n).toArray⟩) ∧ Below w.heap.size w w' := by
  go_enter Tryd.func24, Tryd.ntmps24
  have kn : (0 < n) = True := by simp only [eq_iff_iff, iff_true]; omega
  go_wp2_with fail
  go_loopw [0, 3] (fun i s wr => ∃ (m : Nat) (x : List UInt8), i = .int .i64 (-(m : Nat)) ∧ s = .string ⟨x.toArray⟩ ∧ dgs n = dgs m ++ x ∧ 1 ≤ m ∧ m ≤ n ∧ Below w.heap.size w wr) (fun i _ _ => (intOf i).natAbs)
  case atStart => exact ⟨n, [], rfl, rfl, by simp, hpos, Nat.le_refl _, Below.refl _ _⟩
  case round =>
    obtain ⟨m, x, rfl, rfl, hx, hm1, hmn, hb⟩ := hrel
    have HB := Lib.hid hb
    have HX := Lib.hid hx
    clear hb hx
    have hk : m % 10 < 10 := Nat.mod_lt _ (by omega)
    obtain ⟨k, hkm⟩ : ∃ k, m % 10 = k := ⟨_, rfl⟩
    have k2 : (-(m : Int)).tdiv 10 = -((m / 10 : Nat) : Int) := by rw [Int.neg_tdiv, Int.tdiv_eq_ediv_of_nonneg (by omega)]; omega
    rw [hkm] at hk
    have hc := conv_one wr k hk
    obtain ⟨c, hcc⟩ : ∃ c, UInt8.ofNat (48 + k) = c := ⟨_, rfl⟩
    rw [hcc] at hc
    have hlx : dgs m = (if m / 10 = 0 then [c] else dgs (m / 10) ++ [c]) := by
      by_cases h : m < 10
      · rw [if_pos (by omega), dgs_small h, ← hcc, ← hkm, Nat.mod_eq_of_lt h]
      · rw [if_neg (by omega), dgs_more h, ← hcc, ← hkm]
    have HLX := Lib.hid hlx
    clear hlx hcc
    have hsz := HB.out.size
    have hxl : x.length ≤ 19 := by
      have h1 := congrArg List.length HX.out
      have h2 := dgs_len 18 n (by omega)
      simp only [List.length_append] at h1
      omega
    have hnl : (9223372036854775807 < 1 + x.length) = False := by simp only [eq_iff_iff, iff_false]; omega
    have hba : (⟨#[c]⟩ ++ ⟨x.toArray⟩ : ByteArray) = ⟨(c :: x).toArray⟩ := ba_app [c] x
    obtain hk0 | hk0 : k = 0 ∨ 0 < k := by omega
    · have k3 : (-(m : Int)).tmod 10 = (k : Int) := by rw [Int.neg_tmod, Int.tmod_eq_emod_of_nonneg (by omega)]; omega
      have k4 : ((k : Int) < 0) = False := by simp only [eq_iff_iff, iff_false]; omega
      clear hk0
      by_cases hz : m / 10 = 0
      · have k5 : (-((m / 10 : Nat) : Int) == 0) = true := by rw [beq_iff_eq]; omega
        have hfin : c :: x = dgs n := by rw [HX.out, HLX.out, if_pos hz]; rfl
        have hnl2 : (9223372036854775807 < 1 + (dgs n).length) = False := by have := dgs_len 18 n (by omega); simp only [eq_iff_iff, iff_false]; omega
        go_wp2_with fail
        go_ret
        exact ⟨rfl, HB.out.alloc hsz _⟩
      · have k5 : (-((m / 10 : Nat) : Int) == 0) = false := by rw [beq_eq_false_iff_ne]; omega
        have hnx : dgs n = dgs (m / 10) ++ c :: x := by rw [HX.out, HLX.out, if_neg hz]; simp
        have hmx : m / 10 ≤ n := Nat.le_trans (Nat.div_le_self _ _) hmn
        have hlt : m / 10 < m := Nat.div_lt_self (by omega) (by omega)
        have hbb := HB.out.alloc hsz (.cells #[.int .u8 (48 + (k : Int))] 5)
        go_wp2_with fail
        exact ⟨⟨m / 10, c :: x, rfl, rfl, hnx, by omega, hmx, hbb⟩, by simp [intOf]; omega⟩
    · have kk : (0 < k) = True := by simp only [eq_iff_iff, iff_true]; exact hk0
      have k3 : (-(m : Int)).tmod 10 = -(k : Int) := by rw [Int.neg_tmod, Int.tmod_eq_emod_of_nonneg (by omega)]; omega
      by_cases hz : m / 10 = 0
      · have k5 : (-((m / 10 : Nat) : Int) == 0) = true := by rw [beq_iff_eq]; omega
        have hfin : c :: x = dgs n := by rw [HX.out, HLX.out, if_pos hz]; rfl
        have hnl2 : (9223372036854775807 < 1 + (dgs n).length) = False := by have := dgs_len 18 n (by omega); simp only [eq_iff_iff, iff_false]; omega
        go_wp2_with fail
        go_ret
        exact ⟨rfl, HB.out.alloc hsz _⟩
      · have k5 : (-((m / 10 : Nat) : Int) == 0) = false := by rw [beq_eq_false_iff_ne]; omega
        have hnx : dgs n = dgs (m / 10) ++ c :: x := by rw [HX.out, HLX.out, if_neg hz]; simp
        have hmx : m / 10 ≤ n := Nat.le_trans (Nat.div_le_self _ _) hmn
        have hlt : m / 10 < m := Nat.div_lt_self (by omega) (by omega)
        have hbb := HB.out.alloc hsz (.cells #[.int .u8 (48 + (k : Int))] 5)
        go_wp2_with fail
        exact ⟨⟨m / 10, c :: x, rfl, rfl, hnx, by omega, hmx, hbb⟩, by simp [intOf]; omega⟩
theorem ddigits_any (n : Int) (hn : (Lit.int .i64 n).wf = true) (w : World) :
    Calls Tryd.prog 24 #[.int .i64 n] w fun e w' => e = .returned (.string ⟨(dgz n).toArray⟩) ∧ Below w.heap.size w w' := by
  have h : -9223372036854775808 ≤ n ∧ n ≤ 9223372036854775807 := by
    simp [Lit.wf, IntKind.min, IntKind.max, IntKind.signed, IntKind.bits] at hn
    omega
  unfold dgz
  by_cases h0 : n < 0
  · rw [if_pos h0]
    obtain ⟨m, rfl⟩ : ∃ m : Nat, n = -(m : Int) := ⟨(-n).toNat, by omega⟩
    have e : (- -(m : Int)).toNat = m := by omega
    rw [e]
    exact ddigits_neg m (by omega) (by omega) w
  · rw [if_neg h0]
    obtain ⟨m, rfl⟩ : ∃ m : Nat, n = (m : Int) := ⟨n.toNat, by omega⟩
    exact ddigits_pos m (by omega) w
end Go.Proofs.YtliapkajonbndaaDoor
