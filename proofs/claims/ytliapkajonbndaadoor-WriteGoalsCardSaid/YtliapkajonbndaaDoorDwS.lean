/-
  The document's sort of a byte of a name.
-/
import Derived.Test.YtliapkajonbndaaDoorWrP
import Derived.Test.YtliapkajonbndaaDoorChecked
import Derived.WalkKit
import Derived.Lib.Hide
import Derived.StillTailTactics
import Derived.OwnWalk
namespace Go.Proofs.YtliapkajonbndaaDoor
open Go.RowKit

def wsgs : ByteArray := ⟨#[43, 45, 42, 47, 94, 60, 62, 61, 126, 58, 63, 64, 35, 38, 36]⟩
def wsg (c : UInt8) : Bool := ([43, 45, 42, 47, 94, 60, 62, 61, 126, 58, 63, 64, 35, 38, 36] : List UInt8).contains c
theorem wsg_get (c : UInt8) : wsg c = decide (∃ k, ∃ h : k < wsgs.size, wsgs[k] = c) := by
  rw [Bool.eq_iff_iff, decide_eq_true_eq]
  unfold wsg
  rw [List.contains_iff_mem]
  constructor
  · intro h
    obtain ⟨k, hk, e⟩ := List.getElem_of_mem h
    exact ⟨k, hk, e⟩
  · rintro ⟨k, hk, e⟩
    exact e ▸ List.getElem_mem (l := [43, 45, 42, 47, 94, 60, 62, 61, 126, 58, 63, 64, 35, 38, 36]) hk
theorem wsort_of {c : UInt8} {n : Nat} (hn : c.toNat = n) : wsort c = if 97 ≤ n ∧ n ≤ 122 then 1 else if (65 ≤ n ∧ n ≤ 90) ∨ (48 ≤ n ∧ n ≤ 57) ∨ n = 95 then 2 else if wsg c = true then 3 else if n = 92 then 3 else 0 := by
  unfold wsort wsg; rw [hn]
set_option maxRecDepth 100000 in
set_option maxHeartbeats 2000000 in
theorem wsort_any (c : UInt8) (w : World) : Calls Tryd.prog 39 #[.int .u8 (c.toNat : Nat)] w fun e w' => e = .returned (.int .i64 (wsort c : Nat)) ∧ w = w' := by
  obtain ⟨n, hn⟩ : ∃ n, c.toNat = n := ⟨_, rfl⟩
  have hlt := c.toNat_lt
  have hs := wsort_of hn
  rw [hn] at hlt ⊢
  obtain ⟨r, hr⟩ : ∃ r, wsort c = r := ⟨_, rfl⟩
  rw [hr] at hs ⊢
  have HN := Lib.hid hn
  clear hn hr
  by_cases h1 : 97 ≤ n ∧ n ≤ 122
  · rw [if_pos h1] at hs
    subst hs
    obtain ⟨h1, h2⟩ := h1
    go_enter Tryd.func39, Tryd.ntmps39
    go_wp2_with fail
    go_ret
    exact ⟨rfl, rfl⟩
  rw [if_neg h1] at hs
  by_cases h2 : (65 ≤ n ∧ n ≤ 90) ∨ (48 ≤ n ∧ n ≤ 57) ∨ n = 95
  · rw [if_pos h2] at hs
    subst hs
    clear h1
    rcases h2 with ⟨h2, h3⟩ | ⟨h2, h3⟩ | rfl
    · have h4 : n < 97 := by omega
      go_enter Tryd.func39, Tryd.ntmps39
      go_wp2_with fail
      go_ret
      exact ⟨rfl, rfl⟩
    · have h4 : n < 97 := by omega
      have h5 : n < 65 := by omega
      go_enter Tryd.func39, Tryd.ntmps39
      go_wp2_with fail
      go_ret
      exact ⟨rfl, rfl⟩
    · go_enter Tryd.func39, Tryd.ntmps39
      go_wp2_with fail
      go_ret
      exact ⟨rfl, rfl⟩
  rw [if_neg h2] at hs
  have b95 : ((n : Int) == 95) = false := by rw [beq_eq_false_iff_ne]; omega
  have hq : n < 48 ∨ (58 ≤ n ∧ n < 65) ∨ (91 ≤ n ∧ n < 97) ∨ 123 ≤ n := by omega
  have HS := Lib.hid hs
  clear h1 h2 hs
  have hS0 : (⟨#[43, 45, 42, 47, 94, 60, 62, 61, 126, 58, 63, 64, 35, 38, 36]⟩ : ByteArray) = wsgs := rfl
  obtain ⟨S, hS⟩ : ∃ S, wsgs = S := ⟨_, rfl⟩
  have hz : S.size = 15 := by rw [← hS]; rfl
  have hz1 : S.size ≤ 15 := by omega
  have HS0 := Lib.hid (hS0.trans hS)
  have HSS := Lib.hid hS
  have HZ := Lib.hid hz
  clear hS0 hS hz
  rcases hq with hq | ⟨hq, hq2⟩ | ⟨hq, hq2⟩ | hq
  case inl =>
    have q1 : n < 65 := by omega
    have q2 : n < 97 := by omega
    go_enter Tryd.func39, Tryd.ntmps39
    go_wp2_with fail
    simp only [HS0.out]
    go_loop [4] (fun i => ∃ k : Nat, k ≤ S.size ∧ i = .int .i64 k ∧ Hid (∀ j (h : j < S.size), j < k → S[j] ≠ c)) (fun i => S.size - (intOf i).toNat)
    case atStart => exact ⟨0, Nat.zero_le _, rfl, Lib.hid (fun j _ h => absurd h (Nat.not_lt_zero _))⟩
    case round =>
      obtain ⟨k, hk, rfl, hno⟩ := hrel
      have HNO := Lib.hid hno.out
      clear hno
      by_cases hlt2 : k < S.size
      · by_cases hc : S[k] = c
        · have hb : ((S[k].toNat : Int) == (n : Int)) = true := by rw [hc, HN.out]; simp
          have hr : wsg c = true := by
            rw [wsg_get, decide_eq_true_eq, HSS.out]
            exact ⟨k, hlt2, hc⟩
          have hr2 : r = 3 := by rw [HS.out, if_pos hr]
          subst hr2
          clear hr hc
          go_wp2_with fail
          go_ret
          exact ⟨rfl, rfl⟩
        · have hb : ((S[k].toNat : Int) == (n : Int)) = false := by
            rw [beq_eq_false_iff_ne]
            intro e
            exact hc (UInt8.toNat_inj.1 (by rw [HN.out]; omega))
          have HC := Lib.hid hc
          clear hc
          go_wp2_with fail
          go_round
          case rel =>
            refine ⟨k + 1, by omega, by go_num, Lib.hid fun j hj hjk => ?_⟩
            by_cases e : j < k
            · exact HNO.out j hj e
            · obtain rfl : j = k := by omega
              exact HC.out
          case measure => simp [intOf]; omega
      · have hr : wsg c = false := by
          rw [wsg_get, decide_eq_false_iff_not, HSS.out]
          rintro ⟨j, hj, e⟩
          exact HNO.out j hj (by omega) e
        have hr2 : r = if n = 92 then 3 else 0 := by rw [HS.out, hr]; simp
        by_cases h92 : n = 92
        · rw [if_pos h92] at hr2
          subst hr2 h92
          clear hr
          go_wp2_with fail
          go_ret
          exact ⟨rfl, rfl⟩
        · rw [if_neg h92] at hr2
          subst hr2
          have hb : ((n : Int) == 92) = false := by rw [beq_eq_false_iff_ne]; omega
          clear hr h92
          go_wp2_with fail
          go_ret
          exact ⟨rfl, rfl⟩
  case inr.inl =>
    have q1 : 57 < n := by omega
    have q2 : n < 97 := by omega
    have q3 : 48 ≤ n := by omega
    go_enter Tryd.func39, Tryd.ntmps39
    go_wp2_with fail
    simp only [HS0.out]
    go_loop [4] (fun i => ∃ k : Nat, k ≤ S.size ∧ i = .int .i64 k ∧ Hid (∀ j (h : j < S.size), j < k → S[j] ≠ c)) (fun i => S.size - (intOf i).toNat)
    case atStart => exact ⟨0, Nat.zero_le _, rfl, Lib.hid (fun j _ h => absurd h (Nat.not_lt_zero _))⟩
    case round =>
      obtain ⟨k, hk, rfl, hno⟩ := hrel
      have HNO := Lib.hid hno.out
      clear hno
      by_cases hlt2 : k < S.size
      · by_cases hc : S[k] = c
        · have hb : ((S[k].toNat : Int) == (n : Int)) = true := by rw [hc, HN.out]; simp
          have hr : wsg c = true := by
            rw [wsg_get, decide_eq_true_eq, HSS.out]
            exact ⟨k, hlt2, hc⟩
          have hr2 : r = 3 := by rw [HS.out, if_pos hr]
          subst hr2
          clear hr hc
          go_wp2_with fail
          go_ret
          exact ⟨rfl, rfl⟩
        · have hb : ((S[k].toNat : Int) == (n : Int)) = false := by
            rw [beq_eq_false_iff_ne]
            intro e
            exact hc (UInt8.toNat_inj.1 (by rw [HN.out]; omega))
          have HC := Lib.hid hc
          clear hc
          go_wp2_with fail
          go_round
          case rel =>
            refine ⟨k + 1, by omega, by go_num, Lib.hid fun j hj hjk => ?_⟩
            by_cases e : j < k
            · exact HNO.out j hj e
            · obtain rfl : j = k := by omega
              exact HC.out
          case measure => simp [intOf]; omega
      · have hr : wsg c = false := by
          rw [wsg_get, decide_eq_false_iff_not, HSS.out]
          rintro ⟨j, hj, e⟩
          exact HNO.out j hj (by omega) e
        have hr2 : r = if n = 92 then 3 else 0 := by rw [HS.out, hr]; simp
        by_cases h92 : n = 92
        · rw [if_pos h92] at hr2
          subst hr2 h92
          clear hr
          go_wp2_with fail
          go_ret
          exact ⟨rfl, rfl⟩
        · rw [if_neg h92] at hr2
          subst hr2
          have hb : ((n : Int) == 92) = false := by rw [beq_eq_false_iff_ne]; omega
          clear hr h92
          go_wp2_with fail
          go_ret
          exact ⟨rfl, rfl⟩
  case inr.inr.inl =>
    have q1 : 90 < n := by omega
    have q2 : 57 < n := by omega
    have q3 : 48 ≤ n := by omega
    have q4 : 65 ≤ n := by omega
    go_enter Tryd.func39, Tryd.ntmps39
    go_wp2_with fail
    simp only [HS0.out]
    go_loop [4] (fun i => ∃ k : Nat, k ≤ S.size ∧ i = .int .i64 k ∧ Hid (∀ j (h : j < S.size), j < k → S[j] ≠ c)) (fun i => S.size - (intOf i).toNat)
    case atStart => exact ⟨0, Nat.zero_le _, rfl, Lib.hid (fun j _ h => absurd h (Nat.not_lt_zero _))⟩
    case round =>
      obtain ⟨k, hk, rfl, hno⟩ := hrel
      have HNO := Lib.hid hno.out
      clear hno
      by_cases hlt2 : k < S.size
      · by_cases hc : S[k] = c
        · have hb : ((S[k].toNat : Int) == (n : Int)) = true := by rw [hc, HN.out]; simp
          have hr : wsg c = true := by
            rw [wsg_get, decide_eq_true_eq, HSS.out]
            exact ⟨k, hlt2, hc⟩
          have hr2 : r = 3 := by rw [HS.out, if_pos hr]
          subst hr2
          clear hr hc
          go_wp2_with fail
          go_ret
          exact ⟨rfl, rfl⟩
        · have hb : ((S[k].toNat : Int) == (n : Int)) = false := by
            rw [beq_eq_false_iff_ne]
            intro e
            exact hc (UInt8.toNat_inj.1 (by rw [HN.out]; omega))
          have HC := Lib.hid hc
          clear hc
          go_wp2_with fail
          go_round
          case rel =>
            refine ⟨k + 1, by omega, by go_num, Lib.hid fun j hj hjk => ?_⟩
            by_cases e : j < k
            · exact HNO.out j hj e
            · obtain rfl : j = k := by omega
              exact HC.out
          case measure => simp [intOf]; omega
      · have hr : wsg c = false := by
          rw [wsg_get, decide_eq_false_iff_not, HSS.out]
          rintro ⟨j, hj, e⟩
          exact HNO.out j hj (by omega) e
        have hr2 : r = if n = 92 then 3 else 0 := by rw [HS.out, hr]; simp
        by_cases h92 : n = 92
        · rw [if_pos h92] at hr2
          subst hr2 h92
          clear hr
          go_wp2_with fail
          go_ret
          exact ⟨rfl, rfl⟩
        · rw [if_neg h92] at hr2
          subst hr2
          have hb : ((n : Int) == 92) = false := by rw [beq_eq_false_iff_ne]; omega
          clear hr h92
          go_wp2_with fail
          go_ret
          exact ⟨rfl, rfl⟩
  case inr.inr.inr =>
    have q1 : 122 < n := by omega
    have q2 : 97 ≤ n := by omega
    have q3 : 90 < n := by omega
    have q4 : 57 < n := by omega
    have q5 : 48 ≤ n := by omega
    have q6 : 65 ≤ n := by omega
    go_enter Tryd.func39, Tryd.ntmps39
    go_wp2_with fail
    simp only [HS0.out]
    go_loop [4] (fun i => ∃ k : Nat, k ≤ S.size ∧ i = .int .i64 k ∧ Hid (∀ j (h : j < S.size), j < k → S[j] ≠ c)) (fun i => S.size - (intOf i).toNat)
    case atStart => exact ⟨0, Nat.zero_le _, rfl, Lib.hid (fun j _ h => absurd h (Nat.not_lt_zero _))⟩
    case round =>
      obtain ⟨k, hk, rfl, hno⟩ := hrel
      have HNO := Lib.hid hno.out
      clear hno
      by_cases hlt2 : k < S.size
      · by_cases hc : S[k] = c
        · have hb : ((S[k].toNat : Int) == (n : Int)) = true := by rw [hc, HN.out]; simp
          have hr : wsg c = true := by
            rw [wsg_get, decide_eq_true_eq, HSS.out]
            exact ⟨k, hlt2, hc⟩
          have hr2 : r = 3 := by rw [HS.out, if_pos hr]
          subst hr2
          clear hr hc
          go_wp2_with fail
          go_ret
          exact ⟨rfl, rfl⟩
        · have hb : ((S[k].toNat : Int) == (n : Int)) = false := by
            rw [beq_eq_false_iff_ne]
            intro e
            exact hc (UInt8.toNat_inj.1 (by rw [HN.out]; omega))
          have HC := Lib.hid hc
          clear hc
          go_wp2_with fail
          go_round
          case rel =>
            refine ⟨k + 1, by omega, by go_num, Lib.hid fun j hj hjk => ?_⟩
            by_cases e : j < k
            · exact HNO.out j hj e
            · obtain rfl : j = k := by omega
              exact HC.out
          case measure => simp [intOf]; omega
      · have hr : wsg c = false := by
          rw [wsg_get, decide_eq_false_iff_not, HSS.out]
          rintro ⟨j, hj, e⟩
          exact HNO.out j hj (by omega) e
        have hr2 : r = if n = 92 then 3 else 0 := by rw [HS.out, hr]; simp
        by_cases h92 : n = 92
        · rw [if_pos h92] at hr2
          subst hr2 h92
          clear hr
          go_wp2_with fail
          go_ret
          exact ⟨rfl, rfl⟩
        · rw [if_neg h92] at hr2
          subst hr2
          have hb : ((n : Int) == 92) = false := by rw [beq_eq_false_iff_ne]; omega
          clear hr h92
          go_wp2_with fail
          go_ret
          exact ⟨rfl, rfl⟩
end Go.Proofs.YtliapkajonbndaaDoor
