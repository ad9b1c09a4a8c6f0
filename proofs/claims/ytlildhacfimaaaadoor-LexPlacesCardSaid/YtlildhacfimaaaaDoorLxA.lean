/-
  The document's sort, word, signs, digits: of which sort a byte is, and where bytes of a sort end.
-/
import Derived.Test.YtlildhacfimaaaaDoorLexN
import Derived.Test.YtlildhacfimaaaaDoorChecked
import Derived.WalkKit
import Derived.Lib.Hide
import Derived.StillTailTactics
namespace Go.Proofs.YtlildhacfimaaaaDoor
open Go.RowKit

theorem ret8 {k : IntKind} {a b : Int} (h : a = b) : Ending.returned (.int k a) = .returned (.int k b) := by rw [h]
def sgns : ByteArray := ⟨#[43, 45, 42, 47, 94, 60, 62, 61, 126, 58, 46, 63, 64, 35, 38, 36]⟩
theorem srt_of {c : UInt8} {n : Nat} (hn : c.toNat = n) : srt c = if 97 ≤ n ∧ n ≤ 122 then 1 else if (65 ≤ n ∧ n ≤ 90) ∨ n = 95 then 2 else if 48 ≤ n ∧ n ≤ 57 then 3 else if n = 32 ∨ n = 9 ∨ n = 10 then 5 else if sgn c = true ∨ n = 92 then 4 else 0 := by
  unfold srt; rw [hn]
theorem sgn_get (c : UInt8) : sgn c = decide (∃ k, ∃ h : k < sgns.size, sgns[k] = c) := by
  rw [Bool.eq_iff_iff, decide_eq_true_eq]
  unfold sgn
  rw [List.contains_iff_mem]
  constructor
  · intro h
    obtain ⟨k, hk, e⟩ := List.getElem_of_mem h
    exact ⟨k, hk, e⟩
  · rintro ⟨k, hk, e⟩
    exact e ▸ List.getElem_mem (l := [43, 45, 42, 47, 94, 60, 62, 61, 126, 58, 46, 63, 64, 35, 38, 36]) hk
set_option maxRecDepth 100000 in
set_option maxHeartbeats 2000000 in
theorem dsort_any (c : UInt8) (w : World) : Calls Tryd.prog 12 #[.int .u8 (c.toNat : Nat)] w fun e w' => e = .returned (.int .i64 (srt c : Nat)) ∧ w = w' := by
  obtain ⟨n, hn⟩ : ∃ n, c.toNat = n := ⟨_, rfl⟩
  have hlt := c.toNat_lt
  have hs := srt_of hn
  rw [hn] at hlt ⊢
  obtain ⟨r, hr⟩ : ∃ r, srt c = r := ⟨_, rfl⟩
  rw [hr] at hs ⊢
  have HN := Lib.hid hn
  clear hn hr
  by_cases h1 : 97 ≤ n ∧ n ≤ 122
  · rw [if_pos h1] at hs
    subst hs
    obtain ⟨h1, h2⟩ := h1
    go_enter Tryd.func12, Tryd.ntmps12
    go_wp2_with fail
    go_ret
    exact ⟨rfl, rfl⟩
  rw [if_neg h1] at hs
  by_cases h2 : 65 ≤ n ∧ n ≤ 90
  · rw [if_pos (.inl h2)] at hs
    subst hs
    obtain ⟨h2, h3⟩ := h2
    have h4 : n < 97 := by omega
    clear h1
    go_enter Tryd.func12, Tryd.ntmps12
    go_wp2_with fail
    go_ret
    exact ⟨rfl, rfl⟩
  by_cases h3 : n = 95
  · rw [if_pos (.inr h3)] at hs
    subst hs h3
    clear h1 h2
    go_enter Tryd.func12, Tryd.ntmps12
    go_wp2_with fail
    go_ret
    exact ⟨rfl, rfl⟩
  rw [if_neg (by rintro (h | h); exact h2 h; exact h3 h)] at hs
  by_cases h4 : 48 ≤ n ∧ n ≤ 57
  · rw [if_pos h4] at hs
    subst hs
    obtain ⟨h4, h5⟩ := h4
    have h6 : n < 65 := by omega
    have h7 : n < 97 := by omega
    have h8 : ((n : Int) == 95) = false := by rw [beq_eq_false_iff_ne]; omega
    clear h1 h2 h3
    go_enter Tryd.func12, Tryd.ntmps12
    go_wp2_with fail
    go_ret
    exact ⟨rfl, rfl⟩
  rw [if_neg h4] at hs
  by_cases h5 : n = 32 ∨ n = 9 ∨ n = 10
  · rw [if_pos h5] at hs
    subst hs
    clear h1 h2 h3 h4
    rcases h5 with rfl | rfl | rfl
    all_goals
      go_enter Tryd.func12, Tryd.ntmps12
      go_wp2_with fail
      go_ret
      exact ⟨rfl, rfl⟩
  rw [if_neg h5] at hs
  have b95 : ((n : Int) == 95) = false := by rw [beq_eq_false_iff_ne]; omega
  have b32 : ((n : Int) == 32) = false := by rw [beq_eq_false_iff_ne]; omega
  have b9 : ((n : Int) == 9) = false := by rw [beq_eq_false_iff_ne]; omega
  have b10 : ((n : Int) == 10) = false := by rw [beq_eq_false_iff_ne]; omega
  have hq : n < 48 ∨ (58 ≤ n ∧ n < 65) ∨ (91 ≤ n ∧ n < 97) ∨ 123 ≤ n := by omega
  have HS := Lib.hid hs
  clear h1 h2 h3 h4 h5 hs
  have hS0 : (⟨#[43, 45, 42, 47, 94, 60, 62, 61, 126, 58, 46, 63, 64, 35, 38, 36]⟩ : ByteArray) = sgns := rfl
  obtain ⟨S, hS⟩ : ∃ S, sgns = S := ⟨_, rfl⟩
  have hz : S.size = 16 := by rw [← hS]; rfl
  have hz1 : S.size ≤ 16 := by omega
  have HS0 := Lib.hid (hS0.trans hS)
  have HSS := Lib.hid hS
  have HZ := Lib.hid hz
  clear hS0 hS hz
  rcases hq with hq | ⟨hq, hq2⟩ | ⟨hq, hq2⟩ | hq
  case inl =>
    have q1 : n < 65 := by omega
    have q2 : n < 97 := by omega
    go_enter Tryd.func12, Tryd.ntmps12
    go_wp2_with fail
    simp only [HS0.out]
    go_loop [4] (fun i => ∃ k : Nat, k ≤ S.size ∧ i = .int .i64 k ∧ Hid (∀ j (h : j < S.size), j < k → S[j] ≠ c)) (fun i => S.size - (intOf i).toNat)
    case atStart => exact ⟨0, Nat.zero_le _, rfl, Lib.hid (fun j _ h => absurd h (Nat.not_lt_zero _))⟩
    case round =>
      obtain ⟨k, hk, rfl, hno⟩ := hrel
      have HNO := Lib.hid hno.out
      clear hno
      by_cases hlt2 : k < S.size
      · by_cases hc : S[k] = c
        · have hb : ((S[k].toNat : Int) == (n : Int)) = true := by rw [hc, HN.out]; simp
          have hr : sgn c = true := by
            rw [sgn_get, decide_eq_true_eq, HSS.out]
            exact ⟨k, hlt2, hc⟩
          have hr2 : r = 4 := by rw [HS.out, if_pos (.inl hr)]
          subst hr2
          clear hr hc
          go_wp2_with fail
          go_ret
          exact ⟨rfl, rfl⟩
        · have hb : ((S[k].toNat : Int) == (n : Int)) = false := by
            rw [beq_eq_false_iff_ne]
            intro e
            exact hc (UInt8.toNat_inj.1 (by rw [HN.out]; omega))
          have HC := Lib.hid hc
          clear hc
          go_wp2_with fail
          go_round
          case rel =>
            refine ⟨k + 1, by omega, by go_num, Lib.hid fun j hj hjk => ?_⟩
            by_cases e : j < k
            · exact HNO.out j hj e
            · obtain rfl : j = k := by omega
              exact HC.out
          case measure => simp [intOf]; omega
      · have hr : sgn c = false := by
          rw [sgn_get, decide_eq_false_iff_not, HSS.out]
          rintro ⟨j, hj, e⟩
          exact HNO.out j hj (by omega) e
        have hr2 : r = if n = 92 then 4 else 0 := by rw [HS.out, hr]; simp
        by_cases h92 : n = 92
        · rw [if_pos h92] at hr2
          subst hr2 h92
          clear hr
          go_wp2_with fail
          go_ret
          exact ⟨rfl, rfl⟩
        · rw [if_neg h92] at hr2
          subst hr2
          have hb : ((n : Int) == 92) = false := by rw [beq_eq_false_iff_ne]; omega
          clear hr h92
          go_wp2_with fail
          go_ret
          exact ⟨rfl, rfl⟩

  case inr.inl =>
    have q1 : 57 < n := by omega
    have q2 : n < 97 := by omega
    have q3 : 48 ≤ n := by omega
    go_enter Tryd.func12, Tryd.ntmps12
    go_wp2_with fail
    simp only [HS0.out]
    go_loop [4] (fun i => ∃ k : Nat, k ≤ S.size ∧ i = .int .i64 k ∧ Hid (∀ j (h : j < S.size), j < k → S[j] ≠ c)) (fun i => S.size - (intOf i).toNat)
    case atStart => exact ⟨0, Nat.zero_le _, rfl, Lib.hid (fun j _ h => absurd h (Nat.not_lt_zero _))⟩
    case round =>
      obtain ⟨k, hk, rfl, hno⟩ := hrel
      have HNO := Lib.hid hno.out
      clear hno
      by_cases hlt2 : k < S.size
      · by_cases hc : S[k] = c
        · have hb : ((S[k].toNat : Int) == (n : Int)) = true := by rw [hc, HN.out]; simp
          have hr : sgn c = true := by
            rw [sgn_get, decide_eq_true_eq, HSS.out]
            exact ⟨k, hlt2, hc⟩
          have hr2 : r = 4 := by rw [HS.out, if_pos (.inl hr)]
          subst hr2
          clear hr hc
          go_wp2_with fail
          go_ret
          exact ⟨rfl, rfl⟩
        · have hb : ((S[k].toNat : Int) == (n : Int)) = false := by
            rw [beq_eq_false_iff_ne]
            intro e
            exact hc (UInt8.toNat_inj.1 (by rw [HN.out]; omega))
          have HC := Lib.hid hc
          clear hc
          go_wp2_with fail
          go_round
          case rel =>
            refine ⟨k + 1, by omega, by go_num, Lib.hid fun j hj hjk => ?_⟩
            by_cases e : j < k
            · exact HNO.out j hj e
            · obtain rfl : j = k := by omega
              exact HC.out
          case measure => simp [intOf]; omega
      · have hr : sgn c = false := by
          rw [sgn_get, decide_eq_false_iff_not, HSS.out]
          rintro ⟨j, hj, e⟩
          exact HNO.out j hj (by omega) e
        have hr2 : r = if n = 92 then 4 else 0 := by rw [HS.out, hr]; simp
        by_cases h92 : n = 92
        · rw [if_pos h92] at hr2
          subst hr2 h92
          clear hr
          go_wp2_with fail
          go_ret
          exact ⟨rfl, rfl⟩
        · rw [if_neg h92] at hr2
          subst hr2
          have hb : ((n : Int) == 92) = false := by rw [beq_eq_false_iff_ne]; omega
          clear hr h92
          go_wp2_with fail
          go_ret
          exact ⟨rfl, rfl⟩

  case inr.inr.inl =>
    have q1 : 57 < n := by omega
    have q2 : 90 < n := by omega
    have q3 : 48 ≤ n := by omega
    have q4 : 65 ≤ n := by omega
    go_enter Tryd.func12, Tryd.ntmps12
    go_wp2_with fail
    simp only [HS0.out]
    go_loop [4] (fun i => ∃ k : Nat, k ≤ S.size ∧ i = .int .i64 k ∧ Hid (∀ j (h : j < S.size), j < k → S[j] ≠ c)) (fun i => S.size - (intOf i).toNat)
    case atStart => exact ⟨0, Nat.zero_le _, rfl, Lib.hid (fun j _ h => absurd h (Nat.not_lt_zero _))⟩
    case round =>
      obtain ⟨k, hk, rfl, hno⟩ := hrel
      have HNO := Lib.hid hno.out
      clear hno
      by_cases hlt2 : k < S.size
      · by_cases hc : S[k] = c
        · have hb : ((S[k].toNat : Int) == (n : Int)) = true := by rw [hc, HN.out]; simp
          have hr : sgn c = true := by
            rw [sgn_get, decide_eq_true_eq, HSS.out]
            exact ⟨k, hlt2, hc⟩
          have hr2 : r = 4 := by rw [HS.out, if_pos (.inl hr)]
          subst hr2
          clear hr hc
          go_wp2_with fail
          go_ret
          exact ⟨rfl, rfl⟩
        · have hb : ((S[k].toNat : Int) == (n : Int)) = false := by
            rw [beq_eq_false_iff_ne]
            intro e
            exact hc (UInt8.toNat_inj.1 (by rw [HN.out]; omega))
          have HC := Lib.hid hc
          clear hc
          go_wp2_with fail
          go_round
          case rel =>
            refine ⟨k + 1, by omega, by go_num, Lib.hid fun j hj hjk => ?_⟩
            by_cases e : j < k
            · exact HNO.out j hj e
            · obtain rfl : j = k := by omega
              exact HC.out
          case measure => simp [intOf]; omega
      · have hr : sgn c = false := by
          rw [sgn_get, decide_eq_false_iff_not, HSS.out]
          rintro ⟨j, hj, e⟩
          exact HNO.out j hj (by omega) e
        have hr2 : r = if n = 92 then 4 else 0 := by rw [HS.out, hr]; simp
        by_cases h92 : n = 92
        · rw [if_pos h92] at hr2
          subst hr2 h92
          clear hr
          go_wp2_with fail
          go_ret
          exact ⟨rfl, rfl⟩
        · rw [if_neg h92] at hr2
          subst hr2
          have hb : ((n : Int) == 92) = false := by rw [beq_eq_false_iff_ne]; omega
          clear hr h92
          go_wp2_with fail
          go_ret
          exact ⟨rfl, rfl⟩

  case inr.inr.inr =>
    have q1 : 57 < n := by omega
    have q2 : 90 < n := by omega
    have q3 : 48 ≤ n := by omega
    have q4 : 65 ≤ n := by omega
    have q5 : 97 ≤ n := by omega
    have q6 : 122 < n := by omega
    go_enter Tryd.func12, Tryd.ntmps12
    go_wp2_with fail
    simp only [HS0.out]
    go_loop [4] (fun i => ∃ k : Nat, k ≤ S.size ∧ i = .int .i64 k ∧ Hid (∀ j (h : j < S.size), j < k → S[j] ≠ c)) (fun i => S.size - (intOf i).toNat)
    case atStart => exact ⟨0, Nat.zero_le _, rfl, Lib.hid (fun j _ h => absurd h (Nat.not_lt_zero _))⟩
    case round =>
      obtain ⟨k, hk, rfl, hno⟩ := hrel
      have HNO := Lib.hid hno.out
      clear hno
      by_cases hlt2 : k < S.size
      · by_cases hc : S[k] = c
        · have hb : ((S[k].toNat : Int) == (n : Int)) = true := by rw [hc, HN.out]; simp
          have hr : sgn c = true := by
            rw [sgn_get, decide_eq_true_eq, HSS.out]
            exact ⟨k, hlt2, hc⟩
          have hr2 : r = 4 := by rw [HS.out, if_pos (.inl hr)]
          subst hr2
          clear hr hc
          go_wp2_with fail
          go_ret
          exact ⟨rfl, rfl⟩
        · have hb : ((S[k].toNat : Int) == (n : Int)) = false := by
            rw [beq_eq_false_iff_ne]
            intro e
            exact hc (UInt8.toNat_inj.1 (by rw [HN.out]; omega))
          have HC := Lib.hid hc
          clear hc
          go_wp2_with fail
          go_round
          case rel =>
            refine ⟨k + 1, by omega, by go_num, Lib.hid fun j hj hjk => ?_⟩
            by_cases e : j < k
            · exact HNO.out j hj e
            · obtain rfl : j = k := by omega
              exact HC.out
          case measure => simp [intOf]; omega
      · have hr : sgn c = false := by
          rw [sgn_get, decide_eq_false_iff_not, HSS.out]
          rintro ⟨j, hj, e⟩
          exact HNO.out j hj (by omega) e
        have hr2 : r = if n = 92 then 4 else 0 := by rw [HS.out, hr]; simp
        by_cases h92 : n = 92
        · rw [if_pos h92] at hr2
          subst hr2 h92
          clear hr
          go_wp2_with fail
          go_ret
          exact ⟨rfl, rfl⟩
        · rw [if_neg h92] at hr2
          subst hr2
          have hb : ((n : Int) == 92) = false := by rw [beq_eq_false_iff_ne]; omega
          clear hr h92
          go_wp2_with fail
          go_ret
          exact ⟨rfl, rfl⟩


def bs (s : ByteArray) : List UInt8 := s.data.toList
theorem bs_length (s : ByteArray) : (bs s).length = s.size := by simp [bs]
theorem bs_get (s : ByteArray) (i : Nat) (h : i < s.size) : (bs s)[i]'(by rw [bs_length]; exact h) = s[i] := by simp [bs]; rfl
theorem tw_at {p : UInt8 → Bool} : ∀ (l : List UInt8) (at' q : Nat), at' ≤ q → q ≤ l.length → (∀ j (h : j < l.length), at' ≤ j → j < q → p l[j] = true) → (∀ h : q < l.length, p l[q] = false) → at' + ((l.drop at').takeWhile p).length = q := by
  intro l at' q h1 h2 h3 h4
  have e : (l.drop at').takeWhile p = (l.drop at').take (q - at') := by
    have h6 : ∀ x ∈ (l.drop at').take (q - at'), p x = true := by
      intro x hx
      obtain ⟨i, hi, rfl⟩ := List.getElem_of_mem hx
      simp only [List.length_take, List.length_drop] at hi
      simp only [List.getElem_take, List.getElem_drop]
      exact h3 _ _ (by omega) (by omega)
    have h9 : List.takeWhile p (List.drop (q - at') (List.drop at' l)) = [] := by
      rw [List.drop_drop, show at' + (q - at') = q by omega]
      by_cases hq : q < l.length
      · rw [List.drop_eq_getElem_cons hq, List.takeWhile_cons, h4 hq]
        rfl
      · rw [List.drop_eq_nil_of_le (by omega)]
        rfl
    have h8 := List.takeWhile_append_of_pos (l₂ := List.drop (q - at') (List.drop at' l)) h6
    rw [List.take_append_drop, h9, List.append_nil] at h8
    exact h8
  rw [e, List.length_take, List.length_drop]
  omega
theorem isWord_of {c : UInt8} {r : Nat} (h : srt c = r) : isWord c = decide (1 ≤ r ∧ r ≤ 3) := by unfold isWord; rw [h]

set_option maxRecDepth 100000 in
set_option maxHeartbeats 2000000 in
theorem dword_any (s : ByteArray) (at' : Nat) (w : World) (hat : at' ≤ s.size) (hs : s.size ≤ 1000000) :
    Calls Tryd.prog 28 #[.string s, .int .i64 (at' : Nat)] w fun e w' => e = .returned (.int .i64 (at' + (((bs s).drop at').takeWhile isWord).length : Nat)) ∧ w = w' := by
  have HAT := Lib.hid hat
  go_enter Tryd.func28, Tryd.ntmps28
  go_wp2_with fail
  go_loop [1] (fun i => ∃ q : Nat, at' ≤ q ∧ q ≤ s.size ∧ i = .int .i64 q ∧ Hid (∀ j (h : j < s.size), at' ≤ j → j < q → isWord s[j] = true)) (fun i => s.size - (intOf i).toNat)
  case atStart => exact ⟨at', Nat.le_refl _, hat, rfl, Lib.hid (fun j _ h1 h2 => by omega)⟩
  case round =>
    obtain ⟨q, hq1, hq2, rfl, hall⟩ := hrel
    have HALL := Lib.hid hall.out
    clear hall
    have hend : ∀ hq : (∀ h : q < s.size, isWord s[q] = false), (at' + (((bs s).drop at').takeWhile isWord).length : Nat) = q := fun hq =>
      tw_at (bs s) at' q hq1 (by rw [bs_length]; exact hq2) (fun j h h1 h2 => by have := HALL.out j (by rw [bs_length] at h; exact h) h1 h2; rw [← bs_get] at this; exact this) (fun h => by have := hq (by rw [bs_length] at h; exact h); rw [← bs_get] at this; exact this)
    have HEND := Lib.hid hend
    clear hend
    by_cases hlt : q < s.size
    · obtain ⟨r, hr⟩ : ∃ r, srt s[q] = r := ⟨_, rfl⟩
      have hcall := fun u => dsort_any s[q] u
      rw [hr] at hcall
      have HC := Lib.hid hcall
      have HR := Lib.hid hr
      clear hcall hr
      by_cases h1 : 1 ≤ r
      · by_cases h3 : r ≤ 3
        · have hp : isWord s[q] = true := by rw [isWord_of HR.out]; simp [h1, h3]
          have HP := Lib.hid hp
          clear hp
          go_wp2_with (go_at_call 12; refine (HC.out _).mono ?_; rintro e w' ⟨rfl, rfl⟩)
          go_round
          case rel =>
            refine ⟨q + 1, by omega, by omega, by go_num, Lib.hid fun j hj h5 h6 => ?_⟩
            by_cases e : j < q
            · exact HALL.out j hj h5 e
            · obtain rfl : j = q := by omega
              exact HP.out
          case measure => simp [intOf]; omega
        · have hp : isWord s[q] = false := by rw [isWord_of HR.out]; simp; omega
          have HP := Lib.hid (HEND.out fun _ => hp)
          clear hp
          go_wp2_with (go_at_call 12; refine (HC.out _).mono ?_; rintro e w' ⟨rfl, rfl⟩)
          go_ret
          refine ⟨ret8 ?_, rfl⟩
          have := HP.out
          omega
      · have hp : isWord s[q] = false := by rw [isWord_of HR.out]; simp; omega
        have HP := Lib.hid (HEND.out fun _ => hp)
        clear hp
        go_wp2_with (go_at_call 12; refine (HC.out _).mono ?_; rintro e w' ⟨rfl, rfl⟩)
        go_ret
        refine ⟨ret8 ?_, rfl⟩
        have := HP.out
        omega
    · have HP := Lib.hid (HEND.out fun h => absurd h hlt)
      go_wp2_with fail
      go_ret
      refine ⟨ret8 ?_, rfl⟩
      have := HP.out
      omega

set_option maxRecDepth 100000 in
set_option maxHeartbeats 2000000 in
theorem dsigns_any (s : ByteArray) (at' : Nat) (w : World) (hat : at' ≤ s.size) (hs : s.size ≤ 1000000) :
    Calls Tryd.prog 32 #[.string s, .int .i64 (at' : Nat)] w fun e w' => e = .returned (.int .i64 (at' + (((bs s).drop at').takeWhile isSign).length : Nat)) ∧ w = w' := by
  have HAT := Lib.hid hat
  go_enter Tryd.func32, Tryd.ntmps32
  go_wp2_with fail
  go_loop [1] (fun i => ∃ q : Nat, at' ≤ q ∧ q ≤ s.size ∧ i = .int .i64 q ∧ Hid (∀ j (h : j < s.size), at' ≤ j → j < q → isSign s[j] = true)) (fun i => s.size - (intOf i).toNat)
  case atStart => exact ⟨at', Nat.le_refl _, hat, rfl, Lib.hid (fun j _ h1 h2 => by omega)⟩
  case round =>
    obtain ⟨q, hq1, hq2, rfl, hall⟩ := hrel
    have HALL := Lib.hid hall.out
    clear hall
    have hend : ∀ hq : (∀ h : q < s.size, isSign s[q] = false), (at' + (((bs s).drop at').takeWhile isSign).length : Nat) = q := fun hq =>
      tw_at (bs s) at' q hq1 (by rw [bs_length]; exact hq2) (fun j h h1 h2 => by have := HALL.out j (by rw [bs_length] at h; exact h) h1 h2; rw [← bs_get] at this; exact this) (fun h => by have := hq (by rw [bs_length] at h; exact h); rw [← bs_get] at this; exact this)
    have HEND := Lib.hid hend
    clear hend
    by_cases hlt : q < s.size
    · obtain ⟨r, hr⟩ : ∃ r, srt s[q] = r := ⟨_, rfl⟩
      have hcall := fun u => dsort_any s[q] u
      rw [hr] at hcall
      have HC := Lib.hid hcall
      have HR := Lib.hid hr
      clear hcall hr
      by_cases h1 : r = 4
      · subst h1
        have hp : isSign s[q] = true := by unfold isSign; rw [HR.out]; rfl
        have HP := Lib.hid hp
        clear hp
        go_wp2_with (go_at_call 12; refine (HC.out _).mono ?_; rintro e w' ⟨rfl, rfl⟩)
        go_round
        case rel =>
          refine ⟨q + 1, by omega, by omega, by go_num, Lib.hid fun j hj h5 h6 => ?_⟩
          by_cases e : j < q
          · exact HALL.out j hj h5 e
          · obtain rfl : j = q := by omega
            exact HP.out
        case measure => simp [intOf]; omega
      · have hp : isSign s[q] = false := by unfold isSign; rw [HR.out]; simpa using h1
        have hb : ((r : Int) == 4) = false := by rw [beq_eq_false_iff_ne]; omega
        have HP := Lib.hid (HEND.out fun _ => hp)
        clear hp h1
        go_wp2_with (go_at_call 12; refine (HC.out _).mono ?_; rintro e w' ⟨rfl, rfl⟩)
        go_ret
        refine ⟨ret8 ?_, rfl⟩
        have := HP.out
        omega
    · have HP := Lib.hid (HEND.out fun h => absurd h hlt)
      go_wp2_with fail
      go_ret
      refine ⟨ret8 ?_, rfl⟩
      have := HP.out
      omega

set_option maxRecDepth 100000 in
set_option maxHeartbeats 2000000 in
theorem ddigits_any (s : ByteArray) (at' : Nat) (w : World) (hat : at' ≤ s.size) (hs : s.size ≤ 1000000) :
    Calls Tryd.prog 29 #[.string s, .int .i64 (at' : Nat)] w fun e w' => e = .returned (.int .i64 (at' + (((bs s).drop at').takeWhile isDigit).length : Nat)) ∧ w = w' := by
  have HAT := Lib.hid hat
  go_enter Tryd.func29, Tryd.ntmps29
  go_wp2_with fail
  go_loop [1] (fun i => ∃ q : Nat, at' ≤ q ∧ q ≤ s.size ∧ i = .int .i64 q ∧ Hid (∀ j (h : j < s.size), at' ≤ j → j < q → isDigit s[j] = true)) (fun i => s.size - (intOf i).toNat)
  case atStart => exact ⟨at', Nat.le_refl _, hat, rfl, Lib.hid (fun j _ h1 h2 => by omega)⟩
  case round =>
    obtain ⟨q, hq1, hq2, rfl, hall⟩ := hrel
    have HALL := Lib.hid hall.out
    clear hall
    have hend : ∀ hq : (∀ h : q < s.size, isDigit s[q] = false), (at' + (((bs s).drop at').takeWhile isDigit).length : Nat) = q := fun hq =>
      tw_at (bs s) at' q hq1 (by rw [bs_length]; exact hq2) (fun j h h1 h2 => by have := HALL.out j (by rw [bs_length] at h; exact h) h1 h2; rw [← bs_get] at this; exact this) (fun h => by have := hq (by rw [bs_length] at h; exact h); rw [← bs_get] at this; exact this)
    have HEND := Lib.hid hend
    clear hend
    by_cases hlt : q < s.size
    · obtain ⟨r, hr⟩ : ∃ r, srt s[q] = r := ⟨_, rfl⟩
      have hcall := fun u => dsort_any s[q] u
      rw [hr] at hcall
      have HC := Lib.hid hcall
      have HR := Lib.hid hr
      clear hcall hr
      by_cases h1 : r = 3
      · subst h1
        have hp : isDigit s[q] = true := by unfold isDigit; rw [HR.out]; rfl
        have HP := Lib.hid hp
        clear hp
        go_wp2_with (go_at_call 12; refine (HC.out _).mono ?_; rintro e w' ⟨rfl, rfl⟩)
        go_round
        case rel =>
          refine ⟨q + 1, by omega, by omega, by go_num, Lib.hid fun j hj h5 h6 => ?_⟩
          by_cases e : j < q
          · exact HALL.out j hj h5 e
          · obtain rfl : j = q := by omega
            exact HP.out
        case measure => simp [intOf]; omega
      · have hp : isDigit s[q] = false := by unfold isDigit; rw [HR.out]; simpa using h1
        have hb : ((r : Int) == 3) = false := by rw [beq_eq_false_iff_ne]; omega
        have HP := Lib.hid (HEND.out fun _ => hp)
        clear hp h1
        go_wp2_with (go_at_call 12; refine (HC.out _).mono ?_; rintro e w' ⟨rfl, rfl⟩)
        go_ret
        refine ⟨ret8 ?_, rfl⟩
        have := HP.out
        omega
    · have HP := Lib.hid (HEND.out fun h => absurd h hlt)
      go_wp2_with fail
      go_ret
      refine ⟨ret8 ?_, rfl⟩
      have := HP.out
      omega
end Go.Proofs.YtlildhacfimaaaaDoor
