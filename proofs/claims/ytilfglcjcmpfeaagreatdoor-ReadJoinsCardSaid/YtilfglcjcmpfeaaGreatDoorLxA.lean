/-
  The document's sort, word, signs, digits: of which sort a byte is, and where bytes of a sort end.
  The document's number and quoted.
  The document's quoted.
  The document's name: a token of a name, in new memory.
  The document's One: the token at a place.
-/
import Derived.Test.YtilfglcjcmpfeaaGreatDoorLexN
import Derived.Test.YtilfglcjcmpfeaaGreatDoorChecked
import Derived.WalkKit
import Derived.Lib.Hide
import Derived.StillTailTactics
import Derived.OwnWalk
import Derived.Deep.RegionHeld3
import Derived.Deep.RegionWith
namespace Go.Proofs.YtilfglcjcmpfeaaGreatDoor
open Go.RowKit

theorem ret8 {k : IntKind} {a b : Int} (h : a = b) : Ending.returned (.int k a) = .returned (.int k b) := by rw [h]
def sgns : ByteArray := ⟨#[43, 45, 42, 47, 94, 60, 62, 61, 126, 58, 46, 63, 64, 35, 38, 36]⟩
theorem srt_of {c : UInt8} {n : Nat} (hn : c.toNat = n) : srt c = if 97 ≤ n ∧ n ≤ 122 then 1 else if (65 ≤ n ∧ n ≤ 90) ∨ n = 95 then 2 else if 48 ≤ n ∧ n ≤ 57 then 3 else if n = 32 ∨ n = 9 ∨ n = 10 then 5 else if sgn c = true ∨ n = 92 then 4 else 0 := by
  unfold srt; rw [hn]
theorem sgn_get (c : UInt8) : sgn c = decide (∃ k, ∃ h : k < sgns.size, sgns[k] = c) := by
  rw [Bool.eq_iff_iff, decide_eq_true_eq]
  unfold sgn
  rw [List.contains_iff_mem]
  constructor
  · intro h
    obtain ⟨k, hk, e⟩ := List.getElem_of_mem h
    exact ⟨k, hk, e⟩
  · rintro ⟨k, hk, e⟩
    exact e ▸ List.getElem_mem (l := [43, 45, 42, 47, 94, 60, 62, 61, 126, 58, 46, 63, 64, 35, 38, 36]) hk
set_option maxRecDepth 100000 in
set_option maxHeartbeats 2000000 in
theorem dsort_any (c : UInt8) (w : World) : Calls Tryz.prog 34 #[.int .u8 (c.toNat : Nat)] w fun e w' => e = .returned (.int .i64 (srt c : Nat)) ∧ w = w' := by
  obtain ⟨n, hn⟩ : ∃ n, c.toNat = n := ⟨_, rfl⟩
  have hlt := c.toNat_lt
  have hs := srt_of hn
  rw [hn] at hlt ⊢
  obtain ⟨r, hr⟩ : ∃ r, srt c = r := ⟨_, rfl⟩
  rw [hr] at hs ⊢
  have HN := Lib.hid hn
  clear hn hr
  by_cases h1 : 97 ≤ n ∧ n ≤ 122
  · rw [if_pos h1] at hs
    subst hs
    obtain ⟨h1, h2⟩ := h1
    go_enter Tryz.func34, Tryz.ntmps34
    go_wp2_with fail
    go_ret
    exact ⟨rfl, rfl⟩
  rw [if_neg h1] at hs
  by_cases h2 : 65 ≤ n ∧ n ≤ 90
  · rw [if_pos (.inl h2)] at hs
    subst hs
    obtain ⟨h2, h3⟩ := h2
    have h4 : n < 97 := by omega
    clear h1
    go_enter Tryz.func34, Tryz.ntmps34
    go_wp2_with fail
    go_ret
    exact ⟨rfl, rfl⟩
  by_cases h3 : n = 95
  · rw [if_pos (.inr h3)] at hs
    subst hs h3
    clear h1 h2
    go_enter Tryz.func34, Tryz.ntmps34
    go_wp2_with fail
    go_ret
    exact ⟨rfl, rfl⟩
  rw [if_neg (by rintro (h | h); exact h2 h; exact h3 h)] at hs
  by_cases h4 : 48 ≤ n ∧ n ≤ 57
  · rw [if_pos h4] at hs
    subst hs
    obtain ⟨h4, h5⟩ := h4
    have h6 : n < 65 := by omega
    have h7 : n < 97 := by omega
    have h8 : ((n : Int) == 95) = false := by rw [beq_eq_false_iff_ne]; omega
    clear h1 h2 h3
    go_enter Tryz.func34, Tryz.ntmps34
    go_wp2_with fail
    go_ret
    exact ⟨rfl, rfl⟩
  rw [if_neg h4] at hs
  by_cases h5 : n = 32 ∨ n = 9 ∨ n = 10
  · rw [if_pos h5] at hs
    subst hs
    clear h1 h2 h3 h4
    rcases h5 with rfl | rfl | rfl
    all_goals
      go_enter Tryz.func34, Tryz.ntmps34
      go_wp2_with fail
      go_ret
      exact ⟨rfl, rfl⟩
  rw [if_neg h5] at hs
  have b95 : ((n : Int) == 95) = false := by rw [beq_eq_false_iff_ne]; omega
  have b32 : ((n : Int) == 32) = false := by rw [beq_eq_false_iff_ne]; omega
  have b9 : ((n : Int) == 9) = false := by rw [beq_eq_false_iff_ne]; omega
  have b10 : ((n : Int) == 10) = false := by rw [beq_eq_false_iff_ne]; omega
  have hq : n < 48 ∨ (58 ≤ n ∧ n < 65) ∨ (91 ≤ n ∧ n < 97) ∨ 123 ≤ n := by omega
  have HS := Lib.hid hs
  clear h1 h2 h3 h4 h5 hs
  have hS0 : (⟨#[43, 45, 42, 47, 94, 60, 62, 61, 126, 58, 46, 63, 64, 35, 38, 36]⟩ : ByteArray) = sgns := rfl
  obtain ⟨S, hS⟩ : ∃ S, sgns = S := ⟨_, rfl⟩
  have hz : S.size = 16 := by rw [← hS]; rfl
  have hz1 : S.size ≤ 16 := by omega
  have HS0 := Lib.hid (hS0.trans hS)
  have HSS := Lib.hid hS
  have HZ := Lib.hid hz
  clear hS0 hS hz
  rcases hq with hq | ⟨hq, hq2⟩ | ⟨hq, hq2⟩ | hq
  case inl =>
    have q1 : n < 65 := by omega
    have q2 : n < 97 := by omega
    go_enter Tryz.func34, Tryz.ntmps34
    go_wp2_with fail
    simp only [HS0.out]
    go_loop [4] (fun i => ∃ k : Nat, k ≤ S.size ∧ i = .int .i64 k ∧ Hid (∀ j (h : j < S.size), j < k → S[j] ≠ c)) (fun i => S.size - (intOf i).toNat)
    case atStart => exact ⟨0, Nat.zero_le _, rfl, Lib.hid (fun j _ h => absurd h (Nat.not_lt_zero _))⟩
    case round =>
      obtain ⟨k, hk, rfl, hno⟩ := hrel
      have HNO := Lib.hid hno.out
      clear hno
      by_cases hlt2 : k < S.size
      · by_cases hc : S[k] = c
        · have hb : ((S[k].toNat : Int) == (n : Int)) = true := by rw [hc, HN.out]; simp
          have hr : sgn c = true := by
            rw [sgn_get, decide_eq_true_eq, HSS.out]
            exact ⟨k, hlt2, hc⟩
          have hr2 : r = 4 := by rw [HS.out, if_pos (.inl hr)]
          subst hr2
          clear hr hc
          go_wp2_with fail
          go_ret
          exact ⟨rfl, rfl⟩
        · have hb : ((S[k].toNat : Int) == (n : Int)) = false := by
            rw [beq_eq_false_iff_ne]
            intro e
            exact hc (UInt8.toNat_inj.1 (by rw [HN.out]; omega))
          have HC := Lib.hid hc
          clear hc
          go_wp2_with fail
          go_round
          case rel =>
            refine ⟨k + 1, by omega, by go_num, Lib.hid fun j hj hjk => ?_⟩
            by_cases e : j < k
            · exact HNO.out j hj e
            · obtain rfl : j = k := by omega
              exact HC.out
          case measure => simp [intOf]; omega
      · have hr : sgn c = false := by
          rw [sgn_get, decide_eq_false_iff_not, HSS.out]
          rintro ⟨j, hj, e⟩
          exact HNO.out j hj (by omega) e
        have hr2 : r = if n = 92 then 4 else 0 := by rw [HS.out, hr]; simp
        by_cases h92 : n = 92
        · rw [if_pos h92] at hr2
          subst hr2 h92
          clear hr
          go_wp2_with fail
          go_ret
          exact ⟨rfl, rfl⟩
        · rw [if_neg h92] at hr2
          subst hr2
          have hb : ((n : Int) == 92) = false := by rw [beq_eq_false_iff_ne]; omega
          clear hr h92
          go_wp2_with fail
          go_ret
          exact ⟨rfl, rfl⟩

  case inr.inl =>
    have q1 : 57 < n := by omega
    have q2 : n < 97 := by omega
    have q3 : 48 ≤ n := by omega
    go_enter Tryz.func34, Tryz.ntmps34
    go_wp2_with fail
    simp only [HS0.out]
    go_loop [4] (fun i => ∃ k : Nat, k ≤ S.size ∧ i = .int .i64 k ∧ Hid (∀ j (h : j < S.size), j < k → S[j] ≠ c)) (fun i => S.size - (intOf i).toNat)
    case atStart => exact ⟨0, Nat.zero_le _, rfl, Lib.hid (fun j _ h => absurd h (Nat.not_lt_zero _))⟩
    case round =>
      obtain ⟨k, hk, rfl, hno⟩ := hrel
      have HNO := Lib.hid hno.out
      clear hno
      by_cases hlt2 : k < S.size
      · by_cases hc : S[k] = c
        · have hb : ((S[k].toNat : Int) == (n : Int)) = true := by rw [hc, HN.out]; simp
          have hr : sgn c = true := by
            rw [sgn_get, decide_eq_true_eq, HSS.out]
            exact ⟨k, hlt2, hc⟩
          have hr2 : r = 4 := by rw [HS.out, if_pos (.inl hr)]
          subst hr2
          clear hr hc
          go_wp2_with fail
          go_ret
          exact ⟨rfl, rfl⟩
        · have hb : ((S[k].toNat : Int) == (n : Int)) = false := by
            rw [beq_eq_false_iff_ne]
            intro e
            exact hc (UInt8.toNat_inj.1 (by rw [HN.out]; omega))
          have HC := Lib.hid hc
          clear hc
          go_wp2_with fail
          go_round
          case rel =>
            refine ⟨k + 1, by omega, by go_num, Lib.hid fun j hj hjk => ?_⟩
            by_cases e : j < k
            · exact HNO.out j hj e
            · obtain rfl : j = k := by omega
              exact HC.out
          case measure => simp [intOf]; omega
      · have hr : sgn c = false := by
          rw [sgn_get, decide_eq_false_iff_not, HSS.out]
          rintro ⟨j, hj, e⟩
          exact HNO.out j hj (by omega) e
        have hr2 : r = if n = 92 then 4 else 0 := by rw [HS.out, hr]; simp
        by_cases h92 : n = 92
        · rw [if_pos h92] at hr2
          subst hr2 h92
          clear hr
          go_wp2_with fail
          go_ret
          exact ⟨rfl, rfl⟩
        · rw [if_neg h92] at hr2
          subst hr2
          have hb : ((n : Int) == 92) = false := by rw [beq_eq_false_iff_ne]; omega
          clear hr h92
          go_wp2_with fail
          go_ret
          exact ⟨rfl, rfl⟩

  case inr.inr.inl =>
    have q1 : 57 < n := by omega
    have q2 : 90 < n := by omega
    have q3 : 48 ≤ n := by omega
    have q4 : 65 ≤ n := by omega
    go_enter Tryz.func34, Tryz.ntmps34
    go_wp2_with fail
    simp only [HS0.out]
    go_loop [4] (fun i => ∃ k : Nat, k ≤ S.size ∧ i = .int .i64 k ∧ Hid (∀ j (h : j < S.size), j < k → S[j] ≠ c)) (fun i => S.size - (intOf i).toNat)
    case atStart => exact ⟨0, Nat.zero_le _, rfl, Lib.hid (fun j _ h => absurd h (Nat.not_lt_zero _))⟩
    case round =>
      obtain ⟨k, hk, rfl, hno⟩ := hrel
      have HNO := Lib.hid hno.out
      clear hno
      by_cases hlt2 : k < S.size
      · by_cases hc : S[k] = c
        · have hb : ((S[k].toNat : Int) == (n : Int)) = true := by rw [hc, HN.out]; simp
          have hr : sgn c = true := by
            rw [sgn_get, decide_eq_true_eq, HSS.out]
            exact ⟨k, hlt2, hc⟩
          have hr2 : r = 4 := by rw [HS.out, if_pos (.inl hr)]
          subst hr2
          clear hr hc
          go_wp2_with fail
          go_ret
          exact ⟨rfl, rfl⟩
        · have hb : ((S[k].toNat : Int) == (n : Int)) = false := by
            rw [beq_eq_false_iff_ne]
            intro e
            exact hc (UInt8.toNat_inj.1 (by rw [HN.out]; omega))
          have HC := Lib.hid hc
          clear hc
          go_wp2_with fail
          go_round
          case rel =>
            refine ⟨k + 1, by omega, by go_num, Lib.hid fun j hj hjk => ?_⟩
            by_cases e : j < k
            · exact HNO.out j hj e
            · obtain rfl : j = k := by omega
              exact HC.out
          case measure => simp [intOf]; omega
      · have hr : sgn c = false := by
          rw [sgn_get, decide_eq_false_iff_not, HSS.out]
          rintro ⟨j, hj, e⟩
          exact HNO.out j hj (by omega) e
        have hr2 : r = if n = 92 then 4 else 0 := by rw [HS.out, hr]; simp
        by_cases h92 : n = 92
        · rw [if_pos h92] at hr2
          subst hr2 h92
          clear hr
          go_wp2_with fail
          go_ret
          exact ⟨rfl, rfl⟩
        · rw [if_neg h92] at hr2
          subst hr2
          have hb : ((n : Int) == 92) = false := by rw [beq_eq_false_iff_ne]; omega
          clear hr h92
          go_wp2_with fail
          go_ret
          exact ⟨rfl, rfl⟩

  case inr.inr.inr =>
    have q1 : 57 < n := by omega
    have q2 : 90 < n := by omega
    have q3 : 48 ≤ n := by omega
    have q4 : 65 ≤ n := by omega
    have q5 : 97 ≤ n := by omega
    have q6 : 122 < n := by omega
    go_enter Tryz.func34, Tryz.ntmps34
    go_wp2_with fail
    simp only [HS0.out]
    go_loop [4] (fun i => ∃ k : Nat, k ≤ S.size ∧ i = .int .i64 k ∧ Hid (∀ j (h : j < S.size), j < k → S[j] ≠ c)) (fun i => S.size - (intOf i).toNat)
    case atStart => exact ⟨0, Nat.zero_le _, rfl, Lib.hid (fun j _ h => absurd h (Nat.not_lt_zero _))⟩
    case round =>
      obtain ⟨k, hk, rfl, hno⟩ := hrel
      have HNO := Lib.hid hno.out
      clear hno
      by_cases hlt2 : k < S.size
      · by_cases hc : S[k] = c
        · have hb : ((S[k].toNat : Int) == (n : Int)) = true := by rw [hc, HN.out]; simp
          have hr : sgn c = true := by
            rw [sgn_get, decide_eq_true_eq, HSS.out]
            exact ⟨k, hlt2, hc⟩
          have hr2 : r = 4 := by rw [HS.out, if_pos (.inl hr)]
          subst hr2
          clear hr hc
          go_wp2_with fail
          go_ret
          exact ⟨rfl, rfl⟩
        · have hb : ((S[k].toNat : Int) == (n : Int)) = false := by
            rw [beq_eq_false_iff_ne]
            intro e
            exact hc (UInt8.toNat_inj.1 (by rw [HN.out]; omega))
          have HC := Lib.hid hc
          clear hc
          go_wp2_with fail
          go_round
          case rel =>
            refine ⟨k + 1, by omega, by go_num, Lib.hid fun j hj hjk => ?_⟩
            by_cases e : j < k
            · exact HNO.out j hj e
            · obtain rfl : j = k := by omega
              exact HC.out
          case measure => simp [intOf]; omega
      · have hr : sgn c = false := by
          rw [sgn_get, decide_eq_false_iff_not, HSS.out]
          rintro ⟨j, hj, e⟩
          exact HNO.out j hj (by omega) e
        have hr2 : r = if n = 92 then 4 else 0 := by rw [HS.out, hr]; simp
        by_cases h92 : n = 92
        · rw [if_pos h92] at hr2
          subst hr2 h92
          clear hr
          go_wp2_with fail
          go_ret
          exact ⟨rfl, rfl⟩
        · rw [if_neg h92] at hr2
          subst hr2
          have hb : ((n : Int) == 92) = false := by rw [beq_eq_false_iff_ne]; omega
          clear hr h92
          go_wp2_with fail
          go_ret
          exact ⟨rfl, rfl⟩


def bs (s : ByteArray) : List UInt8 := s.data.toList
theorem bs_length (s : ByteArray) : (bs s).length = s.size := by simp [bs]
theorem bs_get (s : ByteArray) (i : Nat) (h : i < s.size) : (bs s)[i]'(by rw [bs_length]; exact h) = s[i] := by simp [bs]; rfl
theorem tw_at {p : UInt8 → Bool} : ∀ (l : List UInt8) (at' q : Nat), at' ≤ q → q ≤ l.length → (∀ j (h : j < l.length), at' ≤ j → j < q → p l[j] = true) → (∀ h : q < l.length, p l[q] = false) → at' + ((l.drop at').takeWhile p).length = q := by
  intro l at' q h1 h2 h3 h4
  have e : (l.drop at').takeWhile p = (l.drop at').take (q - at') := by
    have h6 : ∀ x ∈ (l.drop at').take (q - at'), p x = true := by
      intro x hx
      obtain ⟨i, hi, rfl⟩ := List.getElem_of_mem hx
      simp only [List.length_take, List.length_drop] at hi
      simp only [List.getElem_take, List.getElem_drop]
      exact h3 _ _ (by omega) (by omega)
    have h9 : List.takeWhile p (List.drop (q - at') (List.drop at' l)) = [] := by
      rw [List.drop_drop, show at' + (q - at') = q by omega]
      by_cases hq : q < l.length
      · rw [List.drop_eq_getElem_cons hq, List.takeWhile_cons, h4 hq]
        rfl
      · rw [List.drop_eq_nil_of_le (by omega)]
        rfl
    have h8 := List.takeWhile_append_of_pos (l₂ := List.drop (q - at') (List.drop at' l)) h6
    rw [List.take_append_drop, h9, List.append_nil] at h8
    exact h8
  rw [e, List.length_take, List.length_drop]
  omega
theorem isWord_of {c : UInt8} {r : Nat} (h : srt c = r) : isWord c = decide (1 ≤ r ∧ r ≤ 3) := by unfold isWord; rw [h]

set_option maxRecDepth 100000 in
set_option maxHeartbeats 2000000 in
theorem dword_any (s : ByteArray) (at' : Nat) (w : World) (hat : at' ≤ s.size) (hs : s.size ≤ 1000000) :
    Calls Tryz.prog 62 #[.string s, .int .i64 (at' : Nat)] w fun e w' => e = .returned (.int .i64 (at' + (((bs s).drop at').takeWhile isWord).length : Nat)) ∧ w = w' := by
  have HAT := Lib.hid hat
  go_enter Tryz.func62, Tryz.ntmps62
  go_wp2_with fail
  go_loop [1] (fun i => ∃ q : Nat, at' ≤ q ∧ q ≤ s.size ∧ i = .int .i64 q ∧ Hid (∀ j (h : j < s.size), at' ≤ j → j < q → isWord s[j] = true)) (fun i => s.size - (intOf i).toNat)
  case atStart => exact ⟨at', Nat.le_refl _, hat, rfl, Lib.hid (fun j _ h1 h2 => by omega)⟩
  case round =>
    obtain ⟨q, hq1, hq2, rfl, hall⟩ := hrel
    have HALL := Lib.hid hall.out
    clear hall
    have hend : ∀ hq : (∀ h : q < s.size, isWord s[q] = false), (at' + (((bs s).drop at').takeWhile isWord).length : Nat) = q := fun hq =>
      tw_at (bs s) at' q hq1 (by rw [bs_length]; exact hq2) (fun j h h1 h2 => by have := HALL.out j (by rw [bs_length] at h; exact h) h1 h2; rw [← bs_get] at this; exact this) (fun h => by have := hq (by rw [bs_length] at h; exact h); rw [← bs_get] at this; exact this)
    have HEND := Lib.hid hend
    clear hend
    by_cases hlt : q < s.size
    · obtain ⟨r, hr⟩ : ∃ r, srt s[q] = r := ⟨_, rfl⟩
      have hcall := fun u => dsort_any s[q] u
      rw [hr] at hcall
      have HC := Lib.hid hcall
      have HR := Lib.hid hr
      clear hcall hr
      by_cases h1 : 1 ≤ r
      · by_cases h3 : r ≤ 3
        · have hp : isWord s[q] = true := by rw [isWord_of HR.out]; simp [h1, h3]
          have HP := Lib.hid hp
          clear hp
          go_wp2_with (go_at_call 34; refine (HC.out _).mono ?_; rintro e w' ⟨rfl, rfl⟩)
          go_round
          case rel =>
            refine ⟨q + 1, by omega, by omega, by go_num, Lib.hid fun j hj h5 h6 => ?_⟩
            by_cases e : j < q
            · exact HALL.out j hj h5 e
            · obtain rfl : j = q := by omega
              exact HP.out
          case measure => simp [intOf]; omega
        · have hp : isWord s[q] = false := by rw [isWord_of HR.out]; simp; omega
          have HP := Lib.hid (HEND.out fun _ => hp)
          clear hp
          go_wp2_with (go_at_call 34; refine (HC.out _).mono ?_; rintro e w' ⟨rfl, rfl⟩)
          go_ret
          refine ⟨ret8 ?_, rfl⟩
          have := HP.out
          omega
      · have hp : isWord s[q] = false := by rw [isWord_of HR.out]; simp; omega
        have HP := Lib.hid (HEND.out fun _ => hp)
        clear hp
        go_wp2_with (go_at_call 34; refine (HC.out _).mono ?_; rintro e w' ⟨rfl, rfl⟩)
        go_ret
        refine ⟨ret8 ?_, rfl⟩
        have := HP.out
        omega
    · have HP := Lib.hid (HEND.out fun h => absurd h hlt)
      go_wp2_with fail
      go_ret
      refine ⟨ret8 ?_, rfl⟩
      have := HP.out
      omega

set_option maxRecDepth 100000 in
set_option maxHeartbeats 2000000 in
theorem dsigns_any (s : ByteArray) (at' : Nat) (w : World) (hat : at' ≤ s.size) (hs : s.size ≤ 1000000) :
    Calls Tryz.prog 66 #[.string s, .int .i64 (at' : Nat)] w fun e w' => e = .returned (.int .i64 (at' + (((bs s).drop at').takeWhile isSign).length : Nat)) ∧ w = w' := by
  have HAT := Lib.hid hat
  go_enter Tryz.func66, Tryz.ntmps66
  go_wp2_with fail
  go_loop [1] (fun i => ∃ q : Nat, at' ≤ q ∧ q ≤ s.size ∧ i = .int .i64 q ∧ Hid (∀ j (h : j < s.size), at' ≤ j → j < q → isSign s[j] = true)) (fun i => s.size - (intOf i).toNat)
  case atStart => exact ⟨at', Nat.le_refl _, hat, rfl, Lib.hid (fun j _ h1 h2 => by omega)⟩
  case round =>
    obtain ⟨q, hq1, hq2, rfl, hall⟩ := hrel
    have HALL := Lib.hid hall.out
    clear hall
    have hend : ∀ hq : (∀ h : q < s.size, isSign s[q] = false), (at' + (((bs s).drop at').takeWhile isSign).length : Nat) = q := fun hq =>
      tw_at (bs s) at' q hq1 (by rw [bs_length]; exact hq2) (fun j h h1 h2 => by have := HALL.out j (by rw [bs_length] at h; exact h) h1 h2; rw [← bs_get] at this; exact this) (fun h => by have := hq (by rw [bs_length] at h; exact h); rw [← bs_get] at this; exact this)
    have HEND := Lib.hid hend
    clear hend
    by_cases hlt : q < s.size
    · obtain ⟨r, hr⟩ : ∃ r, srt s[q] = r := ⟨_, rfl⟩
      have hcall := fun u => dsort_any s[q] u
      rw [hr] at hcall
      have HC := Lib.hid hcall
      have HR := Lib.hid hr
      clear hcall hr
      by_cases h1 : r = 4
      · subst h1
        have hp : isSign s[q] = true := by unfold isSign; rw [HR.out]; rfl
        have HP := Lib.hid hp
        clear hp
        go_wp2_with (go_at_call 34; refine (HC.out _).mono ?_; rintro e w' ⟨rfl, rfl⟩)
        go_round
        case rel =>
          refine ⟨q + 1, by omega, by omega, by go_num, Lib.hid fun j hj h5 h6 => ?_⟩
          by_cases e : j < q
          · exact HALL.out j hj h5 e
          · obtain rfl : j = q := by omega
            exact HP.out
        case measure => simp [intOf]; omega
      · have hp : isSign s[q] = false := by unfold isSign; rw [HR.out]; simpa using h1
        have hb : ((r : Int) == 4) = false := by rw [beq_eq_false_iff_ne]; omega
        have HP := Lib.hid (HEND.out fun _ => hp)
        clear hp h1
        go_wp2_with (go_at_call 34; refine (HC.out _).mono ?_; rintro e w' ⟨rfl, rfl⟩)
        go_ret
        refine ⟨ret8 ?_, rfl⟩
        have := HP.out
        omega
    · have HP := Lib.hid (HEND.out fun h => absurd h hlt)
      go_wp2_with fail
      go_ret
      refine ⟨ret8 ?_, rfl⟩
      have := HP.out
      omega

set_option maxRecDepth 100000 in
set_option maxHeartbeats 2000000 in
theorem ddigits_any (s : ByteArray) (at' : Nat) (w : World) (hat : at' ≤ s.size) (hs : s.size ≤ 1000000) :
    Calls Tryz.prog 63 #[.string s, .int .i64 (at' : Nat)] w fun e w' => e = .returned (.int .i64 (at' + (((bs s).drop at').takeWhile isDigit).length : Nat)) ∧ w = w' := by
  have HAT := Lib.hid hat
  go_enter Tryz.func63, Tryz.ntmps63
  go_wp2_with fail
  go_loop [1] (fun i => ∃ q : Nat, at' ≤ q ∧ q ≤ s.size ∧ i = .int .i64 q ∧ Hid (∀ j (h : j < s.size), at' ≤ j → j < q → isDigit s[j] = true)) (fun i => s.size - (intOf i).toNat)
  case atStart => exact ⟨at', Nat.le_refl _, hat, rfl, Lib.hid (fun j _ h1 h2 => by omega)⟩
  case round =>
    obtain ⟨q, hq1, hq2, rfl, hall⟩ := hrel
    have HALL := Lib.hid hall.out
    clear hall
    have hend : ∀ hq : (∀ h : q < s.size, isDigit s[q] = false), (at' + (((bs s).drop at').takeWhile isDigit).length : Nat) = q := fun hq =>
      tw_at (bs s) at' q hq1 (by rw [bs_length]; exact hq2) (fun j h h1 h2 => by have := HALL.out j (by rw [bs_length] at h; exact h) h1 h2; rw [← bs_get] at this; exact this) (fun h => by have := hq (by rw [bs_length] at h; exact h); rw [← bs_get] at this; exact this)
    have HEND := Lib.hid hend
    clear hend
    by_cases hlt : q < s.size
    · obtain ⟨r, hr⟩ : ∃ r, srt s[q] = r := ⟨_, rfl⟩
      have hcall := fun u => dsort_any s[q] u
      rw [hr] at hcall
      have HC := Lib.hid hcall
      have HR := Lib.hid hr
      clear hcall hr
      by_cases h1 : r = 3
      · subst h1
        have hp : isDigit s[q] = true := by unfold isDigit; rw [HR.out]; rfl
        have HP := Lib.hid hp
        clear hp
        go_wp2_with (go_at_call 34; refine (HC.out _).mono ?_; rintro e w' ⟨rfl, rfl⟩)
        go_round
        case rel =>
          refine ⟨q + 1, by omega, by omega, by go_num, Lib.hid fun j hj h5 h6 => ?_⟩
          by_cases e : j < q
          · exact HALL.out j hj h5 e
          · obtain rfl : j = q := by omega
            exact HP.out
        case measure => simp [intOf]; omega
      · have hp : isDigit s[q] = false := by unfold isDigit; rw [HR.out]; simpa using h1
        have hb : ((r : Int) == 3) = false := by rw [beq_eq_false_iff_ne]; omega
        have HP := Lib.hid (HEND.out fun _ => hp)
        clear hp h1
        go_wp2_with (go_at_call 34; refine (HC.out _).mono ?_; rintro e w' ⟨rfl, rfl⟩)
        go_ret
        refine ⟨ret8 ?_, rfl⟩
        have := HP.out
        omega
    · have HP := Lib.hid (HEND.out fun h => absurd h hlt)
      go_wp2_with fail
      go_ret
      refine ⟨ret8 ?_, rfl⟩
      have := HP.out
      omega
end Go.Proofs.YtilfglcjcmpfeaaGreatDoor

namespace Go.Proofs.YtilfglcjcmpfeaaGreatDoor
open Go.RowKit

theorem bs_toList (s : ByteArray) : s.toList = bs s := by rw [ByteArray.toList_eq]; rfl
theorem dval_take_le : ∀ (l : List UInt8) (i : Nat), dval (l.take i) ≤ dval l := by
  intro l i
  by_cases h : i < l.length
  · have e : l = l.take i ++ l.drop i := (List.take_append_drop i l).symm
    have h1 : dval l = dfrom (dval (l.take i)) (l.drop i) := by
      unfold dval dfrom
      rw [← List.foldl_append, List.take_append_drop]
    rw [h1, dfrom_eq]
    have : 1 * dval (l.take i) ≤ 10 ^ (l.drop i).length * dval (l.take i) := Nat.mul_le_mul_right _ (Nat.pos_of_ne_zero (by simp))
    rw [Nat.mul_comm (dval (l.take i))]
    omega
  · rw [List.take_of_length_le (by omega)]
    exact Nat.le_refl _
theorem run_gtr_str (P : Program) (t : TypeId) (a b : ByteArray) (w : World) : (binOp BinOp.gtr t (.string a) (.string b)).run P w = .ok (.bool !(Op.bytesLess a.toList b.toList || a.toList == b.toList)) w := rfl
theorem maxD_str : (⟨#[57, 50, 50, 51, 51, 55, 50, 48, 51, 54, 56, 53, 52, 55, 55, 53, 56, 48, 55]⟩ : ByteArray).toList = maxD := by rw [ByteArray.toList_eq]; rfl
theorem wrap_d1 (n : Nat) (c : Nat) (h3 : 10 * n + (c - 48) ≤ 9223372036854775807) : IntKind.i64.wrap (10 * (n : Int)) = 10 * (n : Int) := by
  rw [IntKind.wrap_i64]; omega
theorem wrap_d2 (n : Nat) (c : Nat) (h1 : 48 ≤ c) (h2 : c ≤ 57) (h3 : 10 * n + (c - 48) ≤ 9223372036854775807) : wrap64 (wrap64 (10 * (n : Int) + (c : Int)) - 48) = ((10 * n + (c - 48) : Nat) : Int) := by
  have h4 : ((10 * n + (c - 48) : Nat) : Int) = 10 * (n : Int) + (c : Int) - 48 := by omega
  rw [h4]
  obtain ⟨x, hx⟩ : ∃ x, 10 * (n : Int) + (c : Int) = x := ⟨_, rfl⟩
  rw [hx]
  unfold wrap64
  omega
def NumPost (w : World) (l : List UInt8) (e : Ending) (w' : World) : Prop := ∃ (n : Nat) (b : Bool), e = .returned (.tuple #[.int .i64 (n : Nat), .bool b]) ∧ w = w' ∧ ((numL l = some n ∧ b = true) ∨ (numL l = none ∧ b = false))
set_option maxRecDepth 100000 in
set_option maxHeartbeats 2000000 in
theorem dnumber_any (s : ByteArray) (w : World) (h0 : 0 < s.size) (hs : s.size ≤ 1000000) (hd : ∀ c ∈ bs s, isDigit c = true) :
    Calls Tryz.prog 64 #[.string s] w fun e w' => NumPost w (bs s) e w' := by
  have hlen := bs_length s
  have hhead : (bs s).head? = some s[0] := by
    rw [List.head?_eq_getElem?, List.getElem?_eq_getElem (by rw [hlen]; exact h0), bs_get s 0 h0]
  by_cases hz : s[0] = 48 ∧ 1 < s.size
  · have hn : numL (bs s) = none := by
      unfold numL
      rw [if_pos (.inl ⟨by rw [hhead, hz.1], by omega⟩)]
    have h1 : ((s[0].toNat : Int) == 48) = true := by rw [hz.1]; rfl
    have h2 := hz.2
    have HN := Lib.hid hn
    clear hz hn hlen hhead hd
    go_enter Tryz.func64, Tryz.ntmps64
    go_wp2_with fail
    go_ret2
    exact ⟨0, false, rfl, rfl, .inr ⟨HN.out, rfl⟩⟩
  have hnz : ¬ ((bs s).head? = some 48 ∧ 1 < (bs s).length) := by
    rintro ⟨e1, e2⟩
    rw [hhead] at e1
    exact hz ⟨Option.some.inj e1, by omega⟩
  have hdoc := num_doc hd hnz
  have hne : bs s ≠ [] := fun e => by rw [e] at hlen; simp at hlen; omega
  have hc48 : (((s[0].toNat : Int) == 48) = true ∧ ¬ 1 < s.size) ∨ ((s[0].toNat : Int) == 48) = false := by
    by_cases e : s[0] = 48
    · exact .inl ⟨by rw [e]; rfl, fun h => hz ⟨e, h⟩⟩
    · refine .inr ?_
      rw [beq_eq_false_iff_ne]
      intro e2
      exact e (UInt8.toNat_inj.1 (by show s[0].toNat = 48; omega))
  clear hhead hz
  by_cases h19 : 19 < s.size
  · have hn : numL (bs s) = none := by
      unfold numL
      rw [if_pos (.inr (hdoc.1 (.inl (by omega))).1)]
    have HN := Lib.hid hn
    clear hn hlen hd hdoc hne hnz
    rcases hc48 with ⟨hc, h1⟩ | hc
    · omega
    all_goals
      go_enter Tryz.func64, Tryz.ntmps64
      go_wp2_with fail
      go_ret2
      exact ⟨0, false, rfl, rfl, .inr ⟨HN.out, rfl⟩⟩
  by_cases hbad : s.size = 19 ∧ (Op.bytesLess (bs s) maxD || bs s == maxD) = false
  · have hn : numL (bs s) = none := by
      unfold numL
      rw [if_pos (.inr (hdoc.1 (.inr ⟨by omega, hbad.2⟩)).1)]
    have HN := Lib.hid hn
    obtain ⟨hb1, hb2⟩ := hbad
    have hcmp : ∀ u, (binOp BinOp.gtr 9 (.string s) (.string ⟨#[57, 50, 50, 51, 51, 55, 50, 48, 51, 54, 56, 53, 52, 55, 55, 53, 56, 48, 55]⟩)).run Tryz.prog u = .ok (.bool true) u := fun u => by
      rw [run_gtr_str, maxD_str, bs_toList, hb2]; rfl
    have h5 : ((s.size : Int) == 19) = true := by rw [beq_iff_eq]; omega
    have h6 : s.size ≤ 19 := by omega
    clear hn hlen hd hdoc hne hnz hb2
    rcases hc48 with ⟨hc, h1⟩ | hc
    · omega
    clear hb1
    go_enter Tryz.func64, Tryz.ntmps64
    go_wp2_with fail
    go_ret2
    exact ⟨0, false, rfl, rfl, .inr ⟨HN.out, rfl⟩⟩
  have hsm : ¬ (9223372036854775807 < dval (bs s)) := fun h => by
    rcases hdoc.2 ⟨h, hne⟩ with h | h
    · omega
    · exact hbad ⟨by omega, h.2⟩
  have hn : numL (bs s) = some (dval (bs s)) := by
    unfold numL
    rw [if_neg (by rintro (h | h); exact hnz h; exact hsm h)]
  have HN := Lib.hid hn
  have HSM := Lib.hid hsm
  have HD := Lib.hid hd
  have HLEN := Lib.hid hlen
  have hcase : (s.size = 19 ∧ (Op.bytesLess (bs s) maxD || bs s == maxD) = true) ∨ ((s.size : Int) == 19) = false := by
    by_cases e : s.size = 19
    · refine .inl ⟨e, ?_⟩
      cases hb : (Op.bytesLess (bs s) maxD || bs s == maxD) with
      | true => rfl
      | false => exact absurd ⟨e, hb⟩ hbad
    · refine .inr ?_
      rw [beq_eq_false_iff_ne]
      intro e2
      exact e (by omega)
  have hcmp : ((s.size : Int) == 19) = true → ∀ u, (binOp BinOp.gtr 9 (.string s) (.string ⟨#[57, 50, 50, 51, 51, 55, 50, 48, 51, 54, 56, 53, 52, 55, 55, 53, 56, 48, 55]⟩)).run Tryz.prog u = .ok (.bool false) u := fun h u => by
    rcases hcase with ⟨_, e⟩ | e
    · rw [run_gtr_str, maxD_str, bs_toList, e]; rfl
    · rw [h] at e; cases e
  have h19' : s.size ≤ 19 := by omega
  clear hn hsm hd hlen hdoc hne hnz hbad h19
  cases hb19 : ((s.size : Int) == 19) with
  | true =>
    have hcmp := hcmp hb19
    have h19s : s.size = 19 := by have h := hb19; simp only [beq_iff_eq] at h; omega
    rcases hc48 with ⟨hc, h1⟩ | hc
    · omega
    clear hcase h19s
    go_enter Tryz.func64, Tryz.ntmps64
    go_wp2_with fail
    clear hcmp hb19
    go_loop [4, 5] (fun v i => ∃ q : Nat, q ≤ s.size ∧ i = .int .i64 q ∧ v = .int .i64 (dval ((bs s).take q) : Nat)) (fun _ i => s.size - (intOf i).toNat)
    case atStart => exact ⟨0, Nat.zero_le _, rfl, by simp [dval]⟩
    case round =>
      obtain ⟨q, hq, rfl, rfl⟩ := hrel
      by_cases hlt : q < s.size
      · have hd := HD.out s[q] (by rw [← bs_get s q hlt]; exact List.getElem_mem _)
        obtain ⟨hc1, hc2⟩ := dig_says hd
        have hsucc : dval ((bs s).take (q + 1)) = 10 * dval ((bs s).take q) + (s[q].toNat - 48) := by
          rw [List.take_succ_eq_append_getElem (by rw [HLEN.out]; exact hlt), dval_snoc, bs_get s q hlt]
        have hle := dval_take_le (bs s) (q + 1)
        have hmx : dval ((bs s).take (q + 1)) ≤ 9223372036854775807 := by have := HSM.out; omega
        obtain ⟨n, hn⟩ : ∃ n, dval ((bs s).take q) = n := ⟨_, rfl⟩
        obtain ⟨c, hcn⟩ : ∃ c, s[q].toNat = c := ⟨_, rfl⟩
        rw [hn, hcn] at hsucc
        rw [hcn] at hc1 hc2
        rw [hsucc] at hmx
        rw [hn]
        have hcell : ((s[q].toNat : Nat) : Int) = (c : Int) := by rw [hcn]
        have w1 : IntKind.i64.wrap (10 * (n : Int)) = 10 * (n : Int) := wrap_d1 n c hmx
        have w2 := Lib.hid (wrap_d2 n c hc1 hc2 hmx)
        have HSU := Lib.hid hsucc
        clear hn hcn hsucc hd hle
        go_wp2_with fail
        exact ⟨⟨q + 1, by omega, by go_num, by rw [HSU.out, w2.out]⟩, by simp [intOf]; omega⟩
      · obtain rfl : s.size = q := by omega
        have hf : (bs s).take s.size = bs s := List.take_of_length_le (by rw [HLEN.out]; exact Nat.le_refl _)
        rw [hf]
        clear hf
        go_wp2_with fail
        go_ret2
        exact ⟨dval (bs s), true, rfl, rfl, .inl ⟨HN.out, rfl⟩⟩
  | false =>
    clear hcmp hcase
    rcases hc48 with ⟨hc, h1⟩ | hc
    all_goals
      go_enter Tryz.func64, Tryz.ntmps64
      go_wp2_with fail
      clear hb19
      go_loop [4, 5] (fun v i => ∃ q : Nat, q ≤ s.size ∧ i = .int .i64 q ∧ v = .int .i64 (dval ((bs s).take q) : Nat)) (fun _ i => s.size - (intOf i).toNat)
      case atStart => exact ⟨0, Nat.zero_le _, rfl, by simp [dval]⟩
      case round =>
        obtain ⟨q, hq, rfl, rfl⟩ := hrel
        by_cases hlt : q < s.size
        · have hd := HD.out s[q] (by rw [← bs_get s q hlt]; exact List.getElem_mem _)
          obtain ⟨hc1, hc2⟩ := dig_says hd
          have hsucc : dval ((bs s).take (q + 1)) = 10 * dval ((bs s).take q) + (s[q].toNat - 48) := by
            rw [List.take_succ_eq_append_getElem (by rw [HLEN.out]; exact hlt), dval_snoc, bs_get s q hlt]
          have hle := dval_take_le (bs s) (q + 1)
          have hmx : dval ((bs s).take (q + 1)) ≤ 9223372036854775807 := by have := HSM.out; omega
          obtain ⟨n, hn⟩ : ∃ n, dval ((bs s).take q) = n := ⟨_, rfl⟩
          obtain ⟨c, hcn⟩ : ∃ c, s[q].toNat = c := ⟨_, rfl⟩
          rw [hn, hcn] at hsucc
          rw [hcn] at hc1 hc2
          rw [hsucc] at hmx
          rw [hn]
          have hcell : ((s[q].toNat : Nat) : Int) = (c : Int) := by rw [hcn]
          have w1 : IntKind.i64.wrap (10 * (n : Int)) = 10 * (n : Int) := wrap_d1 n c hmx
          have w2 := Lib.hid (wrap_d2 n c hc1 hc2 hmx)
          have HSU := Lib.hid hsucc
          clear hn hcn hsucc hd hle
          go_wp2_with fail
          exact ⟨⟨q + 1, by omega, by go_num, by rw [HSU.out, w2.out]⟩, by simp [intOf]; omega⟩
        · obtain rfl : s.size = q := by omega
          have hf : (bs s).take s.size = bs s := List.take_of_length_le (by rw [HLEN.out]; exact Nat.le_refl _)
          rw [hf]
          clear hf
          go_wp2_with fail
          go_ret2
          exact ⟨dval (bs s), true, rfl, rfl, .inl ⟨HN.out, rfl⟩⟩
end Go.Proofs.YtilfglcjcmpfeaaGreatDoor

namespace Go.Proofs.YtilfglcjcmpfeaaGreatDoor
open Go.RowKit

theorem bs_append (a b : ByteArray) : bs (a ++ b) = bs a ++ bs b := by simp [bs]
theorem run_byte_at {P : Program} {t : TypeId} (h : P.underlying t = some .string) (s : ByteArray) (q : Nat) (hq : q < s.size) (w : World) : (Instr.slice t (.string s) (some (.int .i64 (q : Int))) (some (.int .i64 ((q : Int) + 1))) none).run P w = .ok (.string (s.extract q (q + 1))) w := by
  have := run_slice_string (P := P) w t s .i64 .i64 (q : Int) ((q : Int) + 1) h (by omega) (by omega) (by omega)
  rw [this]
  rfl
theorem run_byte_at1 {P : Program} {t : TypeId} (h : P.underlying t = some .string) (s : ByteArray) (q : Nat) (hq : q + 1 < s.size) (w : World) : (Instr.slice t (.string s) (some (.int .i64 ((q : Int) + 1))) (some (.int .i64 ((q : Int) + 1 + 1))) none).run P w = .ok (.string (s.extract (q + 1) (q + 1 + 1))) w := by
  have := run_slice_string (P := P) w t s .i64 .i64 ((q : Int) + 1) ((q : Int) + 1 + 1) h (by omega) (by omega) (by omega)
  rw [this]
  rfl
theorem bs_extract (s : ByteArray) (a b : Nat) : bs (s.extract a b) = ((bs s).drop a).take (b - a) := by
  simp [bs, List.extract]
theorem bs_byte (s : ByteArray) (q : Nat) (hq : q < s.size) : bs (s.extract q (q + 1)) = [s[q]] := by
  rw [bs_extract, List.drop_eq_getElem_cons (by rw [bs_length]; exact hq), bs_get s q hq]
  simp
def QuoPost (w : World) (l : List UInt8) (at' : Nat) (e : Ending) (w' : World) : Prop := ∃ (o : ByteArray) (to : Nat) (b : Bool), e = .returned (.tuple #[.string o, .int .i64 (to : Nat), .bool b]) ∧ w = w' ∧ ((quoL (l.drop at') = some (bs o, to - at') ∧ at' ≤ to ∧ b = true) ∨ (quoL (l.drop at') = none ∧ b = false))
set_option maxRecDepth 100000 in
set_option maxHeartbeats 2000000 in
theorem dquoted_any (s : ByteArray) (at' : Nat) (w : World) (hat : at' ≤ s.size) (hs : s.size ≤ 1000000) :
    Calls Tryz.prog 65 #[.string s, .int .i64 (at' : Nat)] w fun e w' => QuoPost w (bs s) at' e w' := by
  have HAT := Lib.hid hat
  go_enter Tryz.func65, Tryz.ntmps65
  go_wp2_with fail
  go_loop [1, 7] (fun i v => ∃ (q : Nat) (o : ByteArray), at' ≤ q ∧ q ≤ s.size ∧ o.size ≤ q ∧ i = .int .i64 q ∧ v = .string o ∧ Hid (quoL ((bs s).drop at') = (quoL ((bs s).drop q)).map fun x => (bs o ++ x.1, x.2 + (q - at')))) (fun i _ => s.size - (intOf i).toNat)
  case atStart =>
    refine ⟨at', _, Nat.le_refl _, hat, ?_, rfl, rfl, Lib.hid ?_⟩
    · exact Nat.zero_le _
    · cases quoL ((bs s).drop at') <;> simp [bs]
  case round =>
    obtain ⟨q, o, hq1, hq2, ho, rfl, rfl, hr⟩ := hrel
    have HR := Lib.hid hr.out
    clear hr
    by_cases hlt : q < s.size
    · have hcons : (bs s).drop q = s[q] :: (bs s).drop (q + 1) := by
        rw [List.drop_eq_getElem_cons (by rw [bs_length]; exact hlt), bs_get s q hlt]
      have HC := Lib.hid hcons
      clear hcons
      by_cases h1 : s[q].toNat < 32
      · have hn : quoL ((bs s).drop at') = none := by rw [HR.out, HC.out, quoL_bad _ (.inl h1)]; rfl
        have HN := Lib.hid hn
        clear hn
        go_wp2_with fail
        go_ret3
        exact ⟨_, 0, false, rfl, rfl, .inr ⟨HN.out, rfl⟩⟩
      by_cases h2 : 126 < s[q].toNat
      · have hn : quoL ((bs s).drop at') = none := by rw [HR.out, HC.out, quoL_bad _ (.inr h2)]; rfl
        have HN := Lib.hid hn
        have h1' : 32 ≤ s[q].toNat := by omega
        clear hn h1
        go_wp2_with fail
        go_ret3
        exact ⟨_, 0, false, rfl, rfl, .inr ⟨HN.out, rfl⟩⟩
      have h1' : 32 ≤ s[q].toNat := by omega
      have h2' : s[q].toNat ≤ 126 := by omega
      have HB := Lib.hid (show ¬ (s[q].toNat < 32 ∨ 126 < s[q].toNat) by omega)
      clear h1 h2
      by_cases h3 : s[q] = 39
      · have hb : ((s[q].toNat : Int) == 39) = true := by rw [h3]; rfl
        have H3 := Lib.hid h3
        clear h3
        by_cases h4 : q + 1 < s.size
        · have hcons2 : (bs s).drop (q + 1) = s[q + 1] :: (bs s).drop (q + 2) := by
            rw [List.drop_eq_getElem_cons (by rw [bs_length]; exact h4), bs_get s (q + 1) h4]
          have HC2 := Lib.hid hcons2
          clear hcons2
          by_cases h5 : s[q + 1] = 39
          · have hb2 : ((s[q + 1].toNat : Int) == 39) = true := by rw [h5]; rfl
            have H5 := Lib.hid h5
            clear h5
            have hsl := fun u => run_byte_at1 Tryz.underlying9 s q h4 u
            go_wp2_with fail
            refine ⟨⟨q + 2, o ++ s.extract (q + 1) (q + 1 + 1), by omega, by omega, ?_, by go_num, rfl, Lib.hid ?_⟩, by simp [intOf]; omega⟩
            · rw [ByteArray.size_append, ByteArray.size_extract]; omega
            · rw [HR.out, HC.out, H3.out, HC2.out, H5.out, quoL_two, bs_append, bs_byte s (q + 1) h4, H5.out]
              cases quoL ((bs s).drop (q + 2)) with
              | none => rfl
              | some x =>
                simp only [Option.map_some, List.append_assoc, List.cons_append, List.nil_append]
                rw [show x.2 + 2 + (q - at') = x.2 + (q + 2 - at') by omega]
          · have hb2 : ((s[q + 1].toNat : Int) == 39) = false := by
              rw [beq_eq_false_iff_ne]
              intro e
              exact h5 (UInt8.toNat_inj.1 (by show s[q + 1].toNat = 39; omega))
            have hn : quoL ((bs s).drop at') = some (bs o, q + 1 - at') := by
              rw [HR.out, HC.out, H3.out, quoL_end (by rw [HC2.out]; simpa using h5)]
              simp only [Option.map_some, List.append_nil]
              rw [show 1 + (q - at') = q + 1 - at' by omega]
            have HN := Lib.hid hn
            clear hn h5
            go_wp2_with fail
            go_ret3
            exact ⟨o, q + 1, true, by go_num, rfl, .inl ⟨HN.out, by omega, rfl⟩⟩
        · have hn : quoL ((bs s).drop at') = some (bs o, q + 1 - at') := by
            rw [HR.out, HC.out, H3.out, quoL_end (by rw [List.drop_eq_nil_of_le (by rw [bs_length]; omega)]; simp)]
            simp only [Option.map_some, List.append_nil]
            rw [show 1 + (q - at') = q + 1 - at' by omega]
          have HN := Lib.hid hn
          clear hn
          go_wp2_with fail
          go_ret3
          exact ⟨o, q + 1, true, by go_num, rfl, .inl ⟨HN.out, by omega, rfl⟩⟩
      · have hb : ((s[q].toNat : Int) == 39) = false := by
          rw [beq_eq_false_iff_ne]
          intro e
          exact h3 (UInt8.toNat_inj.1 (by show s[q].toNat = 39; omega))
        have H3 := Lib.hid h3
        have hsl := fun u => run_byte_at Tryz.underlying9 s q hlt u
        clear h3
        go_wp2_with fail
        refine ⟨⟨q + 1, o ++ s.extract q (q + 1), by omega, by omega, ?_, by go_num, rfl, Lib.hid ?_⟩, by simp [intOf]; omega⟩
        · rw [ByteArray.size_append, ByteArray.size_extract]; omega
        · rw [HR.out, HC.out, quoL_one _ HB.out H3.out, bs_append, bs_byte s q hlt]
          cases quoL ((bs s).drop (q + 1)) with
          | none => rfl
          | some x =>
            simp only [Option.map_some, List.append_assoc, List.cons_append, List.nil_append]
            rw [show x.2 + 1 + (q - at') = x.2 + (q + 1 - at') by omega]
    · obtain rfl : s.size = q := by omega
      have hn : quoL ((bs s).drop at') = none := by
        rw [HR.out, List.drop_eq_nil_of_le (by rw [bs_length]; exact Nat.le_refl _), quoL_nil]; rfl
      have HN := Lib.hid hn
      clear hn
      go_wp2_with fail
      go_ret3
      exact ⟨_, 0, false, rfl, rfl, .inr ⟨HN.out, rfl⟩⟩
end Go.Proofs.YtilfglcjcmpfeaaGreatDoor

namespace Go.Proofs.YtilfglcjcmpfeaaGreatDoor
open Go.RowKit

/-- A token as a value. -/
def tokV (kind : Nat) (x : ByteArray) (n at' : Nat) (o : Bool) : Value := .agg #[.int .i64 (kind : Nat), .string x, .int .i64 (n : Nat), .int .i64 (at' : Nat), .bool o]
def noTok : Value := .tuple #[.agg #[.int .i64 0, .string ⟨#[]⟩, .int .i64 0, .int .i64 0, .bool false], .int .i64 (-1)]
def NamePost (w : World) (l : List UInt8) (kind : Nat) (x : ByteArray) (at' to : Nat) (e : Ending) (w' : World) : Prop :=
  Below w.heap.size w w' ∧ ((¬ (1 ≤ x.size ∧ x.size ≤ 20) ∧ e = .returned noTok) ∨ ((1 ≤ x.size ∧ x.size ≤ 20) ∧ e = .returned (.tuple #[tokV kind x 0 at' (opens (l.drop to)), .int .i64 (to : Nat)])))
theorem opens_at (s : ByteArray) (to : Nat) (h : to < s.size) : opens ((bs s).drop to) = ((s[to].toNat : Int) == 40) := by
  rw [List.drop_eq_getElem_cons (by rw [bs_length]; exact h), bs_get s to h]
  unfold opens
  rw [Bool.eq_iff_iff]
  simp only [List.head?_cons, beq_iff_eq, Option.some.injEq]
  constructor
  · intro e; rw [e]; rfl
  · intro e; exact UInt8.toNat_inj.1 (by show s[to].toNat = 40; omega)
theorem opens_no (s : ByteArray) (to : Nat) (h : ¬ to < s.size) : opens ((bs s).drop to) = false := by
  rw [List.drop_eq_nil_of_le (by rw [bs_length]; omega)]
  rfl
set_option maxRecDepth 100000 in
set_option maxHeartbeats 2000000 in
theorem dname_any (s : ByteArray) (kind : Nat) (text : ByteArray) (at' to : Nat) (w : World) (_hs : s.size ≤ 1000000) :
    Calls Tryz.prog 61 #[.string s, .int .i64 (kind : Nat), .string text, .int .i64 (at' : Nat), .int .i64 (to : Nat)] w fun e w' => NamePost w (bs s) kind text at' to e w' := by
  by_cases h1 : text.size < 1
  · go_enter Tryz.func61, Tryz.ntmps61
    go_wp2_with fail
    refine bodyPost_ret (v := noTok) (by simp [results, noTok, Tryz.results61, go_sem]) rfl ?_
    exact ⟨(Below.refl _ _).alloc (Nat.le_refl _) _, .inl ⟨by omega, rfl⟩⟩
  by_cases h2 : 20 < text.size
  · have h3 : 1 ≤ text.size := by omega
    clear h1
    go_enter Tryz.func61, Tryz.ntmps61
    go_wp2_with fail
    refine bodyPost_ret (v := noTok) (by simp [results, noTok, Tryz.results61, go_sem]) rfl ?_
    exact ⟨(Below.refl _ _).alloc (Nat.le_refl _) _, .inl ⟨by omega, rfl⟩⟩
  have h3 : 1 ≤ text.size := by omega
  have h4 : text.size ≤ 20 := by omega
  clear h1 h2
  by_cases h5 : to < s.size
  · have HO := Lib.hid (opens_at s to h5)
    cases hb : ((s[to].toNat : Int) == 40) with
    | true =>
      go_enter Tryz.func61, Tryz.ntmps61
      go_wp2_with fail
      refine bodyPost_ret (v := .tuple #[tokV kind text 0 at' true, .int .i64 (to : Nat)]) (by simp [results, tokV, Tryz.results61, go_sem]) rfl ?_
      exact ⟨(Below.refl _ _).alloc (Nat.le_refl _) _, .inr ⟨⟨h3, h4⟩, by rw [HO.out, hb]⟩⟩
    | false =>
      go_enter Tryz.func61, Tryz.ntmps61
      go_wp2_with fail
      refine bodyPost_ret (v := .tuple #[tokV kind text 0 at' false, .int .i64 (to : Nat)]) (by simp [results, tokV, Tryz.results61, go_sem]) rfl ?_
      exact ⟨(Below.refl _ _).alloc (Nat.le_refl _) _, .inr ⟨⟨h3, h4⟩, by rw [HO.out, hb]⟩⟩
  · have HO := Lib.hid (opens_no s to h5)
    go_enter Tryz.func61, Tryz.ntmps61
    go_wp2_with fail
    refine bodyPost_ret (v := .tuple #[tokV kind text 0 at' false, .int .i64 (to : Nat)]) (by simp [results, tokV, Tryz.results61, go_sem]) rfl ?_
    exact ⟨(Below.refl _ _).alloc (Nat.le_refl _) _, .inr ⟨⟨h3, h4⟩, by rw [HO.out]⟩⟩
end Go.Proofs.YtilfglcjcmpfeaaGreatDoor

namespace Go.Proofs.YtilfglcjcmpfeaaGreatDoor
open Go.RowKit

def OnePost (w : World) (l : List UInt8) (at' : Nat) (e : Ending) (w' : World) : Prop :=
  Below w.heap.size w w' ∧ ((oneL (l.drop at') = none ∧ e = .returned noTok) ∨ ∃ (t : Tk) (x : ByteArray) (k : Nat), oneL (l.drop at') = some (t, k) ∧ bs x = t.text ∧ e = .returned (.tuple #[tokV t.kind x t.n at' t.opn, .int .i64 (at' + k : Nat)]))
theorem run_cut {P : Program} {t : TypeId} (h : P.underlying t = some .string) (s : ByteArray) (a b : Nat) (h1 : a ≤ b) (h2 : b ≤ s.size) (w : World) : (Instr.slice t (.string s) (some (.int .i64 (a : Int))) (some (.int .i64 (b : Int))) none).run P w = .ok (.string (s.extract a b)) w := by
  have := run_slice_string (P := P) w t s .i64 .i64 (a : Int) (b : Int) h (by omega) (by omega) (by omega)
  rw [this]
  rfl
theorem drop_at (s : ByteArray) (q : Nat) (h : q < s.size) : (bs s).drop q = s[q] :: (bs s).drop (q + 1) := by
  rw [List.drop_eq_getElem_cons (by rw [bs_length]; exact h), bs_get s q h]
theorem lnewBlk (w : World) (o : Obj) : (w.alloc o).heap[w.heap.size]? = some o := by
  show (w.heap.push o)[w.heap.size]? = some o
  simp
/-- The result stands empty in memory of its own. -/
structure ZSt (w W : World) : Prop where
  below : Below w.heap.size w W
  blk : W.heap[w.heap.size]? = some (Obj.cells #[.int .i64 0, .string ⟨#[]⟩, .int .i64 0, .int .i64 0, .bool false] 75 (0, 0))
  size : w.heap.size < W.heap.size
theorem zst0 (w : World) : ZSt w (w.alloc (Obj.cells #[.int .i64 0, .string ⟨#[]⟩, .int .i64 0, .int .i64 0, .bool false] 75 (0, 0))) :=
  ⟨(Below.refl _ _).alloc (Nat.le_refl _) _, lnewBlk _ _, by simp⟩
theorem ZSt.next {w W W' : World} (h : ZSt w W) (hb : Below W.heap.size W W') : ZSt w W' :=
  ⟨h.below.trans (hb.mono h.below.size), (hb.block w.heap.size h.size).trans h.blk, Nat.lt_of_lt_of_le h.size hb.size⟩
theorem ZSt.cells {w W : World} (h : ZSt w W) : (W.cell? ⟨w.heap.size, 0, none⟩ = some (.int .i64 0) ∧ W.cell? ⟨w.heap.size, 1, none⟩ = some (.string ⟨#[]⟩) ∧ W.cell? ⟨w.heap.size, 2, none⟩ = some (.int .i64 0) ∧ W.cell? ⟨w.heap.size, 3, none⟩ = some (.int .i64 0) ∧ W.cell? ⟨w.heap.size, 4, none⟩ = some (.bool false)) ∧
    (W.frozen? ⟨w.heap.size, 0, none⟩ = false ∧ W.frozen? ⟨w.heap.size, 1, none⟩ = false ∧ W.frozen? ⟨w.heap.size, 2, none⟩ = false ∧ W.frozen? ⟨w.heap.size, 3, none⟩ = false ∧ W.frozen? ⟨w.heap.size, 4, none⟩ = false) := by
  simp [World.cell?, World.frozen?, h.blk]
theorem set5_below {w W : World} (h : Below w.heap.size w W) (a0 a1 a2 a3 a4 : Value) : Below w.heap.size w (((((W.setCell ⟨w.heap.size, 0, none⟩ a0).setCell ⟨w.heap.size, 1, none⟩ a1).setCell ⟨w.heap.size, 2, none⟩ a2).setCell ⟨w.heap.size, 3, none⟩ a3).setCell ⟨w.heap.size, 4, none⟩ a4) :=
  ((((h.setCell (p := ⟨_, 0, none⟩) (Nat.le_refl _) _).setCell (p := ⟨_, 1, none⟩) (Nat.le_refl _) _).setCell (p := ⟨_, 2, none⟩) (Nat.le_refl _) _).setCell (p := ⟨_, 3, none⟩) (Nat.le_refl _) _).setCell (p := ⟨_, 4, none⟩) (Nat.le_refl _) _
theorem cut_tw {p : UInt8 → Bool} (s : ByteArray) (at' to : Nat) (h : at' + (((bs s).drop at').takeWhile p).length = to) : bs (s.extract at' to) = ((bs s).drop at').takeWhile p ∧ (bs s).drop to = ((bs s).drop at').dropWhile p := by
  obtain ⟨l, hl⟩ : ∃ l, (bs s).drop at' = l := ⟨_, rfl⟩
  rw [hl] at h ⊢
  have e : to - at' = (l.takeWhile p).length := by omega
  refine ⟨by rw [bs_extract, hl, e, tw_take], ?_⟩
  have : (bs s).drop to = l.drop (to - at') := by rw [← hl, List.drop_drop]; congr 1; omega
  rw [this, e]
  conv => lhs; arg 2; rw [← List.takeWhile_append_dropWhile (p := p) (l := l)]
  rw [List.drop_left]
theorem one_ok {s : ByteArray} {at' to kind : Nat} {x : ByteArray} {w w' : World} {e : Ending} (hone : oneL ((bs s).drop at') = nameL kind (bs x) ((bs s).drop to) (to - at')) (h1 : at' ≤ to) (hn : 1 ≤ x.size ∧ x.size ≤ 20) (hb : Below w.heap.size w w') (he : e = .returned (.tuple #[tokV kind x 0 at' (opens ((bs s).drop to)), .int .i64 (to : Nat)])) : OnePost w (bs s) at' e w' := by
  refine ⟨hb, .inr ⟨⟨kind, bs x, 0, opens ((bs s).drop to)⟩, x, to - at', ?_, rfl, ?_⟩⟩
  · rw [hone, name_is (by rw [bs_length]; exact hn.1) (by rw [bs_length]; exact hn.2)]
  · rw [he, show at' + (to - at') = to by omega]
theorem one_no {s : ByteArray} {at' to kind : Nat} {x : ByteArray} {w w' : World} {e : Ending} (hone : oneL ((bs s).drop at') = nameL kind (bs x) ((bs s).drop to) (to - at')) (hn : ¬ (1 ≤ x.size ∧ x.size ≤ 20)) (hb : Below w.heap.size w w') (he : e = .returned noTok) : OnePost w (bs s) at' e w' := by
  refine ⟨hb, .inl ⟨?_, he⟩⟩
  rw [hone]
  unfold nameL
  rw [if_neg (by rw [bs_length]; exact hn)]
theorem one_word (s : ByteArray) (at' to kind : Nat) (h : at' < s.size) (hk : srt s[at'] = kind) (h12 : kind = 1 ∨ kind = 2) (hto : at' + (((bs s).drop at').takeWhile isWord).length = to) : oneL ((bs s).drop at') = nameL kind (bs (s.extract at' to)) ((bs s).drop to) (to - at') := by
  obtain ⟨e1, e2⟩ := cut_tw s at' to hto
  have e3 : to - at' = (((bs s).drop at').takeWhile isWord).length := by omega
  rw [e1, e2, e3, drop_at s at' h]
  unfold oneL
  simp only
  rw [if_pos (by rw [hk]; exact h12), hk]
set_option maxRecDepth 100000 in
set_option maxHeartbeats 2000000 in
theorem done_word1 (s : ByteArray) (at' : Nat) (w : World) (hat : at' < s.size) (hs : s.size ≤ 1000000) (hk : srt s[at'] = 1) :
    Calls Tryz.prog 35 #[.string s, .int .i64 (at' : Nat)] w fun e w' => OnePost w (bs s) at' e w' := by
  obtain ⟨to, hto⟩ : ∃ to, at' + (((bs s).drop at').takeWhile isWord).length = to := ⟨_, rfl⟩
  have hone := one_word s at' to 1 hat hk (by decide) hto
  have hsort := fun u => dsort_any s[at'] u
  rw [hk] at hsort
  have hword := fun u => dword_any s at' u (by omega) hs
  rw [hto] at hword
  have hlen := tw_len (p := isWord) ((bs s).drop at')
  rw [List.length_drop, bs_length] at hlen
  have h1 : at' ≤ to := by omega
  have h2 : to ≤ s.size := by omega
  have hsl := fun u => run_cut Tryz.underlying9 s at' to h1 h2 u
  have HS := Lib.hid hsort
  have HW := Lib.hid hword
  have HONE := Lib.hid hone
  clear hsort hword hto hk hlen hone
  go_enter Tryz.func35, Tryz.ntmps35
  go_wp2_with (first
    | (go_at_call 34; refine (HS.out _).mono ?_; rintro e w' ⟨rfl, rfl⟩)
    | (go_at_call 62; refine (HW.out _).mono ?_; rintro e w' ⟨rfl, rfl⟩))
  have hst := zst0 w
  revert hst
  generalize (w.alloc (Obj.cells #[.int .i64 0, .string ⟨#[]⟩, .int .i64 0, .int .i64 0, .bool false] 75 (0, 0))) = W0
  intro hst
  have HST := Lib.hid hst
  clear hst
  by_cases hn : 1 ≤ (s.extract at' to).size ∧ (s.extract at' to).size ≤ 20
  · have HN := Lib.hid (fun u => (dname_any s 1 (s.extract at' to) at' to u hs).mono fun e w' (h : NamePost u (bs s) 1 (s.extract at' to) at' to e w') => (show Below u.heap.size u w' ∧ e = .returned (.tuple #[.agg #[.int .i64 1, .string (s.extract at' to), .int .i64 0, .int .i64 (at' : Nat), .bool (opens ((bs s).drop to))], .int .i64 (to : Nat)]) from ⟨h.1, by
      rcases h.2 with h | h
      · exact absurd hn h.1
      · exact h.2⟩))
    have HH := Lib.hid hn
    clear hn
    go_region_with (first
      | (go_at_call 62; refine (HW.out _).mono ?_; rintro e w' ⟨rfl, rfl⟩)
      | (go_at_call 61; refine (HN.out _).mono ?_; rintro e w' ⟨hb, rfl⟩; have hst2 := HST.out.next (((Below.refl _ _).drew).trans (by first | exact hb | exact hb.mono (Nat.le_refl _))); obtain ⟨⟨c0, c1, c2, c3, c4⟩, f0, f1, f2, f3, f4⟩ := hst2.cells))
    all_goals
      go_wp2_with fail
      refine bodyPost_ret (v := .tuple #[tokV 1 (s.extract at' to) 0 at' (opens ((bs s).drop to)), .int .i64 (to : Nat)]) (by simp [results, tokV, Tryz.results35, go_sem, c0, c1, c2, c3, c4]) rfl ?_
      exact one_ok HONE.out h1 HH.out (set5_below (ZSt.below (by assumption)) _ _ _ _ _) rfl
  · have HN := Lib.hid (fun u => (dname_any s 1 (s.extract at' to) at' to u hs).mono fun e w' (h : NamePost u (bs s) 1 (s.extract at' to) at' to e w') => (show Below u.heap.size u w' ∧ e = .returned (.tuple #[.agg #[.int .i64 0, .string ⟨#[]⟩, .int .i64 0, .int .i64 0, .bool false], .int .i64 (-1)]) from ⟨h.1, by
      rcases h.2 with h | h
      · exact h.2
      · exact absurd h.1 hn⟩))
    have HH := Lib.hid hn
    clear hn
    go_region_with (first
      | (go_at_call 62; refine (HW.out _).mono ?_; rintro e w' ⟨rfl, rfl⟩)
      | (go_at_call 61; refine (HN.out _).mono ?_; rintro e w' ⟨hb, rfl⟩; have hst2 := HST.out.next (((Below.refl _ _).drew).trans (by first | exact hb | exact hb.mono (Nat.le_refl _))); obtain ⟨⟨c0, c1, c2, c3, c4⟩, f0, f1, f2, f3, f4⟩ := hst2.cells))
    all_goals
      go_wp2_with fail
      refine bodyPost_ret (v := noTok) (by simp [results, noTok, Tryz.results35, go_sem, c0, c1, c2, c3, c4]) rfl ?_
      exact one_no HONE.out HH.out (set5_below (ZSt.below (by assumption)) _ _ _ _ _) rfl
set_option maxRecDepth 100000 in
set_option maxHeartbeats 2000000 in
theorem done_word2 (s : ByteArray) (at' : Nat) (w : World) (hat : at' < s.size) (hs : s.size ≤ 1000000) (hk : srt s[at'] = 2) :
    Calls Tryz.prog 35 #[.string s, .int .i64 (at' : Nat)] w fun e w' => OnePost w (bs s) at' e w' := by
  obtain ⟨to, hto⟩ : ∃ to, at' + (((bs s).drop at').takeWhile isWord).length = to := ⟨_, rfl⟩
  have hone := one_word s at' to 2 hat hk (by decide) hto
  have hsort := fun u => dsort_any s[at'] u
  rw [hk] at hsort
  have hword := fun u => dword_any s at' u (by omega) hs
  rw [hto] at hword
  have hlen := tw_len (p := isWord) ((bs s).drop at')
  rw [List.length_drop, bs_length] at hlen
  have h1 : at' ≤ to := by omega
  have h2 : to ≤ s.size := by omega
  have hsl := fun u => run_cut Tryz.underlying9 s at' to h1 h2 u
  have HS := Lib.hid hsort
  have HW := Lib.hid hword
  have HONE := Lib.hid hone
  clear hsort hword hto hk hlen hone
  go_enter Tryz.func35, Tryz.ntmps35
  go_wp2_with (first
    | (go_at_call 34; refine (HS.out _).mono ?_; rintro e w' ⟨rfl, rfl⟩)
    | (go_at_call 62; refine (HW.out _).mono ?_; rintro e w' ⟨rfl, rfl⟩))
  have hst := zst0 w
  revert hst
  generalize (w.alloc (Obj.cells #[.int .i64 0, .string ⟨#[]⟩, .int .i64 0, .int .i64 0, .bool false] 75 (0, 0))) = W0
  intro hst
  have HST := Lib.hid hst
  clear hst
  by_cases hn : 1 ≤ (s.extract at' to).size ∧ (s.extract at' to).size ≤ 20
  · have HN := Lib.hid (fun u => (dname_any s 2 (s.extract at' to) at' to u hs).mono fun e w' (h : NamePost u (bs s) 2 (s.extract at' to) at' to e w') => (show Below u.heap.size u w' ∧ e = .returned (.tuple #[.agg #[.int .i64 2, .string (s.extract at' to), .int .i64 0, .int .i64 (at' : Nat), .bool (opens ((bs s).drop to))], .int .i64 (to : Nat)]) from ⟨h.1, by
      rcases h.2 with h | h
      · exact absurd hn h.1
      · exact h.2⟩))
    have HH := Lib.hid hn
    clear hn
    go_region_with (first
      | (go_at_call 62; refine (HW.out _).mono ?_; rintro e w' ⟨rfl, rfl⟩)
      | (go_at_call 61; refine (HN.out _).mono ?_; rintro e w' ⟨hb, rfl⟩; have hst2 := HST.out.next (((Below.refl _ _).drew).trans (by first | exact hb | exact hb.mono (Nat.le_refl _))); obtain ⟨⟨c0, c1, c2, c3, c4⟩, f0, f1, f2, f3, f4⟩ := hst2.cells))
    all_goals
      go_wp2_with fail
      refine bodyPost_ret (v := .tuple #[tokV 2 (s.extract at' to) 0 at' (opens ((bs s).drop to)), .int .i64 (to : Nat)]) (by simp [results, tokV, Tryz.results35, go_sem, c0, c1, c2, c3, c4]) rfl ?_
      exact one_ok HONE.out h1 HH.out (set5_below (ZSt.below (by assumption)) _ _ _ _ _) rfl
  · have HN := Lib.hid (fun u => (dname_any s 2 (s.extract at' to) at' to u hs).mono fun e w' (h : NamePost u (bs s) 2 (s.extract at' to) at' to e w') => (show Below u.heap.size u w' ∧ e = .returned (.tuple #[.agg #[.int .i64 0, .string ⟨#[]⟩, .int .i64 0, .int .i64 0, .bool false], .int .i64 (-1)]) from ⟨h.1, by
      rcases h.2 with h | h
      · exact h.2
      · exact absurd h.1 hn⟩))
    have HH := Lib.hid hn
    clear hn
    go_region_with (first
      | (go_at_call 62; refine (HW.out _).mono ?_; rintro e w' ⟨rfl, rfl⟩)
      | (go_at_call 61; refine (HN.out _).mono ?_; rintro e w' ⟨hb, rfl⟩; have hst2 := HST.out.next (((Below.refl _ _).drew).trans (by first | exact hb | exact hb.mono (Nat.le_refl _))); obtain ⟨⟨c0, c1, c2, c3, c4⟩, f0, f1, f2, f3, f4⟩ := hst2.cells))
    all_goals
      go_wp2_with fail
      refine bodyPost_ret (v := noTok) (by simp [results, noTok, Tryz.results35, go_sem, c0, c1, c2, c3, c4]) rfl ?_
      exact one_no HONE.out HH.out (set5_below (ZSt.below (by assumption)) _ _ _ _ _) rfl
end Go.Proofs.YtilfglcjcmpfeaaGreatDoor
