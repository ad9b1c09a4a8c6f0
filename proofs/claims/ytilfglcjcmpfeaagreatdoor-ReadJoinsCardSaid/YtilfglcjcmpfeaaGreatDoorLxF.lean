/-
  The document's One at digits.
  The document's One at a sign of its own, and at brackets.
  The document's One at a sign that is a name, at brackets that are one, at quotes.
  The document's One at signs, and at a byte that begins no token.
  The document's One, at whatever byte.
  The document's Tokens.
-/
import Derived.Test.YtilfglcjcmpfeaaGreatDoorLxA
import Derived.Test.YtilfglcjcmpfeaaGreatDoorTmP
import Derived.Maps.AppendAt
namespace Go.Proofs.YtilfglcjcmpfeaaGreatDoor
open Go.RowKit

theorem one_num (s : ByteArray) (at' to : Nat) (h : at' < s.size) (hk : srt s[at'] = 3) (hto : at' + (((bs s).drop at').takeWhile isDigit).length = to) : oneL ((bs s).drop at') = (numL (bs (s.extract at' to))).map fun n => (⟨3, bs (s.extract at' to), n, false⟩, to - at') := by
  obtain ⟨e1, e2⟩ := cut_tw s at' to hto
  have e3 : to - at' = (((bs s).drop at').takeWhile isDigit).length := by omega
  rw [e1, e3, drop_at s at' h]
  unfold oneL
  simp only
  rw [if_neg (by rw [hk]; decide), if_pos hk]
theorem tw_mem {p : UInt8 → Bool} : ∀ (l : List UInt8), ∀ c ∈ l.takeWhile p, p c = true
  | [], c, h => by simp at h
  | d :: r, c, h => by
    by_cases hd : p d = true
    · rw [tw_cons hd] at h
      rcases List.mem_cons.1 h with rfl | h
      · exact hd
      · exact tw_mem r c h
    · simp [hd] at h
set_option maxRecDepth 100000 in
set_option maxHeartbeats 2000000 in
theorem done_num (s : ByteArray) (at' : Nat) (w : World) (hat : at' < s.size) (hs : s.size ≤ 1000000) (hk : srt s[at'] = 3) :
    Calls Tryz.prog 35 #[.string s, .int .i64 (at' : Nat)] w fun e w' => OnePost w (bs s) at' e w' := by
  obtain ⟨to, hto⟩ : ∃ to, at' + (((bs s).drop at').takeWhile isDigit).length = to := ⟨_, rfl⟩
  have hone := one_num s at' to hat hk hto
  have hd : isDigit s[at'] = true := by unfold isDigit; rw [hk]; rfl
  have hlen2 : 1 ≤ (((bs s).drop at').takeWhile isDigit).length := by
    rw [drop_at s at' hat, tw_cons hd]
    simp
  have hsort := fun u => dsort_any s[at'] u
  rw [hk] at hsort
  have hdig := fun u => ddigits_any s at' u (by omega) hs
  rw [hto] at hdig
  have hlen := tw_len (p := isDigit) ((bs s).drop at')
  rw [List.length_drop, bs_length] at hlen
  have h1 : at' ≤ to := by omega
  have h2 : to ≤ s.size := by omega
  have hsl := fun u => run_cut Tryz.underlying9 s at' to h1 h2 u
  have hxs : (s.extract at' to).size = to - at' := by rw [ByteArray.size_extract]; omega
  have hnum := fun u => dnumber_any (s.extract at' to) u (by omega) (by omega) (fun c hc => tw_mem _ c (by rw [(cut_tw s at' to hto).1] at hc; exact hc))
  have HS := Lib.hid hsort
  have HD := Lib.hid hdig
  clear hsort hdig hto hk hlen hlen2 hd hxs
  cases hn : numL (bs (s.extract at' to)) with
  | none =>
    rw [hn] at hone
    have HN := Lib.hid (fun u => (hnum u).mono fun e w' (h : NumPost u (bs (s.extract at' to)) e w') => (show ∃ n : Nat, e = .returned (.tuple #[.int .i64 (n : Nat), .bool false]) ∧ u = w' from by
      obtain ⟨n, b, rfl, rfl, h | h⟩ := h
      · rw [hn] at h; cases h.1
      · exact ⟨n, by rw [h.2], rfl⟩))
    have HONE := Lib.hid hone
    clear hone hn hnum
    go_enter Tryz.func35, Tryz.ntmps35
    go_wp2_with (first
      | (go_at_call 34; refine (HS.out _).mono ?_; rintro e w' ⟨rfl, rfl⟩)
      | (go_at_call 63; refine (HD.out _).mono ?_; rintro e w' ⟨rfl, rfl⟩)
      | (go_at_call 64; refine (HN.out _).mono ?_; rintro e w' ⟨n, rfl, rfl⟩))
    refine bodyPost_ret (v := noTok) (by simp [results, noTok, Tryz.results35, go_sem]) rfl ?_
    exact ⟨(Below.refl _ _).alloc (Nat.le_refl _) _, .inl ⟨HONE.out, rfl⟩⟩
  | some n =>
    rw [hn] at hone
    have HN := Lib.hid (fun u => (hnum u).mono fun e w' (h : NumPost u (bs (s.extract at' to)) e w') => (show e = .returned (.tuple #[.int .i64 (n : Nat), .bool true]) ∧ u = w' from by
      obtain ⟨n', b, rfl, rfl, h | h⟩ := h
      · rw [hn] at h
        have := Option.some.inj h.1
        subst this
        exact ⟨by rw [h.2], rfl⟩
      · rw [hn] at h; cases h.1))
    have HONE := Lib.hid hone
    clear hone hn hnum
    go_enter Tryz.func35, Tryz.ntmps35
    go_wp2_with (first
      | (go_at_call 34; refine (HS.out _).mono ?_; rintro e w' ⟨rfl, rfl⟩)
      | (go_at_call 63; refine (HD.out _).mono ?_; rintro e w' ⟨rfl, rfl⟩)
      | (go_at_call 64; refine (HN.out _).mono ?_; rintro e w' ⟨rfl, rfl⟩))
    refine bodyPost_ret (v := .tuple #[tokV 3 (s.extract at' to) n at' false, .int .i64 (to : Nat)]) (by simp [results, tokV, Tryz.results35, go_sem]) rfl ?_
    exact ⟨(Below.refl _ _).alloc (Nat.le_refl _) _, .inr ⟨⟨3, bs (s.extract at' to), n, false⟩, s.extract at' to, to - at', HONE.out, rfl, by rw [show at' + (to - at') = to by omega]⟩⟩
end Go.Proofs.YtilfglcjcmpfeaaGreatDoor

namespace Go.Proofs.YtilfglcjcmpfeaaGreatDoor
open Go.RowKit

theorem ext_one (s : ByteArray) (at' : Nat) (h : at' < s.size) : bs (s.extract at' (at' + 1)) = [s[at']] := bs_byte s at' h
theorem size_one (s : ByteArray) (at' : Nat) (h : at' < s.size) : (s.extract at' (at' + 1)).size = 1 := by rw [ByteArray.size_extract]; omega
set_option maxRecDepth 100000 in
set_option maxHeartbeats 2000000 in
theorem done_40 (s : ByteArray) (at' : Nat) (w : World) (hat : at' < s.size) (hs : s.size ≤ 1000000) (hc : s[at'] = 40) :
    Calls Tryz.prog 35 #[.string s, .int .i64 (at' : Nat)] w fun e w' => OnePost w (bs s) at' e w' := by
  have hsort := fun u => dsort_any s[at'] u
  rw [show srt s[at'] = 0 by rw [hc]; rfl] at hsort
  have hsl := fun u => run_byte_at Tryz.underlying9 s at' hat u
  have HS := Lib.hid hsort
  have b39 : ((s[at'].toNat : Int) == 39) = false := by rw [hc]; rfl
  have b91 : ((s[at'].toNat : Int) == 91) = false := by rw [hc]; rfl
  have b33 : ((s[at'].toNat : Int) == 33) = false := by rw [hc]; rfl
  have b59 : ((s[at'].toNat : Int) == 59) = false := by rw [hc]; rfl
  have b40 : ((s[at'].toNat : Int) == 40) = true := by rw [hc]; rfl
  have b41 : ((s[at'].toNat : Int) == 41) = false := by rw [hc]; rfl
  have b93 : ((s[at'].toNat : Int) == 93) = false := by rw [hc]; rfl
  have b124 : ((s[at'].toNat : Int) == 124) = false := by rw [hc]; rfl
  have b44 : ((s[at'].toNat : Int) == 44) = false := by rw [hc]; rfl
  have b46 : ((s[at'].toNat : Int) == 46) = false := by rw [hc]; rfl
  have hone : oneL ((bs s).drop at') = some (⟨4, bs (s.extract at' (at' + 1)), 0, false⟩, 1) := by
    rw [ext_one s at' hat, drop_at s at' hat, hc]
    unfold oneL
    simp only
    rw [if_neg (by decide), if_neg (by decide), if_neg (by decide), if_neg (fun h => absurd h.1 (by decide)), if_neg (by decide), if_pos (by decide)]
  have HONE := Lib.hid hone
  clear hone hsort
  clear hc
  go_enter Tryz.func35, Tryz.ntmps35
  go_wp2_with (first
    | (go_at_call 34; refine (HS.out _).mono ?_; rintro e w' ⟨rfl, rfl⟩))
  refine bodyPost_ret (v := .tuple #[tokV 4 (s.extract at' (at' + 1)) 0 at' false, .int .i64 (at' + 1 : Nat)]) (by simp [results, tokV, Tryz.results35, go_sem]) rfl ?_
  exact ⟨(Below.refl _ _).alloc (Nat.le_refl _) _, .inr ⟨⟨4, bs (s.extract at' (at' + 1)), 0, false⟩, s.extract at' (at' + 1), 1, HONE.out, rfl, rfl⟩⟩
set_option maxRecDepth 100000 in
set_option maxHeartbeats 2000000 in
theorem done_41 (s : ByteArray) (at' : Nat) (w : World) (hat : at' < s.size) (hs : s.size ≤ 1000000) (hc : s[at'] = 41) :
    Calls Tryz.prog 35 #[.string s, .int .i64 (at' : Nat)] w fun e w' => OnePost w (bs s) at' e w' := by
  have hsort := fun u => dsort_any s[at'] u
  rw [show srt s[at'] = 0 by rw [hc]; rfl] at hsort
  have hsl := fun u => run_byte_at Tryz.underlying9 s at' hat u
  have HS := Lib.hid hsort
  have b39 : ((s[at'].toNat : Int) == 39) = false := by rw [hc]; rfl
  have b91 : ((s[at'].toNat : Int) == 91) = false := by rw [hc]; rfl
  have b33 : ((s[at'].toNat : Int) == 33) = false := by rw [hc]; rfl
  have b59 : ((s[at'].toNat : Int) == 59) = false := by rw [hc]; rfl
  have b40 : ((s[at'].toNat : Int) == 40) = false := by rw [hc]; rfl
  have b41 : ((s[at'].toNat : Int) == 41) = true := by rw [hc]; rfl
  have b93 : ((s[at'].toNat : Int) == 93) = false := by rw [hc]; rfl
  have b124 : ((s[at'].toNat : Int) == 124) = false := by rw [hc]; rfl
  have b44 : ((s[at'].toNat : Int) == 44) = false := by rw [hc]; rfl
  have b46 : ((s[at'].toNat : Int) == 46) = false := by rw [hc]; rfl
  have hone : oneL ((bs s).drop at') = some (⟨4, bs (s.extract at' (at' + 1)), 0, false⟩, 1) := by
    rw [ext_one s at' hat, drop_at s at' hat, hc]
    unfold oneL
    simp only
    rw [if_neg (by decide), if_neg (by decide), if_neg (by decide), if_neg (fun h => absurd h.1 (by decide)), if_neg (by decide), if_pos (by decide)]
  have HONE := Lib.hid hone
  clear hone hsort
  clear hc
  go_enter Tryz.func35, Tryz.ntmps35
  go_wp2_with (first
    | (go_at_call 34; refine (HS.out _).mono ?_; rintro e w' ⟨rfl, rfl⟩))
  refine bodyPost_ret (v := .tuple #[tokV 4 (s.extract at' (at' + 1)) 0 at' false, .int .i64 (at' + 1 : Nat)]) (by simp [results, tokV, Tryz.results35, go_sem]) rfl ?_
  exact ⟨(Below.refl _ _).alloc (Nat.le_refl _) _, .inr ⟨⟨4, bs (s.extract at' (at' + 1)), 0, false⟩, s.extract at' (at' + 1), 1, HONE.out, rfl, rfl⟩⟩
set_option maxRecDepth 100000 in
set_option maxHeartbeats 2000000 in
theorem done_91 (s : ByteArray) (at' : Nat) (w : World) (hat : at' < s.size) (hs : s.size ≤ 1000000) (hc : s[at'] = 91) (hb : ((bs s).drop (at' + 1)).head? ≠ some 93) :
    Calls Tryz.prog 35 #[.string s, .int .i64 (at' : Nat)] w fun e w' => OnePost w (bs s) at' e w' := by
  have hsort := fun u => dsort_any s[at'] u
  rw [show srt s[at'] = 0 by rw [hc]; rfl] at hsort
  have hsl := fun u => run_byte_at Tryz.underlying9 s at' hat u
  have HS := Lib.hid hsort
  have b39 : ((s[at'].toNat : Int) == 39) = false := by rw [hc]; rfl
  have b91 : ((s[at'].toNat : Int) == 91) = true := by rw [hc]; rfl
  have b33 : ((s[at'].toNat : Int) == 33) = false := by rw [hc]; rfl
  have b59 : ((s[at'].toNat : Int) == 59) = false := by rw [hc]; rfl
  have b40 : ((s[at'].toNat : Int) == 40) = false := by rw [hc]; rfl
  have b41 : ((s[at'].toNat : Int) == 41) = false := by rw [hc]; rfl
  have b93 : ((s[at'].toNat : Int) == 93) = false := by rw [hc]; rfl
  have b124 : ((s[at'].toNat : Int) == 124) = false := by rw [hc]; rfl
  have b44 : ((s[at'].toNat : Int) == 44) = false := by rw [hc]; rfl
  have b46 : ((s[at'].toNat : Int) == 46) = false := by rw [hc]; rfl
  have hone : oneL ((bs s).drop at') = some (⟨4, bs (s.extract at' (at' + 1)), 0, false⟩, 1) := by
    rw [ext_one s at' hat, drop_at s at' hat, hc]
    unfold oneL
    simp only
    rw [if_neg (by decide), if_neg (by decide), if_neg (by decide), if_neg (fun h => hb h.2), if_neg (by decide), if_pos (by decide)]
  have HONE := Lib.hid hone
  clear hone hsort
  clear hc
  by_cases hlt : at' + 1 < s.size
  · have hb2 : ((s[at' + 1].toNat : Int) == 93) = false := by
      rw [beq_eq_false_iff_ne]
      intro e
      refine hb ?_
      rw [drop_at s (at' + 1) hlt]
      exact congrArg some (UInt8.toNat_inj.1 (by show s[at' + 1].toNat = 93; omega))
    clear hb
    go_enter Tryz.func35, Tryz.ntmps35
    go_wp2_with (first
      | (go_at_call 34; refine (HS.out _).mono ?_; rintro e w' ⟨rfl, rfl⟩))
    refine bodyPost_ret (v := .tuple #[tokV 4 (s.extract at' (at' + 1)) 0 at' false, .int .i64 (at' + 1 : Nat)]) (by simp [results, tokV, Tryz.results35, go_sem]) rfl ?_
    exact ⟨(Below.refl _ _).alloc (Nat.le_refl _) _, .inr ⟨⟨4, bs (s.extract at' (at' + 1)), 0, false⟩, s.extract at' (at' + 1), 1, HONE.out, rfl, rfl⟩⟩
  · clear hb
    go_enter Tryz.func35, Tryz.ntmps35
    go_wp2_with (first
      | (go_at_call 34; refine (HS.out _).mono ?_; rintro e w' ⟨rfl, rfl⟩))
    refine bodyPost_ret (v := .tuple #[tokV 4 (s.extract at' (at' + 1)) 0 at' false, .int .i64 (at' + 1 : Nat)]) (by simp [results, tokV, Tryz.results35, go_sem]) rfl ?_
    exact ⟨(Below.refl _ _).alloc (Nat.le_refl _) _, .inr ⟨⟨4, bs (s.extract at' (at' + 1)), 0, false⟩, s.extract at' (at' + 1), 1, HONE.out, rfl, rfl⟩⟩
set_option maxRecDepth 100000 in
set_option maxHeartbeats 2000000 in
theorem done_93 (s : ByteArray) (at' : Nat) (w : World) (hat : at' < s.size) (hs : s.size ≤ 1000000) (hc : s[at'] = 93) :
    Calls Tryz.prog 35 #[.string s, .int .i64 (at' : Nat)] w fun e w' => OnePost w (bs s) at' e w' := by
  have hsort := fun u => dsort_any s[at'] u
  rw [show srt s[at'] = 0 by rw [hc]; rfl] at hsort
  have hsl := fun u => run_byte_at Tryz.underlying9 s at' hat u
  have HS := Lib.hid hsort
  have b39 : ((s[at'].toNat : Int) == 39) = false := by rw [hc]; rfl
  have b91 : ((s[at'].toNat : Int) == 91) = false := by rw [hc]; rfl
  have b33 : ((s[at'].toNat : Int) == 33) = false := by rw [hc]; rfl
  have b59 : ((s[at'].toNat : Int) == 59) = false := by rw [hc]; rfl
  have b40 : ((s[at'].toNat : Int) == 40) = false := by rw [hc]; rfl
  have b41 : ((s[at'].toNat : Int) == 41) = false := by rw [hc]; rfl
  have b93 : ((s[at'].toNat : Int) == 93) = true := by rw [hc]; rfl
  have b124 : ((s[at'].toNat : Int) == 124) = false := by rw [hc]; rfl
  have b44 : ((s[at'].toNat : Int) == 44) = false := by rw [hc]; rfl
  have b46 : ((s[at'].toNat : Int) == 46) = false := by rw [hc]; rfl
  have hone : oneL ((bs s).drop at') = some (⟨4, bs (s.extract at' (at' + 1)), 0, false⟩, 1) := by
    rw [ext_one s at' hat, drop_at s at' hat, hc]
    unfold oneL
    simp only
    rw [if_neg (by decide), if_neg (by decide), if_neg (by decide), if_neg (fun h => absurd h.1 (by decide)), if_neg (by decide), if_pos (by decide)]
  have HONE := Lib.hid hone
  clear hone hsort
  clear hc
  go_enter Tryz.func35, Tryz.ntmps35
  go_wp2_with (first
    | (go_at_call 34; refine (HS.out _).mono ?_; rintro e w' ⟨rfl, rfl⟩))
  refine bodyPost_ret (v := .tuple #[tokV 4 (s.extract at' (at' + 1)) 0 at' false, .int .i64 (at' + 1 : Nat)]) (by simp [results, tokV, Tryz.results35, go_sem]) rfl ?_
  exact ⟨(Below.refl _ _).alloc (Nat.le_refl _) _, .inr ⟨⟨4, bs (s.extract at' (at' + 1)), 0, false⟩, s.extract at' (at' + 1), 1, HONE.out, rfl, rfl⟩⟩
set_option maxRecDepth 100000 in
set_option maxHeartbeats 2000000 in
theorem done_124 (s : ByteArray) (at' : Nat) (w : World) (hat : at' < s.size) (hs : s.size ≤ 1000000) (hc : s[at'] = 124) :
    Calls Tryz.prog 35 #[.string s, .int .i64 (at' : Nat)] w fun e w' => OnePost w (bs s) at' e w' := by
  have hsort := fun u => dsort_any s[at'] u
  rw [show srt s[at'] = 0 by rw [hc]; rfl] at hsort
  have hsl := fun u => run_byte_at Tryz.underlying9 s at' hat u
  have HS := Lib.hid hsort
  have b39 : ((s[at'].toNat : Int) == 39) = false := by rw [hc]; rfl
  have b91 : ((s[at'].toNat : Int) == 91) = false := by rw [hc]; rfl
  have b33 : ((s[at'].toNat : Int) == 33) = false := by rw [hc]; rfl
  have b59 : ((s[at'].toNat : Int) == 59) = false := by rw [hc]; rfl
  have b40 : ((s[at'].toNat : Int) == 40) = false := by rw [hc]; rfl
  have b41 : ((s[at'].toNat : Int) == 41) = false := by rw [hc]; rfl
  have b93 : ((s[at'].toNat : Int) == 93) = false := by rw [hc]; rfl
  have b124 : ((s[at'].toNat : Int) == 124) = true := by rw [hc]; rfl
  have b44 : ((s[at'].toNat : Int) == 44) = false := by rw [hc]; rfl
  have b46 : ((s[at'].toNat : Int) == 46) = false := by rw [hc]; rfl
  have hone : oneL ((bs s).drop at') = some (⟨4, bs (s.extract at' (at' + 1)), 0, false⟩, 1) := by
    rw [ext_one s at' hat, drop_at s at' hat, hc]
    unfold oneL
    simp only
    rw [if_neg (by decide), if_neg (by decide), if_neg (by decide), if_neg (fun h => absurd h.1 (by decide)), if_neg (by decide), if_pos (by decide)]
  have HONE := Lib.hid hone
  clear hone hsort
  clear hc
  go_enter Tryz.func35, Tryz.ntmps35
  go_wp2_with (first
    | (go_at_call 34; refine (HS.out _).mono ?_; rintro e w' ⟨rfl, rfl⟩))
  refine bodyPost_ret (v := .tuple #[tokV 4 (s.extract at' (at' + 1)) 0 at' false, .int .i64 (at' + 1 : Nat)]) (by simp [results, tokV, Tryz.results35, go_sem]) rfl ?_
  exact ⟨(Below.refl _ _).alloc (Nat.le_refl _) _, .inr ⟨⟨4, bs (s.extract at' (at' + 1)), 0, false⟩, s.extract at' (at' + 1), 1, HONE.out, rfl, rfl⟩⟩
set_option maxRecDepth 100000 in
set_option maxHeartbeats 2000000 in
theorem done_44 (s : ByteArray) (at' : Nat) (w : World) (hat : at' < s.size) (hs : s.size ≤ 1000000) (hc : s[at'] = 44) :
    Calls Tryz.prog 35 #[.string s, .int .i64 (at' : Nat)] w fun e w' => OnePost w (bs s) at' e w' := by
  have hsort := fun u => dsort_any s[at'] u
  rw [show srt s[at'] = 0 by rw [hc]; rfl] at hsort
  have hsl := fun u => run_byte_at Tryz.underlying9 s at' hat u
  have HS := Lib.hid hsort
  have b39 : ((s[at'].toNat : Int) == 39) = false := by rw [hc]; rfl
  have b91 : ((s[at'].toNat : Int) == 91) = false := by rw [hc]; rfl
  have b33 : ((s[at'].toNat : Int) == 33) = false := by rw [hc]; rfl
  have b59 : ((s[at'].toNat : Int) == 59) = false := by rw [hc]; rfl
  have b40 : ((s[at'].toNat : Int) == 40) = false := by rw [hc]; rfl
  have b41 : ((s[at'].toNat : Int) == 41) = false := by rw [hc]; rfl
  have b93 : ((s[at'].toNat : Int) == 93) = false := by rw [hc]; rfl
  have b124 : ((s[at'].toNat : Int) == 124) = false := by rw [hc]; rfl
  have b44 : ((s[at'].toNat : Int) == 44) = true := by rw [hc]; rfl
  have b46 : ((s[at'].toNat : Int) == 46) = false := by rw [hc]; rfl
  have hone : oneL ((bs s).drop at') = some (⟨4, bs (s.extract at' (at' + 1)), 0, false⟩, 1) := by
    rw [ext_one s at' hat, drop_at s at' hat, hc]
    unfold oneL
    simp only
    rw [if_neg (by decide), if_neg (by decide), if_neg (by decide), if_neg (fun h => absurd h.1 (by decide)), if_neg (by decide), if_pos (by decide)]
  have HONE := Lib.hid hone
  clear hone hsort
  clear hc
  go_enter Tryz.func35, Tryz.ntmps35
  go_wp2_with (first
    | (go_at_call 34; refine (HS.out _).mono ?_; rintro e w' ⟨rfl, rfl⟩))
  refine bodyPost_ret (v := .tuple #[tokV 4 (s.extract at' (at' + 1)) 0 at' false, .int .i64 (at' + 1 : Nat)]) (by simp [results, tokV, Tryz.results35, go_sem]) rfl ?_
  exact ⟨(Below.refl _ _).alloc (Nat.le_refl _) _, .inr ⟨⟨4, bs (s.extract at' (at' + 1)), 0, false⟩, s.extract at' (at' + 1), 1, HONE.out, rfl, rfl⟩⟩
end Go.Proofs.YtilfglcjcmpfeaaGreatDoor

namespace Go.Proofs.YtilfglcjcmpfeaaGreatDoor
open Go.RowKit

theorem name_call (s : ByteArray) (kind : Nat) (x : ByteArray) (at' to : Nat) (hs : s.size ≤ 1000000) (hn : 1 ≤ x.size ∧ x.size ≤ 20) (u : World) : Calls Tryz.prog 61 #[.string s, .int .i64 (kind : Nat), .string x, .int .i64 (at' : Nat), .int .i64 (to : Nat)] u fun e w' => Below u.heap.size u w' ∧ e = .returned (.tuple #[.agg #[.int .i64 (kind : Nat), .string x, .int .i64 0, .int .i64 (at' : Nat), .bool (opens ((bs s).drop to))], .int .i64 (to : Nat)]) :=
  (dname_any s kind x at' to u hs).mono fun e w' h => ⟨h.1, by
    rcases h.2 with h | h
    · exact absurd hn h.1
    · exact h.2⟩
theorem name_call_no (s : ByteArray) (kind : Nat) (x : ByteArray) (at' to : Nat) (hs : s.size ≤ 1000000) (hn : ¬ (1 ≤ x.size ∧ x.size ≤ 20)) (u : World) : Calls Tryz.prog 61 #[.string s, .int .i64 (kind : Nat), .string x, .int .i64 (at' : Nat), .int .i64 (to : Nat)] u fun e w' => Below u.heap.size u w' ∧ e = .returned (.tuple #[.agg #[.int .i64 0, .string ⟨#[]⟩, .int .i64 0, .int .i64 0, .bool false], .int .i64 (-1)]) :=
  (dname_any s kind x at' to u hs).mono fun e w' h => ⟨h.1, by
    rcases h.2 with h | h
    · exact h.2
    · exact absurd h.1 hn⟩
set_option maxRecDepth 100000 in
set_option maxHeartbeats 2000000 in
theorem done_33 (s : ByteArray) (at' : Nat) (w : World) (hat : at' < s.size) (hs : s.size ≤ 1000000) (hc : s[at'] = 33) :
    Calls Tryz.prog 35 #[.string s, .int .i64 (at' : Nat)] w fun e w' => OnePost w (bs s) at' e w' := by
  have hsort := fun u => dsort_any s[at'] u
  rw [show srt s[at'] = 0 by rw [hc]; rfl] at hsort
  have hsl := fun u => run_byte_at Tryz.underlying9 s at' hat u
  have HS := Lib.hid hsort
  have b39 : ((s[at'].toNat : Int) == 39) = false := by rw [hc]; rfl
  have b91 : ((s[at'].toNat : Int) == 91) = false := by rw [hc]; rfl
  have b33 : ((s[at'].toNat : Int) == 33) = true := by rw [hc]; rfl
  have b59 : ((s[at'].toNat : Int) == 59) = false := by rw [hc]; rfl
  have b40 : ((s[at'].toNat : Int) == 40) = false := by rw [hc]; rfl
  have b41 : ((s[at'].toNat : Int) == 41) = false := by rw [hc]; rfl
  have b93 : ((s[at'].toNat : Int) == 93) = false := by rw [hc]; rfl
  have b124 : ((s[at'].toNat : Int) == 124) = false := by rw [hc]; rfl
  have b44 : ((s[at'].toNat : Int) == 44) = false := by rw [hc]; rfl
  have b46 : ((s[at'].toNat : Int) == 46) = false := by rw [hc]; rfl
  have hone : oneL ((bs s).drop at') = nameL 1 (bs (s.extract at' (at' + 1))) ((bs s).drop (at' + 1)) (at' + 1 - at') := by
    rw [ext_one s at' hat, drop_at s at' hat, hc, show at' + 1 - at' = 1 by omega]
    unfold oneL
    simp only
    rw [if_neg (by decide), if_neg (by decide), if_neg (by decide), if_neg (fun h => absurd h.1 (by decide)), if_pos (by decide)]
  have HONE := Lib.hid hone
  have hz : 1 ≤ (s.extract at' (at' + 1)).size ∧ (s.extract at' (at' + 1)).size ≤ 20 := by rw [size_one s at' hat]; decide
  have HZ := Lib.hid hz
  have HN := Lib.hid (name_call s 1 (s.extract at' (at' + 1)) at' (at' + 1) hs hz)
  clear hone hsort hc hz
  go_enter Tryz.func35, Tryz.ntmps35
  go_wp2_with (first
    | (go_at_call 34; refine (HS.out _).mono ?_; rintro e w' ⟨rfl, rfl⟩)
    | (go_at_call 61; refine (HN.out _).mono ?_; rintro e w' ⟨hb, rfl⟩; have hst2 := (zst0 w).next hb; obtain ⟨⟨c0, c1, c2, c3, c4⟩, f0, f1, f2, f3, f4⟩ := hst2.cells))
  refine bodyPost_ret (v := .tuple #[tokV 1 (s.extract at' (at' + 1)) 0 at' (opens ((bs s).drop (at' + 1))), .int .i64 (at' + 1 : Nat)]) (by simp [results, tokV, Tryz.results35, go_sem, c0, c1, c2, c3, c4]) rfl ?_
  exact one_ok HONE.out (by omega) HZ.out (set5_below (ZSt.below (by assumption)) _ _ _ _ _) rfl
set_option maxRecDepth 100000 in
set_option maxHeartbeats 2000000 in
theorem done_59 (s : ByteArray) (at' : Nat) (w : World) (hat : at' < s.size) (hs : s.size ≤ 1000000) (hc : s[at'] = 59) :
    Calls Tryz.prog 35 #[.string s, .int .i64 (at' : Nat)] w fun e w' => OnePost w (bs s) at' e w' := by
  have hsort := fun u => dsort_any s[at'] u
  rw [show srt s[at'] = 0 by rw [hc]; rfl] at hsort
  have hsl := fun u => run_byte_at Tryz.underlying9 s at' hat u
  have HS := Lib.hid hsort
  have b39 : ((s[at'].toNat : Int) == 39) = false := by rw [hc]; rfl
  have b91 : ((s[at'].toNat : Int) == 91) = false := by rw [hc]; rfl
  have b33 : ((s[at'].toNat : Int) == 33) = false := by rw [hc]; rfl
  have b59 : ((s[at'].toNat : Int) == 59) = true := by rw [hc]; rfl
  have b40 : ((s[at'].toNat : Int) == 40) = false := by rw [hc]; rfl
  have b41 : ((s[at'].toNat : Int) == 41) = false := by rw [hc]; rfl
  have b93 : ((s[at'].toNat : Int) == 93) = false := by rw [hc]; rfl
  have b124 : ((s[at'].toNat : Int) == 124) = false := by rw [hc]; rfl
  have b44 : ((s[at'].toNat : Int) == 44) = false := by rw [hc]; rfl
  have b46 : ((s[at'].toNat : Int) == 46) = false := by rw [hc]; rfl
  have hone : oneL ((bs s).drop at') = nameL 1 (bs (s.extract at' (at' + 1))) ((bs s).drop (at' + 1)) (at' + 1 - at') := by
    rw [ext_one s at' hat, drop_at s at' hat, hc, show at' + 1 - at' = 1 by omega]
    unfold oneL
    simp only
    rw [if_neg (by decide), if_neg (by decide), if_neg (by decide), if_neg (fun h => absurd h.1 (by decide)), if_pos (by decide)]
  have HONE := Lib.hid hone
  have hz : 1 ≤ (s.extract at' (at' + 1)).size ∧ (s.extract at' (at' + 1)).size ≤ 20 := by rw [size_one s at' hat]; decide
  have HZ := Lib.hid hz
  have HN := Lib.hid (name_call s 1 (s.extract at' (at' + 1)) at' (at' + 1) hs hz)
  clear hone hsort hc hz
  go_enter Tryz.func35, Tryz.ntmps35
  go_wp2_with (first
    | (go_at_call 34; refine (HS.out _).mono ?_; rintro e w' ⟨rfl, rfl⟩)
    | (go_at_call 61; refine (HN.out _).mono ?_; rintro e w' ⟨hb, rfl⟩; have hst2 := (zst0 w).next hb; obtain ⟨⟨c0, c1, c2, c3, c4⟩, f0, f1, f2, f3, f4⟩ := hst2.cells))
  refine bodyPost_ret (v := .tuple #[tokV 1 (s.extract at' (at' + 1)) 0 at' (opens ((bs s).drop (at' + 1))), .int .i64 (at' + 1 : Nat)]) (by simp [results, tokV, Tryz.results35, go_sem, c0, c1, c2, c3, c4]) rfl ?_
  exact one_ok HONE.out (by omega) HZ.out (set5_below (ZSt.below (by assumption)) _ _ _ _ _) rfl
set_option maxRecDepth 100000 in
set_option maxHeartbeats 2000000 in
theorem done_nil (s : ByteArray) (at' : Nat) (w : World) (hat : at' < s.size) (hs : s.size ≤ 1000000) (hc : s[at'] = 91) (hb : ((bs s).drop (at' + 1)).head? = some 93) :
    Calls Tryz.prog 35 #[.string s, .int .i64 (at' : Nat)] w fun e w' => OnePost w (bs s) at' e w' := by
  have hlt : at' + 1 < s.size := by
    by_cases h : at' + 1 < s.size
    · exact h
    · rw [List.drop_eq_nil_of_le (by rw [bs_length]; omega)] at hb
      cases hb
  have hd : s[at' + 1] = 93 := by
    rw [drop_at s (at' + 1) hlt] at hb
    exact Option.some.inj hb
  have hb2 : ((s[at' + 1].toNat : Int) == 93) = true := by rw [hd]; rfl
  have hsort := fun u => dsort_any s[at'] u
  rw [show srt s[at'] = 0 by rw [hc]; rfl] at hsort
  have HS := Lib.hid hsort
  have b39 : ((s[at'].toNat : Int) == 39) = false := by rw [hc]; rfl
  have b91 : ((s[at'].toNat : Int) == 91) = true := by rw [hc]; rfl
  have b33 : ((s[at'].toNat : Int) == 33) = false := by rw [hc]; rfl
  have b59 : ((s[at'].toNat : Int) == 59) = false := by rw [hc]; rfl
  have b40 : ((s[at'].toNat : Int) == 40) = false := by rw [hc]; rfl
  have b41 : ((s[at'].toNat : Int) == 41) = false := by rw [hc]; rfl
  have b93 : ((s[at'].toNat : Int) == 93) = false := by rw [hc]; rfl
  have b124 : ((s[at'].toNat : Int) == 124) = false := by rw [hc]; rfl
  have b44 : ((s[at'].toNat : Int) == 44) = false := by rw [hc]; rfl
  have b46 : ((s[at'].toNat : Int) == 46) = false := by rw [hc]; rfl
  have hone : oneL ((bs s).drop at') = nameL 1 (bs ⟨#[91, 93]⟩) ((bs s).drop (at' + 2)) (at' + 2 - at') := by
    rw [drop_at s at' hat, hc, show at' + 2 - at' = 2 by omega]
    unfold oneL
    simp only
    rw [if_neg (by decide), if_neg (by decide), if_neg (by decide), if_pos (show True ∧ ((bs s).drop (at' + 1)).head? = some 93 from ⟨trivial, hb⟩), List.drop_drop]
    rfl
  have HONE := Lib.hid hone
  have hz : 1 ≤ (⟨#[91, 93]⟩ : ByteArray).size ∧ (⟨#[91, 93]⟩ : ByteArray).size ≤ 20 := by decide
  have HZ := Lib.hid hz
  have HN := Lib.hid (name_call s 1 ⟨#[91, 93]⟩ at' (at' + 2) hs hz)
  clear hone hsort hc hz hb hd
  go_enter Tryz.func35, Tryz.ntmps35
  go_wp2_with (first
    | (go_at_call 34; refine (HS.out _).mono ?_; rintro e w' ⟨rfl, rfl⟩)
    | (go_at_call 61; refine (HN.out _).mono ?_; rintro e w' ⟨hb, rfl⟩; have hst2 := (zst0 w).next hb; obtain ⟨⟨c0, c1, c2, c3, c4⟩, f0, f1, f2, f3, f4⟩ := hst2.cells))
  refine bodyPost_ret (v := .tuple #[tokV 1 ⟨#[91, 93]⟩ 0 at' (opens ((bs s).drop (at' + 2))), .int .i64 (at' + 2 : Nat)]) (by simp [results, tokV, Tryz.results35, go_sem, c0, c1, c2, c3, c4]) rfl ?_
  exact one_ok HONE.out (by omega) HZ.out (set5_below (ZSt.below (by assumption)) _ _ _ _ _) rfl
set_option maxRecDepth 100000 in
set_option maxHeartbeats 2000000 in
theorem done_quo (s : ByteArray) (at' : Nat) (w : World) (hat : at' < s.size) (hs : s.size ≤ 1000000) (hc : s[at'] = 39) :
    Calls Tryz.prog 35 #[.string s, .int .i64 (at' : Nat)] w fun e w' => OnePost w (bs s) at' e w' := by
  have hsort := fun u => dsort_any s[at'] u
  rw [show srt s[at'] = 0 by rw [hc]; rfl] at hsort
  have HS := Lib.hid hsort
  have b39 : ((s[at'].toNat : Int) == 39) = true := by rw [hc]; rfl
  have b91 : ((s[at'].toNat : Int) == 91) = false := by rw [hc]; rfl
  have b33 : ((s[at'].toNat : Int) == 33) = false := by rw [hc]; rfl
  have b59 : ((s[at'].toNat : Int) == 59) = false := by rw [hc]; rfl
  have b40 : ((s[at'].toNat : Int) == 40) = false := by rw [hc]; rfl
  have b41 : ((s[at'].toNat : Int) == 41) = false := by rw [hc]; rfl
  have b93 : ((s[at'].toNat : Int) == 93) = false := by rw [hc]; rfl
  have b124 : ((s[at'].toNat : Int) == 124) = false := by rw [hc]; rfl
  have b44 : ((s[at'].toNat : Int) == 44) = false := by rw [hc]; rfl
  have b46 : ((s[at'].toNat : Int) == 46) = false := by rw [hc]; rfl
  have hone0 : oneL ((bs s).drop at') = (quoL ((bs s).drop (at' + 1))).bind fun x => nameL 1 x.1 (((bs s).drop (at' + 1)).drop x.2) (x.2 + 1) := by
    rw [drop_at s at' hat, hc]
    unfold oneL
    simp only
    rw [if_neg (by decide), if_neg (by decide), if_pos (by decide)]
  have hq := fun u => dquoted_any s (at' + 1) u (by omega) hs
  clear hsort hc
  cases hn : quoL ((bs s).drop (at' + 1)) with
  | none =>
    rw [hn] at hone0
    have HONE := Lib.hid hone0
    have HQ := Lib.hid (fun u => (hq u).mono fun e w' (h : QuoPost u (bs s) (at' + 1) e w') => (show ∃ (o : ByteArray) (to : Nat), e = .returned (.tuple #[.string o, .int .i64 (to : Nat), .bool false]) ∧ u = w' from by
      obtain ⟨o, to, b, rfl, rfl, h | h⟩ := h
      · rw [hn] at h; cases h.1
      · exact ⟨o, to, by rw [h.2], rfl⟩))
    clear hone0 hq hn
    go_enter Tryz.func35, Tryz.ntmps35
    go_wp2_with (first
      | (go_at_call 34; refine (HS.out _).mono ?_; rintro e w' ⟨rfl, rfl⟩)
      | (go_at_call 65; refine (HQ.out _).mono ?_; rintro e w' ⟨o, to, rfl, rfl⟩)
      | (go_at_call 61; refine (HS.out _).mono ?_; rintro e w' ⟨hb, rfl⟩; have hst2 := (zst0 w).next hb; obtain ⟨⟨c0, c1, c2, c3, c4⟩, f0, f1, f2, f3, f4⟩ := hst2.cells))
    refine bodyPost_ret (v := noTok) (by simp [results, noTok, Tryz.results35, go_sem]) rfl ?_
    exact ⟨(Below.refl _ _).alloc (Nat.le_refl _) _, .inl ⟨HONE.out, rfl⟩⟩
  | some y =>
    obtain ⟨tx, k⟩ := y
    rw [hn] at hone0
    have hq2 := fun u => (hq u).mono fun e w' (h : QuoPost u (bs s) (at' + 1) e w') => (show ∃ (o : ByteArray), e = .returned (.tuple #[.string o, .int .i64 (at' + 1 + k : Nat), .bool true]) ∧ bs o = tx ∧ u = w' from by
      obtain ⟨o, to, b, rfl, rfl, h | h⟩ := h
      · rw [hn] at h
        obtain ⟨h1, h2, rfl⟩ := h
        injection h1 with h1
        injection h1 with h1 h3
        have : to = at' + 1 + k := by omega
        subst this
        exact ⟨o, rfl, h1.symm, rfl⟩
      · rw [hn] at h; cases h.1)
    obtain ⟨to, hto⟩ : ∃ to, at' + 1 + k = to := ⟨_, rfl⟩
    rw [hto] at hq2
    have hone : oneL ((bs s).drop at') = nameL 1 tx ((bs s).drop to) (to - at') := by
      rw [hone0, show to - at' = k + 1 by omega, ← hto]
      simp only [Option.bind_some, List.drop_drop]
    have HQ := Lib.hid hq2
    clear hone0 hq hn hq2
    have HTO := Lib.hid hto
    clear hto
    have HONE0 := Lib.hid hone
    clear hone
    by_cases hx : 1 ≤ tx.length ∧ tx.length ≤ 20
    · have HX := Lib.hid hx
      clear hx
      go_enter Tryz.func35, Tryz.ntmps35
      go_wp2_with (first
        | (go_at_call 34; refine (HS.out _).mono ?_; rintro e w' ⟨rfl, rfl⟩)
        | (go_at_call 65; refine (HQ.out _).mono ?_; rintro e w' ⟨o, rfl, ho, rfl⟩; have HO := Lib.hid ho; clear ho)
        | (go_at_call 61; refine (name_call s 1 o at' to hs (by rw [← bs_length, HO.out]; exact HX.out) _).mono ?_; rintro e w' ⟨hb, rfl⟩; have hst2 := (zst0 w).next hb; obtain ⟨⟨c0, c1, c2, c3, c4⟩, f0, f1, f2, f3, f4⟩ := hst2.cells))
      refine bodyPost_ret (v := .tuple #[tokV 1 o 0 at' (opens ((bs s).drop (to))), .int .i64 (to : Nat)]) (by simp [results, tokV, Tryz.results35, go_sem, c0, c1, c2, c3, c4]) rfl ?_
      exact one_ok (by rw [HO.out]; exact HONE0.out) (by have := HTO.out; omega) (by rw [← bs_length, HO.out]; exact HX.out) (set5_below (ZSt.below (by assumption)) _ _ _ _ _) rfl
    · have HX := Lib.hid hx
      clear hx
      go_enter Tryz.func35, Tryz.ntmps35
      go_wp2_with (first
        | (go_at_call 34; refine (HS.out _).mono ?_; rintro e w' ⟨rfl, rfl⟩)
        | (go_at_call 65; refine (HQ.out _).mono ?_; rintro e w' ⟨o, rfl, ho, rfl⟩; have HO := Lib.hid ho; clear ho)
        | (go_at_call 61; refine (name_call_no s 1 o at' to hs (by rw [← bs_length, HO.out]; exact HX.out) _).mono ?_; rintro e w' ⟨hb, rfl⟩; have hst2 := (zst0 w).next hb; obtain ⟨⟨c0, c1, c2, c3, c4⟩, f0, f1, f2, f3, f4⟩ := hst2.cells))
      refine bodyPost_ret (v := noTok) (by simp [results, noTok, Tryz.results35, go_sem, c0, c1, c2, c3, c4]) rfl ?_
      exact one_no (by rw [HO.out]; exact HONE0.out) (by rw [← bs_length, HO.out]; exact HX.out) (set5_below (ZSt.below (by assumption)) _ _ _ _ _) rfl
end Go.Proofs.YtilfglcjcmpfeaaGreatDoor

namespace Go.Proofs.YtilfglcjcmpfeaaGreatDoor
open Go.RowKit

theorem one_sign (s : ByteArray) (at' to : Nat) (h : at' < s.size) (hto : at' + (((bs s).drop at').takeWhile isSign).length = to) (h123 : ¬ (srt s[at'] = 1 ∨ srt s[at'] = 2) ∧ ¬ srt s[at'] = 3) (h39 : s[at'] ≠ 39) (h91 : s[at'] ≠ 91) (hso : ¬ (s[at'] = 33 ∨ s[at'] = 59)) (hpu : ¬ (s[at'] = 40 ∨ s[at'] = 41 ∨ s[at'] = 91 ∨ s[at'] = 93 ∨ s[at'] = 124 ∨ s[at'] = 44)) :
    (s[at'] = 46 ∧ to = at' + 1 ∧ ends ((bs s).drop to) = true → oneL ((bs s).drop at') = some (⟨5, [46], 0, false⟩, 1)) ∧
    (¬ (s[at'] = 46 ∧ to = at' + 1 ∧ ends ((bs s).drop to) = true) → oneL ((bs s).drop at') = nameL 1 (bs (s.extract at' to)) ((bs s).drop to) (to - at')) := by
  obtain ⟨e1, e2⟩ := cut_tw s at' to hto
  have e3 : to - at' = (((bs s).drop at').takeWhile isSign).length := by omega
  have e4 : to = at' + 1 ↔ (((bs s).drop at').takeWhile isSign).length = 1 := by omega
  rw [e1, e2, e3, e4]
  clear e1 e2 e3 e4 hto
  rw [drop_at s at' h]
  constructor
  · intro hc
    unfold oneL
    simp only
    rw [if_neg h123.1, if_neg h123.2, if_neg h39, if_neg (fun h => h91 h.1), if_neg hso, if_neg hpu, if_pos hc]
  · intro hc
    unfold oneL
    simp only
    rw [if_neg h123.1, if_neg h123.2, if_neg h39, if_neg (fun h => h91 h.1), if_neg hso, if_neg hpu, if_neg hc]
theorem ends_at (s : ByteArray) (to : Nat) (h : to < s.size) : ends ((bs s).drop to) = (srt s[to] == 5 || s[to] == 37) := by
  rw [drop_at s to h]
  rfl
theorem ends_no (s : ByteArray) (to : Nat) (h : ¬ to < s.size) : ends ((bs s).drop to) = true := by
  rw [List.drop_eq_nil_of_le (by rw [bs_length]; omega)]
  rfl
theorem eq_byte {c : UInt8} {n : Nat} (hn : n < 256) (h : c ≠ UInt8.ofNat n) : ((c.toNat : Int) == (n : Int)) = false := by
  rw [beq_eq_false_iff_ne]
  intro e
  refine h (UInt8.toNat_inj.1 ?_)
  rw [UInt8.toNat_ofNat_of_lt' hn]
  omega
set_option maxRecDepth 100000 in
set_option maxHeartbeats 2000000 in
theorem done_sign (s : ByteArray) (at' : Nat) (w : World) (hat : at' < s.size) (hs : s.size ≤ 1000000) (h123 : ¬ (srt s[at'] = 1 ∨ srt s[at'] = 2) ∧ ¬ srt s[at'] = 3) (h39 : s[at'] ≠ 39) (h91 : s[at'] ≠ 91) (hso : ¬ (s[at'] = 33 ∨ s[at'] = 59)) (hpu : ¬ (s[at'] = 40 ∨ s[at'] = 41 ∨ s[at'] = 91 ∨ s[at'] = 93 ∨ s[at'] = 124 ∨ s[at'] = 44)) :
    Calls Tryz.prog 35 #[.string s, .int .i64 (at' : Nat)] w fun e w' => OnePost w (bs s) at' e w' := by
  obtain ⟨to, hto⟩ : ∃ to, at' + (((bs s).drop at').takeWhile isSign).length = to := ⟨_, rfl⟩
  obtain ⟨hone1, hone2⟩ := one_sign s at' to hat hto h123 h39 h91 hso hpu
  have hsort := fun u => dsort_any s[at'] u
  obtain ⟨r, hr⟩ : ∃ r, srt s[at'] = r := ⟨_, rfl⟩
  have hsign := fun u => dsigns_any s at' u (by omega) hs
  rw [hto] at hsign
  have hlen := tw_len (p := isSign) ((bs s).drop at')
  rw [List.length_drop, bs_length] at hlen
  rw [hr] at hsort h123
  have k1 : ((r : Int) == 1) = false := by rw [beq_eq_false_iff_ne]; omega
  have k2 : ((r : Int) == 2) = false := by rw [beq_eq_false_iff_ne]; omega
  have k3 : ((r : Int) == 3) = false := by rw [beq_eq_false_iff_ne]; omega
  have b39 : ((s[at'].toNat : Int) == 39) = false := eq_byte (n := 39) (by decide) h39
  have b91 : ((s[at'].toNat : Int) == 91) = false := eq_byte (n := 91) (by decide) h91
  have b33 : ((s[at'].toNat : Int) == 33) = false := eq_byte (n := 33) (by decide) (fun h => hso (.inl h))
  have b59 : ((s[at'].toNat : Int) == 59) = false := eq_byte (n := 59) (by decide) (fun h => hso (.inr h))
  have b40 : ((s[at'].toNat : Int) == 40) = false := eq_byte (n := 40) (by decide) (fun h => hpu (.inl h))
  have b41 : ((s[at'].toNat : Int) == 41) = false := eq_byte (n := 41) (by decide) (fun h => hpu (.inr (.inl h)))
  have b93 : ((s[at'].toNat : Int) == 93) = false := eq_byte (n := 93) (by decide) (fun h => hpu (.inr (.inr (.inr (.inl h)))))
  have b124 : ((s[at'].toNat : Int) == 124) = false := eq_byte (n := 124) (by decide) (fun h => hpu (.inr (.inr (.inr (.inr (.inl h))))))
  have b44 : ((s[at'].toNat : Int) == 44) = false := eq_byte (n := 44) (by decide) (fun h => hpu (.inr (.inr (.inr (.inr (.inr h))))))
  have h1 : at' ≤ to := by omega
  have h2 : to ≤ s.size := by omega
  have hsl := fun u => run_cut Tryz.underlying9 s at' to h1 h2 u
  have HS := Lib.hid hsort
  have HG := Lib.hid hsign
  have HONE1 := Lib.hid hone1
  have HONE2 := Lib.hid hone2
  clear hsort hsign hto hlen hone1 hone2 hr h123 h39 h91 hso hpu
  by_cases ht : to = at' + 1
  · have b1 : ((to : Int) == (at' : Int) + 1) = true := by rw [beq_iff_eq]; omega
    have HT := Lib.hid ht
    clear ht
    by_cases h46 : s[at'] = 46
    · have b46 : ((s[at'].toNat : Int) == 46) = true := by rw [h46]; rfl
      by_cases hlt : to < s.size
      · have b2 : ((to : Int) == (s.size : Int)) = false := by rw [beq_eq_false_iff_ne]; omega
        obtain ⟨q, hq⟩ : ∃ q, srt s[to] = q := ⟨_, rfl⟩
        have hsort2 := fun u => dsort_any s[to] u
        rw [hq] at hsort2
        have HS2 := Lib.hid hsort2
        clear hsort2
        by_cases h5 : q = 5
        · subst h5
          have HONE := Lib.hid (HONE1.out ⟨h46, HT.out, by rw [ends_at s to hlt, hq]; rfl⟩)
          clear h46 hq HONE1 HONE2
          go_enter Tryz.func35, Tryz.ntmps35
          go_wp2_with (first
            | (go_at_call 34; (with_reducible refine (HS.out _).mono ?_); rintro e w' ⟨rfl, rfl⟩)
            | (go_at_call 66; refine (HG.out _).mono ?_; rintro e w' ⟨rfl, rfl⟩)
            | (go_at_call 34; (with_reducible refine (HS2.out _).mono ?_); rintro e w' ⟨rfl, rfl⟩)
            | (go_at_call 61; refine (HS.out _).mono ?_; rintro e w' ⟨hb, rfl⟩; have hst2 := (zst0 w).next hb; obtain ⟨⟨c0, c1, c2, c3, c4⟩, f0, f1, f2, f3, f4⟩ := hst2.cells))
          refine bodyPost_ret (v := .tuple #[tokV 5 ⟨#[46]⟩ 0 at' false, .int .i64 (to : Nat)]) (by simp [results, tokV, Tryz.results35, go_sem]) rfl ?_
          exact ⟨(Below.refl _ _).alloc (Nat.le_refl _) _, .inr ⟨⟨5, [46], 0, false⟩, ⟨#[46]⟩, 1, HONE.out, rfl, by rw [HT.out]⟩⟩
        · have b5 : ((q : Int) == 5) = false := by rw [beq_eq_false_iff_ne]; omega
          by_cases h37 : s[to] = 37
          · have b37 : ((s[to].toNat : Int) == 37) = true := by rw [h37]; rfl
            have HONE := Lib.hid (HONE1.out ⟨h46, HT.out, by rw [ends_at s to hlt, h37, beq_self_eq_true, Bool.or_true]⟩)
            clear h46 hq HONE1 HONE2 h5 h37
            go_enter Tryz.func35, Tryz.ntmps35
            go_wp2_with (first
              | (go_at_call 34; (with_reducible refine (HS.out _).mono ?_); rintro e w' ⟨rfl, rfl⟩)
              | (go_at_call 66; refine (HG.out _).mono ?_; rintro e w' ⟨rfl, rfl⟩)
              | (go_at_call 34; (with_reducible refine (HS2.out _).mono ?_); rintro e w' ⟨rfl, rfl⟩)
              | (go_at_call 61; refine (HS.out _).mono ?_; rintro e w' ⟨hb, rfl⟩; have hst2 := (zst0 w).next hb; obtain ⟨⟨c0, c1, c2, c3, c4⟩, f0, f1, f2, f3, f4⟩ := hst2.cells))
            refine bodyPost_ret (v := .tuple #[tokV 5 ⟨#[46]⟩ 0 at' false, .int .i64 (to : Nat)]) (by simp [results, tokV, Tryz.results35, go_sem]) rfl ?_
            exact ⟨(Below.refl _ _).alloc (Nat.le_refl _) _, .inr ⟨⟨5, [46], 0, false⟩, ⟨#[46]⟩, 1, HONE.out, rfl, by rw [HT.out]⟩⟩
          · have b37 : ((s[to].toNat : Int) == 37) = false := eq_byte (n := 37) (by decide) h37
            have HONE := Lib.hid (HONE2.out (fun h => by
              have h6 := h.2.2
              rw [ends_at s to hlt, hq, Bool.or_eq_true, beq_iff_eq, beq_iff_eq] at h6
              rcases h6 with h6 | h6
              · exact h5 h6
              · exact h37 h6))
            clear h46 hq HONE1 HONE2 h5 h37
            by_cases hx : 1 ≤ (s.extract at' to).size ∧ (s.extract at' to).size ≤ 20
            · have HN := Lib.hid (name_call s 1 (s.extract at' to) at' to hs hx)
              have HX := Lib.hid hx
              clear hx
              go_enter Tryz.func35, Tryz.ntmps35
              go_wp2_with (first
                | (go_at_call 34; (with_reducible refine (HS.out _).mono ?_); rintro e w' ⟨rfl, rfl⟩)
                | (go_at_call 66; refine (HG.out _).mono ?_; rintro e w' ⟨rfl, rfl⟩)
                | (go_at_call 34; (with_reducible refine (HS2.out _).mono ?_); rintro e w' ⟨rfl, rfl⟩)
                | (go_at_call 61; refine (HN.out _).mono ?_; rintro e w' ⟨hb, rfl⟩; have hst2 := (zst0 w).next hb; obtain ⟨⟨c0, c1, c2, c3, c4⟩, f0, f1, f2, f3, f4⟩ := hst2.cells))
              refine bodyPost_ret (v := .tuple #[tokV 1 (s.extract at' to) 0 at' (opens ((bs s).drop (to))), .int .i64 (to : Nat)]) (by simp [results, tokV, Tryz.results35, go_sem, c0, c1, c2, c3, c4]) rfl ?_
              exact one_ok HONE.out h1 HX.out (set5_below (ZSt.below (by assumption)) _ _ _ _ _) rfl
            · have HN := Lib.hid (name_call_no s 1 (s.extract at' to) at' to hs hx)
              have HX := Lib.hid hx
              clear hx
              go_enter Tryz.func35, Tryz.ntmps35
              go_wp2_with (first
                | (go_at_call 34; (with_reducible refine (HS.out _).mono ?_); rintro e w' ⟨rfl, rfl⟩)
                | (go_at_call 66; refine (HG.out _).mono ?_; rintro e w' ⟨rfl, rfl⟩)
                | (go_at_call 34; (with_reducible refine (HS2.out _).mono ?_); rintro e w' ⟨rfl, rfl⟩)
                | (go_at_call 61; refine (HN.out _).mono ?_; rintro e w' ⟨hb, rfl⟩; have hst2 := (zst0 w).next hb; obtain ⟨⟨c0, c1, c2, c3, c4⟩, f0, f1, f2, f3, f4⟩ := hst2.cells))
              refine bodyPost_ret (v := noTok) (by simp [results, noTok, Tryz.results35, go_sem, c0, c1, c2, c3, c4]) rfl ?_
              exact one_no HONE.out HX.out (set5_below (ZSt.below (by assumption)) _ _ _ _ _) rfl
      · have b2 : ((to : Int) == (s.size : Int)) = true := by rw [beq_iff_eq]; omega
        have HONE := Lib.hid (HONE1.out ⟨h46, HT.out, ends_no s to hlt⟩)
        clear h46 HONE1 HONE2 hlt
        go_enter Tryz.func35, Tryz.ntmps35
        go_wp2_with (first
          | (go_at_call 34; (with_reducible refine (HS.out _).mono ?_); rintro e w' ⟨rfl, rfl⟩)
          | (go_at_call 66; refine (HG.out _).mono ?_; rintro e w' ⟨rfl, rfl⟩)
          | (go_at_call 61; refine (HS.out _).mono ?_; rintro e w' ⟨hb, rfl⟩; have hst2 := (zst0 w).next hb; obtain ⟨⟨c0, c1, c2, c3, c4⟩, f0, f1, f2, f3, f4⟩ := hst2.cells))
        refine bodyPost_ret (v := .tuple #[tokV 5 ⟨#[46]⟩ 0 at' false, .int .i64 (to : Nat)]) (by simp [results, tokV, Tryz.results35, go_sem]) rfl ?_
        exact ⟨(Below.refl _ _).alloc (Nat.le_refl _) _, .inr ⟨⟨5, [46], 0, false⟩, ⟨#[46]⟩, 1, HONE.out, rfl, by rw [HT.out]⟩⟩
    · have b46 : ((s[at'].toNat : Int) == 46) = false := eq_byte (n := 46) (by decide) h46
      have HONE := Lib.hid (HONE2.out (fun h => h46 h.1))
      clear h46 HONE1 HONE2
      by_cases hx : 1 ≤ (s.extract at' to).size ∧ (s.extract at' to).size ≤ 20
      · have HN := Lib.hid (name_call s 1 (s.extract at' to) at' to hs hx)
        have HX := Lib.hid hx
        clear hx
        go_enter Tryz.func35, Tryz.ntmps35
        go_wp2_with (first
          | (go_at_call 34; (with_reducible refine (HS.out _).mono ?_); rintro e w' ⟨rfl, rfl⟩)
          | (go_at_call 66; refine (HG.out _).mono ?_; rintro e w' ⟨rfl, rfl⟩)
          | (go_at_call 61; refine (HN.out _).mono ?_; rintro e w' ⟨hb, rfl⟩; have hst2 := (zst0 w).next hb; obtain ⟨⟨c0, c1, c2, c3, c4⟩, f0, f1, f2, f3, f4⟩ := hst2.cells))
        refine bodyPost_ret (v := .tuple #[tokV 1 (s.extract at' to) 0 at' (opens ((bs s).drop (to))), .int .i64 (to : Nat)]) (by simp [results, tokV, Tryz.results35, go_sem, c0, c1, c2, c3, c4]) rfl ?_
        exact one_ok HONE.out h1 HX.out (set5_below (ZSt.below (by assumption)) _ _ _ _ _) rfl
      · have HN := Lib.hid (name_call_no s 1 (s.extract at' to) at' to hs hx)
        have HX := Lib.hid hx
        clear hx
        go_enter Tryz.func35, Tryz.ntmps35
        go_wp2_with (first
          | (go_at_call 34; (with_reducible refine (HS.out _).mono ?_); rintro e w' ⟨rfl, rfl⟩)
          | (go_at_call 66; refine (HG.out _).mono ?_; rintro e w' ⟨rfl, rfl⟩)
          | (go_at_call 61; refine (HN.out _).mono ?_; rintro e w' ⟨hb, rfl⟩; have hst2 := (zst0 w).next hb; obtain ⟨⟨c0, c1, c2, c3, c4⟩, f0, f1, f2, f3, f4⟩ := hst2.cells))
        refine bodyPost_ret (v := noTok) (by simp [results, noTok, Tryz.results35, go_sem, c0, c1, c2, c3, c4]) rfl ?_
        exact one_no HONE.out HX.out (set5_below (ZSt.below (by assumption)) _ _ _ _ _) rfl
  · have b1 : ((to : Int) == (at' : Int) + 1) = false := by rw [beq_eq_false_iff_ne]; omega
    have HONE := Lib.hid (HONE2.out (fun h => ht h.2.1))
    clear ht HONE1 HONE2
    by_cases hx : 1 ≤ (s.extract at' to).size ∧ (s.extract at' to).size ≤ 20
    · have HN := Lib.hid (name_call s 1 (s.extract at' to) at' to hs hx)
      have HX := Lib.hid hx
      clear hx
      go_enter Tryz.func35, Tryz.ntmps35
      go_wp2_with (first
        | (go_at_call 34; (with_reducible refine (HS.out _).mono ?_); rintro e w' ⟨rfl, rfl⟩)
        | (go_at_call 66; refine (HG.out _).mono ?_; rintro e w' ⟨rfl, rfl⟩)
        | (go_at_call 61; refine (HN.out _).mono ?_; rintro e w' ⟨hb, rfl⟩; have hst2 := (zst0 w).next hb; obtain ⟨⟨c0, c1, c2, c3, c4⟩, f0, f1, f2, f3, f4⟩ := hst2.cells))
      refine bodyPost_ret (v := .tuple #[tokV 1 (s.extract at' to) 0 at' (opens ((bs s).drop (to))), .int .i64 (to : Nat)]) (by simp [results, tokV, Tryz.results35, go_sem, c0, c1, c2, c3, c4]) rfl ?_
      exact one_ok HONE.out h1 HX.out (set5_below (ZSt.below (by assumption)) _ _ _ _ _) rfl
    · have HN := Lib.hid (name_call_no s 1 (s.extract at' to) at' to hs hx)
      have HX := Lib.hid hx
      clear hx
      go_enter Tryz.func35, Tryz.ntmps35
      go_wp2_with (first
        | (go_at_call 34; (with_reducible refine (HS.out _).mono ?_); rintro e w' ⟨rfl, rfl⟩)
        | (go_at_call 66; refine (HG.out _).mono ?_; rintro e w' ⟨rfl, rfl⟩)
        | (go_at_call 61; refine (HN.out _).mono ?_; rintro e w' ⟨hb, rfl⟩; have hst2 := (zst0 w).next hb; obtain ⟨⟨c0, c1, c2, c3, c4⟩, f0, f1, f2, f3, f4⟩ := hst2.cells))
      refine bodyPost_ret (v := noTok) (by simp [results, noTok, Tryz.results35, go_sem, c0, c1, c2, c3, c4]) rfl ?_
      exact one_no HONE.out HX.out (set5_below (ZSt.below (by assumption)) _ _ _ _ _) rfl
end Go.Proofs.YtilfglcjcmpfeaaGreatDoor

namespace Go.Proofs.YtilfglcjcmpfeaaGreatDoor
open Go.RowKit

theorem done_any (s : ByteArray) (at' : Nat) (w : World) (hat : at' < s.size) (hs : s.size ≤ 1000000) :
    Calls Tryz.prog 35 #[.string s, .int .i64 (at' : Nat)] w fun e w' => OnePost w (bs s) at' e w' := by
  by_cases h1 : srt s[at'] = 1
  · exact done_word1 s at' w hat hs h1
  by_cases h2 : srt s[at'] = 2
  · exact done_word2 s at' w hat hs h2
  by_cases h3 : srt s[at'] = 3
  · exact done_num s at' w hat hs h3
  by_cases h39 : s[at'] = 39
  · exact done_quo s at' w hat hs h39
  by_cases h91 : s[at'] = 91
  · by_cases hb : ((bs s).drop (at' + 1)).head? = some 93
    · exact done_nil s at' w hat hs h91 hb
    · exact done_91 s at' w hat hs h91 hb
  by_cases h33 : s[at'] = 33
  · exact done_33 s at' w hat hs h33
  by_cases h59 : s[at'] = 59
  · exact done_59 s at' w hat hs h59
  by_cases h40 : s[at'] = 40
  · exact done_40 s at' w hat hs h40
  by_cases h41 : s[at'] = 41
  · exact done_41 s at' w hat hs h41
  by_cases h93 : s[at'] = 93
  · exact done_93 s at' w hat hs h93
  by_cases h124 : s[at'] = 124
  · exact done_124 s at' w hat hs h124
  by_cases h44 : s[at'] = 44
  · exact done_44 s at' w hat hs h44
  refine done_sign s at' w hat hs ⟨?_, h3⟩ h39 h91 ?_ ?_
  · rintro (h | h)
    · exact h1 h
    · exact h2 h
  · rintro (h | h)
    · exact h33 h
    · exact h59 h
  · rintro (h | h | h | h | h | h)
    · exact h40 h
    · exact h41 h
    · exact h91 h
    · exact h93 h
    · exact h124 h
    · exact h44 h
end Go.Proofs.YtilfglcjcmpfeaaGreatDoor

namespace Go.Proofs.YtilfglcjcmpfeaaGreatDoor
open Go.RowKit

/-- A token's cells. -/
def tokC (x : Tk × Nat) : List Value := [.int .i64 (x.1.kind : Nat), .string ⟨x.1.text.toArray⟩, .int .i64 (x.1.n : Nat), .int .i64 (x.2 : Nat), .bool x.1.opn]
theorem Tryz.infoTk : (Tryz.prog.info? 75).map (fun i => (i.zero, i.size, i.bytes)) = some (some (.agg #[.int .i64 0, .string ⟨#[]⟩, .int .i64 0, .int .i64 0, .bool false]), 5, 48) := by kernel_rfl
theorem lnews {w : World} {L : List Value} {t : TypeId} (H : Nat) (hH : w.heap.size = H) : ∀ (j : Nat) (u : Value), L[j]? = some u → (w.alloc (.cells L.toArray t)).cell? ((⟨H, 0, none⟩ : Addr).add j) = some u := by
  subst hH
  intro j u hu
  rw [Addr.add_lit]
  simp only [Nat.zero_add, World.cell?]
  rw [lnewBlk w (.cells L.toArray t)]
  simpa using hu
theorem bs_mk {x : ByteArray} {l : List UInt8} (h : bs x = l) : x = ⟨l.toArray⟩ := by
  subst h
  cases x
  simp [bs]
def TokensPost (w : World) (s : ByteArray) (e : Ending) (w' : World) : Prop :=
  Below w.heap.size w w' ∧ ((8000 < s.size ∧ e = .returned (.tuple #[.slice none 0 0, .int .i64 0, .int .i64 3])) ∨
    (s.size ≤ 8000 ∧ ∃ b : Nat, lexL false 0 (bs s) = .inl b ∧ e = .returned (.tuple #[.slice none 0 0, .int .i64 (b : Nat), .int .i64 2])) ∨
    (s.size ≤ 8000 ∧ ∃ (l : List (Tk × Nat)) (sv : Value), lexL false 0 (bs s) = .inr l ∧ l.length ≤ s.size ∧ e = .returned (.tuple #[sv, .int .i64 0, .int .i64 0]) ∧ w'.ownsRow w.heap.size 75 5 sv l.length (l.flatMap tokC)))
set_option maxRecDepth 100000 in
set_option maxHeartbeats 2000000 in
theorem dtokens_any (s : ByteArray) (w : World) (hs : s.size ≤ 1000000) :
    Calls Tryz.prog 19 #[.string s] w fun e w' => TokensPost w s e w' := by
  by_cases hz : 8000 < s.size
  · go_enter Tryz.func19, Tryz.ntmps19
    go_wp2_with fail
    go_ret3
    exact ⟨Below.refl _ _, .inl ⟨hz, rfl⟩⟩
  have hz1 : s.size ≤ 8000 := by omega
  have HZ1 := Lib.hid hz1
  clear hz
  obtain ⟨i0, hi, hi0, hi1, hi2⟩ := info_parts Tryz.infoTk
  go_enter Tryz.func19, Tryz.ntmps19
  go_wp2_with fail
  go_loopw [5, 6, 7] (fun v i c wr => ∃ (q : Nat) (l : List (Tk × Nat)) (cm : Bool), q ≤ s.size ∧ l.length ≤ q ∧ i = .int .i64 q ∧ c = .bool cm ∧ Hid (lexL false 0 (bs s) = preL l (lexL cm q ((bs s).drop q))) ∧ Hid (wr.ownsRow w.heap.size 75 5 v l.length (l.flatMap tokC)) ∧ Below w.heap.size w wr) (fun _ i _ _ => s.size - (intOf i).toNat)
  case atStart => exact ⟨0, [], false, Nat.zero_le _, Nat.le_refl _, rfl, rfl, Lib.hid (by rw [preL_nil]; rfl), Lib.hid (World.ownsRow_nil _ _ _ _), Below.refl _ _⟩
  case round =>
    obtain ⟨q, l, cm, hq, hl, rfl, rfl, hlex, hown, hb⟩ := hrel
    have HB := Lib.hid hb
    have HLEX := Lib.hid hlex.out
    have HOWN := Lib.hid hown.out
    clear hb hlex hown
    by_cases hlt : q < s.size
    · have hdrop := drop_at s q hlt
      by_cases hcm : cm = true ∨ s[q] = 37
      · have hstep : ∀ cm', decide (s[q] ≠ 10) = cm' → lexL false 0 (bs s) = preL l (lexL cm' (q + 1) ((bs s).drop (q + 1))) := fun cm' h => by
          rw [HLEX.out, hdrop, lexL_skip hcm, h]
        have HSTEP := Lib.hid hstep
        have hcm2 : cm = true ∨ (cm = false ∧ ((s[q].toNat : Int) == 37) = true) := by
          rcases hcm with h | h
          · exact .inl h
          · cases cm with
            | true => exact .inl rfl
            | false => exact .inr ⟨rfl, by rw [h]; rfl⟩
        have h10 : (s[q] = 10 ∧ ((s[q].toNat : Int) == 10) = true) ∨ (s[q] ≠ 10 ∧ ((s[q].toNat : Int) == 10) = false) := by
          by_cases h : s[q] = 10
          · exact .inl ⟨h, by rw [h]; rfl⟩
          · exact .inr ⟨h, eq_byte (n := 10) (by decide) h⟩
        clear hdrop hcm hstep
        rcases hcm2 with rfl | ⟨rfl, b37⟩
        all_goals
          rcases h10 with ⟨h, b10⟩ | ⟨h, b10⟩
        all_goals
          have H10 := Lib.hid h
          clear h
          go_wp2_with fail
          go_roundw
          case rel =>
            refine ⟨q + 1, l, decide (s[q] ≠ 10), by omega, by omega, by go_num, ?_, Lib.hid (HSTEP.out _ rfl), HOWN, HB.out⟩
            refine congrArg Value.bool ?_
            first | exact (decide_eq_true H10.out).symm | exact (decide_eq_false (fun h : s[q] ≠ 10 => h H10.out)).symm | (rw [bne, b10]; exact (decide_eq_true H10.out).symm) | (rw [bne, b10]; exact (decide_eq_false (fun h : s[q] ≠ 10 => h H10.out)).symm)
          case measure => simp [intOf]; omega
      obtain ⟨rfl, h37⟩ : cm = false ∧ s[q] ≠ 37 := by
        cases cm with
        | true => exact absurd (.inl rfl) hcm
        | false => exact ⟨rfl, fun h => hcm (.inr h)⟩
      have b37 : ((s[q].toNat : Int) == 37) = false := eq_byte (n := 37) (by decide) h37
      obtain ⟨r, hr⟩ : ∃ r, srt s[q] = r := ⟨_, rfl⟩
      have hsort := fun u => dsort_any s[q] u
      rw [hr] at hsort
      have HS := Lib.hid hsort
      clear hsort
      by_cases h5 : r = 5
      · subst h5
        have hstep : lexL false 0 (bs s) = preL l (lexL false (q + 1) ((bs s).drop (q + 1))) := by
          rw [HLEX.out, hdrop, lexL_gap hcm hr]
        have HSTEP := Lib.hid hstep
        clear hstep hdrop hcm h37 hr
        go_wp2_with (go_at_call 34; (with_reducible refine (HS.out _).mono ?_); rintro e w' ⟨rfl, rfl⟩)
        go_roundw
        case rel => exact ⟨q + 1, l, _, by omega, by omega, by go_num, rfl, HSTEP, HOWN, HB.out⟩
        case measure => simp [intOf]; omega
      have b5 : ((r : Int) == 5) = false := by rw [beq_eq_false_iff_ne]; omega
      have hone := fun u => done_any s q u hlt hs
      cases ho : oneL ((bs s).drop q) with
      | none =>
        have hend : lexL false 0 (bs s) = .inl q := by
          rw [hdrop] at ho
          rw [HLEX.out, hdrop, lexL_bad hcm (by rw [hr]; exact h5) ho]
          rfl
        have HEND := Lib.hid hend
        have HO := Lib.hid (fun u => (hone u).mono fun e w' (h : OnePost u (bs s) q e w') => (show Below u.heap.size u w' ∧ e = .returned (.tuple #[.agg #[.int .i64 0, .string ⟨#[]⟩, .int .i64 0, .int .i64 0, .bool false], .int .i64 (-1)]) from ⟨h.1, by
          rcases h.2 with h | ⟨_, _, _, h, _⟩
          · exact h.2
          · rw [ho] at h; cases h⟩))
        clear hend hdrop hcm h37 hr hone ho h5
        go_wp2_with (first
          | (go_at_call 34; (with_reducible refine (HS.out _).mono ?_); rintro e w' ⟨rfl, rfl⟩)
          | (go_at_call 35; refine (HO.out _).mono ?_; rintro e w2 ⟨hb2, rfl⟩; have HB2 := Lib.hid hb2; clear hb2))
        go_ret3
        exact ⟨(HB.out.trans (HB2.out.mono HB.out.size)).alloc (by have := HB.out.size; have := HB2.out.size; omega) _, .inr (.inl ⟨HZ1.out, q, HEND.out, rfl⟩)⟩
      | some y =>
        obtain ⟨t, k⟩ := y
        have hk := (one_join [] ho).2
        rw [List.length_drop, bs_length] at hk
        have hk1 := hk.1
        have hk2 : q + k ≤ s.size := by omega
        have hstep : lexL false 0 (bs s) = preL (l ++ [(t, q)]) (lexL false (q + k) ((bs s).drop (q + k))) := by
          rw [hdrop] at ho
          rw [HLEX.out, hdrop, lexL_tok hcm (by rw [hr]; exact h5) ho, preL_pre, List.drop_drop, show q + 1 + (k - 1) = q + k by omega]
        have HSTEP := Lib.hid hstep
        have HO := Lib.hid (fun u => (hone u).mono fun e w' (h : OnePost u (bs s) q e w') => (show Below u.heap.size u w' ∧ e = .returned (.tuple #[.agg #[.int .i64 (t.kind : Nat), .string ⟨t.text.toArray⟩, .int .i64 (t.n : Nat), .int .i64 (q : Nat), .bool t.opn], .int .i64 (q + k : Nat)]) from ⟨h.1, by
          rcases h.2 with h | ⟨t', x, k', h1, h2, h3⟩
          · rw [ho] at h; cases h.1
          · rw [ho] at h1
            injection h1 with h1
            injection h1 with h1 h4
            subst h1 h4
            rw [h3, bs_mk h2]
            rfl⟩))
        obtain ⟨to, hto⟩ : ∃ to, q + k = to := ⟨_, rfl⟩
        rw [hto] at HO HSTEP hk2
        have hto1 : q + 1 ≤ to := by omega
        clear hstep hdrop hcm h37 hr hone ho h5 hk hk1 hto
        have ones : ∀ u ∈ tokC (t, q), u.oneCell' = true := by simp [tokC, Value.oneCell']
        have hl8 : l.length ≤ 8000 := by omega
        go_wp2_with (first
          | (go_at_call 34; (with_reducible refine (HS.out _).mono ?_); rintro e w' ⟨rfl, rfl⟩)
          | (go_at_call 35; refine (HO.out _).mono ?_; rintro e w2 ⟨hb2, rfl⟩; have HB2 := Lib.hid hb2; clear hb2)
          | (at_builtin; refine wpList_append_sep _ rfl _ _ 69 rfl w.heap.size 75 i0 _ 5 48 Tryz.underlying69 hi hi0 hi1 hi2 rfl (by decide) _ l.length _ rfl (((ownsRow_below HOWN.out HB2.out).alloc _).alloc _) ⟨w2.heap.size + 1, 0, none⟩ 1 1 (tokC (t, q)) rfl (by decide) rfl (lnews (w2.heap.size + 1) (by simp)) ones (by unfold maxLen; omega) (by omega) (by have := HB.out.size; have := HB2.out.size; simp; omega) ?_; intro v' w3 hown3 hgrow hsep))
        go_roundw
        case rel =>
          refine ⟨to, l ++ [(t, q)], false, hk2, by simp; omega, rfl, rfl, HSTEP, Lib.hid ?_, ?_⟩
          · rw [List.length_append, show (l ++ [(t, q)]).flatMap tokC = l.flatMap tokC ++ tokC (t, q) by simp [List.flatMap_append]]
            exact hown3
          · have h1 := HB.out.size
            have h2 := HB2.out.size
            exact (((HB.out.trans (HB2.out.mono HB.out.size)).alloc (by omega) _).alloc (by simp; omega) _).grown hgrow (by simp; omega) (fun j e => (HOWN.out.lt j e).1)
        case measure => simp [intOf]; omega
    · obtain rfl : s.size = q := by omega
      have hend : lexL false 0 (bs s) = .inr l := by
        rw [HLEX.out, List.drop_eq_nil_of_le (by rw [bs_length]; exact Nat.le_refl _), lexL_nil]
        simp [preL]
      have HEND := Lib.hid hend
      clear hend
      go_wp2_with fail
      go_ret3
      exact ⟨HB.out, .inr (.inr ⟨HZ1.out, l, _, HEND.out, hl, rfl, HOWN.out⟩)⟩
end Go.Proofs.YtilfglcjcmpfeaaGreatDoor
