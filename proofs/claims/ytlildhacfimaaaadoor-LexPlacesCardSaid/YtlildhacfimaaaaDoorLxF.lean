/-
  The document's One at digits.
-/
import Derived.Test.YtlildhacfimaaaaDoorLxE
namespace Go.Proofs.YtlildhacfimaaaaDoor
open Go.RowKit

theorem one_num (s : ByteArray) (at' to : Nat) (h : at' < s.size) (hk : srt s[at'] = 3) (hto : at' + (((bs s).drop at').takeWhile isDigit).length = to) : oneL ((bs s).drop at') = (numL (bs (s.extract at' to))).map fun n => (⟨3, bs (s.extract at' to), n, false⟩, to - at') := by
  obtain ⟨e1, e2⟩ := cut_tw s at' to hto
  have e3 : to - at' = (((bs s).drop at').takeWhile isDigit).length := by omega
  rw [e1, e3, drop_at s at' h]
  unfold oneL
  simp only
  rw [if_neg (by rw [hk]; decide), if_pos hk]
theorem tw_mem {p : UInt8 → Bool} : ∀ (l : List UInt8), ∀ c ∈ l.takeWhile p, p c = true
  | [], c, h => by simp at h
  | d :: r, c, h => by
    by_cases hd : p d = true
    · rw [tw_cons hd] at h
      rcases List.mem_cons.1 h with rfl | h
      · exact hd
      · exact tw_mem r c h
    · simp [hd] at h
set_option maxRecDepth 100000 in
set_option maxHeartbeats 2000000 in
theorem done_num (s : ByteArray) (at' : Nat) (w : World) (hat : at' < s.size) (hs : s.size ≤ 1000000) (hk : srt s[at'] = 3) :
    Calls Tryd.prog 13 #[.string s, .int .i64 (at' : Nat)] w fun e w' => OnePost w (bs s) at' e w' := by
  obtain ⟨to, hto⟩ : ∃ to, at' + (((bs s).drop at').takeWhile isDigit).length = to := ⟨_, rfl⟩
  have hone := one_num s at' to hat hk hto
  have hd : isDigit s[at'] = true := by unfold isDigit; rw [hk]; rfl
  have hlen2 : 1 ≤ (((bs s).drop at').takeWhile isDigit).length := by
    rw [drop_at s at' hat, tw_cons hd]
    simp
  have hsort := fun u => dsort_any s[at'] u
  rw [hk] at hsort
  have hdig := fun u => ddigits_any s at' u (by omega) hs
  rw [hto] at hdig
  have hlen := tw_len (p := isDigit) ((bs s).drop at')
  rw [List.length_drop, bs_length] at hlen
  have h1 : at' ≤ to := by omega
  have h2 : to ≤ s.size := by omega
  have hsl := fun u => run_cut Tryd.underlying9 s at' to h1 h2 u
  have hxs : (s.extract at' to).size = to - at' := by rw [ByteArray.size_extract]; omega
  have hnum := fun u => dnumber_any (s.extract at' to) u (by omega) (by omega) (fun c hc => tw_mem _ c (by rw [(cut_tw s at' to hto).1] at hc; exact hc))
  have HS := Lib.hid hsort
  have HD := Lib.hid hdig
  clear hsort hdig hto hk hlen hlen2 hd hxs
  cases hn : numL (bs (s.extract at' to)) with
  | none =>
    rw [hn] at hone
    have HN := Lib.hid (fun u => (hnum u).mono fun e w' (h : NumPost u (bs (s.extract at' to)) e w') => (show ∃ n : Nat, e = .returned (.tuple #[.int .i64 (n : Nat), .bool false]) ∧ u = w' from by
      obtain ⟨n, b, rfl, rfl, h | h⟩ := h
      · rw [hn] at h; cases h.1
      · exact ⟨n, by rw [h.2], rfl⟩))
    have HONE := Lib.hid hone
    clear hone hn hnum
    go_enter Tryd.func13, Tryd.ntmps13
    go_wp2_with (first
      | (go_at_call 12; refine (HS.out _).mono ?_; rintro e w' ⟨rfl, rfl⟩)
      | (go_at_call 29; refine (HD.out _).mono ?_; rintro e w' ⟨rfl, rfl⟩)
      | (go_at_call 30; refine (HN.out _).mono ?_; rintro e w' ⟨n, rfl, rfl⟩))
    refine bodyPost_ret (v := noTok) (by simp [results, noTok, Tryd.results13, go_sem]) rfl ?_
    exact ⟨(Below.refl _ _).alloc (Nat.le_refl _) _, .inl ⟨HONE.out, rfl⟩⟩
  | some n =>
    rw [hn] at hone
    have HN := Lib.hid (fun u => (hnum u).mono fun e w' (h : NumPost u (bs (s.extract at' to)) e w') => (show e = .returned (.tuple #[.int .i64 (n : Nat), .bool true]) ∧ u = w' from by
      obtain ⟨n', b, rfl, rfl, h | h⟩ := h
      · rw [hn] at h
        have := Option.some.inj h.1
        subst this
        exact ⟨by rw [h.2], rfl⟩
      · rw [hn] at h; cases h.1))
    have HONE := Lib.hid hone
    clear hone hn hnum
    go_enter Tryd.func13, Tryd.ntmps13
    go_wp2_with (first
      | (go_at_call 12; refine (HS.out _).mono ?_; rintro e w' ⟨rfl, rfl⟩)
      | (go_at_call 29; refine (HD.out _).mono ?_; rintro e w' ⟨rfl, rfl⟩)
      | (go_at_call 30; refine (HN.out _).mono ?_; rintro e w' ⟨rfl, rfl⟩))
    refine bodyPost_ret (v := .tuple #[tokV 3 (s.extract at' to) n at' false, .int .i64 (to : Nat)]) (by simp [results, tokV, Tryd.results13, go_sem]) rfl ?_
    exact ⟨(Below.refl _ _).alloc (Nat.le_refl _) _, .inr ⟨⟨3, bs (s.extract at' to), n, false⟩, s.extract at' to, to - at', HONE.out, rfl, by rw [show at' + (to - at') = to by omega]⟩⟩
end Go.Proofs.YtlildhacfimaaaaDoor
