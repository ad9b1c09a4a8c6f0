/-
  The document's One at a sign that is a name, at brackets that are one, at quotes.
-/
import Derived.Test.YtlildhacfimaaaaDoorLxG
namespace Go.Proofs.YtlildhacfimaaaaDoor
open Go.RowKit

theorem name_call (s : ByteArray) (kind : Nat) (x : ByteArray) (at' to : Nat) (hs : s.size ≤ 1000000) (hn : 1 ≤ x.size ∧ x.size ≤ 20) (u : World) : Calls Tryd.prog 27 #[.string s, .int .i64 (kind : Nat), .string x, .int .i64 (at' : Nat), .int .i64 (to : Nat)] u fun e w' => Below u.heap.size u w' ∧ e = .returned (.tuple #[.agg #[.int .i64 (kind : Nat), .string x, .int .i64 0, .int .i64 (at' : Nat), .bool (opens ((bs s).drop to))], .int .i64 (to : Nat)]) :=
  (dname_any s kind x at' to u hs).mono fun e w' h => ⟨h.1, by
    rcases h.2 with h | h
    · exact absurd hn h.1
    · exact h.2⟩
theorem name_call_no (s : ByteArray) (kind : Nat) (x : ByteArray) (at' to : Nat) (hs : s.size ≤ 1000000) (hn : ¬ (1 ≤ x.size ∧ x.size ≤ 20)) (u : World) : Calls Tryd.prog 27 #[.string s, .int .i64 (kind : Nat), .string x, .int .i64 (at' : Nat), .int .i64 (to : Nat)] u fun e w' => Below u.heap.size u w' ∧ e = .returned (.tuple #[.agg #[.int .i64 0, .string ⟨#[]⟩, .int .i64 0, .int .i64 0, .bool false], .int .i64 (-1)]) :=
  (dname_any s kind x at' to u hs).mono fun e w' h => ⟨h.1, by
    rcases h.2 with h | h
    · exact h.2
    · exact absurd h.1 hn⟩
set_option maxRecDepth 100000 in
set_option maxHeartbeats 2000000 in
theorem done_33 (s : ByteArray) (at' : Nat) (w : World) (hat : at' < s.size) (hs : s.size ≤ 1000000) (hc : s[at'] = 33) :
    Calls Tryd.prog 13 #[.string s, .int .i64 (at' : Nat)] w fun e w' => OnePost w (bs s) at' e w' := by
  have hsort := fun u => dsort_any s[at'] u
  rw [show srt s[at'] = 0 by rw [hc]; rfl] at hsort
  have hsl := fun u => run_byte_at Tryd.underlying9 s at' hat u
  have HS := Lib.hid hsort
  have b39 : ((s[at'].toNat : Int) == 39) = false := by rw [hc]; rfl
  have b91 : ((s[at'].toNat : Int) == 91) = false := by rw [hc]; rfl
  have b33 : ((s[at'].toNat : Int) == 33) = true := by rw [hc]; rfl
  have b59 : ((s[at'].toNat : Int) == 59) = false := by rw [hc]; rfl
  have b40 : ((s[at'].toNat : Int) == 40) = false := by rw [hc]; rfl
  have b41 : ((s[at'].toNat : Int) == 41) = false := by rw [hc]; rfl
  have b93 : ((s[at'].toNat : Int) == 93) = false := by rw [hc]; rfl
  have b124 : ((s[at'].toNat : Int) == 124) = false := by rw [hc]; rfl
  have b44 : ((s[at'].toNat : Int) == 44) = false := by rw [hc]; rfl
  have b46 : ((s[at'].toNat : Int) == 46) = false := by rw [hc]; rfl
  have hone : oneL ((bs s).drop at') = nameL 1 (bs (s.extract at' (at' + 1))) ((bs s).drop (at' + 1)) (at' + 1 - at') := by
    rw [ext_one s at' hat, drop_at s at' hat, hc, show at' + 1 - at' = 1 by omega]
    unfold oneL
    simp only
    rw [if_neg (by decide), if_neg (by decide), if_neg (by decide), if_neg (fun h => absurd h.1 (by decide)), if_pos (by decide)]
  have HONE := Lib.hid hone
  have hz : 1 ≤ (s.extract at' (at' + 1)).size ∧ (s.extract at' (at' + 1)).size ≤ 20 := by rw [size_one s at' hat]; decide
  have HZ := Lib.hid hz
  have HN := Lib.hid (name_call s 1 (s.extract at' (at' + 1)) at' (at' + 1) hs hz)
  clear hone hsort hc hz
  go_enter Tryd.func13, Tryd.ntmps13
  go_wp2_with (first
    | (go_at_call 12; refine (HS.out _).mono ?_; rintro e w' ⟨rfl, rfl⟩)
    | (go_at_call 27; refine (HN.out _).mono ?_; rintro e w' ⟨hb, rfl⟩; have hst2 := (zst0 w).next hb; obtain ⟨⟨c0, c1, c2, c3, c4⟩, f0, f1, f2, f3, f4⟩ := hst2.cells))
  refine bodyPost_ret (v := .tuple #[tokV 1 (s.extract at' (at' + 1)) 0 at' (opens ((bs s).drop (at' + 1))), .int .i64 (at' + 1 : Nat)]) (by simp [results, tokV, Tryd.results13, go_sem, c0, c1, c2, c3, c4]) rfl ?_
  exact one_ok HONE.out (by omega) HZ.out (set5_below (ZSt.below (by assumption)) _ _ _ _ _) rfl
set_option maxRecDepth 100000 in
set_option maxHeartbeats 2000000 in
theorem done_59 (s : ByteArray) (at' : Nat) (w : World) (hat : at' < s.size) (hs : s.size ≤ 1000000) (hc : s[at'] = 59) :
    Calls Tryd.prog 13 #[.string s, .int .i64 (at' : Nat)] w fun e w' => OnePost w (bs s) at' e w' := by
  have hsort := fun u => dsort_any s[at'] u
  rw [show srt s[at'] = 0 by rw [hc]; rfl] at hsort
  have hsl := fun u => run_byte_at Tryd.underlying9 s at' hat u
  have HS := Lib.hid hsort
  have b39 : ((s[at'].toNat : Int) == 39) = false := by rw [hc]; rfl
  have b91 : ((s[at'].toNat : Int) == 91) = false := by rw [hc]; rfl
  have b33 : ((s[at'].toNat : Int) == 33) = false := by rw [hc]; rfl
  have b59 : ((s[at'].toNat : Int) == 59) = true := by rw [hc]; rfl
  have b40 : ((s[at'].toNat : Int) == 40) = false := by rw [hc]; rfl
  have b41 : ((s[at'].toNat : Int) == 41) = false := by rw [hc]; rfl
  have b93 : ((s[at'].toNat : Int) == 93) = false := by rw [hc]; rfl
  have b124 : ((s[at'].toNat : Int) == 124) = false := by rw [hc]; rfl
  have b44 : ((s[at'].toNat : Int) == 44) = false := by rw [hc]; rfl
  have b46 : ((s[at'].toNat : Int) == 46) = false := by rw [hc]; rfl
  have hone : oneL ((bs s).drop at') = nameL 1 (bs (s.extract at' (at' + 1))) ((bs s).drop (at' + 1)) (at' + 1 - at') := by
    rw [ext_one s at' hat, drop_at s at' hat, hc, show at' + 1 - at' = 1 by omega]
    unfold oneL
    simp only
    rw [if_neg (by decide), if_neg (by decide), if_neg (by decide), if_neg (fun h => absurd h.1 (by decide)), if_pos (by decide)]
  have HONE := Lib.hid hone
  have hz : 1 ≤ (s.extract at' (at' + 1)).size ∧ (s.extract at' (at' + 1)).size ≤ 20 := by rw [size_one s at' hat]; decide
  have HZ := Lib.hid hz
  have HN := Lib.hid (name_call s 1 (s.extract at' (at' + 1)) at' (at' + 1) hs hz)
  clear hone hsort hc hz
  go_enter Tryd.func13, Tryd.ntmps13
  go_wp2_with (first
    | (go_at_call 12; refine (HS.out _).mono ?_; rintro e w' ⟨rfl, rfl⟩)
    | (go_at_call 27; refine (HN.out _).mono ?_; rintro e w' ⟨hb, rfl⟩; have hst2 := (zst0 w).next hb; obtain ⟨⟨c0, c1, c2, c3, c4⟩, f0, f1, f2, f3, f4⟩ := hst2.cells))
  refine bodyPost_ret (v := .tuple #[tokV 1 (s.extract at' (at' + 1)) 0 at' (opens ((bs s).drop (at' + 1))), .int .i64 (at' + 1 : Nat)]) (by simp [results, tokV, Tryd.results13, go_sem, c0, c1, c2, c3, c4]) rfl ?_
  exact one_ok HONE.out (by omega) HZ.out (set5_below (ZSt.below (by assumption)) _ _ _ _ _) rfl
set_option maxRecDepth 100000 in
set_option maxHeartbeats 2000000 in
theorem done_nil (s : ByteArray) (at' : Nat) (w : World) (hat : at' < s.size) (hs : s.size ≤ 1000000) (hc : s[at'] = 91) (hb : ((bs s).drop (at' + 1)).head? = some 93) :
    Calls Tryd.prog 13 #[.string s, .int .i64 (at' : Nat)] w fun e w' => OnePost w (bs s) at' e w' := by
  have hlt : at' + 1 < s.size := by
    by_cases h : at' + 1 < s.size
    · exact h
    · rw [List.drop_eq_nil_of_le (by rw [bs_length]; omega)] at hb
      cases hb
  have hd : s[at' + 1] = 93 := by
    rw [drop_at s (at' + 1) hlt] at hb
    exact Option.some.inj hb
  have hb2 : ((s[at' + 1].toNat : Int) == 93) = true := by rw [hd]; rfl
  have hsort := fun u => dsort_any s[at'] u
  rw [show srt s[at'] = 0 by rw [hc]; rfl] at hsort
  have HS := Lib.hid hsort
  have b39 : ((s[at'].toNat : Int) == 39) = false := by rw [hc]; rfl
  have b91 : ((s[at'].toNat : Int) == 91) = true := by rw [hc]; rfl
  have b33 : ((s[at'].toNat : Int) == 33) = false := by rw [hc]; rfl
  have b59 : ((s[at'].toNat : Int) == 59) = false := by rw [hc]; rfl
  have b40 : ((s[at'].toNat : Int) == 40) = false := by rw [hc]; rfl
  have b41 : ((s[at'].toNat : Int) == 41) = false := by rw [hc]; rfl
  have b93 : ((s[at'].toNat : Int) == 93) = false := by rw [hc]; rfl
  have b124 : ((s[at'].toNat : Int) == 124) = false := by rw [hc]; rfl
  have b44 : ((s[at'].toNat : Int) == 44) = false := by rw [hc]; rfl
  have b46 : ((s[at'].toNat : Int) == 46) = false := by rw [hc]; rfl
  have hone : oneL ((bs s).drop at') = nameL 1 (bs ⟨#[91, 93]⟩) ((bs s).drop (at' + 2)) (at' + 2 - at') := by
    rw [drop_at s at' hat, hc, show at' + 2 - at' = 2 by omega]
    unfold oneL
    simp only
    rw [if_neg (by decide), if_neg (by decide), if_neg (by decide), if_pos (show True ∧ ((bs s).drop (at' + 1)).head? = some 93 from ⟨trivial, hb⟩), List.drop_drop]
    rfl
  have HONE := Lib.hid hone
  have hz : 1 ≤ (⟨#[91, 93]⟩ : ByteArray).size ∧ (⟨#[91, 93]⟩ : ByteArray).size ≤ 20 := by decide
  have HZ := Lib.hid hz
  have HN := Lib.hid (name_call s 1 ⟨#[91, 93]⟩ at' (at' + 2) hs hz)
  clear hone hsort hc hz hb hd
  go_enter Tryd.func13, Tryd.ntmps13
  go_wp2_with (first
    | (go_at_call 12; refine (HS.out _).mono ?_; rintro e w' ⟨rfl, rfl⟩)
    | (go_at_call 27; refine (HN.out _).mono ?_; rintro e w' ⟨hb, rfl⟩; have hst2 := (zst0 w).next hb; obtain ⟨⟨c0, c1, c2, c3, c4⟩, f0, f1, f2, f3, f4⟩ := hst2.cells))
  refine bodyPost_ret (v := .tuple #[tokV 1 ⟨#[91, 93]⟩ 0 at' (opens ((bs s).drop (at' + 2))), .int .i64 (at' + 2 : Nat)]) (by simp [results, tokV, Tryd.results13, go_sem, c0, c1, c2, c3, c4]) rfl ?_
  exact one_ok HONE.out (by omega) HZ.out (set5_below (ZSt.below (by assumption)) _ _ _ _ _) rfl
set_option maxRecDepth 100000 in
set_option maxHeartbeats 2000000 in
theorem done_quo (s : ByteArray) (at' : Nat) (w : World) (hat : at' < s.size) (hs : s.size ≤ 1000000) (hc : s[at'] = 39) :
    Calls Tryd.prog 13 #[.string s, .int .i64 (at' : Nat)] w fun e w' => OnePost w (bs s) at' e w' := by
  have hsort := fun u => dsort_any s[at'] u
  rw [show srt s[at'] = 0 by rw [hc]; rfl] at hsort
  have HS := Lib.hid hsort
  have b39 : ((s[at'].toNat : Int) == 39) = true := by rw [hc]; rfl
  have b91 : ((s[at'].toNat : Int) == 91) = false := by rw [hc]; rfl
  have b33 : ((s[at'].toNat : Int) == 33) = false := by rw [hc]; rfl
  have b59 : ((s[at'].toNat : Int) == 59) = false := by rw [hc]; rfl
  have b40 : ((s[at'].toNat : Int) == 40) = false := by rw [hc]; rfl
  have b41 : ((s[at'].toNat : Int) == 41) = false := by rw [hc]; rfl
  have b93 : ((s[at'].toNat : Int) == 93) = false := by rw [hc]; rfl
  have b124 : ((s[at'].toNat : Int) == 124) = false := by rw [hc]; rfl
  have b44 : ((s[at'].toNat : Int) == 44) = false := by rw [hc]; rfl
  have b46 : ((s[at'].toNat : Int) == 46) = false := by rw [hc]; rfl
  have hone0 : oneL ((bs s).drop at') = (quoL ((bs s).drop (at' + 1))).bind fun x => nameL 1 x.1 (((bs s).drop (at' + 1)).drop x.2) (x.2 + 1) := by
    rw [drop_at s at' hat, hc]
    unfold oneL
    simp only
    rw [if_neg (by decide), if_neg (by decide), if_pos (by decide)]
  have hq := fun u => dquoted_any s (at' + 1) u (by omega) hs
  clear hsort hc
  cases hn : quoL ((bs s).drop (at' + 1)) with
  | none =>
    rw [hn] at hone0
    have HONE := Lib.hid hone0
    have HQ := Lib.hid (fun u => (hq u).mono fun e w' (h : QuoPost u (bs s) (at' + 1) e w') => (show ∃ (o : ByteArray) (to : Nat), e = .returned (.tuple #[.string o, .int .i64 (to : Nat), .bool false]) ∧ u = w' from by
      obtain ⟨o, to, b, rfl, rfl, h | h⟩ := h
      · rw [hn] at h; cases h.1
      · exact ⟨o, to, by rw [h.2], rfl⟩))
    clear hone0 hq hn
    go_enter Tryd.func13, Tryd.ntmps13
    go_wp2_with (first
      | (go_at_call 12; refine (HS.out _).mono ?_; rintro e w' ⟨rfl, rfl⟩)
      | (go_at_call 31; refine (HQ.out _).mono ?_; rintro e w' ⟨o, to, rfl, rfl⟩)
      | (go_at_call 27; refine (HS.out _).mono ?_; rintro e w' ⟨hb, rfl⟩; have hst2 := (zst0 w).next hb; obtain ⟨⟨c0, c1, c2, c3, c4⟩, f0, f1, f2, f3, f4⟩ := hst2.cells))
    refine bodyPost_ret (v := noTok) (by simp [results, noTok, Tryd.results13, go_sem]) rfl ?_
    exact ⟨(Below.refl _ _).alloc (Nat.le_refl _) _, .inl ⟨HONE.out, rfl⟩⟩
  | some y =>
    obtain ⟨tx, k⟩ := y
    rw [hn] at hone0
    have hq2 := fun u => (hq u).mono fun e w' (h : QuoPost u (bs s) (at' + 1) e w') => (show ∃ (o : ByteArray), e = .returned (.tuple #[.string o, .int .i64 (at' + 1 + k : Nat), .bool true]) ∧ bs o = tx ∧ u = w' from by
      obtain ⟨o, to, b, rfl, rfl, h | h⟩ := h
      · rw [hn] at h
        obtain ⟨h1, h2, rfl⟩ := h
        injection h1 with h1
        injection h1 with h1 h3
        have : to = at' + 1 + k := by omega
        subst this
        exact ⟨o, rfl, h1.symm, rfl⟩
      · rw [hn] at h; cases h.1)
    obtain ⟨to, hto⟩ : ∃ to, at' + 1 + k = to := ⟨_, rfl⟩
    rw [hto] at hq2
    have hone : oneL ((bs s).drop at') = nameL 1 tx ((bs s).drop to) (to - at') := by
      rw [hone0, show to - at' = k + 1 by omega, ← hto]
      simp only [Option.bind_some, List.drop_drop]
    have HQ := Lib.hid hq2
    clear hone0 hq hn hq2
    have HTO := Lib.hid hto
    clear hto
    have HONE0 := Lib.hid hone
    clear hone
    by_cases hx : 1 ≤ tx.length ∧ tx.length ≤ 20
    · have HX := Lib.hid hx
      clear hx
      go_enter Tryd.func13, Tryd.ntmps13
      go_wp2_with (first
        | (go_at_call 12; refine (HS.out _).mono ?_; rintro e w' ⟨rfl, rfl⟩)
        | (go_at_call 31; refine (HQ.out _).mono ?_; rintro e w' ⟨o, rfl, ho, rfl⟩; have HO := Lib.hid ho; clear ho)
        | (go_at_call 27; refine (name_call s 1 o at' to hs (by rw [← bs_length, HO.out]; exact HX.out) _).mono ?_; rintro e w' ⟨hb, rfl⟩; have hst2 := (zst0 w).next hb; obtain ⟨⟨c0, c1, c2, c3, c4⟩, f0, f1, f2, f3, f4⟩ := hst2.cells))
      refine bodyPost_ret (v := .tuple #[tokV 1 o 0 at' (opens ((bs s).drop (to))), .int .i64 (to : Nat)]) (by simp [results, tokV, Tryd.results13, go_sem, c0, c1, c2, c3, c4]) rfl ?_
      exact one_ok (by rw [HO.out]; exact HONE0.out) (by have := HTO.out; omega) (by rw [← bs_length, HO.out]; exact HX.out) (set5_below (ZSt.below (by assumption)) _ _ _ _ _) rfl
    · have HX := Lib.hid hx
      clear hx
      go_enter Tryd.func13, Tryd.ntmps13
      go_wp2_with (first
        | (go_at_call 12; refine (HS.out _).mono ?_; rintro e w' ⟨rfl, rfl⟩)
        | (go_at_call 31; refine (HQ.out _).mono ?_; rintro e w' ⟨o, rfl, ho, rfl⟩; have HO := Lib.hid ho; clear ho)
        | (go_at_call 27; refine (name_call_no s 1 o at' to hs (by rw [← bs_length, HO.out]; exact HX.out) _).mono ?_; rintro e w' ⟨hb, rfl⟩; have hst2 := (zst0 w).next hb; obtain ⟨⟨c0, c1, c2, c3, c4⟩, f0, f1, f2, f3, f4⟩ := hst2.cells))
      refine bodyPost_ret (v := noTok) (by simp [results, noTok, Tryd.results13, go_sem, c0, c1, c2, c3, c4]) rfl ?_
      exact one_no (by rw [HO.out]; exact HONE0.out) (by rw [← bs_length, HO.out]; exact HX.out) (set5_below (ZSt.below (by assumption)) _ _ _ _ _) rfl
end Go.Proofs.YtlildhacfimaaaaDoor
