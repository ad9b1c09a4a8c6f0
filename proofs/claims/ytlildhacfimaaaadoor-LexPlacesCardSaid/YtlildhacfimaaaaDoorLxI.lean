/-
  The document's One at signs, and at a byte that begins no token.
-/
import Derived.Test.YtlildhacfimaaaaDoorLxH
namespace Go.Proofs.YtlildhacfimaaaaDoor
open Go.RowKit

theorem one_sign (s : ByteArray) (at' to : Nat) (h : at' < s.size) (hto : at' + (((bs s).drop at').takeWhile isSign).length = to) (h123 : ¬ (srt s[at'] = 1 ∨ srt s[at'] = 2) ∧ ¬ srt s[at'] = 3) (h39 : s[at'] ≠ 39) (h91 : s[at'] ≠ 91) (hso : ¬ (s[at'] = 33 ∨ s[at'] = 59)) (hpu : ¬ (s[at'] = 40 ∨ s[at'] = 41 ∨ s[at'] = 91 ∨ s[at'] = 93 ∨ s[at'] = 124 ∨ s[at'] = 44)) :
    (s[at'] = 46 ∧ to = at' + 1 ∧ ends ((bs s).drop to) = true → oneL ((bs s).drop at') = some (⟨5, [46], 0, false⟩, 1)) ∧
    (¬ (s[at'] = 46 ∧ to = at' + 1 ∧ ends ((bs s).drop to) = true) → oneL ((bs s).drop at') = nameL 1 (bs (s.extract at' to)) ((bs s).drop to) (to - at')) := by
  obtain ⟨e1, e2⟩ := cut_tw s at' to hto
  have e3 : to - at' = (((bs s).drop at').takeWhile isSign).length := by omega
  have e4 : to = at' + 1 ↔ (((bs s).drop at').takeWhile isSign).length = 1 := by omega
  rw [e1, e2, e3, e4]
  clear e1 e2 e3 e4 hto
  rw [drop_at s at' h]
  constructor
  · intro hc
    unfold oneL
    simp only
    rw [if_neg h123.1, if_neg h123.2, if_neg h39, if_neg (fun h => h91 h.1), if_neg hso, if_neg hpu, if_pos hc]
  · intro hc
    unfold oneL
    simp only
    rw [if_neg h123.1, if_neg h123.2, if_neg h39, if_neg (fun h => h91 h.1), if_neg hso, if_neg hpu, if_neg hc]
theorem ends_at (s : ByteArray) (to : Nat) (h : to < s.size) : ends ((bs s).drop to) = (srt s[to] == 5 || s[to] == 37) := by
  rw [drop_at s to h]
  rfl
theorem ends_no (s : ByteArray) (to : Nat) (h : ¬ to < s.size) : ends ((bs s).drop to) = true := by
  rw [List.drop_eq_nil_of_le (by rw [bs_length]; omega)]
  rfl
theorem eq_byte {c : UInt8} {n : Nat} (hn : n < 256) (h : c ≠ UInt8.ofNat n) : ((c.toNat : Int) == (n : Int)) = false := by
  rw [beq_eq_false_iff_ne]
  intro e
  refine h (UInt8.toNat_inj.1 ?_)
  rw [UInt8.toNat_ofNat_of_lt' hn]
  omega
set_option maxRecDepth 100000 in
set_option maxHeartbeats 2000000 in
theorem done_sign (s : ByteArray) (at' : Nat) (w : World) (hat : at' < s.size) (hs : s.size ≤ 1000000) (h123 : ¬ (srt s[at'] = 1 ∨ srt s[at'] = 2) ∧ ¬ srt s[at'] = 3) (h39 : s[at'] ≠ 39) (h91 : s[at'] ≠ 91) (hso : ¬ (s[at'] = 33 ∨ s[at'] = 59)) (hpu : ¬ (s[at'] = 40 ∨ s[at'] = 41 ∨ s[at'] = 91 ∨ s[at'] = 93 ∨ s[at'] = 124 ∨ s[at'] = 44)) :
    Calls Tryd.prog 13 #[.string s, .int .i64 (at' : Nat)] w fun e w' => OnePost w (bs s) at' e w' := by
  obtain ⟨to, hto⟩ : ∃ to, at' + (((bs s).drop at').takeWhile isSign).length = to := ⟨_, rfl⟩
  obtain ⟨hone1, hone2⟩ := one_sign s at' to hat hto h123 h39 h91 hso hpu
  have hsort := fun u => dsort_any s[at'] u
  obtain ⟨r, hr⟩ : ∃ r, srt s[at'] = r := ⟨_, rfl⟩
  have hsign := fun u => dsigns_any s at' u (by omega) hs
  rw [hto] at hsign
  have hlen := tw_len (p := isSign) ((bs s).drop at')
  rw [List.length_drop, bs_length] at hlen
  rw [hr] at hsort h123
  have k1 : ((r : Int) == 1) = false := by rw [beq_eq_false_iff_ne]; omega
  have k2 : ((r : Int) == 2) = false := by rw [beq_eq_false_iff_ne]; omega
  have k3 : ((r : Int) == 3) = false := by rw [beq_eq_false_iff_ne]; omega
  have b39 : ((s[at'].toNat : Int) == 39) = false := eq_byte (n := 39) (by decide) h39
  have b91 : ((s[at'].toNat : Int) == 91) = false := eq_byte (n := 91) (by decide) h91
  have b33 : ((s[at'].toNat : Int) == 33) = false := eq_byte (n := 33) (by decide) (fun h => hso (.inl h))
  have b59 : ((s[at'].toNat : Int) == 59) = false := eq_byte (n := 59) (by decide) (fun h => hso (.inr h))
  have b40 : ((s[at'].toNat : Int) == 40) = false := eq_byte (n := 40) (by decide) (fun h => hpu (.inl h))
  have b41 : ((s[at'].toNat : Int) == 41) = false := eq_byte (n := 41) (by decide) (fun h => hpu (.inr (.inl h)))
  have b93 : ((s[at'].toNat : Int) == 93) = false := eq_byte (n := 93) (by decide) (fun h => hpu (.inr (.inr (.inr (.inl h)))))
  have b124 : ((s[at'].toNat : Int) == 124) = false := eq_byte (n := 124) (by decide) (fun h => hpu (.inr (.inr (.inr (.inr (.inl h))))))
  have b44 : ((s[at'].toNat : Int) == 44) = false := eq_byte (n := 44) (by decide) (fun h => hpu (.inr (.inr (.inr (.inr (.inr h))))))
  have h1 : at' ≤ to := by omega
  have h2 : to ≤ s.size := by omega
  have hsl := fun u => run_cut Tryd.underlying9 s at' to h1 h2 u
  have HS := Lib.hid hsort
  have HG := Lib.hid hsign
  have HONE1 := Lib.hid hone1
  have HONE2 := Lib.hid hone2
  clear hsort hsign hto hlen hone1 hone2 hr h123 h39 h91 hso hpu
  by_cases ht : to = at' + 1
  · have b1 : ((to : Int) == (at' : Int) + 1) = true := by rw [beq_iff_eq]; omega
    have HT := Lib.hid ht
    clear ht
    by_cases h46 : s[at'] = 46
    · have b46 : ((s[at'].toNat : Int) == 46) = true := by rw [h46]; rfl
      by_cases hlt : to < s.size
      · have b2 : ((to : Int) == (s.size : Int)) = false := by rw [beq_eq_false_iff_ne]; omega
        obtain ⟨q, hq⟩ : ∃ q, srt s[to] = q := ⟨_, rfl⟩
        have hsort2 := fun u => dsort_any s[to] u
        rw [hq] at hsort2
        have HS2 := Lib.hid hsort2
        clear hsort2
        by_cases h5 : q = 5
        · subst h5
          have HONE := Lib.hid (HONE1.out ⟨h46, HT.out, by rw [ends_at s to hlt, hq]; rfl⟩)
          clear h46 hq HONE1 HONE2
          go_enter Tryd.func13, Tryd.ntmps13
          go_wp2_with (first
            | (go_at_call 12; (with_reducible refine (HS.out _).mono ?_); rintro e w' ⟨rfl, rfl⟩)
            | (go_at_call 32; refine (HG.out _).mono ?_; rintro e w' ⟨rfl, rfl⟩)
            | (go_at_call 12; (with_reducible refine (HS2.out _).mono ?_); rintro e w' ⟨rfl, rfl⟩)
            | (go_at_call 27; refine (HS.out _).mono ?_; rintro e w' ⟨hb, rfl⟩; have hst2 := (zst0 w).next hb; obtain ⟨⟨c0, c1, c2, c3, c4⟩, f0, f1, f2, f3, f4⟩ := hst2.cells))
          refine bodyPost_ret (v := .tuple #[tokV 5 ⟨#[46]⟩ 0 at' false, .int .i64 (to : Nat)]) (by simp [results, tokV, Tryd.results13, go_sem]) rfl ?_
          exact ⟨(Below.refl _ _).alloc (Nat.le_refl _) _, .inr ⟨⟨5, [46], 0, false⟩, ⟨#[46]⟩, 1, HONE.out, rfl, by rw [HT.out]⟩⟩
        · have b5 : ((q : Int) == 5) = false := by rw [beq_eq_false_iff_ne]; omega
          by_cases h37 : s[to] = 37
          · have b37 : ((s[to].toNat : Int) == 37) = true := by rw [h37]; rfl
            have HONE := Lib.hid (HONE1.out ⟨h46, HT.out, by rw [ends_at s to hlt, h37, beq_self_eq_true, Bool.or_true]⟩)
            clear h46 hq HONE1 HONE2 h5 h37
            go_enter Tryd.func13, Tryd.ntmps13
            go_wp2_with (first
              | (go_at_call 12; (with_reducible refine (HS.out _).mono ?_); rintro e w' ⟨rfl, rfl⟩)
              | (go_at_call 32; refine (HG.out _).mono ?_; rintro e w' ⟨rfl, rfl⟩)
              | (go_at_call 12; (with_reducible refine (HS2.out _).mono ?_); rintro e w' ⟨rfl, rfl⟩)
              | (go_at_call 27; refine (HS.out _).mono ?_; rintro e w' ⟨hb, rfl⟩; have hst2 := (zst0 w).next hb; obtain ⟨⟨c0, c1, c2, c3, c4⟩, f0, f1, f2, f3, f4⟩ := hst2.cells))
            refine bodyPost_ret (v := .tuple #[tokV 5 ⟨#[46]⟩ 0 at' false, .int .i64 (to : Nat)]) (by simp [results, tokV, Tryd.results13, go_sem]) rfl ?_
            exact ⟨(Below.refl _ _).alloc (Nat.le_refl _) _, .inr ⟨⟨5, [46], 0, false⟩, ⟨#[46]⟩, 1, HONE.out, rfl, by rw [HT.out]⟩⟩
          · have b37 : ((s[to].toNat : Int) == 37) = false := eq_byte (n := 37) (by decide) h37
            have HONE := Lib.hid (HONE2.out (fun h => by
              have h6 := h.2.2
              rw [ends_at s to hlt, hq, Bool.or_eq_true, beq_iff_eq, beq_iff_eq] at h6
              rcases h6 with h6 | h6
              · exact h5 h6
              · exact h37 h6))
            clear h46 hq HONE1 HONE2 h5 h37
            by_cases hx : 1 ≤ (s.extract at' to).size ∧ (s.extract at' to).size ≤ 20
            · have HN := Lib.hid (name_call s 1 (s.extract at' to) at' to hs hx)
              have HX := Lib.hid hx
              clear hx
              go_enter Tryd.func13, Tryd.ntmps13
              go_wp2_with (first
                | (go_at_call 12; (with_reducible refine (HS.out _).mono ?_); rintro e w' ⟨rfl, rfl⟩)
                | (go_at_call 32; refine (HG.out _).mono ?_; rintro e w' ⟨rfl, rfl⟩)
                | (go_at_call 12; (with_reducible refine (HS2.out _).mono ?_); rintro e w' ⟨rfl, rfl⟩)
                | (go_at_call 27; refine (HN.out _).mono ?_; rintro e w' ⟨hb, rfl⟩; have hst2 := (zst0 w).next hb; obtain ⟨⟨c0, c1, c2, c3, c4⟩, f0, f1, f2, f3, f4⟩ := hst2.cells))
              refine bodyPost_ret (v := .tuple #[tokV 1 (s.extract at' to) 0 at' (opens ((bs s).drop (to))), .int .i64 (to : Nat)]) (by simp [results, tokV, Tryd.results13, go_sem, c0, c1, c2, c3, c4]) rfl ?_
              exact one_ok HONE.out h1 HX.out (set5_below (ZSt.below (by assumption)) _ _ _ _ _) rfl
            · have HN := Lib.hid (name_call_no s 1 (s.extract at' to) at' to hs hx)
              have HX := Lib.hid hx
              clear hx
              go_enter Tryd.func13, Tryd.ntmps13
              go_wp2_with (first
                | (go_at_call 12; (with_reducible refine (HS.out _).mono ?_); rintro e w' ⟨rfl, rfl⟩)
                | (go_at_call 32; refine (HG.out _).mono ?_; rintro e w' ⟨rfl, rfl⟩)
                | (go_at_call 12; (with_reducible refine (HS2.out _).mono ?_); rintro e w' ⟨rfl, rfl⟩)
                | (go_at_call 27; refine (HN.out _).mono ?_; rintro e w' ⟨hb, rfl⟩; have hst2 := (zst0 w).next hb; obtain ⟨⟨c0, c1, c2, c3, c4⟩, f0, f1, f2, f3, f4⟩ := hst2.cells))
              refine bodyPost_ret (v := noTok) (by simp [results, noTok, Tryd.results13, go_sem, c0, c1, c2, c3, c4]) rfl ?_
              exact one_no HONE.out HX.out (set5_below (ZSt.below (by assumption)) _ _ _ _ _) rfl
      · have b2 : ((to : Int) == (s.size : Int)) = true := by rw [beq_iff_eq]; omega
        have HONE := Lib.hid (HONE1.out ⟨h46, HT.out, ends_no s to hlt⟩)
        clear h46 HONE1 HONE2 hlt
        go_enter Tryd.func13, Tryd.ntmps13
        go_wp2_with (first
          | (go_at_call 12; (with_reducible refine (HS.out _).mono ?_); rintro e w' ⟨rfl, rfl⟩)
          | (go_at_call 32; refine (HG.out _).mono ?_; rintro e w' ⟨rfl, rfl⟩)
          | (go_at_call 27; refine (HS.out _).mono ?_; rintro e w' ⟨hb, rfl⟩; have hst2 := (zst0 w).next hb; obtain ⟨⟨c0, c1, c2, c3, c4⟩, f0, f1, f2, f3, f4⟩ := hst2.cells))
        refine bodyPost_ret (v := .tuple #[tokV 5 ⟨#[46]⟩ 0 at' false, .int .i64 (to : Nat)]) (by simp [results, tokV, Tryd.results13, go_sem]) rfl ?_
        exact ⟨(Below.refl _ _).alloc (Nat.le_refl _) _, .inr ⟨⟨5, [46], 0, false⟩, ⟨#[46]⟩, 1, HONE.out, rfl, by rw [HT.out]⟩⟩
    · have b46 : ((s[at'].toNat : Int) == 46) = false := eq_byte (n := 46) (by decide) h46
      have HONE := Lib.hid (HONE2.out (fun h => h46 h.1))
      clear h46 HONE1 HONE2
      by_cases hx : 1 ≤ (s.extract at' to).size ∧ (s.extract at' to).size ≤ 20
      · have HN := Lib.hid (name_call s 1 (s.extract at' to) at' to hs hx)
        have HX := Lib.hid hx
        clear hx
        go_enter Tryd.func13, Tryd.ntmps13
        go_wp2_with (first
          | (go_at_call 12; (with_reducible refine (HS.out _).mono ?_); rintro e w' ⟨rfl, rfl⟩)
          | (go_at_call 32; refine (HG.out _).mono ?_; rintro e w' ⟨rfl, rfl⟩)
          | (go_at_call 27; refine (HN.out _).mono ?_; rintro e w' ⟨hb, rfl⟩; have hst2 := (zst0 w).next hb; obtain ⟨⟨c0, c1, c2, c3, c4⟩, f0, f1, f2, f3, f4⟩ := hst2.cells))
        refine bodyPost_ret (v := .tuple #[tokV 1 (s.extract at' to) 0 at' (opens ((bs s).drop (to))), .int .i64 (to : Nat)]) (by simp [results, tokV, Tryd.results13, go_sem, c0, c1, c2, c3, c4]) rfl ?_
        exact one_ok HONE.out h1 HX.out (set5_below (ZSt.below (by assumption)) _ _ _ _ _) rfl
      · have HN := Lib.hid (name_call_no s 1 (s.extract at' to) at' to hs hx)
        have HX := Lib.hid hx
        clear hx
        go_enter Tryd.func13, Tryd.ntmps13
        go_wp2_with (first
          | (go_at_call 12; (with_reducible refine (HS.out _).mono ?_); rintro e w' ⟨rfl, rfl⟩)
          | (go_at_call 32; refine (HG.out _).mono ?_; rintro e w' ⟨rfl, rfl⟩)
          | (go_at_call 27; refine (HN.out _).mono ?_; rintro e w' ⟨hb, rfl⟩; have hst2 := (zst0 w).next hb; obtain ⟨⟨c0, c1, c2, c3, c4⟩, f0, f1, f2, f3, f4⟩ := hst2.cells))
        refine bodyPost_ret (v := noTok) (by simp [results, noTok, Tryd.results13, go_sem, c0, c1, c2, c3, c4]) rfl ?_
        exact one_no HONE.out HX.out (set5_below (ZSt.below (by assumption)) _ _ _ _ _) rfl
  · have b1 : ((to : Int) == (at' : Int) + 1) = false := by rw [beq_eq_false_iff_ne]; omega
    have HONE := Lib.hid (HONE2.out (fun h => ht h.2.1))
    clear ht HONE1 HONE2
    by_cases hx : 1 ≤ (s.extract at' to).size ∧ (s.extract at' to).size ≤ 20
    · have HN := Lib.hid (name_call s 1 (s.extract at' to) at' to hs hx)
      have HX := Lib.hid hx
      clear hx
      go_enter Tryd.func13, Tryd.ntmps13
      go_wp2_with (first
        | (go_at_call 12; (with_reducible refine (HS.out _).mono ?_); rintro e w' ⟨rfl, rfl⟩)
        | (go_at_call 32; refine (HG.out _).mono ?_; rintro e w' ⟨rfl, rfl⟩)
        | (go_at_call 27; refine (HN.out _).mono ?_; rintro e w' ⟨hb, rfl⟩; have hst2 := (zst0 w).next hb; obtain ⟨⟨c0, c1, c2, c3, c4⟩, f0, f1, f2, f3, f4⟩ := hst2.cells))
      refine bodyPost_ret (v := .tuple #[tokV 1 (s.extract at' to) 0 at' (opens ((bs s).drop (to))), .int .i64 (to : Nat)]) (by simp [results, tokV, Tryd.results13, go_sem, c0, c1, c2, c3, c4]) rfl ?_
      exact one_ok HONE.out h1 HX.out (set5_below (ZSt.below (by assumption)) _ _ _ _ _) rfl
    · have HN := Lib.hid (name_call_no s 1 (s.extract at' to) at' to hs hx)
      have HX := Lib.hid hx
      clear hx
      go_enter Tryd.func13, Tryd.ntmps13
      go_wp2_with (first
        | (go_at_call 12; (with_reducible refine (HS.out _).mono ?_); rintro e w' ⟨rfl, rfl⟩)
        | (go_at_call 32; refine (HG.out _).mono ?_; rintro e w' ⟨rfl, rfl⟩)
        | (go_at_call 27; refine (HN.out _).mono ?_; rintro e w' ⟨hb, rfl⟩; have hst2 := (zst0 w).next hb; obtain ⟨⟨c0, c1, c2, c3, c4⟩, f0, f1, f2, f3, f4⟩ := hst2.cells))
      refine bodyPost_ret (v := noTok) (by simp [results, noTok, Tryd.results13, go_sem, c0, c1, c2, c3, c4]) rfl ?_
      exact one_no HONE.out HX.out (set5_below (ZSt.below (by assumption)) _ _ _ _ _) rfl
end Go.Proofs.YtlildhacfimaaaaDoor
