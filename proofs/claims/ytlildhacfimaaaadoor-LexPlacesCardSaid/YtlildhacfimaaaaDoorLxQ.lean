/-
  LexCuts' body, if the program's Tokens says what it is to say.
-/
import Derived.Test.YtlildhacfimaaaaDoorLxP
namespace Go.Proofs.YtlildhacfimaaaaDoor
open Go.RowKit

theorem lex_bad_at : ∀ (n : Nat) (l : List UInt8) (cm : Bool) (at' b : Nat), l.length ≤ n → lexL cm at' l = .inl b → at' ≤ b ∧ b < at' + l.length
  | _, [], cm, at', b, _, h => by rw [lexL_nil] at h; cases h
  | 0, _ :: _, _, _, _, hn, _ => by simp at hn
  | n + 1, c :: r, cm, at', b, hn, h => by
    simp only [List.length_cons] at hn ⊢
    by_cases h1 : cm = true ∨ c = 37
    · rw [lexL_skip h1] at h
      have := lex_bad_at n r _ _ b (by omega) h
      omega
    by_cases h5 : srt c = 5
    · rw [lexL_gap h1 h5] at h
      have := lex_bad_at n r _ _ b (by omega) h
      omega
    cases ho : oneL (c :: r) with
    | none =>
      rw [lexL_bad h1 h5 ho] at h
      injection h with h
      omega
    | some x =>
      obtain ⟨t, k⟩ := x
      have hk := (one_join [] ho).2
      simp only [List.length_cons] at hk
      rw [lexL_tok h1 h5 ho] at h
      cases hq : lexL false (at' + k) (r.drop (k - 1)) with
      | inl b' =>
        rw [hq] at h
        injection h with h
        subst h
        have := lex_bad_at n _ _ _ b' (by simp; omega) hq
        simp only [List.length_drop] at this
        omega
      | inr q => rw [hq] at h; cases h
/-- What Tokens answers. -/
def Res (s : ByteArray) (l : List (Tk × Nat)) (b c : Nat) : Prop := (8000 < s.size ∧ l = [] ∧ b = 0 ∧ c = 3) ∨ (s.size ≤ 8000 ∧ lexL false 0 (bs s) = .inl b ∧ l = [] ∧ c = 2) ∨ (s.size ≤ 8000 ∧ lexL false 0 (bs s) = .inr l ∧ b = 0 ∧ c = 0)
theorem res_fun {s : ByteArray} {l l' : List (Tk × Nat)} {b c b' c' : Nat} (h : Res s l b c) (h' : Res s l' b' c') : l = l' ∧ b = b' ∧ c = c' := by
  rcases h with ⟨h1, rfl, rfl, rfl⟩ | ⟨h1, h2, rfl, rfl⟩ | ⟨h1, h2, rfl, rfl⟩
  · rcases h' with ⟨h3, rfl, rfl, rfl⟩ | ⟨h3, h4, rfl, rfl⟩ | ⟨h3, h4, rfl, rfl⟩
    · exact ⟨rfl, rfl, rfl⟩
    · omega
    · omega
  · rcases h' with ⟨h3, rfl, rfl, rfl⟩ | ⟨h3, h4, rfl, rfl⟩ | ⟨h3, h4, rfl, rfl⟩
    · omega
    · rw [h2] at h4; injection h4 with h4; exact ⟨rfl, h4, rfl⟩
    · rw [h2] at h4; cases h4
  · rcases h' with ⟨h3, rfl, rfl, rfl⟩ | ⟨h3, h4, rfl, rfl⟩ | ⟨h3, h4, rfl, rfl⟩
    · omega
    · rw [h2] at h4; cases h4
    · rw [h2] at h4; injection h4 with h4; exact ⟨h4, rfl, rfl⟩
theorem res_at {s : ByteArray} {l : List (Tk × Nat)} {b c : Nat} (h : Res s l b c) : (∀ x ∈ l, x.2 ≤ s.size) ∧ b ≤ s.size ∧ c ≤ 3 := by
  rcases h with ⟨_, rfl, rfl, rfl⟩ | ⟨_, h, rfl, rfl⟩ | ⟨_, h, rfl, rfl⟩
  · exact ⟨(fun x hx => by cases hx), by omega, by omega⟩
  · have := lex_bad_at _ _ _ _ _ (Nat.le_refl _) h
    rw [bs_length] at this
    exact ⟨(fun x hx => by cases hx), by omega, by omega⟩
  · have h1 := (lex_stand _ _ _ _ _ (Nat.le_refl _) h).1
    refine ⟨fun x hx => ?_, by omega, by omega⟩
    have h2 := (h1 x hx).hi
    rw [bs_length] at h2
    omega
def AllPost (w : World) (s : ByteArray) (e : Ending) (w' : World) : Prop :=
  Below w.heap.size w w' ∧ ∃ (l : List (Tk × Nat)) (g : Option Addr) (cap b c : Nat), e = .returned (.tuple #[.slice g l.length cap, .int .i64 (b : Nat), .int .i64 (c : Nat)]) ∧ toksIn w' w'.heap.size l (.slice g l.length cap) ∧ l.length ≤ s.size ∧ Res s l b c
theorem ref_says (s : ByteArray) (w : World) (hs : s.size ≤ 1000000) : Calls Tryd.prog 8 #[.string s] w fun e w' => AllPost w s e w' :=
  (dtokens_any s w hs).mono fun e w' h => by
    obtain ⟨hb, ⟨h1, rfl⟩ | ⟨h1, b, h2, rfl⟩ | ⟨h1, l, sv, h2, h3, rfl, h4⟩⟩ := h
    · exact ⟨hb, [], none, 0, 0, 3, rfl, ⟨none, 0, rfl, .inl rfl⟩, Nat.zero_le _, .inl ⟨h1, rfl, rfl, rfl⟩⟩
    · exact ⟨hb, [], none, 0, b, 2, rfl, ⟨none, 0, rfl, .inl rfl⟩, Nat.zero_le _, .inr (.inl ⟨h1, h2, rfl, rfl⟩)⟩
    · have h5 := toksIn_of_owns h4
      obtain ⟨g, cap, rfl, _⟩ := id h5
      exact ⟨hb, l, g, cap, 0, 0, rfl, h5, h3, .inr (.inr ⟨h1, h2, rfl, rfl⟩)⟩
theorem lex_says (HL : LexSays) (s : ByteArray) (w : World) (hr : Rng w) (hs : s.size ≤ 1000000) : Calls Tryd.prog 7 #[.string s] w fun e w' => AllPost w s e w' :=
  (HL s w hr hs).mono fun e w' h => by
    obtain ⟨hb, l, sv, b, c, rfl, ht, hl, _, h⟩ := h
    obtain ⟨g, cap, rfl, _⟩ := id ht
    exact ⟨hb, l, g, cap, b, c, rfl, ht, hl, h⟩
set_option maxRecDepth 100000 in
set_option maxHeartbeats 2000000 in
theorem lcuts_any (HL : LexSays) (s : ByteArray) (w : World) (hr : Rng w) :
    Calls Tryd.prog 3 #[.string s] w fun e w' => e = .returned (.bool true) ∧ Below w.heap.size w w' := by
  have HK := Lib.hid (fun u h => lknows_any HL u h)
  have HR := Lib.hid hr
  clear hr
  by_cases hz : 9000 < s.size
  · clear HL
    go_enter Tryd.func3, Tryd.ntmps3
    go_wp2_with (go_at_call 6; refine (HK.out _ HR.out).mono ?_; rintro e w1 ⟨rfl, hb1⟩; have HB1 := Lib.hid hb1; have HR := Lib.hid (HR.out.next hb1); clear hb1)
    go_ret
    exact ⟨rfl, HB1.out⟩
  have hz1 : s.size ≤ 9000 := by omega
  have H1 := Lib.hid (fun u h => lex_says HL s u h (by omega))
  have H2 := Lib.hid (fun u => ref_says s u (by omega))
  clear HL hz
  go_enter Tryd.func3, Tryd.ntmps3
  go_wp2_with (first
    | (go_at_call 7; refine (H1.out _ HR.out).mono ?_; rintro e w1 ⟨hb1, l, g1, c1, b, c, rfl, ht1, hl1, hr1⟩; have HT1 := Lib.hid ht1; have HB1 := Lib.hid hb1; have HR := Lib.hid (HR.out.next hb1); have HR1 := Lib.hid hr1; clear ht1 hb1 hr1)
    | (go_at_call 8; refine (H2.out _).mono ?_; rintro e w2 ⟨hb2, l2, g2, c2, b2, d2, rfl, ht2, hl2, hr2⟩; obtain ⟨rfl, rfl, rfl⟩ := res_fun HR1.out hr2; have HT2 := Lib.hid ht2; have HB2 := Lib.hid hb2; have HR := Lib.hid (HR.out.next hb2); have HR2 := Lib.hid (res_at hr2); clear ht2 hb2 hr2))
  refine (lsame_any l _ _ _ (toksIn_same HT1.out (Nat.le_trans (Nat.le_refl _) HB2.out.size) HB2.out) HT2.out (by omega) (fun x hx => Nat.le_trans (HR2.out.1 x hx) (by omega))).mono ?_
  rintro e w3 ⟨rfl, hb3⟩
  have HB3 := Lib.hid hb3
  have HR := Lib.hid (HR.out.next hb3)
  clear hb3
  have hb8 : b ≤ 9000 := by have := HR2.out.2.1; omega
  have hc8 : c ≤ 3 := HR2.out.2.2
  go_wp2_with (go_at_call 6; refine (HK.out _ HR.out).mono ?_; rintro e w4 ⟨rfl, hb4⟩; have HB4 := Lib.hid hb4; have HR := Lib.hid (HR.out.next hb4); clear hb4)
  go_ret
  exact ⟨rfl, ((HB1.out.trans (HB2.out.mono HB1.out.size)).trans (HB3.out.mono (by have := HB1.out.size; have := HB2.out.size; omega))).trans (HB4.out.mono (by have := HB1.out.size; have := HB2.out.size; have := HB3.out.size; omega))⟩
end Go.Proofs.YtlildhacfimaaaaDoor
