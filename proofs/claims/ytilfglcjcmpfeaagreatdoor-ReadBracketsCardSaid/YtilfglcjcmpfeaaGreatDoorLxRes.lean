/-
  What the program's Tokens is to say; what the document's says; what texts' tokens are.
-/
import Derived.Test.YtilfglcjcmpfeaaGreatDoorTkIn
import Derived.Test.YtilfglcjcmpfeaaGreatDoorRng
namespace Go.Proofs.YtilfglcjcmpfeaaGreatDoor
open Go.RowKit

def LexPost (w : World) (s : ByteArray) (e : Ending) (w' : World) : Prop :=
  Below w.heap.size w w' ∧ ∃ (l : List (Tk × Nat)) (sv : Value) (b c : Nat), e = .returned (.tuple #[sv, .int .i64 (b : Nat), .int .i64 (c : Nat)]) ∧ toksIn w' w'.heap.size l sv ∧ l.length ≤ s.size ∧ b ≤ s.size ∧
    ((8000 < s.size ∧ l = [] ∧ b = 0 ∧ c = 3) ∨ (s.size ≤ 8000 ∧ lexL false 0 (bs s) = .inl b ∧ l = [] ∧ c = 2) ∨ (s.size ≤ 8000 ∧ lexL false 0 (bs s) = .inr l ∧ b = 0 ∧ c = 0))
def LexSays : Prop := ∀ (s : ByteArray) (w : World), Rng w → s.size ≤ 1000000 → Calls Tryz.prog 15 #[.string s] w fun e w' => LexPost w s e w'
theorem lex_bad_at : ∀ (n : Nat) (l : List UInt8) (cm : Bool) (at' b : Nat), l.length ≤ n → lexL cm at' l = .inl b → at' ≤ b ∧ b < at' + l.length
  | _, [], cm, at', b, _, h => by rw [lexL_nil] at h; cases h
  | 0, _ :: _, _, _, _, hn, _ => by simp at hn
  | n + 1, c :: r, cm, at', b, hn, h => by
    simp only [List.length_cons] at hn ⊢
    by_cases h1 : cm = true ∨ c = 37
    · rw [lexL_skip h1] at h
      have := lex_bad_at n r _ _ b (by omega) h
      omega
    by_cases h5 : srt c = 5
    · rw [lexL_gap h1 h5] at h
      have := lex_bad_at n r _ _ b (by omega) h
      omega
    cases ho : oneL (c :: r) with
    | none =>
      rw [lexL_bad h1 h5 ho] at h
      injection h with h
      omega
    | some x =>
      obtain ⟨t, k⟩ := x
      have hk := (one_join [] ho).2
      simp only [List.length_cons] at hk
      rw [lexL_tok h1 h5 ho] at h
      cases hq : lexL false (at' + k) (r.drop (k - 1)) with
      | inl b' =>
        rw [hq] at h
        injection h with h
        subst h
        have := lex_bad_at n _ _ _ b' (by simp; omega) hq
        simp only [List.length_drop] at this
        omega
      | inr q => rw [hq] at h; cases h
/-- What Tokens answers. -/
def Res (s : ByteArray) (l : List (Tk × Nat)) (b c : Nat) : Prop := (8000 < s.size ∧ l = [] ∧ b = 0 ∧ c = 3) ∨ (s.size ≤ 8000 ∧ lexL false 0 (bs s) = .inl b ∧ l = [] ∧ c = 2) ∨ (s.size ≤ 8000 ∧ lexL false 0 (bs s) = .inr l ∧ b = 0 ∧ c = 0)
theorem res_fun {s : ByteArray} {l l' : List (Tk × Nat)} {b c b' c' : Nat} (h : Res s l b c) (h' : Res s l' b' c') : l = l' ∧ b = b' ∧ c = c' := by
  rcases h with ⟨h1, rfl, rfl, rfl⟩ | ⟨h1, h2, rfl, rfl⟩ | ⟨h1, h2, rfl, rfl⟩
  · rcases h' with ⟨h3, rfl, rfl, rfl⟩ | ⟨h3, h4, rfl, rfl⟩ | ⟨h3, h4, rfl, rfl⟩
    · exact ⟨rfl, rfl, rfl⟩
    · omega
    · omega
  · rcases h' with ⟨h3, rfl, rfl, rfl⟩ | ⟨h3, h4, rfl, rfl⟩ | ⟨h3, h4, rfl, rfl⟩
    · omega
    · rw [h2] at h4; injection h4 with h4; exact ⟨rfl, h4, rfl⟩
    · rw [h2] at h4; cases h4
  · rcases h' with ⟨h3, rfl, rfl, rfl⟩ | ⟨h3, h4, rfl, rfl⟩ | ⟨h3, h4, rfl, rfl⟩
    · omega
    · rw [h2] at h4; cases h4
    · rw [h2] at h4; injection h4 with h4; exact ⟨h4, rfl, rfl⟩
theorem res_at {s : ByteArray} {l : List (Tk × Nat)} {b c : Nat} (h : Res s l b c) : (∀ x ∈ l, x.2 ≤ s.size) ∧ b ≤ s.size ∧ c ≤ 3 := by
  rcases h with ⟨_, rfl, rfl, rfl⟩ | ⟨_, h, rfl, rfl⟩ | ⟨_, h, rfl, rfl⟩
  · exact ⟨(fun x hx => by cases hx), by omega, by omega⟩
  · have := lex_bad_at _ _ _ _ _ (Nat.le_refl _) h
    rw [bs_length] at this
    exact ⟨(fun x hx => by cases hx), by omega, by omega⟩
  · have h1 := (lex_stand _ _ _ _ _ (Nat.le_refl _) h).1
    refine ⟨fun x hx => ?_, by omega, by omega⟩
    have h2 := (h1 x hx).hi
    rw [bs_length] at h2
    omega
def AllPost (w : World) (s : ByteArray) (e : Ending) (w' : World) : Prop :=
  Below w.heap.size w w' ∧ ∃ (l : List (Tk × Nat)) (g : Option Addr) (cap b c : Nat), e = .returned (.tuple #[.slice g l.length cap, .int .i64 (b : Nat), .int .i64 (c : Nat)]) ∧ toksIn w' w'.heap.size l (.slice g l.length cap) ∧ l.length ≤ s.size ∧ Res s l b c
theorem ref_says (s : ByteArray) (w : World) (hs : s.size ≤ 1000000) : Calls Tryz.prog 19 #[.string s] w fun e w' => AllPost w s e w' :=
  (dtokens_any s w hs).mono fun e w' h => by
    obtain ⟨hb, ⟨h1, rfl⟩ | ⟨h1, b, h2, rfl⟩ | ⟨h1, l, sv, h2, h3, rfl, h4⟩⟩ := h
    · exact ⟨hb, [], none, 0, 0, 3, rfl, ⟨none, 0, rfl, .inl rfl⟩, Nat.zero_le _, .inl ⟨h1, rfl, rfl, rfl⟩⟩
    · exact ⟨hb, [], none, 0, b, 2, rfl, ⟨none, 0, rfl, .inl rfl⟩, Nat.zero_le _, .inr (.inl ⟨h1, h2, rfl, rfl⟩)⟩
    · have h5 := toksIn_of_owns h4
      obtain ⟨g, cap, rfl, _⟩ := id h5
      exact ⟨hb, l, g, cap, 0, 0, rfl, h5, h3, .inr (.inr ⟨h1, h2, rfl, rfl⟩)⟩
theorem lex_says (HL : LexSays) (s : ByteArray) (w : World) (hr : Rng w) (hs : s.size ≤ 1000000) : Calls Tryz.prog 15 #[.string s] w fun e w' => AllPost w s e w' :=
  (HL s w hr hs).mono fun e w' h => by
    obtain ⟨hb, l, sv, b, c, rfl, ht, hl, _, h⟩ := h
    obtain ⟨g, cap, rfl, _⟩ := id ht
    exact ⟨hb, l, g, cap, b, c, rfl, ht, hl, h⟩
theorem lex_ok (HL : LexSays) (s : ByteArray) (w : World) (hr0 : Rng w) (hs : s.size ≤ 8000) {l : List (Tk × Nat)} (h : lexL false 0 (bs s) = .inr l) : Calls Tryz.prog 15 #[.string s] w fun e w' => Below w.heap.size w w' ∧ ∃ g cap, e = .returned (.tuple #[.slice g l.length cap, .int .i64 0, .int .i64 0]) ∧ toksIn w' w'.heap.size l (.slice g l.length cap) :=
  (lex_says HL s w hr0 (by omega)).mono fun e w' h' => by
    obtain ⟨hb, l', g, cap, b, c, rfl, ht, _, hr⟩ := h'
    obtain ⟨rfl, rfl, rfl⟩ := res_fun (.inr (.inr ⟨hs, h, rfl, rfl⟩)) hr
    exact ⟨hb, g, cap, rfl, ht⟩
theorem lex_no (HL : LexSays) (s : ByteArray) (w : World) (hr0 : Rng w) (hs : s.size ≤ 8000) {b : Nat} (h : lexL false 0 (bs s) = .inl b) : Calls Tryz.prog 15 #[.string s] w fun e w' => Below w.heap.size w w' ∧ ∃ g cap, e = .returned (.tuple #[.slice g 0 cap, .int .i64 (b : Nat), .int .i64 2]) :=
  (lex_says HL s w hr0 (by omega)).mono fun e w' h' => by
    obtain ⟨hb, l', g, cap, b', c, rfl, ht, _, hr⟩ := h'
    obtain ⟨rfl, rfl, rfl⟩ := res_fun (.inr (.inl ⟨hs, h, rfl, rfl⟩)) hr
    exact ⟨hb, g, cap, rfl⟩
theorem lex_any (HL : LexSays) (s : ByteArray) (w : World) (hr0 : Rng w) (hs : s.size ≤ 8000) : Calls Tryz.prog 15 #[.string s] w fun e w' => Below w.heap.size w w' ∧ ∃ g n cap b c, e = .returned (.tuple #[.slice g n cap, .int .i64 b, .int .i64 c]) :=
  (lex_says HL s w hr0 (by omega)).mono fun e w' h' => by
    obtain ⟨hb, l', g, cap, b', c, rfl, ht, _, hr⟩ := h'
    exact ⟨hb, g, _, cap, _, _, rfl⟩
theorem join_lex (a b : ByteArray) {la : List (Tk × Nat)} (h : lexL false 0 (bs a) = .inr la) : lexL false 0 (bs (a ++ ⟨#[10]⟩ ++ b)) = preL la (shL (a.size + 1) (lexL false 0 (bs b))) := by
  have e : bs (a ++ ⟨#[10]⟩ ++ b) = bs a ++ 10 :: bs b := by rw [bs_append, bs_append]; simp [bs]
  rw [e, lex_join (bs b) _ (bs a) false 0 la (Nat.le_refl _) h, bs_length]
  have := lex_shift (a.size + 1) _ (bs b) false 0 (Nat.le_refl _)
  rw [Nat.zero_add] at this
  rw [Nat.zero_add, this]
theorem lex_len : ∀ (n : Nat) (l : List UInt8) (cm : Bool) (at' : Nat) (ts : List (Tk × Nat)), l.length ≤ n → lexL cm at' l = .inr ts → ts.length ≤ l.length
  | _, [], cm, at', ts, _, h => by
    rw [lexL_nil] at h
    injection h with h
    subst h
    exact Nat.le_refl _
  | 0, _ :: _, _, _, _, hn, _ => by simp at hn
  | n + 1, c :: r, cm, at', ts, hn, h => by
    simp only [List.length_cons] at hn ⊢
    by_cases h1 : cm = true ∨ c = 37
    · rw [lexL_skip h1] at h
      have := lex_len n r _ _ ts (by omega) h
      omega
    by_cases h5 : srt c = 5
    · rw [lexL_gap h1 h5] at h
      have := lex_len n r _ _ ts (by omega) h
      omega
    cases ho : oneL (c :: r) with
    | none => rw [lexL_bad h1 h5 ho] at h; cases h
    | some x =>
      obtain ⟨t, k⟩ := x
      rw [lexL_tok h1 h5 ho] at h
      obtain ⟨q, h2, rfl⟩ := preL_inr h
      have := lex_len n _ _ _ q (by simp; omega) h2
      simp only [List.length_drop] at this
      simp only [List.length_append, List.length_cons, List.length_nil]
      omega
theorem join_size (a b : ByteArray) (h1 : a.size ≤ 3000) (h2 : b.size ≤ 3000) : (a ++ ⟨#[10]⟩ ++ b).size ≤ 8000 := by
  rw [ByteArray.size_append, ByteArray.size_append]
  have : (⟨#[10]⟩ : ByteArray).size = 1 := rfl
  omega
end Go.Proofs.YtilfglcjcmpfeaaGreatDoor
