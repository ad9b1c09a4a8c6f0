/-
  What stands in a row of tokens that a text is divided into.
-/
import Derived.Test.YtilfglcjcmpfeaaGreatDoorCls
import Derived.Test.YtilfglcjcmpfeaaGreatDoorLxRes
namespace Go.Proofs.YtilfglcjcmpfeaaGreatDoor
open Go.RowKit

theorem Good.cons {S : List UInt8} {x : Tk × Nat} {r : Toks} (h : Fact S x r) (hr : Good S r) : Good S (x :: r) := fun u y q e => by
  cases u with
  | nil =>
    injection e with e1 e2
    subst e1 e2
    exact h
  | cons a u =>
    injection e with e1 e2
    exact hr u y q e2
theorem pref_text {tx : List UInt8} (h : prefP tx ≠ 0) : tx = [45] ∨ tx = [92, 43] := by
  unfold prefP at h
  by_cases h1 : tx = [45]
  · exact .inl h1
  · by_cases h2 : tx = [92, 43]
    · exact .inr h2
    · rw [if_neg h1, if_neg h2] at h
      exact absurd rfl h
/-- The first bytes of operators. -/
def opHd : List UInt8 := [58, 59, 45, 44, 61, 92, 64, 105, 60, 62, 43, 42, 47, 109]
def hdOk (tx : List UInt8) : Bool := match tx with | [] => false | c :: _ => opHd.contains c
theorem infx_hd {tx : List UInt8} (h : (infixP tx).1 ≠ 0) : hdOk tx = true := by
  unfold infixP at h
  by_cases h1 : tx = [58, 45]
  · subst h1; decide
  rw [if_neg h1] at h
  by_cases h1 : tx = [59]
  · subst h1; decide
  rw [if_neg h1] at h
  by_cases h1 : tx = [45, 62]
  · subst h1; decide
  rw [if_neg h1] at h
  by_cases h1 : tx = [44]
  · subst h1; decide
  rw [if_neg h1] at h
  by_cases h1 : tx ∈ ops7
  · exact (by decide : ∀ o ∈ ops7, hdOk o = true) tx h1
  rw [if_neg h1] at h
  by_cases h1 : tx ∈ ops5
  · exact (by decide : ∀ o ∈ ops5, hdOk o = true) tx h1
  rw [if_neg h1] at h
  by_cases h1 : tx ∈ ops4
  · exact (by decide : ∀ o ∈ ops4, hdOk o = true) tx h1
  rw [if_neg h1] at h
  exact absurd rfl h
theorem pref_hd {tx : List UInt8} (h : prefP tx ≠ 0) : tx = [45] ∨ tx = [92, 43] := pref_text h
/-- What a token is, by itself. -/
structure Face (c : UInt8) (r : List UInt8) (t : Tk) (k : Nat) : Prop where
  kind : 1 ≤ t.kind ∧ t.kind ≤ 5
  pref : prefP t.text ≠ 0 → t.kind = 1
  infx : (infixP t.text).1 ≠ 0 → t.kind = 1 ∨ (t.kind = 4 ∧ t.text = [44])
  opn : t.kind = 1 → t.opn = true → (r.drop (k - 1)).head? = some 40
  neg : t.text = [45] → c = 45 ∨ 2 ≤ k
  up : t.kind = 2 → t.text ≠ []
  len : t.text.length ≤ r.length + 21
  num : t.n ≤ 9223372036854775807
theorem name_face {kind : Nat} {text rest : List UInt8} {k k' : Nat} {t : Tk} (h : nameL kind text rest k = some (t, k')) : t = ⟨kind, text, 0, opens rest⟩ ∧ k' = k ∧ 1 ≤ text.length ∧ text.length ≤ 20 := by
  unfold nameL at h
  split at h
  · rename_i h1
    injection h with h
    injection h with h2 h3
    exact ⟨h2.symm, h3.symm, h1⟩
  · cases h
theorem opens_hd {l : List UInt8} (h : opens l = true) : l.head? = some 40 := by simpa [opens] using h
theorem hd_srt : ∀ c ∈ opHd, srt c ≠ 2 ∧ srt c ≠ 3 := by decide
theorem mark_hd : ∀ c ∈ ([40, 41, 91, 93, 124, 44] : List UInt8), c ∈ opHd → c = 44 := by decide
theorem srt45 : srt 45 = 4 := by decide
theorem srt92 : srt 92 = 4 := by decide
theorem hd_mem {c : UInt8} {r : List UInt8} (h : hdOk (c :: r) = true) : c ∈ opHd := by simpa [hdOk] using h
theorem drop_tw (p : UInt8 → Bool) : ∀ l : List UInt8, l.dropWhile p = l.drop (l.takeWhile p).length
  | [] => rfl
  | c :: r => by
    by_cases h : p c = true
    · simp [h, drop_tw p r]
    · simp [h]
theorem quo_pos : ∀ (n : Nat) (r tx : List UInt8) (k : Nat), r.length ≤ n → quoL r = some (tx, k) → 1 ≤ k := fun n r tx k hn h => ((quo_join [] n r tx k hn h).2).1
theorem tw_hd {p : UInt8 → Bool} {c : UInt8} {r : List UInt8} (h : p c = true) : (c :: r).takeWhile p = c :: r.takeWhile p := by simp [h]
theorem one_face {c : UInt8} {r : List UInt8} {t : Tk} {k : Nat} (h : oneL (c :: r) = some (t, k)) : Face c r t k := by
  unfold oneL at h
  dsimp only at h
  by_cases h12 : srt c = 1 ∨ srt c = 2
  · rw [if_pos h12] at h
    obtain ⟨rfl, rfl, h1, h2⟩ := name_face h
    have hw : isWord c = true := by
      unfold isWord
      rw [decide_eq_true_eq]
      omega
    have htw := tw_hd (r := r) hw
    have hrest : (c :: r).dropWhile isWord = r.drop (((c :: r).takeWhile isWord).length - 1) := by
      rw [drop_tw, htw]
      simp
    rw [hrest] at *
    refine ⟨by dsimp only; omega, fun hp => ?_, fun hi => ?_, fun _ ho => opens_hd ho, fun hn => ?_, fun _ hn => ?_, by dsimp only; omega, by show (0 : Nat) ≤ _; omega⟩
    · rcases pref_text hp with e | e
      · dsimp only at e
        rw [htw] at e
        injection e with e _
        subst e
        rw [srt45] at h12
        omega
      · dsimp only at e
        rw [htw] at e
        injection e with e _
        subst e
        rw [srt92] at h12
        omega
    · have h9 := infx_hd hi
      dsimp only at h9
      rw [htw] at h9
      have := hd_srt c (hd_mem h9)
      dsimp only
      omega
    · dsimp only at hn
      rw [htw] at hn
      injection hn with e _
      exact .inl e
    · dsimp only at hn
      rw [hn] at h1
      simp at h1
  rw [if_neg h12] at h
  by_cases h3 : srt c = 3
  · rw [if_pos h3] at h
    have hw : isDigit c = true := by unfold isDigit; rw [h3]; rfl
    have htw := tw_hd (r := r) hw
    cases hn : numL ((c :: r).takeWhile isDigit) with
    | none => rw [hn] at h; cases h
    | some n =>
      rw [hn] at h
      injection h with h
      injection h with h4 h5
      subst h4 h5
      have hle := tw_len (p := isDigit) (c :: r)
      refine ⟨by dsimp only; omega, fun hp => ?_, fun hi => ?_, fun hk => (by cases hk), fun e => ?_, fun hk => (by cases hk), ?_, ?_⟩
      · rcases pref_text hp with e | e
        · dsimp only at e
          rw [htw] at e
          injection e with e _
          subst e
          rw [srt45] at h3
          omega
        · dsimp only at e
          rw [htw] at e
          injection e with e _
          subst e
          rw [srt92] at h3
          omega
      · have h9 := infx_hd hi
        dsimp only at h9
        rw [htw] at h9
        exact absurd h3 (hd_srt c (hd_mem h9)).2
      · dsimp only at e
        rw [htw] at e
        injection e with e _
        exact .inl e
      · dsimp only
        simp only [List.length_cons] at hle
        omega
      · unfold numL at hn
        split at hn
        · cases hn
        · rename_i h6
          injection hn with hn
          dsimp only
          omega
  rw [if_neg h3] at h
  by_cases h39 : c = 39
  · rw [if_pos h39] at h
    cases hq : quoL r with
    | none => rw [hq] at h; cases h
    | some x =>
      obtain ⟨tx, q⟩ := x
      rw [hq] at h
      obtain ⟨rfl, rfl, h1, h2⟩ := name_face h
      have hq1 := quo_pos _ r tx q (Nat.le_refl _) hq
      exact ⟨by dsimp only; omega, fun _ => rfl, fun _ => .inl rfl, fun _ ho => by rw [Nat.add_sub_cancel]; exact opens_hd ho, fun _ => .inr (by omega), fun hk => (by cases hk), Nat.le_trans h2 (by omega), by show (0 : Nat) ≤ _; omega⟩
  rw [if_neg h39] at h
  by_cases hbr : c = 91 ∧ r.head? = some 93
  · rw [if_pos hbr] at h
    obtain ⟨rfl, rfl, h1, h2⟩ := name_face h
    exact ⟨by dsimp only; omega, fun _ => rfl, fun _ => .inl rfl, fun _ ho => opens_hd ho, fun hn => (by cases hn), fun hk => (by cases hk), Nat.le_trans h2 (by omega), by show (0 : Nat) ≤ _; omega⟩
  rw [if_neg hbr] at h
  by_cases hs : c = 33 ∨ c = 59
  · rw [if_pos hs] at h
    obtain ⟨rfl, rfl, h1, h2⟩ := name_face h
    exact ⟨by dsimp only; omega, fun _ => rfl, fun _ => .inl rfl, fun _ ho => opens_hd ho, fun hn => (by injection hn with e _; exact .inl e), fun hk => (by cases hk), Nat.le_trans h2 (by omega), by show (0 : Nat) ≤ _; omega⟩
  rw [if_neg hs] at h
  by_cases hm : c = 40 ∨ c = 41 ∨ c = 91 ∨ c = 93 ∨ c = 124 ∨ c = 44
  · rw [if_pos hm] at h
    injection h with h
    injection h with h4 h5
    subst h4 h5
    have hmem : c ∈ ([40, 41, 91, 93, 124, 44] : List UInt8) := by
      simp only [List.mem_cons, List.mem_nil_iff, or_false]
      exact hm
    refine ⟨by dsimp only; omega, fun hp => ?_, fun hi => .inr ⟨rfl, ?_⟩, fun hk => (by cases hk), fun hn => ?_, fun hk => (by cases hk), ?_, by show (0 : Nat) ≤ _; omega⟩
    · rcases pref_text hp with e | e
      · injection e with e _
        subst e
        exact absurd hmem (by decide)
      · injection e with _ e
        cases e
    · have := mark_hd c hmem (hd_mem (infx_hd hi))
      rw [this]
    · injection hn with e _
      exact .inl e
    · show 1 ≤ _
      omega
  rw [if_neg hm] at h
  split at h
  · injection h with h
    injection h with h4 h5
    subst h4 h5
    exact ⟨by decide, fun hp => absurd hp (by decide), fun hi => absurd hi (by decide), fun hk => (by cases hk), fun hn => (by cases hn), fun hk => (by cases hk), by show 1 ≤ _; omega, by show (0 : Nat) ≤ _; omega⟩
  · obtain ⟨rfl, rfl, h1, h2⟩ := name_face h
    have hrest : (c :: r).dropWhile isSign = r.drop (((c :: r).takeWhile isSign).length - 1) := by
      rw [drop_tw]
      obtain ⟨q, hq⟩ : ∃ q, ((c :: r).takeWhile isSign).length = q + 1 := ⟨_, (Nat.succ_pred_eq_of_pos (by omega)).symm⟩
      rw [hq]
      simp
    refine ⟨by dsimp only; omega, fun _ => rfl, fun _ => .inl rfl, fun _ ho => by rw [← hrest]; exact opens_hd ho, fun hn => ?_, fun hk => (by cases hk), Nat.le_trans h2 (by omega), by show (0 : Nat) ≤ _; omega⟩
    dsimp only at hn
    by_cases hw : isSign c = true
    · rw [tw_hd hw] at hn
      injection hn with e _
      exact .inl e
    · simp [hw] at hn
theorem lex_ge : ∀ (n : Nat) (l : List UInt8) (cm : Bool) (p : Nat) (ts : Toks), l.length ≤ n → lexL cm p l = .inr ts → ∀ x ∈ ts, p ≤ x.2 ∧ x.2 < p + l.length
  | _, [], cm, p, ts, _, h => by
    rw [lexL_nil] at h
    injection h with h
    subst h
    intro x hx
    cases hx
  | 0, _ :: _, _, _, _, hn, _ => by simp at hn
  | n + 1, c :: r, cm, p, ts, hn, h => by
    simp only [List.length_cons] at hn ⊢
    by_cases h1 : cm = true ∨ c = 37
    · rw [lexL_skip h1] at h
      intro x hx
      have := lex_ge n r _ _ ts (by omega) h x hx
      omega
    by_cases h5 : srt c = 5
    · rw [lexL_gap h1 h5] at h
      intro x hx
      have := lex_ge n r _ _ ts (by omega) h x hx
      omega
    cases ho : oneL (c :: r) with
    | none => rw [lexL_bad h1 h5 ho] at h; cases h
    | some y =>
      obtain ⟨t, k⟩ := y
      rw [lexL_tok h1 h5 ho] at h
      obtain ⟨q, h2, rfl⟩ := preL_inr h
      intro x hx
      have hk := (one_join [] ho).2
      simp only [List.length_cons] at hk
      rcases List.mem_append.1 hx with hx | hx
      · obtain rfl := List.mem_singleton.1 hx
        dsimp only
        omega
      · have := lex_ge n _ _ _ q (by simp; omega) h2 x hx
        simp only [List.length_drop] at this
        omega
theorem lex_see {p : Nat} {l : List UInt8} {ts : Toks} (h : lexL false p l = .inr ts) (hh : l.head? = some 40) : seeT 40 ts = true := by
  cases l with
  | nil => cases hh
  | cons c r =>
    injection hh with hh
    subst hh
    have ho : oneL (40 :: r) = some (⟨4, [40], 0, false⟩, 1) := rfl
    rw [lexL_tok (by decide) (by decide) ho] at h
    obtain ⟨q, h2, rfl⟩ := preL_inr h
    rfl
theorem lex_good {S : List UInt8} (hS : S.length ≤ 8000) : ∀ (n : Nat) (l : List UInt8) (cm : Bool) (p : Nat) (ts : Toks), l.length ≤ n → S.drop p = l → lexL cm p l = .inr ts → Good S ts
  | _, [], cm, p, ts, _, _, h => by
    rw [lexL_nil] at h
    injection h with h
    subst h
    intro u x r e
    cases u <;> cases e
  | 0, _ :: _, _, _, _, hn, _, _ => by simp at hn
  | n + 1, c :: r, cm, p, ts, hn, hl, h => by
    simp only [List.length_cons] at hn
    have hr : S.drop (p + 1) = r := by rw [← List.drop_drop, hl]; rfl
    by_cases h1 : cm = true ∨ c = 37
    · rw [lexL_skip h1] at h
      exact lex_good hS n r _ _ ts (by omega) hr h
    by_cases h5 : srt c = 5
    · rw [lexL_gap h1 h5] at h
      exact lex_good hS n r _ _ ts (by omega) hr h
    cases ho : oneL (c :: r) with
    | none => rw [lexL_bad h1 h5 ho] at h; cases h
    | some y =>
      obtain ⟨t, k⟩ := y
      rw [lexL_tok h1 h5 ho] at h
      obtain ⟨q, h2, rfl⟩ := preL_inr h
      have hf := one_face ho
      have hk := (one_join [] ho).2
      simp only [List.length_cons] at hk
      have hSl : (S.drop p).length = r.length + 1 := by rw [hl]; rfl
      rw [List.length_drop] at hSl
      have hc : S[p]? = some c := by
        have : (S.drop p)[0]? = some c := by rw [hl]; rfl
        simpa using this
      refine Good.cons ⟨hf.kind, hf.pref, hf.infx, fun h1 h2' => lex_see h2 (hf.opn h1 h2'), fun h1 h3 => ?_, hf.up, ?_, hf.num, ?_⟩ (lex_good hS n _ _ _ q (by simp; omega) ?_ h2)
      · rcases hf.neg h1 with e | e
        · rw [← e]; exact hc
        · cases q with
          | nil => cases h3
          | cons z q =>
            have h3 : decide (z.1.kind = 3 ∧ z.2 = p + 1) = true := h3
            rw [decide_eq_true_eq] at h3
            have := (lex_ge _ _ _ _ _ (Nat.le_refl _) h2 z (List.mem_cons_self ..)).1
            have h4 := h3.2
            omega
      · have := hf.len
        dsimp only
        omega
      · dsimp only
        omega
      · rw [← hr, List.drop_drop]
        congr 1
        omega
theorem good_of {s : ByteArray} {ts : Toks} (h : lexL false 0 (bs s) = .inr ts) (hs : s.size ≤ 8000) : Good (bs s) ts :=
  lex_good (by rw [bs_length]; exact hs) _ _ _ _ ts (Nat.le_refl _) rfl h
theorem small_of {s : ByteArray} {ts : Toks} (h : lexL false 0 (bs s) = .inr ts) (hs : s.size ≤ 8000) : Small s ts := by
  have hg := good_of h hs
  have hl := lex_len _ _ _ _ ts (Nat.le_refl _) h
  rw [bs_length] at hl
  refine ⟨by omega, by omega, fun x hx => ?_⟩
  obtain ⟨u, r, e⟩ := List.append_of_mem hx
  have f := hg u x r e
  have g := (lex_ge _ _ _ _ ts (Nat.le_refl _) h x hx).2
  rw [bs_length] at g
  exact ⟨f.len, f.num, by omega, f.kind.2⟩
end Go.Proofs.YtilfglcjcmpfeaaGreatDoor
