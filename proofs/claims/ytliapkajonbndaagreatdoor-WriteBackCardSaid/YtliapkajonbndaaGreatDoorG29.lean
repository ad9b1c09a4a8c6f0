/-
  What stands in a row of tokens that a text is divided into.
  Two texts with a line feed between, purely.
  The next token, between two clauses.
-/
import Derived.Test.YtliapkajonbndaaGreatDoorG24
import Derived.Test.YtliapkajonbndaaGreatDoorG28
import Derived.Test.YtliapkajonbndaaGreatDoorPrM
namespace Go.Proofs.YtliapkajonbndaaGreatDoor
open Go.RowKit

theorem Good.cons {S : List UInt8} {x : Tk × Nat} {r : Toks} (h : Fact S x r) (hr : Good S r) : Good S (x :: r) := fun u y q e => by
  cases u with
  | nil =>
    injection e with e1 e2
    subst e1 e2
    exact h
  | cons a u =>
    injection e with e1 e2
    exact hr u y q e2
theorem pref_text {tx : List UInt8} (h : prefP tx ≠ 0) : tx = [45] ∨ tx = [92, 43] := by
  unfold prefP at h
  by_cases h1 : tx = [45]
  · exact .inl h1
  · by_cases h2 : tx = [92, 43]
    · exact .inr h2
    · rw [if_neg h1, if_neg h2] at h
      exact absurd rfl h
/-- The first bytes of operators. -/
def opHd : List UInt8 := [58, 59, 45, 44, 61, 92, 64, 105, 60, 62, 43, 42, 47, 109]
def hdOk (tx : List UInt8) : Bool := match tx with | [] => false | c :: _ => opHd.contains c
theorem infx_hd {tx : List UInt8} (h : (infixP tx).1 ≠ 0) : hdOk tx = true := by
  unfold infixP at h
  by_cases h1 : tx = [58, 45]
  · subst h1; decide
  rw [if_neg h1] at h
  by_cases h1 : tx = [59]
  · subst h1; decide
  rw [if_neg h1] at h
  by_cases h1 : tx = [45, 62]
  · subst h1; decide
  rw [if_neg h1] at h
  by_cases h1 : tx = [44]
  · subst h1; decide
  rw [if_neg h1] at h
  by_cases h1 : tx ∈ ops7
  · exact (by decide : ∀ o ∈ ops7, hdOk o = true) tx h1
  rw [if_neg h1] at h
  by_cases h1 : tx ∈ ops5
  · exact (by decide : ∀ o ∈ ops5, hdOk o = true) tx h1
  rw [if_neg h1] at h
  by_cases h1 : tx ∈ ops4
  · exact (by decide : ∀ o ∈ ops4, hdOk o = true) tx h1
  rw [if_neg h1] at h
  exact absurd rfl h
theorem pref_hd {tx : List UInt8} (h : prefP tx ≠ 0) : tx = [45] ∨ tx = [92, 43] := pref_text h
/-- What a token is, by itself. -/
structure Face (c : UInt8) (r : List UInt8) (t : Tk) (k : Nat) : Prop where
  kind : 1 ≤ t.kind ∧ t.kind ≤ 5
  pref : prefP t.text ≠ 0 → t.kind = 1
  infx : (infixP t.text).1 ≠ 0 → t.kind = 1 ∨ (t.kind = 4 ∧ t.text = [44])
  opn : t.kind = 1 → t.opn = true → (r.drop (k - 1)).head? = some 40
  neg : t.text = [45] → c = 45 ∨ 2 ≤ k
  up : t.kind = 2 → t.text ≠ []
  len : t.text.length ≤ r.length + 21
  num : t.n ≤ 9223372036854775807
theorem name_face {kind : Nat} {text rest : List UInt8} {k k' : Nat} {t : Tk} (h : nameL kind text rest k = some (t, k')) : t = ⟨kind, text, 0, opens rest⟩ ∧ k' = k ∧ 1 ≤ text.length ∧ text.length ≤ 20 := by
  unfold nameL at h
  split at h
  · rename_i h1
    injection h with h
    injection h with h2 h3
    exact ⟨h2.symm, h3.symm, h1⟩
  · cases h
theorem opens_hd {l : List UInt8} (h : opens l = true) : l.head? = some 40 := by simpa [opens] using h
theorem hd_srt : ∀ c ∈ opHd, srt c ≠ 2 ∧ srt c ≠ 3 := by decide
theorem mark_hd : ∀ c ∈ ([40, 41, 91, 93, 124, 44] : List UInt8), c ∈ opHd → c = 44 := by decide
theorem srt45 : srt 45 = 4 := by decide
theorem srt92 : srt 92 = 4 := by decide
theorem hd_mem {c : UInt8} {r : List UInt8} (h : hdOk (c :: r) = true) : c ∈ opHd := by simpa [hdOk] using h
theorem drop_tw (p : UInt8 → Bool) : ∀ l : List UInt8, l.dropWhile p = l.drop (l.takeWhile p).length
  | [] => rfl
  | c :: r => by
    by_cases h : p c = true
    · simp [h, drop_tw p r]
    · simp [h]
theorem quo_pos : ∀ (n : Nat) (r tx : List UInt8) (k : Nat), r.length ≤ n → quoL r = some (tx, k) → 1 ≤ k := fun n r tx k hn h => ((quo_join [] n r tx k hn h).2).1
theorem tw_hd {p : UInt8 → Bool} {c : UInt8} {r : List UInt8} (h : p c = true) : (c :: r).takeWhile p = c :: r.takeWhile p := by simp [h]
theorem one_face {c : UInt8} {r : List UInt8} {t : Tk} {k : Nat} (h : oneL (c :: r) = some (t, k)) : Face c r t k := by
  unfold oneL at h
  dsimp only at h
  by_cases h12 : srt c = 1 ∨ srt c = 2
  · rw [if_pos h12] at h
    obtain ⟨rfl, rfl, h1, h2⟩ := name_face h
    have hw : isWord c = true := by
      unfold isWord
      rw [decide_eq_true_eq]
      omega
    have htw := tw_hd (r := r) hw
    have hrest : (c :: r).dropWhile isWord = r.drop (((c :: r).takeWhile isWord).length - 1) := by
      rw [drop_tw, htw]
      simp
    rw [hrest] at *
    refine ⟨by dsimp only; omega, fun hp => ?_, fun hi => ?_, fun _ ho => opens_hd ho, fun hn => ?_, fun _ hn => ?_, by dsimp only; omega, by show (0 : Nat) ≤ _; omega⟩
    · rcases pref_text hp with e | e
      · dsimp only at e
        rw [htw] at e
        injection e with e _
        subst e
        rw [srt45] at h12
        omega
      · dsimp only at e
        rw [htw] at e
        injection e with e _
        subst e
        rw [srt92] at h12
        omega
    · have h9 := infx_hd hi
      dsimp only at h9
      rw [htw] at h9
      have := hd_srt c (hd_mem h9)
      dsimp only
      omega
    · dsimp only at hn
      rw [htw] at hn
      injection hn with e _
      exact .inl e
    · dsimp only at hn
      rw [hn] at h1
      simp at h1
  rw [if_neg h12] at h
  by_cases h3 : srt c = 3
  · rw [if_pos h3] at h
    have hw : isDigit c = true := by unfold isDigit; rw [h3]; rfl
    have htw := tw_hd (r := r) hw
    cases hn : numL ((c :: r).takeWhile isDigit) with
    | none => rw [hn] at h; cases h
    | some n =>
      rw [hn] at h
      injection h with h
      injection h with h4 h5
      subst h4 h5
      have hle := tw_len (p := isDigit) (c :: r)
      refine ⟨by dsimp only; omega, fun hp => ?_, fun hi => ?_, fun hk => (by cases hk), fun e => ?_, fun hk => (by cases hk), ?_, ?_⟩
      · rcases pref_text hp with e | e
        · dsimp only at e
          rw [htw] at e
          injection e with e _
          subst e
          rw [srt45] at h3
          omega
        · dsimp only at e
          rw [htw] at e
          injection e with e _
          subst e
          rw [srt92] at h3
          omega
      · have h9 := infx_hd hi
        dsimp only at h9
        rw [htw] at h9
        exact absurd h3 (hd_srt c (hd_mem h9)).2
      · dsimp only at e
        rw [htw] at e
        injection e with e _
        exact .inl e
      · dsimp only
        simp only [List.length_cons] at hle
        omega
      · unfold numL at hn
        split at hn
        · cases hn
        · rename_i h6
          injection hn with hn
          dsimp only
          omega
  rw [if_neg h3] at h
  by_cases h39 : c = 39
  · rw [if_pos h39] at h
    cases hq : quoL r with
    | none => rw [hq] at h; cases h
    | some x =>
      obtain ⟨tx, q⟩ := x
      rw [hq] at h
      obtain ⟨rfl, rfl, h1, h2⟩ := name_face h
      have hq1 := quo_pos _ r tx q (Nat.le_refl _) hq
      exact ⟨by dsimp only; omega, fun _ => rfl, fun _ => .inl rfl, fun _ ho => by rw [Nat.add_sub_cancel]; exact opens_hd ho, fun _ => .inr (by omega), fun hk => (by cases hk), Nat.le_trans h2 (by omega), by show (0 : Nat) ≤ _; omega⟩
  rw [if_neg h39] at h
  by_cases hbr : c = 91 ∧ r.head? = some 93
  · rw [if_pos hbr] at h
    obtain ⟨rfl, rfl, h1, h2⟩ := name_face h
    exact ⟨by dsimp only; omega, fun _ => rfl, fun _ => .inl rfl, fun _ ho => opens_hd ho, fun hn => (by cases hn), fun hk => (by cases hk), Nat.le_trans h2 (by omega), by show (0 : Nat) ≤ _; omega⟩
  rw [if_neg hbr] at h
  by_cases hs : c = 33 ∨ c = 59
  · rw [if_pos hs] at h
    obtain ⟨rfl, rfl, h1, h2⟩ := name_face h
    exact ⟨by dsimp only; omega, fun _ => rfl, fun _ => .inl rfl, fun _ ho => opens_hd ho, fun hn => (by injection hn with e _; exact .inl e), fun hk => (by cases hk), Nat.le_trans h2 (by omega), by show (0 : Nat) ≤ _; omega⟩
  rw [if_neg hs] at h
  by_cases hm : c = 40 ∨ c = 41 ∨ c = 91 ∨ c = 93 ∨ c = 124 ∨ c = 44
  · rw [if_pos hm] at h
    injection h with h
    injection h with h4 h5
    subst h4 h5
    have hmem : c ∈ ([40, 41, 91, 93, 124, 44] : List UInt8) := by
      simp only [List.mem_cons, List.mem_nil_iff, or_false]
      exact hm
    refine ⟨by dsimp only; omega, fun hp => ?_, fun hi => .inr ⟨rfl, ?_⟩, fun hk => (by cases hk), fun hn => ?_, fun hk => (by cases hk), ?_, by show (0 : Nat) ≤ _; omega⟩
    · rcases pref_text hp with e | e
      · injection e with e _
        subst e
        exact absurd hmem (by decide)
      · injection e with _ e
        cases e
    · have := mark_hd c hmem (hd_mem (infx_hd hi))
      rw [this]
    · injection hn with e _
      exact .inl e
    · show 1 ≤ _
      omega
  rw [if_neg hm] at h
  split at h
  · injection h with h
    injection h with h4 h5
    subst h4 h5
    exact ⟨by decide, fun hp => absurd hp (by decide), fun hi => absurd hi (by decide), fun hk => (by cases hk), fun hn => (by cases hn), fun hk => (by cases hk), by show 1 ≤ _; omega, by show (0 : Nat) ≤ _; omega⟩
  · obtain ⟨rfl, rfl, h1, h2⟩ := name_face h
    have hrest : (c :: r).dropWhile isSign = r.drop (((c :: r).takeWhile isSign).length - 1) := by
      rw [drop_tw]
      obtain ⟨q, hq⟩ : ∃ q, ((c :: r).takeWhile isSign).length = q + 1 := ⟨_, (Nat.succ_pred_eq_of_pos (by omega)).symm⟩
      rw [hq]
      simp
    refine ⟨by dsimp only; omega, fun _ => rfl, fun _ => .inl rfl, fun _ ho => by rw [← hrest]; exact opens_hd ho, fun hn => ?_, fun hk => (by cases hk), Nat.le_trans h2 (by omega), by show (0 : Nat) ≤ _; omega⟩
    dsimp only at hn
    by_cases hw : isSign c = true
    · rw [tw_hd hw] at hn
      injection hn with e _
      exact .inl e
    · simp [hw] at hn
theorem lex_ge : ∀ (n : Nat) (l : List UInt8) (cm : Bool) (p : Nat) (ts : Toks), l.length ≤ n → lexL cm p l = .inr ts → ∀ x ∈ ts, p ≤ x.2 ∧ x.2 < p + l.length
  | _, [], cm, p, ts, _, h => by
    rw [lexL_nil] at h
    injection h with h
    subst h
    intro x hx
    cases hx
  | 0, _ :: _, _, _, _, hn, _ => by simp at hn
  | n + 1, c :: r, cm, p, ts, hn, h => by
    simp only [List.length_cons] at hn ⊢
    by_cases h1 : cm = true ∨ c = 37
    · rw [lexL_skip h1] at h
      intro x hx
      have := lex_ge n r _ _ ts (by omega) h x hx
      omega
    by_cases h5 : srt c = 5
    · rw [lexL_gap h1 h5] at h
      intro x hx
      have := lex_ge n r _ _ ts (by omega) h x hx
      omega
    cases ho : oneL (c :: r) with
    | none => rw [lexL_bad h1 h5 ho] at h; cases h
    | some y =>
      obtain ⟨t, k⟩ := y
      rw [lexL_tok h1 h5 ho] at h
      obtain ⟨q, h2, rfl⟩ := preL_inr h
      intro x hx
      have hk := (one_join [] ho).2
      simp only [List.length_cons] at hk
      rcases List.mem_append.1 hx with hx | hx
      · obtain rfl := List.mem_singleton.1 hx
        dsimp only
        omega
      · have := lex_ge n _ _ _ q (by simp; omega) h2 x hx
        simp only [List.length_drop] at this
        omega
theorem lex_see {p : Nat} {l : List UInt8} {ts : Toks} (h : lexL false p l = .inr ts) (hh : l.head? = some 40) : seeT 40 ts = true := by
  cases l with
  | nil => cases hh
  | cons c r =>
    injection hh with hh
    subst hh
    have ho : oneL (40 :: r) = some (⟨4, [40], 0, false⟩, 1) := rfl
    rw [lexL_tok (by decide) (by decide) ho] at h
    obtain ⟨q, h2, rfl⟩ := preL_inr h
    rfl
theorem lex_good {S : List UInt8} (hS : S.length ≤ 8000) : ∀ (n : Nat) (l : List UInt8) (cm : Bool) (p : Nat) (ts : Toks), l.length ≤ n → S.drop p = l → lexL cm p l = .inr ts → Good S ts
  | _, [], cm, p, ts, _, _, h => by
    rw [lexL_nil] at h
    injection h with h
    subst h
    intro u x r e
    cases u <;> cases e
  | 0, _ :: _, _, _, _, hn, _, _ => by simp at hn
  | n + 1, c :: r, cm, p, ts, hn, hl, h => by
    simp only [List.length_cons] at hn
    have hr : S.drop (p + 1) = r := by rw [← List.drop_drop, hl]; rfl
    by_cases h1 : cm = true ∨ c = 37
    · rw [lexL_skip h1] at h
      exact lex_good hS n r _ _ ts (by omega) hr h
    by_cases h5 : srt c = 5
    · rw [lexL_gap h1 h5] at h
      exact lex_good hS n r _ _ ts (by omega) hr h
    cases ho : oneL (c :: r) with
    | none => rw [lexL_bad h1 h5 ho] at h; cases h
    | some y =>
      obtain ⟨t, k⟩ := y
      rw [lexL_tok h1 h5 ho] at h
      obtain ⟨q, h2, rfl⟩ := preL_inr h
      have hf := one_face ho
      have hk := (one_join [] ho).2
      simp only [List.length_cons] at hk
      have hSl : (S.drop p).length = r.length + 1 := by rw [hl]; rfl
      rw [List.length_drop] at hSl
      have hc : S[p]? = some c := by
        have : (S.drop p)[0]? = some c := by rw [hl]; rfl
        simpa using this
      refine Good.cons ⟨hf.kind, hf.pref, hf.infx, fun h1 h2' => lex_see h2 (hf.opn h1 h2'), fun h1 h3 => ?_, hf.up, ?_, hf.num, ?_⟩ (lex_good hS n _ _ _ q (by simp; omega) ?_ h2)
      · rcases hf.neg h1 with e | e
        · rw [← e]; exact hc
        · cases q with
          | nil => cases h3
          | cons z q =>
            have h3 : decide (z.1.kind = 3 ∧ z.2 = p + 1) = true := h3
            rw [decide_eq_true_eq] at h3
            have := (lex_ge _ _ _ _ _ (Nat.le_refl _) h2 z (List.mem_cons_self ..)).1
            have h4 := h3.2
            omega
      · have := hf.len
        dsimp only
        omega
      · dsimp only
        omega
      · rw [← hr, List.drop_drop]
        congr 1
        omega
theorem good_of {s : ByteArray} {ts : Toks} (h : lexL false 0 (bs s) = .inr ts) (hs : s.size ≤ 8000) : Good (bs s) ts :=
  lex_good (by rw [bs_length]; exact hs) _ _ _ _ ts (Nat.le_refl _) rfl h
theorem small_of {s : ByteArray} {ts : Toks} (h : lexL false 0 (bs s) = .inr ts) (hs : s.size ≤ 8000) : Small s ts := by
  have hg := good_of h hs
  have hl := lex_len _ _ _ _ ts (Nat.le_refl _) h
  rw [bs_length] at hl
  refine ⟨by omega, by omega, fun x hx => ?_⟩
  obtain ⟨u, r, e⟩ := List.append_of_mem hx
  have f := hg u x r e
  have g := (lex_ge _ _ _ _ ts (Nat.le_refl _) h x hx).2
  rw [bs_length] at g
  exact ⟨f.len, f.num, by omega, f.kind.2⟩
end Go.Proofs.YtliapkajonbndaaGreatDoor

namespace Go.Proofs.YtliapkajonbndaaGreatDoor
open Go.RowKit

theorem sh_zero (ts : Toks) : sh 0 ts = ts := by
  unfold sh
  rw [show shX 0 = id from rfl, List.map_id]
theorem end_split {r : Toks} (h : endT r = true) : EndU r := by
  cases r with
  | nil => cases h
  | cons y q => exact ⟨y, q, rfl, by simpa [endT] using h⟩
/-- A clause with more behind it. -/
theorem clE_app {S S' : List UInt8} {X ts r : Toks} {t : Tm} {ns : Names} {N : Nat} (hm : ∀ i, i < N → S'[i]? = S[i]?) (h : clE S ts = .ok (t, r, ns)) (hN : ∀ x ∈ ts, x.2 < N) (hl : 4 * ts.length + 3 ≤ FF) : clE S' (ts ++ X) = .ok (t, r ++ X, ns) := by
  unfold clE at h
  cases hr : rdTerm S FF 1200 0 ts [] with
  | error e => rw [hr] at h; cases h
  | ok p =>
    obtain ⟨u, r1, n1⟩ := p
    rw [hr] at h
    dsimp only at h
    by_cases he : endT r1 = true
    · rw [if_pos he] at h
      injection h with h; injection h with h3 h; injection h with h4 h5
      subst h3 h4 h5
      obtain ⟨w, hw⟩ := ((rd_went S FF).2.1 _ _ _ _ _ _ _ hr).suf
      subst hw
      have hU := end_split he
      have hU2 : EndU (r1 ++ X) := by
        obtain ⟨y, q, rfl, hk⟩ := hU
        exact ⟨y, q ++ X, rfl, hk⟩
      obtain ⟨r2, e1, _, _, ht⟩ := (rd_ok (d := 0) (N := N) hU hU2.dead (fun i hi => hm i hi) FF).2.1 _ _ _ _ _ _ _ hr (fun x hx => hN x (List.mem_append_left _ hx)) FF 0 (by simp only [List.length_append] at hl; omega) (.inl rfl)
      have hr2 : r2 = [] := by
        have := congrArg List.length e1
        simp only [List.length_append] at this
        exact List.eq_nil_of_length_eq_zero (by omega)
      subst hr2
      rw [sh_zero, sh_nil, List.nil_append] at ht
      unfold clE
      rw [List.append_assoc, ht]
      dsimp only
      obtain ⟨y, q, rfl, hk⟩ := hU
      rw [if_pos (by simpa [endT] using hk)]
      rfl
    · rw [if_neg he] at h
      cases h
theorem clsE_fuel (S : List UInt8) : ∀ (n f f' : Nat) (ts : Toks), ts.length ≤ n → ts.length < f → ts.length < f' → clsE S f ts = clsE S f' ts
  | _, 0, _, _, _, h, _ => absurd h (by omega)
  | _, _, 0, _, _, _, h => absurd h (by omega)
  | _, f + 1, f' + 1, [], _, _, _ => by rw [clsE, clsE]
  | 0, _ + 1, _ + 1, _ :: _, h, _, _ => by simp at h
  | n + 1, f + 1, f' + 1, x :: r, hn, hf, hf' => by
    rw [clsE, clsE]
    cases hc : clE S (x :: r) with
    | error e => rfl
    | ok p =>
      obtain ⟨t, r', ns⟩ := p
      dsimp only
      have hl := (cl_went hc).1
      simp only [List.length_cons] at hn hf hf' hl
      rw [clsE_fuel S n f f' r' (by omega) (by omega) (by omega)]
theorem clsE_app {S S' : List UInt8} {X : Toks} {N : Nat} (hm : ∀ i, i < N → S'[i]? = S[i]?) : ∀ (n f f' : Nat) (ts : Toks) (la : List Cl), ts.length ≤ n → clsE S f ts = .ok la → (∀ x ∈ ts, x.2 < N) → 4 * ts.length + 3 ≤ FF → (ts ++ X).length < f' → clsE S' f' (ts ++ X) = accC la (clsE S' (X.length + 1) X)
  | _, 0, _, _, _, _, h, _, _, _ => by rw [clsE] at h; cases h
  | _, _, 0, _, _, _, _, _, _, h => absurd h (by omega)
  | _, f + 1, f' + 1, [], la, _, h, _, _, hf => by
    rw [clsE] at h
    injection h with h
    subst h
    rw [List.nil_append] at hf ⊢
    rw [accC_nil]
    exact clsE_fuel S' _ _ _ X (Nat.le_refl _) hf (Nat.lt_succ_self _)
  | 0, _ + 1, _ + 1, _ :: _, _, h, _, _, _, _ => by simp at h
  | n + 1, f + 1, f' + 1, x :: r, la, hn, h, hN, hF, hf => by
    rw [clsE] at h
    cases hc : clE S (x :: r) with
    | error e => rw [hc] at h; cases h
    | ok p =>
      obtain ⟨t, r', ns⟩ := p
      rw [hc] at h
      dsimp only at h
      obtain ⟨hl, ⟨w, hw⟩, _⟩ := cl_went hc
      have hcA := clE_app (X := X) hm hc hN hF
      by_cases hr : t.right = true
      · rw [if_pos hr] at h
        cases hq : clsE S f r' with
        | error e => rw [hq] at h; cases h
        | ok l =>
          rw [hq] at h
          injection h with h
          subst h
          have hX : (r' ++ X).length + 2 ≤ (x :: r ++ X).length := by rw [List.length_append, List.length_append]; omega
          have hf2 : (r' ++ X).length < f' := by omega
          simp only [List.length_cons] at hn hl hF
          have ih := clsE_app hm n f f' r' l (by omega) hq (fun y hy => hN y (by rw [hw]; exact List.mem_append_right _ hy)) (by omega) hf2
          rw [List.cons_append] at hcA ⊢
          rw [clsE, hcA]
          dsimp only
          rw [if_pos hr, ih]
          cases clsE S' (X.length + 1) X with
          | error e => rfl
          | ok q => rfl
      · rw [if_neg hr] at h
        cases h
def shC (d : Nat) : Except (Nat × Nat) (List Cl) → Except (Nat × Nat) (List Cl)
  | .error e => .error (shE d e)
  | .ok l => .ok l
theorem clE_shift {S S' : List UInt8} {d : Nat} (hl : S'.length = S.length + d) (hm : ∀ i, S'[i + d]? = S[i]?) (ts : Toks) : clE S' (sh d ts) = shR d (clE S ts) := by
  unfold clE
  rw [(rd_shift hl hm FF).2.1]
  cases rdTerm S FF 1200 0 ts [] with
  | error e => rfl
  | ok p =>
    obtain ⟨t, r, n⟩ := p
    dsimp only [shR]
    rw [show endT (sh d r) = endT r from by cases r <;> rfl, sh_place hl, sh_tail]
    by_cases h : endT r = true
    · rw [if_pos h, if_pos h]
    · rw [if_neg h, if_neg h]
      rfl
theorem clsE_shift {S S' : List UInt8} {d : Nat} (hl : S'.length = S.length + d) (hm : ∀ i, S'[i + d]? = S[i]?) : ∀ (f : Nat) (ts : Toks), clsE S' f (sh d ts) = shC d (clsE S f ts)
  | 0, _ => by rw [clsE, clsE]; rfl
  | f + 1, [] => by rw [sh_nil, clsE, clsE]; rfl
  | f + 1, x :: r => by
    have h := clE_shift hl hm (x :: r)
    rw [sh_cons] at h ⊢
    rw [clsE, clsE, h]
    cases clE S (x :: r) with
    | error e => rfl
    | ok p =>
      obtain ⟨t, r', ns⟩ := p
      dsimp only [shR]
      by_cases hr : t.right = true
      · rw [if_pos hr, if_pos hr, clsE_shift hl hm f r']
        cases clsE S f r' <;> rfl
      · rw [if_neg hr, if_neg hr]
        rfl
theorem bs_app (a b : ByteArray) : bs (a ++ ⟨#[10]⟩ ++ b) = bs a ++ 10 :: bs b := by
  simp [bs, ByteArray.append_assoc]
theorem read_join (a b : ByteArray) (h1 : a.size ≤ 3000) (h2 : b.size ≤ 3000) {la : List Cl} (h : readE (bs a) = .ok la) : readE (bs (a ++ ⟨#[10]⟩ ++ b)) = accC la (shC (a.size + 1) (readE (bs b))) := by
  have hS := bs_app a b
  have hla := bs_length a
  have hlb := bs_length b
  have hlen : (bs (a ++ ⟨#[10]⟩ ++ b)).length = (bs b).length + (a.size + 1) := by rw [hS]; simp [hla]; omega
  unfold readE at h
  rw [if_neg (by omega)] at h
  cases hx : lexL false 0 (bs a) with
  | inl p => rw [hx] at h; cases h
  | inr ta =>
    rw [hx] at h
    dsimp only at h
    have hj := join_lex a b hx
    have hta := lex_len _ _ _ _ ta (Nat.le_refl _) hx
    have hNa : ∀ x ∈ ta, x.2 < a.size := fun x hx' => by
      have := (lex_ge _ _ _ _ ta (Nat.le_refl _) hx x hx').2
      omega
    unfold readE
    rw [if_neg (by omega), if_neg (by omega), hj]
    cases hy : lexL false 0 (bs b) with
    | inl p => rfl
    | inr tb =>
      have hm1 : ∀ i, i < a.size → (bs (a ++ ⟨#[10]⟩ ++ b))[i]? = (bs a)[i]? := fun i hi => by
        rw [hS, List.getElem?_append_left (by omega)]
      have hm2 : ∀ i, (bs (a ++ ⟨#[10]⟩ ++ b))[i + (a.size + 1)]? = (bs b)[i]? := fun i => by
        rw [hS, List.getElem?_append_right (by omega), hla, show i + (a.size + 1) - a.size = i + 1 by omega]
        rfl
      have hc := clsE_app (X := sh (a.size + 1) tb) hm1 _ _ ((ta ++ sh (a.size + 1) tb).length + 1) ta la (Nat.le_refl _) h hNa (by rw [FF_eq]; omega) (Nat.lt_succ_self _)
      show clsE _ ((ta ++ sh (a.size + 1) tb).length + 1) (ta ++ sh (a.size + 1) tb) = _
      rw [hc, clsE_shift hlen hm2, show (sh (a.size + 1) tb).length = tb.length from List.length_map ..]
end Go.Proofs.YtliapkajonbndaaGreatDoor

namespace Go.Proofs.YtliapkajonbndaaGreatDoor
open Go.RowKit

set_option maxRecDepth 100000 in
set_option maxHeartbeats 2000000 in
theorem aheadz_any {X : Nat → Prop} (W : World) (rb z : Nat) (ts : Toks) (n : Nat) (h : PRz X W rb z ts) (hn : n ≤ 1) :
    Calls Tryz.prog 35 #[.pointer (some ⟨rb, 0, none⟩), .int .i64 (n : Nat)] W fun e W' => e = .returned (tkV (tkAt z ts n)) ∧ Below W.heap.size W W' := by
  obtain ⟨tv, nv, mv, d, q, hblk, ⟨ht, g, m, c, rfl, hmc, hc⟩, -⟩ := h.cells
  obtain ⟨⟨c0, c1, c2, c3, c4, c5, c6⟩, f0, f1, f2, f3, f4, f5, f6⟩ := row7 hblk
  have hlt := h.lt
  obtain ⟨g', cap', e', -⟩ := id ht
  injection e' with e1 e2 e3
  subst e1 e2 e3
  by_cases hlen : n < ts.length
  · obtain ⟨b, off, cap, e1, hb, x0, x1, x2, x3, x4⟩ := toksP_at ht n hlen
    injection e1 with e1 _ e3
    subst e1 e3
    have hx : tkAt z ts n = ts[n] := by simp [tkAt, List.getElem?_eq_getElem hlen]
    obtain ⟨x, hx'⟩ : ∃ x, ts[n] = x := ⟨_, rfl⟩
    rw [hx, hx']
    rw [hx'] at x0 x1 x2 x3 x4
    have hbl : b < W.heap.size := hb.2
    have j0 : (0 : Int) ≤ (n : Int) := by omega
    have j1 : (n : Int) < (ts.length : Int) := by omega
    have jw : IntKind.i64.wrap (n : Int) = (n : Int) := by rw [IntKind.wrap_i64]; omega
    clear h hblk ht hb hx hx' f0 f1 f2 f3 f4 f5 f6 c2 c3 c4 c5 c6
    go_enter Tryz.func35, Tryz.ntmps35
    go_wp2_with fail
    have hb := (Below.refl W.heap.size W).alloc (Nat.le_refl _) (.cells #[.int .i64 (x.1.kind : Nat), .string ⟨x.1.text.toArray⟩, .int .i64 (x.1.n : Nat), .int .i64 (x.2 : Nat), .bool x.1.opn] 98)
    have hnw := newBlk W (.cells #[.int .i64 (x.1.kind : Nat), .string ⟨x.1.text.toArray⟩, .int .i64 (x.1.n : Nat), .int .i64 (x.2 : Nat), .bool x.1.opn] 98) W.heap.size rfl
    obtain ⟨V, hV⟩ : ∃ V, W.alloc (.cells #[.int .i64 (x.1.kind : Nat), .string ⟨x.1.text.toArray⟩, .int .i64 (x.1.n : Nat), .int .i64 (x.2 : Nat), .bool x.1.opn] 98) = V := ⟨_, rfl⟩
    rw [hV] at hb hnw ⊢
    obtain ⟨⟨z0, z1, z2, z3, z4⟩, -⟩ := row5t hnw
    clear hV hnw
    refine bodyPost_ret (v := tkV x) (by simp [results, Tryz.results35, go_sem, z0, z1, z2, z3, z4, tkV]) rfl ?_
    exact ⟨rfl, hb⟩
  · have hx : tkAt z ts n = (⟨0, [], 0, false⟩, z) := by simp [tkAt, List.getElem?_eq_none (by omega : ts.length ≤ n)]
    rw [hx]
    have j1 : ((n : Int) < (ts.length : Int)) = False := by simp only [eq_iff_iff, iff_false]; omega
    clear h hblk ht hx f0 f1 f2 f3 f4 f5 f6 c2 c3 c4 c5 c6
    go_enter Tryz.func35, Tryz.ntmps35
    go_wp2_with fail
    have hb := (Below.refl W.heap.size W).alloc (Nat.le_refl _) (.cells #[.int .i64 0, .string ⟨#[]⟩, .int .i64 0, .int .i64 (z : Nat), .bool false] 98)
    have hnw := newBlk W (.cells #[.int .i64 0, .string ⟨#[]⟩, .int .i64 0, .int .i64 (z : Nat), .bool false] 98) W.heap.size rfl
    obtain ⟨V, hV⟩ : ∃ V, W.alloc (.cells #[.int .i64 0, .string ⟨#[]⟩, .int .i64 0, .int .i64 (z : Nat), .bool false] 98) = V := ⟨_, rfl⟩
    rw [hV] at hb hnw ⊢
    obtain ⟨⟨z0, z1, z2, z3, z4⟩, -⟩ := row5t hnw
    clear hV hnw
    refine bodyPost_ret (v := tkV (⟨0, [], 0, false⟩, z)) (by simp [results, Tryz.results35, go_sem, z0, z1, z2, z3, z4, tkV]) rfl ?_
    exact ⟨rfl, hb⟩
theorem aheadz0 {X : Nat → Prop} (W : World) (rb z : Nat) (ts : Toks) (x : Tk × Nat) (hx : tkAt z ts 0 = x) (h : PRz X W rb z ts) :
    Calls Tryz.prog 35 #[.pointer (some ⟨rb, 0, none⟩), .int .i64 0] W fun e W' => e = .returned (.agg #[.int .i64 (x.1.kind : Nat), .string ⟨x.1.text.toArray⟩, .int .i64 (x.1.n : Nat), .int .i64 (x.2 : Nat), .bool x.1.opn]) ∧ Below W.heap.size W W' := by
  subst hx
  exact aheadz_any W rb z ts 0 h (by omega)
end Go.Proofs.YtliapkajonbndaaGreatDoor
