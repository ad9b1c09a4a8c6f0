/-
  Tokens, purely: what stands at a place of a text, and what a text is divided into.
-/
import GoSem.Op.String
namespace Go.Proofs.YtliapkajonbndaaGreatDoor

/-- Of which sort is a byte: 1 a to z, 2 A to Z and _, 3 digits, 4 signs, 5 what stands between; else 0. -/
def sgn (c : UInt8) : Bool := [43, 45, 42, 47, 94, 60, 62, 61, 126, 58, 46, 63, 64, 35, 38, 36].contains c
def srt (c : UInt8) : Nat :=
  if 97 ≤ c.toNat ∧ c.toNat ≤ 122 then 1
  else if (65 ≤ c.toNat ∧ c.toNat ≤ 90) ∨ c.toNat = 95 then 2
  else if 48 ≤ c.toNat ∧ c.toNat ≤ 57 then 3
  else if c.toNat = 32 ∨ c.toNat = 9 ∨ c.toNat = 10 then 5
  else if sgn c ∨ c.toNat = 92 then 4 else 0
def isWord (c : UInt8) : Bool := decide (1 ≤ srt c ∧ srt c ≤ 3)
def isSign (c : UInt8) : Bool := srt c == 4
def isDigit (c : UInt8) : Bool := srt c == 3
theorem srt_lf : srt 10 = 5 := by decide
theorem word_lf : isWord 10 = false := by decide
theorem sign_lf : isSign 10 = false := by decide
theorem digit_lf : isDigit 10 = false := by decide
/-- A token, but for its place. -/
structure Tk where
  kind : Nat
  text : List UInt8
  n : Nat
  opn : Bool
/-- What digits are worth. -/
def dval (l : List UInt8) : Nat := l.foldl (fun n c => 10 * n + (c.toNat - 48)) 0
/-- What digits are; none: no number, or too great a one. -/
def numL (l : List UInt8) : Option Nat := if (l.head? = some 48 ∧ 1 < l.length) ∨ 9223372036854775807 < dval l then none else some (dval l)
/-- What stands between quotes, from behind the first one on, and how many bytes that and the last quote are. -/
def quoL : List UInt8 → Option (List UInt8 × Nat)
  | [] => none
  | c :: r =>
    if c.toNat < 32 ∨ 126 < c.toNat then none
    else if c = 39 then
      match r with
      | d :: q => if d = 39 then (quoL q).map fun x => (39 :: x.1, x.2 + 2) else some ([], 1)
      | [] => some ([], 1)
    else (quoL r).map fun x => (c :: x.1, x.2 + 1)
def opens (l : List UInt8) : Bool := l.head? == some 40
/-- A Name, an Upper: its Text has 1 to 20 bytes. -/
def nameL (kind : Nat) (text rest : List UInt8) (k : Nat) : Option (Tk × Nat) := if 1 ≤ text.length ∧ text.length ≤ 20 then some (⟨kind, text, 0, opens rest⟩, k) else none
def ends (l : List UInt8) : Bool := match l with | [] => true | c :: _ => srt c == 5 || c == 37
/-- The token at a place, and how many bytes it has. -/
def oneL (l : List UInt8) : Option (Tk × Nat) :=
  match l with
  | [] => none
  | c :: r =>
    if srt c = 1 ∨ srt c = 2 then nameL (srt c) (l.takeWhile isWord) (l.dropWhile isWord) (l.takeWhile isWord).length
    else if srt c = 3 then (numL (l.takeWhile isDigit)).map fun n => (⟨3, l.takeWhile isDigit, n, false⟩, (l.takeWhile isDigit).length)
    else if c = 39 then (quoL r).bind fun x => nameL 1 x.1 (r.drop x.2) (x.2 + 1)
    else if c = 91 ∧ r.head? = some 93 then nameL 1 [91, 93] (r.drop 1) 2
    else if c = 33 ∨ c = 59 then nameL 1 [c] r 1
    else if c = 40 ∨ c = 41 ∨ c = 91 ∨ c = 93 ∨ c = 124 ∨ c = 44 then some (⟨4, [c], 0, false⟩, 1)
    else if c = 46 ∧ (l.takeWhile isSign).length = 1 ∧ ends (l.dropWhile isSign) = true then some (⟨5, [46], 0, false⟩, 1)
    else nameL 1 (l.takeWhile isSign) (l.dropWhile isSign) (l.takeWhile isSign).length
/-- The tokens of a text with their places, from a place on; or the place at which there is none. -/
def lexL (cm : Bool) (at' : Nat) : List UInt8 → Sum Nat (List (Tk × Nat))
  | [] => .inr []
  | c :: r =>
    if cm = true ∨ c = 37 then lexL (decide (c ≠ 10)) (at' + 1) r
    else if srt c = 5 then lexL false (at' + 1) r
    else match oneL (c :: r) with
      | none => .inl at'
      | some (t, k) => match lexL false (at' + k) (r.drop (k - 1)) with
        | .inl b => .inl b
        | .inr l => .inr ((t, at') :: l)
termination_by l => l.length
decreasing_by
  all_goals simp
  all_goals omega

/-! ### a text behind a text -/
theorem tw_join {p : UInt8 → Bool} (hp : p 10 = false) (b : List UInt8) : ∀ a : List UInt8, (a ++ 10 :: b).takeWhile p = a.takeWhile p ∧ (a ++ 10 :: b).dropWhile p = a.dropWhile p ++ 10 :: b
  | [] => by simp [List.takeWhile, List.dropWhile, hp]
  | c :: r => by
    obtain ⟨h1, h2⟩ := tw_join hp b r
    by_cases h : p c = true
    · constructor <;> simp [h, h1, h2]
    · constructor <;> simp [h]
theorem opens_join (x b : List UInt8) : opens (x ++ 10 :: b) = opens x := by cases x <;> simp [opens]
theorem ends_join (x b : List UInt8) : ends (x ++ 10 :: b) = ends x := by
  cases x with
  | nil => simp [ends, srt_lf]
  | cons c r => simp [ends]
theorem tw_len {p : UInt8 → Bool} (a : List UInt8) : (a.takeWhile p).length ≤ a.length := (List.takeWhile_sublist p).length_le
theorem quoL_nil : quoL [] = none := by rw [quoL.eq_def]
theorem quoL_bad {c : UInt8} (r : List UInt8) (h : c.toNat < 32 ∨ 126 < c.toNat) : quoL (c :: r) = none := by
  rw [quoL.eq_def]
  simp only [if_pos h]
theorem quoL_two {q : List UInt8} : quoL (39 :: 39 :: q) = (quoL q).map fun x => (39 :: x.1, x.2 + 2) := by
  rw [quoL.eq_def]
  simp
theorem quoL_end {r : List UInt8} (h : r.head? ≠ some 39) : quoL (39 :: r) = some ([], 1) := by
  rw [quoL.eq_def]
  cases r with
  | nil => simp
  | cons d q =>
    have hd : ¬ d = 39 := fun e => h (by simp [e])
    simp [hd]
theorem quoL_one {c : UInt8} (r : List UInt8) (h : ¬ (c.toNat < 32 ∨ 126 < c.toNat)) (hn : ¬ c = 39) : quoL (c :: r) = (quoL r).map fun x => (c :: x.1, x.2 + 1) := by
  rw [quoL.eq_def]
  simp only [if_neg h, if_neg hn]
theorem ok39 : ¬ ((39 : UInt8).toNat < 32 ∨ 126 < (39 : UInt8).toNat) := by decide
theorem quo_join (b : List UInt8) : ∀ (n : Nat) (r tx : List UInt8) (k : Nat), r.length ≤ n → quoL r = some (tx, k) → quoL (r ++ 10 :: b) = some (tx, k) ∧ 1 ≤ k ∧ k ≤ r.length
  | _, [], tx, k, _, h => by rw [quoL_nil] at h; cases h
  | 0, _ :: _, _, _, hn, _ => by simp at hn
  | n + 1, c :: r, tx, k, hn, h => by
    simp only [List.length_cons] at hn ⊢
    by_cases hc : c.toNat < 32 ∨ 126 < c.toNat
    · rw [quoL_bad r hc] at h; cases h
    by_cases hq : c = 39
    · subst hq
      by_cases hr : r.head? = some 39
      · obtain ⟨q, rfl⟩ : ∃ q, r = 39 :: q := by
          cases r with
          | nil => simp at hr
          | cons d q => simp at hr; exact ⟨q, by rw [hr]⟩
        rw [quoL_two] at h
        simp only [Option.map_eq_some_iff, Prod.mk.injEq] at h
        obtain ⟨⟨tx', k'⟩, h1, rfl, rfl⟩ := h
        simp only [List.length_cons] at hn ⊢
        obtain ⟨h2, h3, h4⟩ := quo_join b n q tx' k' (by omega) h1
        refine ⟨?_, by omega, by omega⟩
        simp only [List.cons_append]
        rw [quoL_two, h2]
        rfl
      · rw [quoL_end hr] at h
        injection h with h
        injection h with h1 h2
        subst h1 h2
        refine ⟨?_, by omega, by omega⟩
        simp only [List.cons_append]
        refine quoL_end fun e => hr ?_
        cases r with
        | nil => simp at e
        | cons d q => exact e
    · rw [quoL_one r hc hq] at h
      simp only [Option.map_eq_some_iff, Prod.mk.injEq] at h
      obtain ⟨⟨tx', k'⟩, h1, rfl, rfl⟩ := h
      obtain ⟨h2, h3, h4⟩ := quo_join b n r tx' k' (by omega) h1
      refine ⟨?_, by omega, by omega⟩
      simp only [List.cons_append]
      rw [quoL_one _ hc hq, h2]
      rfl
theorem name_join {kind : Nat} {text rest b : List UInt8} {k : Nat} : nameL kind text (rest ++ 10 :: b) k = nameL kind text rest k := by unfold nameL; rw [opens_join]
theorem name_says {kind : Nat} {text rest : List UInt8} {k : Nat} {t : Tk} {q : Nat} (h : nameL kind text rest k = some (t, q)) : q = k ∧ t = ⟨kind, text, 0, opens rest⟩ ∧ 1 ≤ text.length ∧ text.length ≤ 20 := by
  unfold nameL at h
  split at h
  · rename_i hl
    injection h with h
    injection h with h1 h2
    exact ⟨h2.symm, h1.symm, hl.1, hl.2⟩
  · cases h
/-- What stands at a place stands there also if a line feed and more come behind. -/
theorem one_join (b : List UInt8) {a : List UInt8} {t : Tk} {k : Nat} (h : oneL a = some (t, k)) : oneL (a ++ 10 :: b) = some (t, k) ∧ 1 ≤ k ∧ k ≤ a.length := by
  cases a with
  | nil => simp [oneL] at h
  | cons c r =>
    have jw := tw_join word_lf b (c :: r)
    have js := tw_join sign_lf b (c :: r)
    have jd := tw_join digit_lf b (c :: r)
    have lw := tw_len (p := isWord) (c :: r)
    have ls := tw_len (p := isSign) (c :: r)
    have ld := tw_len (p := isDigit) (c :: r)
    simp only [List.cons_append] at jw js jd
    unfold oneL at h ⊢
    simp only [List.cons_append] at h ⊢
    rw [jw.1, jw.2, js.1, js.2, jd.1]
    by_cases h1 : srt c = 1 ∨ srt c = 2
    · rw [if_pos h1] at h ⊢
      rw [name_join]
      have := name_says h
      exact ⟨h, by omega, by omega⟩
    rw [if_neg h1] at h ⊢
    by_cases h3 : srt c = 3
    · rw [if_pos h3] at h ⊢
      refine ⟨h, ?_⟩
      simp only [Option.map_eq_some_iff, Prod.mk.injEq] at h
      obtain ⟨n, _, _, rfl⟩ := h
      have hd : isDigit c = true := by simp [isDigit, h3]
      refine ⟨by rw [List.takeWhile_cons, if_pos hd]; simp, ld⟩
    rw [if_neg h3] at h ⊢
    by_cases hq : c = 39
    · rw [if_pos hq] at h ⊢
      simp only [Option.bind_eq_some_iff] at h
      obtain ⟨⟨tx, q⟩, h4, h5⟩ := h
      obtain ⟨h6, h7, h8⟩ := quo_join b r.length r tx q (Nat.le_refl _) h4
      have := name_says h5
      refine ⟨?_, by omega, by simp only [List.length_cons]; omega⟩
      rw [h6]
      simp only [Option.bind_some]
      rw [List.drop_append_of_le_length h8, name_join]
      exact h5
    rw [if_neg hq] at h ⊢
    by_cases hb : c = 91 ∧ r.head? = some 93
    · have hb' : c = 91 ∧ (r ++ 10 :: b).head? = some 93 := by
        obtain ⟨e1, e2⟩ := hb
        cases r with
        | nil => simp at e2
        | cons d q => exact ⟨e1, e2⟩
      rw [if_pos hb] at h
      rw [if_pos hb']
      have := name_says h
      have hr : 1 ≤ r.length := by
        cases r with
        | nil => simp at hb
        | cons d q => simp
      rw [List.drop_append_of_le_length hr, name_join]
      exact ⟨h, by omega, by simp only [List.length_cons]; omega⟩
    have hb' : ¬ (c = 91 ∧ (r ++ 10 :: b).head? = some 93) := by
      rintro ⟨e1, e2⟩
      refine hb ⟨e1, ?_⟩
      cases r with
      | nil => simp at e2
      | cons d q => exact e2
    rw [if_neg hb] at h
    rw [if_neg hb']
    by_cases h5 : c = 33 ∨ c = 59
    · rw [if_pos h5] at h ⊢
      rw [name_join]
      have := name_says h
      exact ⟨h, by omega, by simp only [List.length_cons]; omega⟩
    rw [if_neg h5] at h ⊢
    by_cases h6 : c = 40 ∨ c = 41 ∨ c = 91 ∨ c = 93 ∨ c = 124 ∨ c = 44
    · rw [if_pos h6] at h ⊢
      have h7 := h
      injection h7 with h7
      injection h7 with _ h7
      exact ⟨h, by omega, by simp only [List.length_cons]; omega⟩
    rw [if_neg h6] at h ⊢
    rw [ends_join]
    by_cases h8 : c = 46 ∧ (List.takeWhile isSign (c :: r)).length = 1 ∧ ends (List.dropWhile isSign (c :: r)) = true
    · rw [if_pos h8] at h ⊢
      have h7 := h
      injection h7 with h7
      injection h7 with _ h7
      exact ⟨h, by omega, by simp only [List.length_cons]; omega⟩
    rw [if_neg h8] at h ⊢
    rw [name_join]
    have := name_says h
    exact ⟨h, by omega, by omega⟩

/-! ### where tokens stand, and tokens alone -/
theorem tw_all {p : UInt8 → Bool} (hp : p 32 = false) : ∀ a : List UInt8, (a.takeWhile p ++ [32]).takeWhile p = a.takeWhile p ∧ (a.takeWhile p ++ [32]).dropWhile p = [32]
  | [] => by constructor <;> simp [hp]
  | c :: r => by
    obtain ⟨h1, h2⟩ := tw_all hp r
    by_cases h : p c = true
    · constructor <;> simp [h, h1, h2]
    · constructor <;> simp [h, hp]
theorem tw_take {p : UInt8 → Bool} (a : List UInt8) : a.take (a.takeWhile p).length = a.takeWhile p := (List.prefix_iff_eq_take.1 (List.takeWhile_prefix p)).symm
theorem tw_cons {p : UInt8 → Bool} {c : UInt8} {r : List UInt8} (h : p c = true) : (c :: r).takeWhile p = c :: r.takeWhile p := by simp [h]
theorem opens_sp : opens [32] = false := by decide
theorem word_sp : isWord 32 = false := by decide
theorem sign_sp : isSign 32 = false := by decide
theorem digit_sp : isDigit 32 = false := by decide
/-- What a token is worth where it stands, and alone. -/
structure Alone (c : UInt8) (r : List UInt8) (t : Tk) (k : Nat) : Prop where
  opn : t.opn = true → t.kind ≤ 2
  len : 1 ≤ k ∧ k ≤ r.length + 1
  text : c ≠ 39 → t.kind ≠ 5 → t.text.length = k ∧ (c :: r).take k = t.text
  alone : c ≠ 39 → t.kind ≠ 5 → t.text ≠ [46] → oneL (t.text ++ [32]) = some (⟨t.kind, t.text, t.n, false⟩, t.text.length)
theorem name_is {kind : Nat} {text rest : List UInt8} {k : Nat} (h1 : 1 ≤ text.length) (h2 : text.length ≤ 20) : nameL kind text rest k = some (⟨kind, text, 0, opens rest⟩, k) := by
  unfold nameL
  rw [if_pos ⟨h1, h2⟩]
theorem one_alone {c : UInt8} {r : List UInt8} {t : Tk} {k : Nat} (h : oneL (c :: r) = some (t, k)) : Alone c r t k := by
  have hlen := (one_join [] h).2
  simp only [List.length_cons] at hlen
  unfold oneL at h
  simp only at h
  by_cases h1 : srt c = 1 ∨ srt c = 2
  · rw [if_pos h1] at h
    obtain ⟨rfl, rfl, n1, n2⟩ := name_says h
    have hw : isWord c = true := by rcases h1 with h1 | h1 <;> simp [isWord, h1]
    refine ⟨fun _ => by rcases h1 with h1 | h1 <;> simp [h1], hlen, fun _ _ => ⟨rfl, tw_take _⟩, fun _ _ _ => ?_⟩
    obtain ⟨e1, e2⟩ := tw_all word_sp (c :: r)
    have e3 := tw_cons (r := r) hw
    simp only [e3, List.cons_append] at e1 e2 n1 n2 ⊢
    unfold oneL
    simp only
    rw [if_pos h1, e1, e2, name_is n1 n2, opens_sp]
  rw [if_neg h1] at h
  by_cases h3 : srt c = 3
  · rw [if_pos h3] at h
    simp only [Option.map_eq_some_iff, Prod.mk.injEq] at h
    obtain ⟨n, hn, rfl, rfl⟩ := h
    have hd : isDigit c = true := by simp [isDigit, h3]
    refine ⟨(fun e => by cases e), hlen, fun _ _ => ⟨rfl, tw_take _⟩, fun _ _ _ => ?_⟩
    obtain ⟨e1, e2⟩ := tw_all digit_sp (c :: r)
    have e3 := tw_cons (r := r) hd
    simp only [e3, List.cons_append] at e1 e2 hn ⊢
    unfold oneL
    simp only
    rw [if_neg h1, if_pos h3, e1, hn]
    rfl
  rw [if_neg h3] at h
  by_cases hq : c = 39
  · rw [if_pos hq] at h
    simp only [Option.bind_eq_some_iff] at h
    obtain ⟨⟨tx, q⟩, h4, h5⟩ := h
    obtain ⟨_, rfl, _, _⟩ := name_says h5
    exact ⟨fun _ => (by decide : (1 : Nat) ≤ 2), hlen, fun e => absurd hq e, fun e => absurd hq e⟩
  rw [if_neg hq] at h
  by_cases hb : c = 91 ∧ r.head? = some 93
  · rw [if_pos hb] at h
    obtain ⟨rfl, rfl, _, _⟩ := name_says h
    obtain ⟨rfl, hr⟩ := hb
    refine ⟨fun _ => (by decide : (1 : Nat) ≤ 2), hlen, fun _ _ => ⟨rfl, ?_⟩, fun _ _ _ => (by rfl : oneL ([91, 93] ++ [32]) = some (⟨1, [91, 93], 0, false⟩, 2))⟩
    cases r with
    | nil => simp at hr
    | cons d q => simp at hr; simp [hr]
  rw [if_neg hb] at h
  by_cases h5 : c = 33 ∨ c = 59
  · rw [if_pos h5] at h
    obtain ⟨rfl, rfl, _, _⟩ := name_says h
    refine ⟨fun _ => (by decide : (1 : Nat) ≤ 2), hlen, fun _ _ => ⟨rfl, rfl⟩, fun _ _ _ => ?_⟩
    rcases h5 with rfl | rfl
    · exact (by rfl : oneL ([33] ++ [32]) = some (⟨1, [33], 0, false⟩, 1))
    · exact (by rfl : oneL ([59] ++ [32]) = some (⟨1, [59], 0, false⟩, 1))
  rw [if_neg h5] at h
  by_cases h6 : c = 40 ∨ c = 41 ∨ c = 91 ∨ c = 93 ∨ c = 124 ∨ c = 44
  · rw [if_pos h6] at h
    injection h with h
    injection h with e1 e2
    subst e1 e2
    refine ⟨(fun e => by cases e), hlen, fun _ _ => ⟨rfl, rfl⟩, fun _ _ _ => ?_⟩
    rcases h6 with rfl | rfl | rfl | rfl | rfl | rfl <;> rfl
  rw [if_neg h6] at h
  by_cases h8 : c = 46 ∧ (List.takeWhile isSign (c :: r)).length = 1 ∧ ends (List.dropWhile isSign (c :: r)) = true
  · rw [if_pos h8] at h
    injection h with h
    injection h with e1 e2
    subst e1 e2
    exact ⟨(fun e => by cases e), hlen, fun _ e => absurd rfl e, fun _ e => absurd rfl e⟩
  rw [if_neg h8] at h
  obtain ⟨rfl, rfl, n1, n2⟩ := name_says h
  have hs : isSign c = true := by
    by_cases hs : isSign c = true
    · exact hs
    · have : List.takeWhile isSign (c :: r) = [] := by simp [hs]
      rw [this] at n1
      simp at n1
  refine ⟨fun _ => (by decide : (1 : Nat) ≤ 2), hlen, fun _ _ => ⟨rfl, tw_take _⟩, fun _ _ hne => ?_⟩
  obtain ⟨e1, e2⟩ := tw_all sign_sp (c :: r)
  have e3 := tw_cons (r := r) hs
  simp only [e3, List.cons_append] at e1 e2 n1 n2 hne ⊢
  unfold oneL
  simp only
  have hb2 : ¬ (c = 91 ∧ (List.takeWhile isSign r ++ [32]).head? = some 93) := by
    rintro ⟨rfl, _⟩
    exact absurd hs (by decide)
  rw [if_neg h1, if_neg h3, if_neg hq, if_neg hb2, if_neg h5, if_neg h6, e1, e2, if_neg, name_is n1 n2, opens_sp]
  rintro ⟨rfl, h9, _⟩
  refine hne ?_
  simp only [List.length_cons] at h9
  rw [List.eq_nil_of_length_eq_zero (by omega : (List.takeWhile isSign r).length = 0)]

/-! ### the tokens step by step -/
theorem lexL_nil (cm : Bool) (at' : Nat) : lexL cm at' [] = .inr [] := by rw [lexL]
theorem lexL_skip {cm : Bool} {at' : Nat} {c : UInt8} {r : List UInt8} (h : cm = true ∨ c = 37) : lexL cm at' (c :: r) = lexL (decide (c ≠ 10)) (at' + 1) r := by
  rw [lexL, if_pos h]
theorem lexL_gap {cm : Bool} {at' : Nat} {c : UInt8} {r : List UInt8} (h : ¬ (cm = true ∨ c = 37)) (h5 : srt c = 5) : lexL cm at' (c :: r) = lexL false (at' + 1) r := by
  rw [lexL, if_neg h, if_pos h5]
theorem lexL_bad {cm : Bool} {at' : Nat} {c : UInt8} {r : List UInt8} (h : ¬ (cm = true ∨ c = 37)) (h5 : ¬ srt c = 5) (ho : oneL (c :: r) = none) : lexL cm at' (c :: r) = .inl at' := by
  rw [lexL, if_neg h, if_neg h5, ho]
/-- What stands ahead of what is read further. -/
def preL (la : List (Tk × Nat)) : Sum Nat (List (Tk × Nat)) → Sum Nat (List (Tk × Nat))
  | .inl b => .inl b
  | .inr l => .inr (la ++ l)
theorem lexL_tok {cm : Bool} {at' : Nat} {c : UInt8} {r : List UInt8} {t : Tk} {k : Nat} (h : ¬ (cm = true ∨ c = 37)) (h5 : ¬ srt c = 5) (ho : oneL (c :: r) = some (t, k)) : lexL cm at' (c :: r) = preL [(t, at')] (lexL false (at' + k) (r.drop (k - 1))) := by
  rw [lexL, if_neg h, if_neg h5, ho]
  dsimp only
  cases lexL false (at' + k) (r.drop (k - 1)) <;> rfl
theorem preL_inr {la : List (Tk × Nat)} {x : Sum Nat (List (Tk × Nat))} {l : List (Tk × Nat)} (h : preL la x = .inr l) : ∃ q, x = .inr q ∧ l = la ++ q := by
  cases x with
  | inl b => cases h
  | inr q => injection h with h; exact ⟨q, rfl, h.symm⟩
theorem preL_pre (la lb : List (Tk × Nat)) (x : Sum Nat (List (Tk × Nat))) : preL la (preL lb x) = preL (la ++ lb) x := by cases x <;> simp [preL]
theorem preL_nil (x : Sum Nat (List (Tk × Nat))) : preL [] x = x := by cases x <;> simp [preL]
/-- Greater places. -/
def shL (d : Nat) : Sum Nat (List (Tk × Nat)) → Sum Nat (List (Tk × Nat))
  | .inl b => .inl (b + d)
  | .inr l => .inr (l.map fun x => (x.1, x.2 + d))
theorem shL_pre (d : Nat) (la : List (Tk × Nat)) (x : Sum Nat (List (Tk × Nat))) : shL d (preL la x) = preL (la.map fun x => (x.1, x.2 + d)) (shL d x) := by cases x <;> simp [preL, shL]
theorem lex_shift (d : Nat) : ∀ (n : Nat) (l : List UInt8) (cm : Bool) (at' : Nat), l.length ≤ n → lexL cm (at' + d) l = shL d (lexL cm at' l)
  | _, [], cm, at', _ => by rw [lexL_nil, lexL_nil]; rfl
  | 0, _ :: _, _, _, h => by simp at h
  | n + 1, c :: r, cm, at', h => by
    simp only [List.length_cons] at h
    by_cases h1 : cm = true ∨ c = 37
    · rw [lexL_skip h1, lexL_skip h1, show at' + d + 1 = at' + 1 + d by omega]
      exact lex_shift d n r _ _ (by omega)
    by_cases h5 : srt c = 5
    · rw [lexL_gap h1 h5, lexL_gap h1 h5, show at' + d + 1 = at' + 1 + d by omega]
      exact lex_shift d n r _ _ (by omega)
    cases ho : oneL (c :: r) with
    | none => rw [lexL_bad h1 h5 ho, lexL_bad h1 h5 ho]; rfl
    | some x =>
      obtain ⟨t, k⟩ := x
      rw [lexL_tok h1 h5 ho, lexL_tok h1 h5 ho, shL_pre, show at' + d + k = at' + k + d by omega]
      congr 1
      exact lex_shift d n _ _ _ (by simp; omega)
/-- Two texts with a line feed between have the tokens of both. -/
theorem lex_join (b : List UInt8) : ∀ (n : Nat) (a : List UInt8) (cm : Bool) (at' : Nat) (la : List (Tk × Nat)), a.length ≤ n → lexL cm at' a = .inr la → lexL cm at' (a ++ 10 :: b) = preL la (lexL false (at' + a.length + 1) b)
  | _, [], cm, at', la, _, h => by
    rw [lexL_nil] at h
    injection h with h
    subst h
    simp only [List.nil_append, preL_nil, List.length_nil, Nat.add_zero]
    cases cm with
    | true => rw [lexL_skip (.inl rfl)]; rfl
    | false => rw [lexL_gap (by simp) srt_lf]
  | 0, _ :: _, _, _, _, hn, _ => by simp at hn
  | n + 1, c :: r, cm, at', la, hn, h => by
    simp only [List.length_cons] at hn
    simp only [List.cons_append, List.length_cons]
    by_cases h1 : cm = true ∨ c = 37
    · rw [lexL_skip h1] at h ⊢
      rw [show at' + (r.length + 1) + 1 = at' + 1 + r.length + 1 by omega]
      exact lex_join b n r _ _ la (by omega) h
    by_cases h5 : srt c = 5
    · rw [lexL_gap h1 h5] at h ⊢
      rw [show at' + (r.length + 1) + 1 = at' + 1 + r.length + 1 by omega]
      exact lex_join b n r _ _ la (by omega) h
    cases ho : oneL (c :: r) with
    | none => rw [lexL_bad h1 h5 ho] at h; cases h
    | some x =>
      obtain ⟨t, k⟩ := x
      obtain ⟨hj, hk1, hk2⟩ := one_join b ho
      simp only [List.cons_append, List.length_cons] at hj hk2
      rw [lexL_tok h1 h5 ho] at h
      rw [lexL_tok h1 h5 hj]
      obtain ⟨q, h2, rfl⟩ := preL_inr h
      have hl : k - 1 ≤ r.length := by omega
      rw [List.drop_append_of_le_length hl, lex_join b n _ _ _ q (by simp; omega) h2, preL_pre]
      congr 2
      simp only [List.length_drop]
      omega
/-- A token alone. -/
theorem lex_alone {c : UInt8} {r : List UInt8} {t : Tk} {k : Nat} (h1 : ¬ c = 37) (h5 : ¬ srt c = 5) (h : oneL (c :: r) = some (t, k)) (hq : c ≠ 39) (h2 : t.kind ≠ 5) (hd : t.text ≠ [46]) :
    lexL false 0 (t.text ++ [32]) = .inr [(⟨t.kind, t.text, t.n, false⟩, 0)] := by
  have ha := one_alone h
  obtain ⟨e1, e2⟩ := ha.text hq h2
  have ho := ha.alone hq h2 hd
  obtain ⟨q, hx⟩ : ∃ q, t.text = c :: q := by
    cases k with
    | zero => have := ha.len.1; omega
    | succ k => exact ⟨r.take k, by rw [← e2]; rfl⟩
  rw [hx] at ho ⊢
  simp only [List.cons_append] at ho ⊢
  rw [lexL_tok (by simpa using h1) h5 ho]
  simp only [List.length_cons, Nat.add_sub_cancel]
  rw [List.drop_append_of_le_length (Nat.le_refl _), List.drop_length, List.nil_append, lexL_gap (by decide) (by decide), lexL_nil]
  rfl
/-- What the tokens of a text are, where they stand. -/
structure Stand (l : List UInt8) (at' : Nat) (x : Tk × Nat) : Prop where
  lo : at' ≤ x.2
  hi : x.2 < at' + l.length
  opn : x.1.opn = true → x.1.kind ≤ 2
  text : ∀ c, l[x.2 - at']? = some c → c ≠ 39 → x.1.kind ≠ 5 → x.2 - at' + x.1.text.length ≤ l.length ∧ (l.drop (x.2 - at')).take x.1.text.length = x.1.text
  alone : ∀ c, l[x.2 - at']? = some c → c ≠ 39 → x.1.kind ≠ 5 → x.1.text ≠ [46] → lexL false 0 (x.1.text ++ [32]) = .inr [(⟨x.1.kind, x.1.text, x.1.n, false⟩, 0)]
theorem Stand.behind {l r : List UInt8} {at' k : Nat} {x : Tk × Nat} (hk : k ≤ l.length) (hr : r = l.drop k) (h : Stand r (at' + k) x) : Stand l at' x := by
  subst hr
  have h1 := h.lo
  have h2 := h.hi
  simp only [List.length_drop] at h2
  have e : ∀ c, l[x.2 - at']? = some c → (l.drop k)[x.2 - (at' + k)]? = some c := fun c hc => by
    rw [List.getElem?_drop, show k + (x.2 - (at' + k)) = x.2 - at' by omega]
    exact hc
  refine ⟨by omega, by omega, h.opn, fun c hc hq h5 => ?_, fun c hc => h.alone c (e c hc)⟩
  obtain ⟨g1, g2⟩ := h.text c (e c hc) hq h5
  simp only [List.length_drop, List.drop_drop] at g1 g2
  rw [show k + (x.2 - (at' + k)) = x.2 - at' by omega] at g2
  exact ⟨by omega, g2⟩
theorem lex_stand : ∀ (n : Nat) (l : List UInt8) (cm : Bool) (at' : Nat) (ts : List (Tk × Nat)), l.length ≤ n → lexL cm at' l = .inr ts → (∀ x ∈ ts, Stand l at' x) ∧ ts.Pairwise (fun x y => x.2 < y.2)
  | _, [], cm, at', ts, _, h => by
    rw [lexL_nil] at h
    injection h with h
    subst h
    exact ⟨(fun x hx => by cases hx), List.Pairwise.nil⟩
  | 0, _ :: _, _, _, _, hn, _ => by simp at hn
  | n + 1, c :: r, cm, at', ts, hn, h => by
    simp only [List.length_cons] at hn
    by_cases h1 : cm = true ∨ c = 37
    · rw [lexL_skip h1] at h
      obtain ⟨g1, g2⟩ := lex_stand n r _ _ ts (by omega) h
      exact ⟨fun x hx => (g1 x hx).behind (k := 1) (by simp) rfl, g2⟩
    by_cases h5 : srt c = 5
    · rw [lexL_gap h1 h5] at h
      obtain ⟨g1, g2⟩ := lex_stand n r _ _ ts (by omega) h
      exact ⟨fun x hx => (g1 x hx).behind (k := 1) (by simp) rfl, g2⟩
    cases ho : oneL (c :: r) with
    | none => rw [lexL_bad h1 h5 ho] at h; cases h
    | some x =>
      obtain ⟨t, k⟩ := x
      rw [lexL_tok h1 h5 ho] at h
      obtain ⟨q, h2, rfl⟩ := preL_inr h
      have ha := one_alone ho
      obtain ⟨g1, g2⟩ := lex_stand n _ _ _ q (by simp; omega) h2
      have hd : r.drop (k - 1) = (c :: r).drop k := by
        obtain ⟨j, rfl⟩ : ∃ j, k = j + 1 := ⟨k - 1, by have := ha.len.1; omega⟩
        rfl
      have hkl : k ≤ (c :: r).length := by simp only [List.length_cons]; exact ha.len.2
      refine ⟨fun x hx => ?_, ?_⟩
      · rcases List.mem_append.1 hx with hx | hx
        · obtain rfl := List.mem_singleton.1 hx
          refine ⟨Nat.le_refl _, by simp, ha.opn, fun d hd hq h6 => ?_, fun d hd hq h6 h7 => ?_⟩
          · simp only [Nat.sub_self, List.getElem?_cons_zero, Option.some.injEq] at hd
            subst hd
            obtain ⟨e1, e2⟩ := ha.text hq h6
            simp only [Nat.sub_self, List.drop_zero]
            rw [e1]
            exact ⟨by omega, e2⟩
          · simp only [Nat.sub_self, List.getElem?_cons_zero, Option.some.injEq] at hd
            subst hd
            exact lex_alone (fun e => h1 (.inr e)) h5 ho hq h6 h7
        · exact (g1 x hx).behind hkl hd
      · simp only [List.singleton_append, List.pairwise_cons]
        exact ⟨fun y hy => by have := (g1 y hy).lo; have := ha.len.1; show at' < y.2; omega, g2⟩
end Go.Proofs.YtliapkajonbndaaGreatDoor

namespace Go.Proofs.YtliapkajonbndaaGreatDoor

/-! ### numbers, digit by digit -/
def dfrom (n : Nat) (l : List UInt8) : Nat := l.foldl (fun n c => 10 * n + (c.toNat - 48)) n
theorem dfrom_eq : ∀ (l : List UInt8) (n : Nat), dfrom n l = n * 10 ^ l.length + dval l
  | [], n => by simp [dfrom, dval]
  | c :: r, n => by
    have h1 := dfrom_eq r (10 * n + (c.toNat - 48))
    have h2 := dfrom_eq r (c.toNat - 48)
    have e1 : dfrom n (c :: r) = dfrom (10 * n + (c.toNat - 48)) r := rfl
    have e2 : dval (c :: r) = dfrom (c.toNat - 48) r := by simp [dval, dfrom]
    rw [e1, e2, h1, h2, List.length_cons, Nat.pow_succ, Nat.add_mul]
    have : 10 * n * 10 ^ r.length = n * (10 ^ r.length * 10) := by
      rw [Nat.mul_comm 10 n, Nat.mul_assoc, Nat.mul_comm 10]
    omega
theorem dval_cons (c : UInt8) (r : List UInt8) : dval (c :: r) = (c.toNat - 48) * 10 ^ r.length + dval r := by
  have e2 : dval (c :: r) = dfrom (c.toNat - 48) r := by simp [dval, dfrom]
  rw [e2, dfrom_eq]
theorem dval_snoc (l : List UInt8) (c : UInt8) : dval (l ++ [c]) = 10 * dval l + (c.toNat - 48) := by simp [dval]
theorem dig_says {c : UInt8} (h : isDigit c = true) : 48 ≤ c.toNat ∧ c.toNat ≤ 57 := by
  simp only [isDigit, beq_iff_eq, srt] at h
  split at h
  · omega
  · split at h
    · omega
    · split at h
      · assumption
      · split at h
        · omega
        · split at h <;> omega
theorem dval_lt : ∀ {l : List UInt8}, (∀ c ∈ l, isDigit c = true) → dval l < 10 ^ l.length
  | [], _ => by simp [dval]
  | c :: r, h => by
    have h1 := dval_lt (l := r) (fun d hd => h d (by simp [hd]))
    have h2 := dig_says (h c (by simp))
    rw [dval_cons, List.length_cons, Nat.pow_succ]
    have h3 : (c.toNat - 48) * 10 ^ r.length ≤ 9 * 10 ^ r.length := Nat.mul_le_mul_right _ (by omega)
    omega
theorem less_dval : ∀ {x y : List UInt8}, x.length = y.length → (∀ c ∈ x, isDigit c = true) → (∀ c ∈ y, isDigit c = true) → Op.bytesLess x y = decide (dval x < dval y)
  | [], [], _, _, _ => by simp [Op.bytesLess, dval]
  | [], _ :: _, h, _, _ => by simp at h
  | _ :: _, [], h, _, _ => by simp at h
  | a :: x, b :: y, h, hx, hy => by
    simp only [List.length_cons, Nat.add_right_cancel_iff] at h
    have ih := less_dval h (fun c hc => hx c (by simp [hc])) (fun c hc => hy c (by simp [hc]))
    have lx := dval_lt (l := x) (fun c hc => hx c (by simp [hc]))
    have ly := dval_lt (l := y) (fun c hc => hy c (by simp [hc]))
    have ha := dig_says (hx a (by simp))
    have hb := dig_says (hy b (by simp))
    rw [dval_cons, dval_cons, h]
    rw [h] at lx
    simp only [Op.bytesLess, ih]
    rw [Bool.eq_iff_iff]
    simp only [Bool.or_eq_true, Bool.and_eq_true, decide_eq_true_eq, beq_iff_eq, UInt8.lt_iff_toNat_lt]
    generalize 10 ^ y.length = p at lx ly ⊢
    constructor
    · rintro (h1 | ⟨h1, h2⟩)
      · have h3 : (a.toNat - 48 + 1) * p ≤ (b.toNat - 48) * p := Nat.mul_le_mul_right _ (by omega)
        rw [Nat.add_mul, Nat.one_mul] at h3
        omega
      · rw [h1]; omega
    · intro h1
      by_cases h2 : a.toNat < b.toNat
      · exact .inl h2
      · by_cases h3 : a.toNat = b.toNat
        · refine .inr ⟨UInt8.toNat_inj.1 h3, ?_⟩
          rw [h3] at h1
          omega
        · have h4 : (b.toNat - 48 + 1) * p ≤ (a.toNat - 48) * p := Nat.mul_le_mul_right _ (by omega)
          rw [Nat.add_mul, Nat.one_mul] at h4
          omega
theorem less_same : ∀ {x y : List UInt8}, x.length = y.length → (∀ c ∈ x, isDigit c = true) → (∀ c ∈ y, isDigit c = true) → (dval x = dval y ↔ x = y)
  | [], [], _, _, _ => by simp
  | [], _ :: _, h, _, _ => by simp at h
  | _ :: _, [], h, _, _ => by simp at h
  | a :: x, b :: y, h, hx, hy => by
    simp only [List.length_cons, Nat.add_right_cancel_iff] at h
    have ih := less_same h (fun c hc => hx c (by simp [hc])) (fun c hc => hy c (by simp [hc]))
    have lx := dval_lt (l := x) (fun c hc => hx c (by simp [hc]))
    have ly := dval_lt (l := y) (fun c hc => hy c (by simp [hc]))
    have ha := dig_says (hx a (by simp))
    have hb := dig_says (hy b (by simp))
    rw [dval_cons, dval_cons, h]
    rw [h] at lx
    generalize 10 ^ y.length = p at lx ly ⊢
    constructor
    · intro e
      by_cases h2 : a.toNat < b.toNat
      · have h3 : (a.toNat - 48 + 1) * p ≤ (b.toNat - 48) * p := Nat.mul_le_mul_right _ (by omega)
        rw [Nat.add_mul, Nat.one_mul] at h3
        omega
      · by_cases h3 : b.toNat < a.toNat
        · have h4 : (b.toNat - 48 + 1) * p ≤ (a.toNat - 48) * p := Nat.mul_le_mul_right _ (by omega)
          rw [Nat.add_mul, Nat.one_mul] at h4
          omega
        · have h5 : a = b := UInt8.toNat_inj.1 (by omega)
          subst h5
          rw [ih.1 (by omega)]
    · rintro e
      injection e with e1 e2
      rw [e1, ih.2 e2]
def maxD : List UInt8 := [57, 50, 50, 51, 51, 55, 50, 48, 51, 54, 56, 53, 52, 55, 55, 53, 56, 48, 55]
theorem maxD_val : dval maxD = 9223372036854775807 := by decide
theorem maxD_dig : ∀ c ∈ maxD, isDigit c = true := by decide
/-- What the document asks of digits is that they are a number, and no greater than the greatest. -/
theorem num_doc {l : List UInt8} (hd : ∀ c ∈ l, isDigit c = true) (h1 : ¬ (l.head? = some 48 ∧ 1 < l.length)) :
    (19 < l.length ∨ (l.length = 19 ∧ (Op.bytesLess l maxD || l == maxD) = false)) ↔ 9223372036854775807 < dval l ∧ l ≠ [] := by
  by_cases hl : l = []
  · subst hl; simp
  have hpos : 0 < l.length := List.length_pos_iff.2 hl
  simp only [ne_eq, hl, not_false_eq_true, and_true]
  constructor
  · rintro (h | ⟨h, hc⟩)
    · obtain ⟨c, r, rfl⟩ := List.exists_cons_of_ne_nil hl
      simp only [List.length_cons] at h h1
      have hc := dig_says (hd c (by simp))
      have hn : c.toNat ≠ 48 := fun e => h1 ⟨by simp [UInt8.toNat_inj.1 (show c.toNat = (48 : UInt8).toNat from e)], by omega⟩
      rw [dval_cons]
      have h3 : 1 * 10 ^ r.length ≤ (c.toNat - 48) * 10 ^ r.length := Nat.mul_le_mul_right _ (by omega)
      have h4 : 10 ^ 19 ≤ 10 ^ r.length := Nat.pow_le_pow_right (by decide) (by omega)
      omega
    · have hlen : l.length = maxD.length := h
      rw [less_dval hlen hd maxD_dig, maxD_val] at hc
      have h5 : ¬ dval l < 9223372036854775807 ∧ ¬ l = maxD := by simpa using hc
      have h6 := less_same hlen hd maxD_dig
      rw [maxD_val] at h6
      have : dval l ≠ 9223372036854775807 := fun e => h5.2 (h6.1 e)
      omega
  · intro h
    by_cases h3 : 19 < l.length
    · exact .inl h3
    · have h4 := dval_lt hd
      by_cases h5 : l.length = 19
      · refine .inr ⟨h5, ?_⟩
        have hlen : l.length = maxD.length := h5
        rw [less_dval hlen hd maxD_dig, maxD_val]
        have h6 : ¬ l = maxD := fun e => by rw [e, maxD_val] at h; omega
        simp [h6]
        omega
      · have h6 : 10 ^ l.length ≤ 10 ^ 18 := Nat.pow_le_pow_right (by decide) (by omega)
        omega
end Go.Proofs.YtliapkajonbndaaGreatDoor
