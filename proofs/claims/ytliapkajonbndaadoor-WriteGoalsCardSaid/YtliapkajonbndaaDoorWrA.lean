/-
  Texts of names and numbers, purely; how they are cut.
-/
import Derived.Test.YtliapkajonbndaaDoorLexN
namespace Go.Proofs.YtliapkajonbndaaDoor

/-- The digits of a number. -/
def dgs (n : Nat) : List UInt8 := if n < 10 then [UInt8.ofNat (48 + n)] else dgs (n / 10) ++ [UInt8.ofNat (48 + n % 10)]
termination_by n
theorem dig_byte : ∀ k, k < 10 → isDigit (UInt8.ofNat (48 + k)) = true ∧ (UInt8.ofNat (48 + k)).toNat - 48 = k ∧ (UInt8.ofNat (48 + k) = 48 ↔ k = 0) := by decide
theorem dgs_says : ∀ (n m : Nat), n ≤ m → (∀ c ∈ dgs n, isDigit c = true) ∧ dval (dgs n) = n ∧ 1 ≤ (dgs n).length ∧ ((dgs n).head? = some 48 → n = 0) ∧ (n = 0 → dgs n = [48])
  | n, m, hm => by
    rw [dgs]
    by_cases h : n < 10
    · rw [if_pos h]
      obtain ⟨h1, h2, h3⟩ := dig_byte n h
      refine ⟨fun c hc => by rw [List.mem_singleton.1 hc]; exact h1, ?_, by simp, fun he => h3.1 (by simpa using he), fun he => by subst he; rfl⟩
      show 10 * 0 + ((UInt8.ofNat (48 + n)).toNat - 48) = n
      rw [h2]
      omega
    · rw [if_neg h]
      have hlt : n / 10 < n := Nat.div_lt_self (by omega) (by omega)
      match m, hm with
      | 0, hm => omega
      | m + 1, hm =>
      obtain ⟨g1, g2, g3, g4, g5⟩ := dgs_says (n / 10) m (by omega)
      obtain ⟨h1, h2, h3⟩ := dig_byte (n % 10) (Nat.mod_lt _ (by omega))
      refine ⟨fun c hc => ?_, ?_, by simp, fun he => ?_, fun he => by omega⟩
      · rcases List.mem_append.1 hc with hc | hc
        · exact g1 c hc
        · rw [List.mem_singleton.1 hc]; exact h1
      · rw [dval_snoc, g2, h2]
        omega
      · have h4 : (dgs (n / 10)).head? = some 48 := by
          cases hd : dgs (n / 10) with
          | nil => rw [hd] at g3; simp at g3
          | cons a r => rw [hd] at he; simpa using he
        have := g4 h4
        omega
theorem dgs_dig (n : Nat) : ∀ c ∈ dgs n, isDigit c = true := (dgs_says n n (Nat.le_refl _)).1
theorem dgs_val (n : Nat) : dval (dgs n) = n := (dgs_says n n (Nat.le_refl _)).2.1
theorem dgs_pos (n : Nat) : 1 ≤ (dgs n).length := (dgs_says n n (Nat.le_refl _)).2.2.1
theorem dgs_inj {a b : Nat} (h : dgs a = dgs b) : a = b := by rw [← dgs_val a, h, dgs_val]
theorem dgs_len : ∀ (k n : Nat), n < 10 ^ (k + 1) → (dgs n).length ≤ k + 1
  | 0, n, h => by
    rw [dgs, if_pos (by simpa using h)]
    simp
  | k + 1, n, h => by
    rw [dgs]
    split
    · simp
    · have h2 : n / 10 < 10 ^ (k + 1) := Nat.div_lt_of_lt_mul (by rw [Nat.pow_succ] at h; omega)
      have := dgs_len k (n / 10) h2
      simp only [List.length_append, List.length_cons, List.length_nil]
      omega
theorem dgs_num {n : Nat} (h : n ≤ 9223372036854775807) : numL (dgs n) = some n := by
  obtain ⟨_, h2, _, h4, h5⟩ := dgs_says n n (Nat.le_refl _)
  unfold numL
  rw [if_neg, h2]
  rintro (⟨e, hl⟩ | hl)
  · have h6 := h5 (h4 e)
    rw [h6] at hl
    simp at hl
  · rw [h2] at hl
    omega
theorem dgs_cons (n : Nat) : ∃ c r, dgs n = c :: r ∧ isDigit c = true := by
  cases h : dgs n with
  | nil => have := dgs_pos n; rw [h] at this; simp at this
  | cons c r => exact ⟨c, r, rfl, dgs_dig n c (by rw [h]; simp)⟩
/-! ### what stands behind -/
/-- A byte that ends names and numbers. -/
def stopB (c : UInt8) : Bool := c = 40 || c = 41 || c = 44 || c = 93 || c = 124 || c = 32
def Stops (r : List UInt8) : Prop := ∃ c q, r = c :: q ∧ stopB c = true
theorem stop_is {c : UInt8} (h : stopB c = true) : c = 40 ∨ c = 41 ∨ c = 44 ∨ c = 93 ∨ c = 124 ∨ c = 32 := by
  simpa [stopB, or_assoc] using h
theorem stop_srt {c : UInt8} (h : stopB c = true) : isWord c = false ∧ isSign c = false ∧ isDigit c = false := by
  rcases stop_is h with rfl | rfl | rfl | rfl | rfl | rfl <;> decide
theorem tw_stop {p : UInt8 → Bool} {a r : List UInt8} (ha : ∀ c ∈ a, p c = true) (hr : ∀ c q, r = c :: q → p c = false) : (a ++ r).takeWhile p = a ∧ (a ++ r).dropWhile p = r := by
  induction a with
  | nil =>
    cases r with
    | nil => exact ⟨rfl, rfl⟩
    | cons c q => simp [hr c q rfl]
  | cons c a ih =>
    obtain ⟨h1, h2⟩ := ih (fun d hd => ha d (by simp [hd]))
    have hc := ha c (by simp)
    constructor
    · simp [hc, h1]
    · simp [hc, h2]
theorem dig_word {c : UInt8} (h : isDigit c = true) : isWord c = true ∧ srt c = 3 := by
  have : srt c = 3 := by simpa [isDigit] using h
  exact ⟨by unfold isWord; rw [this]; rfl, this⟩
/-! ### numbers, variables -/
theorem lex_dgs {n : Nat} (hn : n ≤ 9223372036854775807) {r : List UInt8} (hr : Stops r) (p : Nat) : lexL false p (dgs n ++ r) = preL [(⟨3, dgs n, n, false⟩, p)] (lexL false (p + (dgs n).length) r) := by
  obtain ⟨c, q, hd, hc⟩ := dgs_cons n
  obtain ⟨d, q', rfl, hst⟩ := hr
  obtain ⟨t1, t2⟩ := tw_stop (p := isDigit) (dgs_dig n) (r := d :: q') (fun c q e => by injection e with e1 _; rw [← e1]; exact (stop_srt hst).2.2)
  have hnum := dgs_num hn
  have h3 := (dig_word hc).2
  have hone : oneL (c :: (q ++ d :: q')) = some (⟨3, dgs n, n, false⟩, (dgs n).length) := by
    have e : c :: (q ++ d :: q') = dgs n ++ d :: q' := by rw [hd]; rfl
    have t3 : List.takeWhile isDigit (c :: (q ++ d :: q')) = dgs n := by rw [e]; exact t1
    unfold oneL
    dsimp only
    rw [if_neg (by omega), if_pos h3, t3, hnum]
    rfl
  have h1 : ¬ (false = true ∨ c = 37) := by
    rintro (e | e)
    · cases e
    · subst e; revert hc; decide
  rw [hd, List.cons_append, lexL_tok h1 (by omega) hone, hd]
  rw [show (q ++ d :: q').drop ((c :: q).length - 1) = d :: q' by simp]
theorem lex_var {n : Nat} (hn : n < 1000000) {r : List UInt8} (hr : Stops r) (p : Nat) : lexL false p (95 :: dgs n ++ r) = preL [(⟨2, 95 :: dgs n, 0, opens r⟩, p)] (lexL false (p + (95 :: dgs n).length) r) := by
  obtain ⟨d, q', rfl, hst⟩ := hr
  have hw : ∀ c ∈ (95 :: dgs n : List UInt8), isWord c = true := fun c hc => by
    rcases List.mem_cons.1 hc with rfl | hc
    · decide
    · exact (dig_word (dgs_dig n c hc)).1
  obtain ⟨t1, t2⟩ := tw_stop (p := isWord) hw (r := d :: q') (fun c q e => by injection e with e1 _; rw [← e1]; exact (stop_srt hst).1)
  have hl := dgs_len 5 n (by omega)
  have hone : oneL (95 :: (dgs n ++ d :: q')) = some (⟨2, 95 :: dgs n, 0, opens (d :: q')⟩, (95 :: dgs n).length) := by
    unfold oneL
    dsimp only
    rw [if_pos (by decide)]
    rw [List.cons_append] at t1 t2
    rw [t1, t2]
    unfold nameL
    rw [if_pos (by simp only [List.length_cons]; omega)]
    rfl
  rw [List.cons_append, lexL_tok (by decide) (by decide) hone]
  rw [show (dgs n ++ d :: q').drop ((95 :: dgs n).length - 1) = d :: q' by simp]
theorem lex_neg {n : Nat} (hn : n ≤ 9223372036854775807) {r : List UInt8} (hr : Stops r) (p : Nat) : lexL false p (45 :: dgs n ++ r) = preL [(⟨1, [45], 0, false⟩, p), (⟨3, dgs n, n, false⟩, p + 1)] (lexL false (p + (45 :: dgs n).length) r) := by
  obtain ⟨c, q, hd, hc⟩ := dgs_cons n
  have h3 := (dig_word hc).2
  have hs : isSign c = false := by unfold isSign; rw [h3]; rfl
  have hone : oneL (45 :: (dgs n ++ r)) = some (⟨1, [45], 0, false⟩, 1) := by
    rw [hd, List.cons_append]
    have e : List.takeWhile isSign (45 :: c :: (q ++ r)) = [45] := by
      rw [List.takeWhile_cons, if_pos (by decide), List.takeWhile_cons, if_neg (by rw [hs]; simp)]
    have e2 : List.dropWhile isSign (45 :: c :: (q ++ r)) = c :: (q ++ r) := by
      rw [List.dropWhile_cons, if_pos (by decide), List.dropWhile_cons, if_neg (by rw [hs]; simp)]
    have ho : opens (c :: (q ++ r)) = false := by
      unfold opens
      have : c ≠ 40 := fun e => by subst e; revert hc; decide
      simp [this]
    unfold oneL
    dsimp only
    rw [if_neg (by decide), if_neg (by decide), if_neg (by decide), if_neg (fun e => absurd e.1 (by decide)), if_neg (by decide), if_neg (by decide), if_neg (fun e => absurd e.1 (by decide)), e, e2]
    unfold nameL
    rw [if_pos (by decide), ho]
    rfl
  rw [List.cons_append, lexL_tok (by decide) (by decide) hone, List.drop_zero, lex_dgs hn hr, preL_pre, List.length_cons, show p + 1 + (dgs n).length = p + ((dgs n).length + 1) by omega]
  rfl
/-! ### names -/
/-- Is a name its own text? -/
def wordN : List UInt8 → Bool
  | [] => false
  | c :: r => srt c == 1 && r.all isWord
def signN (tx : List UInt8) : Bool := !tx.isEmpty && tx.all (fun c => isSign c && c != 46)
def plainN (tx : List UInt8) : Bool := wordN tx || signN tx || tx = [33] || tx = [59] || tx = [91, 93]
def dbl : List UInt8 → List UInt8
  | [] => []
  | c :: r => if c = 39 then 39 :: 39 :: dbl r else c :: dbl r
/-- A name's text. -/
def nmX (tx : List UInt8) : List UInt8 := if plainN tx = true then tx else 39 :: (dbl tx ++ [39])
theorem quo_dbl {r : List UInt8} (hr : r.head? ≠ some 39) : ∀ tx : List UInt8, (∀ c ∈ tx, 32 ≤ c.toNat ∧ c.toNat ≤ 126) → quoL (dbl tx ++ 39 :: r) = some (tx, (dbl tx).length + 1)
  | [], _ => by rw [dbl, List.nil_append, quoL_end hr]; rfl
  | c :: q, h => by
    have ih := quo_dbl hr q (fun d hd => h d (by simp [hd]))
    have hc := h c (by simp)
    rw [dbl]
    by_cases h39 : c = 39
    · rw [if_pos h39, List.cons_append, List.cons_append, quoL_two, ih, h39]
      rfl
    · rw [if_neg h39, List.cons_append, quoL_one _ (by omega) h39, ih]
      rfl
theorem nm_one {tx : List UInt8} (h1 : 1 ≤ tx.length) (h2 : tx.length ≤ 20) (hp : ∀ c ∈ tx, 32 ≤ c.toNat ∧ c.toNat ≤ 126) {r : List UInt8} (hr : Stops r) : ∃ c q, nmX tx = c :: q ∧ c ≠ 37 ∧ srt c ≠ 5 ∧ oneL (c :: (q ++ r)) = some (⟨1, tx, 0, opens r⟩, (nmX tx).length) := by
  obtain ⟨d, q', rfl, hst⟩ := hr
  obtain ⟨sw, ss, _⟩ := stop_srt hst
  have hname : ∀ k, nameL 1 tx (d :: q') k = some (⟨1, tx, 0, opens (d :: q')⟩, k) := fun k => by unfold nameL; rw [if_pos ⟨h1, h2⟩]
  unfold nmX
  by_cases hpl : plainN tx = true
  · rw [if_pos hpl]
    cases tx with
    | nil => simp at h1
    | cons c q =>
      refine ⟨c, q, rfl, ?_⟩
      by_cases hw : wordN (c :: q) = true
      · simp only [wordN, Bool.and_eq_true, beq_iff_eq, List.all_eq_true] at hw
        have hcw : isWord c = true := by unfold isWord; rw [hw.1]; rfl
        obtain ⟨t1, t2⟩ := tw_stop (p := isWord) (a := c :: q) (fun x hx => by
          rcases List.mem_cons.1 hx with rfl | hx
          · exact hcw
          · exact hw.2 x hx) (r := d :: q') (fun c q e => by injection e with e1 _; rw [← e1]; exact sw)
        rw [List.cons_append] at t1 t2
        refine ⟨fun e => by subst e; exact absurd hw.1 (by decide), by omega, ?_⟩
        unfold oneL
        dsimp only
        rw [if_pos (.inl hw.1), t1, t2, hw.1, hname]
      by_cases hs : signN (c :: q) = true
      · simp only [signN, List.isEmpty_cons, Bool.not_false, Bool.true_and, List.all_eq_true, Bool.and_eq_true, bne_iff_ne, ne_eq] at hs
        have hcs := hs c (by simp)
        have hc4 : srt c = 4 := by simpa [isSign] using hcs.1
        obtain ⟨t1, t2⟩ := tw_stop (p := isSign) (a := c :: q) (fun x hx => (hs x hx).1) (r := d :: q') (fun c q e => by injection e with e1 _; rw [← e1]; exact ss)
        rw [List.cons_append] at t1 t2
        have hne : ∀ x : UInt8, srt x ≠ 4 → c ≠ x := fun x hx e => hx (by rw [← e]; exact hc4)
        refine ⟨hne 37 (by decide), by omega, ?_⟩
        have n39 := hne 39 (by decide)
        have n91 := hne 91 (by decide)
        have n33 := hne 33 (by decide)
        have n59 := hne 59 (by decide)
        have n40 := hne 40 (by decide)
        have n41 := hne 41 (by decide)
        have n93 := hne 93 (by decide)
        have n124 := hne 124 (by decide)
        have n44 := hne 44 (by decide)
        unfold oneL
        dsimp only
        rw [if_neg (by omega), if_neg (by omega), if_neg n39, if_neg (fun e => n91 e.1), if_neg (fun e => e.elim n33 n59), if_neg (fun e => e.elim n40 (fun e => e.elim n41 (fun e => e.elim n91 (fun e => e.elim n93 (fun e => e.elim n124 n44))))), if_neg (fun e => hcs.2 e.1), t1, t2, hname]
      · have h3 : c :: q = [33] ∨ c :: q = [59] ∨ c :: q = [91, 93] := by
          unfold plainN at hpl
          simp only [Bool.or_eq_true, decide_eq_true_eq, hw, hs] at hpl
          rcases hpl with (((e | e) | e) | e) | e
          · cases e
          · cases e
          · exact .inl e
          · exact .inr (.inl e)
          · exact .inr (.inr e)
        rcases h3 with e | e | e
        · injection e with e1 e2
          subst e1 e2
          refine ⟨by decide, by decide, ?_⟩
          rw [List.nil_append]
          unfold oneL
          dsimp only
          rw [if_neg (by decide), if_neg (by decide), if_neg (by decide), if_neg (fun e => absurd e.1 (by decide)), if_pos (by decide), hname]
          rfl
        · injection e with e1 e2
          subst e1 e2
          refine ⟨by decide, by decide, ?_⟩
          rw [List.nil_append]
          unfold oneL
          dsimp only
          rw [if_neg (by decide), if_neg (by decide), if_neg (by decide), if_neg (fun e => absurd e.1 (by decide)), if_pos (by decide), hname]
          rfl
        · injection e with e1 e2
          subst e1 e2
          refine ⟨by decide, by decide, ?_⟩
          rw [List.cons_append, List.nil_append]
          unfold oneL
          dsimp only
          rw [if_neg (by decide), if_neg (by decide), if_neg (by decide), if_pos ⟨rfl, rfl⟩]
          exact hname 2
  · rw [if_neg hpl]
    refine ⟨39, dbl tx ++ [39], rfl, by decide, by decide, ?_⟩
    rw [List.append_assoc, List.cons_append, List.nil_append]
    have hd : (d :: q').head? ≠ some 39 := fun e => by
      injection e with e
      subst e
      revert hst
      decide
    unfold oneL
    dsimp only
    rw [if_neg (by decide), if_neg (by decide), if_pos rfl, quo_dbl hd tx hp]
    simp only [Option.bind_some]
    rw [show (dbl tx ++ 39 :: d :: q').drop ((dbl tx).length + 1) = d :: q' by rw [List.drop_append]; simp, hname]
    simp
theorem lex_nm {tx : List UInt8} (h1 : 1 ≤ tx.length) (h2 : tx.length ≤ 20) (hp : ∀ c ∈ tx, 32 ≤ c.toNat ∧ c.toNat ≤ 126) {r : List UInt8} (hr : Stops r) (p : Nat) : lexL false p (nmX tx ++ r) = preL [(⟨1, tx, 0, opens r⟩, p)] (lexL false (p + (nmX tx).length) r) := by
  obtain ⟨c, q, e, h37, h5, ho⟩ := nm_one h1 h2 hp hr
  have hg : ¬ (false = true ∨ c = 37) := by
    rintro (e | e)
    · cases e
    · exact h37 e
  rw [e, List.cons_append, lexL_tok hg h5 (by rw [ho, e])]
  rw [show (q ++ r).drop ((c :: q).length - 1) = r by simp]
/-! ### marks -/
theorem lex_mark {c : UInt8} (h : c = 40 ∨ c = 41 ∨ c = 93 ∨ c = 124 ∨ c = 44) (r : List UInt8) (p : Nat) : lexL false p (c :: r) = preL [(⟨4, [c], 0, false⟩, p)] (lexL false (p + 1) r) := by
  have ho : oneL (c :: r) = some (⟨4, [c], 0, false⟩, 1) := by
    unfold oneL
    dsimp only
    rcases h with rfl | rfl | rfl | rfl | rfl <;> rw [if_neg (by decide), if_neg (by decide), if_neg (by decide), if_neg (by intro e; exact absurd e.1 (by decide)), if_neg (by decide), if_pos (by decide)]
  rw [lexL_tok (by rcases h with rfl | rfl | rfl | rfl | rfl <;> decide) (by rcases h with rfl | rfl | rfl | rfl | rfl <;> decide) ho]
  rfl
theorem lex_open {r : List UInt8} (hr : r.head? ≠ some 93) (p : Nat) : lexL false p (91 :: r) = preL [(⟨4, [91], 0, false⟩, p)] (lexL false (p + 1) r) := by
  have ho : oneL (91 :: r) = some (⟨4, [91], 0, false⟩, 1) := by
    unfold oneL
    dsimp only
    rw [if_neg (by decide), if_neg (by decide), if_neg (by decide), if_neg (fun e => hr e.2), if_neg (by decide), if_pos (by decide)]
  rw [lexL_tok (by decide) (by decide) ho]
  rfl
end Go.Proofs.YtliapkajonbndaaDoor
