/-
  Texts of names and numbers, purely; how they are cut.
  Terms as a tree, how they lie in memory, and what the document's functions on them are: no program here.
  A term's text, purely.
-/
import Derived.Test.YtliapkajonbndaaGreatDoorG00
import Derived.WalkKit
namespace Go.Proofs.YtliapkajonbndaaGreatDoor

/-- The digits of a number. -/
def dgs (n : Nat) : List UInt8 := if n < 10 then [UInt8.ofNat (48 + n)] else dgs (n / 10) ++ [UInt8.ofNat (48 + n % 10)]
termination_by n
theorem dig_byte : ∀ k, k < 10 → isDigit (UInt8.ofNat (48 + k)) = true ∧ (UInt8.ofNat (48 + k)).toNat - 48 = k ∧ (UInt8.ofNat (48 + k) = 48 ↔ k = 0) := by decide
theorem dgs_says : ∀ (n m : Nat), n ≤ m → (∀ c ∈ dgs n, isDigit c = true) ∧ dval (dgs n) = n ∧ 1 ≤ (dgs n).length ∧ ((dgs n).head? = some 48 → n = 0) ∧ (n = 0 → dgs n = [48])
  | n, m, hm => by
    rw [dgs]
    by_cases h : n < 10
    · rw [if_pos h]
      obtain ⟨h1, h2, h3⟩ := dig_byte n h
      refine ⟨fun c hc => by rw [List.mem_singleton.1 hc]; exact h1, ?_, by simp, fun he => h3.1 (by simpa using he), fun he => by subst he; rfl⟩
      show 10 * 0 + ((UInt8.ofNat (48 + n)).toNat - 48) = n
      rw [h2]
      omega
    · rw [if_neg h]
      have hlt : n / 10 < n := Nat.div_lt_self (by omega) (by omega)
      match m, hm with
      | 0, hm => omega
      | m + 1, hm =>
      obtain ⟨g1, g2, g3, g4, g5⟩ := dgs_says (n / 10) m (by omega)
      obtain ⟨h1, h2, h3⟩ := dig_byte (n % 10) (Nat.mod_lt _ (by omega))
      refine ⟨fun c hc => ?_, ?_, by simp, fun he => ?_, fun he => by omega⟩
      · rcases List.mem_append.1 hc with hc | hc
        · exact g1 c hc
        · rw [List.mem_singleton.1 hc]; exact h1
      · rw [dval_snoc, g2, h2]
        omega
      · have h4 : (dgs (n / 10)).head? = some 48 := by
          cases hd : dgs (n / 10) with
          | nil => rw [hd] at g3; simp at g3
          | cons a r => rw [hd] at he; simpa using he
        have := g4 h4
        omega
theorem dgs_dig (n : Nat) : ∀ c ∈ dgs n, isDigit c = true := (dgs_says n n (Nat.le_refl _)).1
theorem dgs_val (n : Nat) : dval (dgs n) = n := (dgs_says n n (Nat.le_refl _)).2.1
theorem dgs_pos (n : Nat) : 1 ≤ (dgs n).length := (dgs_says n n (Nat.le_refl _)).2.2.1
theorem dgs_inj {a b : Nat} (h : dgs a = dgs b) : a = b := by rw [← dgs_val a, h, dgs_val]
theorem dgs_len : ∀ (k n : Nat), n < 10 ^ (k + 1) → (dgs n).length ≤ k + 1
  | 0, n, h => by
    rw [dgs, if_pos (by simpa using h)]
    simp
  | k + 1, n, h => by
    rw [dgs]
    split
    · simp
    · have h2 : n / 10 < 10 ^ (k + 1) := Nat.div_lt_of_lt_mul (by rw [Nat.pow_succ] at h; omega)
      have := dgs_len k (n / 10) h2
      simp only [List.length_append, List.length_cons, List.length_nil]
      omega
theorem dgs_num {n : Nat} (h : n ≤ 9223372036854775807) : numL (dgs n) = some n := by
  obtain ⟨_, h2, _, h4, h5⟩ := dgs_says n n (Nat.le_refl _)
  unfold numL
  rw [if_neg, h2]
  rintro (⟨e, hl⟩ | hl)
  · have h6 := h5 (h4 e)
    rw [h6] at hl
    simp at hl
  · rw [h2] at hl
    omega
theorem dgs_cons (n : Nat) : ∃ c r, dgs n = c :: r ∧ isDigit c = true := by
  cases h : dgs n with
  | nil => have := dgs_pos n; rw [h] at this; simp at this
  | cons c r => exact ⟨c, r, rfl, dgs_dig n c (by rw [h]; simp)⟩
/-! ### what stands behind -/
/-- A byte that ends names and numbers. -/
def stopB (c : UInt8) : Bool := c = 40 || c = 41 || c = 44 || c = 93 || c = 124 || c = 32
def Stops (r : List UInt8) : Prop := ∃ c q, r = c :: q ∧ stopB c = true
theorem stop_is {c : UInt8} (h : stopB c = true) : c = 40 ∨ c = 41 ∨ c = 44 ∨ c = 93 ∨ c = 124 ∨ c = 32 := by
  simpa [stopB, or_assoc] using h
theorem stop_srt {c : UInt8} (h : stopB c = true) : isWord c = false ∧ isSign c = false ∧ isDigit c = false := by
  rcases stop_is h with rfl | rfl | rfl | rfl | rfl | rfl <;> decide
theorem tw_stop {p : UInt8 → Bool} {a r : List UInt8} (ha : ∀ c ∈ a, p c = true) (hr : ∀ c q, r = c :: q → p c = false) : (a ++ r).takeWhile p = a ∧ (a ++ r).dropWhile p = r := by
  induction a with
  | nil =>
    cases r with
    | nil => exact ⟨rfl, rfl⟩
    | cons c q => simp [hr c q rfl]
  | cons c a ih =>
    obtain ⟨h1, h2⟩ := ih (fun d hd => ha d (by simp [hd]))
    have hc := ha c (by simp)
    constructor
    · simp [hc, h1]
    · simp [hc, h2]
theorem dig_word {c : UInt8} (h : isDigit c = true) : isWord c = true ∧ srt c = 3 := by
  have : srt c = 3 := by simpa [isDigit] using h
  exact ⟨by unfold isWord; rw [this]; rfl, this⟩
/-! ### numbers, variables -/
theorem lex_dgs {n : Nat} (hn : n ≤ 9223372036854775807) {r : List UInt8} (hr : Stops r) (p : Nat) : lexL false p (dgs n ++ r) = preL [(⟨3, dgs n, n, false⟩, p)] (lexL false (p + (dgs n).length) r) := by
  obtain ⟨c, q, hd, hc⟩ := dgs_cons n
  obtain ⟨d, q', rfl, hst⟩ := hr
  obtain ⟨t1, t2⟩ := tw_stop (p := isDigit) (dgs_dig n) (r := d :: q') (fun c q e => by injection e with e1 _; rw [← e1]; exact (stop_srt hst).2.2)
  have hnum := dgs_num hn
  have h3 := (dig_word hc).2
  have hone : oneL (c :: (q ++ d :: q')) = some (⟨3, dgs n, n, false⟩, (dgs n).length) := by
    have e : c :: (q ++ d :: q') = dgs n ++ d :: q' := by rw [hd]; rfl
    have t3 : List.takeWhile isDigit (c :: (q ++ d :: q')) = dgs n := by rw [e]; exact t1
    unfold oneL
    dsimp only
    rw [if_neg (by omega), if_pos h3, t3, hnum]
    rfl
  have h1 : ¬ (false = true ∨ c = 37) := by
    rintro (e | e)
    · cases e
    · subst e; revert hc; decide
  rw [hd, List.cons_append, lexL_tok h1 (by omega) hone, hd]
  rw [show (q ++ d :: q').drop ((c :: q).length - 1) = d :: q' by simp]
theorem lex_var {n : Nat} (hn : n < 1000000) {r : List UInt8} (hr : Stops r) (p : Nat) : lexL false p (95 :: dgs n ++ r) = preL [(⟨2, 95 :: dgs n, 0, opens r⟩, p)] (lexL false (p + (95 :: dgs n).length) r) := by
  obtain ⟨d, q', rfl, hst⟩ := hr
  have hw : ∀ c ∈ (95 :: dgs n : List UInt8), isWord c = true := fun c hc => by
    rcases List.mem_cons.1 hc with rfl | hc
    · decide
    · exact (dig_word (dgs_dig n c hc)).1
  obtain ⟨t1, t2⟩ := tw_stop (p := isWord) hw (r := d :: q') (fun c q e => by injection e with e1 _; rw [← e1]; exact (stop_srt hst).1)
  have hl := dgs_len 5 n (by omega)
  have hone : oneL (95 :: (dgs n ++ d :: q')) = some (⟨2, 95 :: dgs n, 0, opens (d :: q')⟩, (95 :: dgs n).length) := by
    unfold oneL
    dsimp only
    rw [if_pos (by decide)]
    rw [List.cons_append] at t1 t2
    rw [t1, t2]
    unfold nameL
    rw [if_pos (by simp only [List.length_cons]; omega)]
    rfl
  rw [List.cons_append, lexL_tok (by decide) (by decide) hone]
  rw [show (dgs n ++ d :: q').drop ((95 :: dgs n).length - 1) = d :: q' by simp]
theorem lex_neg {n : Nat} (hn : n ≤ 9223372036854775807) {r : List UInt8} (hr : Stops r) (p : Nat) : lexL false p (45 :: dgs n ++ r) = preL [(⟨1, [45], 0, false⟩, p), (⟨3, dgs n, n, false⟩, p + 1)] (lexL false (p + (45 :: dgs n).length) r) := by
  obtain ⟨c, q, hd, hc⟩ := dgs_cons n
  have h3 := (dig_word hc).2
  have hs : isSign c = false := by unfold isSign; rw [h3]; rfl
  have hone : oneL (45 :: (dgs n ++ r)) = some (⟨1, [45], 0, false⟩, 1) := by
    rw [hd, List.cons_append]
    have e : List.takeWhile isSign (45 :: c :: (q ++ r)) = [45] := by
      rw [List.takeWhile_cons, if_pos (by decide), List.takeWhile_cons, if_neg (by rw [hs]; simp)]
    have e2 : List.dropWhile isSign (45 :: c :: (q ++ r)) = c :: (q ++ r) := by
      rw [List.dropWhile_cons, if_pos (by decide), List.dropWhile_cons, if_neg (by rw [hs]; simp)]
    have ho : opens (c :: (q ++ r)) = false := by
      unfold opens
      have : c ≠ 40 := fun e => by subst e; revert hc; decide
      simp [this]
    unfold oneL
    dsimp only
    rw [if_neg (by decide), if_neg (by decide), if_neg (by decide), if_neg (fun e => absurd e.1 (by decide)), if_neg (by decide), if_neg (by decide), if_neg (fun e => absurd e.1 (by decide)), e, e2]
    unfold nameL
    rw [if_pos (by decide), ho]
    rfl
  rw [List.cons_append, lexL_tok (by decide) (by decide) hone, List.drop_zero, lex_dgs hn hr, preL_pre, List.length_cons, show p + 1 + (dgs n).length = p + ((dgs n).length + 1) by omega]
  rfl
/-! ### names -/
/-- Is a name its own text? -/
def wordN : List UInt8 → Bool
  | [] => false
  | c :: r => srt c == 1 && r.all isWord
def signN (tx : List UInt8) : Bool := !tx.isEmpty && tx.all (fun c => isSign c && c != 46)
def plainN (tx : List UInt8) : Bool := wordN tx || signN tx || tx = [33] || tx = [59] || tx = [91, 93]
def dbl : List UInt8 → List UInt8
  | [] => []
  | c :: r => if c = 39 then 39 :: 39 :: dbl r else c :: dbl r
/-- A name's text. -/
def nmX (tx : List UInt8) : List UInt8 := if plainN tx = true then tx else 39 :: (dbl tx ++ [39])
theorem quo_dbl {r : List UInt8} (hr : r.head? ≠ some 39) : ∀ tx : List UInt8, (∀ c ∈ tx, 32 ≤ c.toNat ∧ c.toNat ≤ 126) → quoL (dbl tx ++ 39 :: r) = some (tx, (dbl tx).length + 1)
  | [], _ => by rw [dbl, List.nil_append, quoL_end hr]; rfl
  | c :: q, h => by
    have ih := quo_dbl hr q (fun d hd => h d (by simp [hd]))
    have hc := h c (by simp)
    rw [dbl]
    by_cases h39 : c = 39
    · rw [if_pos h39, List.cons_append, List.cons_append, quoL_two, ih, h39]
      rfl
    · rw [if_neg h39, List.cons_append, quoL_one _ (by omega) h39, ih]
      rfl
theorem nm_one {tx : List UInt8} (h1 : 1 ≤ tx.length) (h2 : tx.length ≤ 20) (hp : ∀ c ∈ tx, 32 ≤ c.toNat ∧ c.toNat ≤ 126) {r : List UInt8} (hr : Stops r) : ∃ c q, nmX tx = c :: q ∧ c ≠ 37 ∧ srt c ≠ 5 ∧ oneL (c :: (q ++ r)) = some (⟨1, tx, 0, opens r⟩, (nmX tx).length) := by
  obtain ⟨d, q', rfl, hst⟩ := hr
  obtain ⟨sw, ss, _⟩ := stop_srt hst
  have hname : ∀ k, nameL 1 tx (d :: q') k = some (⟨1, tx, 0, opens (d :: q')⟩, k) := fun k => by unfold nameL; rw [if_pos ⟨h1, h2⟩]
  unfold nmX
  by_cases hpl : plainN tx = true
  · rw [if_pos hpl]
    cases tx with
    | nil => simp at h1
    | cons c q =>
      refine ⟨c, q, rfl, ?_⟩
      by_cases hw : wordN (c :: q) = true
      · simp only [wordN, Bool.and_eq_true, beq_iff_eq, List.all_eq_true] at hw
        have hcw : isWord c = true := by unfold isWord; rw [hw.1]; rfl
        obtain ⟨t1, t2⟩ := tw_stop (p := isWord) (a := c :: q) (fun x hx => by
          rcases List.mem_cons.1 hx with rfl | hx
          · exact hcw
          · exact hw.2 x hx) (r := d :: q') (fun c q e => by injection e with e1 _; rw [← e1]; exact sw)
        rw [List.cons_append] at t1 t2
        refine ⟨fun e => by subst e; exact absurd hw.1 (by decide), by omega, ?_⟩
        unfold oneL
        dsimp only
        rw [if_pos (.inl hw.1), t1, t2, hw.1, hname]
      by_cases hs : signN (c :: q) = true
      · simp only [signN, List.isEmpty_cons, Bool.not_false, Bool.true_and, List.all_eq_true, Bool.and_eq_true, bne_iff_ne, ne_eq] at hs
        have hcs := hs c (by simp)
        have hc4 : srt c = 4 := by simpa [isSign] using hcs.1
        obtain ⟨t1, t2⟩ := tw_stop (p := isSign) (a := c :: q) (fun x hx => (hs x hx).1) (r := d :: q') (fun c q e => by injection e with e1 _; rw [← e1]; exact ss)
        rw [List.cons_append] at t1 t2
        have hne : ∀ x : UInt8, srt x ≠ 4 → c ≠ x := fun x hx e => hx (by rw [← e]; exact hc4)
        refine ⟨hne 37 (by decide), by omega, ?_⟩
        have n39 := hne 39 (by decide)
        have n91 := hne 91 (by decide)
        have n33 := hne 33 (by decide)
        have n59 := hne 59 (by decide)
        have n40 := hne 40 (by decide)
        have n41 := hne 41 (by decide)
        have n93 := hne 93 (by decide)
        have n124 := hne 124 (by decide)
        have n44 := hne 44 (by decide)
        unfold oneL
        dsimp only
        rw [if_neg (by omega), if_neg (by omega), if_neg n39, if_neg (fun e => n91 e.1), if_neg (fun e => e.elim n33 n59), if_neg (fun e => e.elim n40 (fun e => e.elim n41 (fun e => e.elim n91 (fun e => e.elim n93 (fun e => e.elim n124 n44))))), if_neg (fun e => hcs.2 e.1), t1, t2, hname]
      · have h3 : c :: q = [33] ∨ c :: q = [59] ∨ c :: q = [91, 93] := by
          unfold plainN at hpl
          simp only [Bool.or_eq_true, decide_eq_true_eq, hw, hs] at hpl
          rcases hpl with (((e | e) | e) | e) | e
          · cases e
          · cases e
          · exact .inl e
          · exact .inr (.inl e)
          · exact .inr (.inr e)
        rcases h3 with e | e | e
        · injection e with e1 e2
          subst e1 e2
          refine ⟨by decide, by decide, ?_⟩
          rw [List.nil_append]
          unfold oneL
          dsimp only
          rw [if_neg (by decide), if_neg (by decide), if_neg (by decide), if_neg (fun e => absurd e.1 (by decide)), if_pos (by decide), hname]
          rfl
        · injection e with e1 e2
          subst e1 e2
          refine ⟨by decide, by decide, ?_⟩
          rw [List.nil_append]
          unfold oneL
          dsimp only
          rw [if_neg (by decide), if_neg (by decide), if_neg (by decide), if_neg (fun e => absurd e.1 (by decide)), if_pos (by decide), hname]
          rfl
        · injection e with e1 e2
          subst e1 e2
          refine ⟨by decide, by decide, ?_⟩
          rw [List.cons_append, List.nil_append]
          unfold oneL
          dsimp only
          rw [if_neg (by decide), if_neg (by decide), if_neg (by decide), if_pos ⟨rfl, rfl⟩]
          exact hname 2
  · rw [if_neg hpl]
    refine ⟨39, dbl tx ++ [39], rfl, by decide, by decide, ?_⟩
    rw [List.append_assoc, List.cons_append, List.nil_append]
    have hd : (d :: q').head? ≠ some 39 := fun e => by
      injection e with e
      subst e
      revert hst
      decide
    unfold oneL
    dsimp only
    rw [if_neg (by decide), if_neg (by decide), if_pos rfl, quo_dbl hd tx hp]
    simp only [Option.bind_some]
    rw [show (dbl tx ++ 39 :: d :: q').drop ((dbl tx).length + 1) = d :: q' by rw [List.drop_append]; simp, hname]
    simp
theorem lex_nm {tx : List UInt8} (h1 : 1 ≤ tx.length) (h2 : tx.length ≤ 20) (hp : ∀ c ∈ tx, 32 ≤ c.toNat ∧ c.toNat ≤ 126) {r : List UInt8} (hr : Stops r) (p : Nat) : lexL false p (nmX tx ++ r) = preL [(⟨1, tx, 0, opens r⟩, p)] (lexL false (p + (nmX tx).length) r) := by
  obtain ⟨c, q, e, h37, h5, ho⟩ := nm_one h1 h2 hp hr
  have hg : ¬ (false = true ∨ c = 37) := by
    rintro (e | e)
    · cases e
    · exact h37 e
  rw [e, List.cons_append, lexL_tok hg h5 (by rw [ho, e])]
  rw [show (q ++ r).drop ((c :: q).length - 1) = r by simp]
/-! ### marks -/
theorem lex_mark {c : UInt8} (h : c = 40 ∨ c = 41 ∨ c = 93 ∨ c = 124 ∨ c = 44) (r : List UInt8) (p : Nat) : lexL false p (c :: r) = preL [(⟨4, [c], 0, false⟩, p)] (lexL false (p + 1) r) := by
  have ho : oneL (c :: r) = some (⟨4, [c], 0, false⟩, 1) := by
    unfold oneL
    dsimp only
    rcases h with rfl | rfl | rfl | rfl | rfl <;> rw [if_neg (by decide), if_neg (by decide), if_neg (by decide), if_neg (by intro e; exact absurd e.1 (by decide)), if_neg (by decide), if_pos (by decide)]
  rw [lexL_tok (by rcases h with rfl | rfl | rfl | rfl | rfl <;> decide) (by rcases h with rfl | rfl | rfl | rfl | rfl <;> decide) ho]
  rfl
theorem lex_open {r : List UInt8} (hr : r.head? ≠ some 93) (p : Nat) : lexL false p (91 :: r) = preL [(⟨4, [91], 0, false⟩, p)] (lexL false (p + 1) r) := by
  have ho : oneL (91 :: r) = some (⟨4, [91], 0, false⟩, 1) := by
    unfold oneL
    dsimp only
    rw [if_neg (by decide), if_neg (by decide), if_neg (by decide), if_neg (fun e => hr e.2), if_neg (by decide), if_pos (by decide)]
  rw [lexL_tok (by decide) (by decide) ho]
  rfl
end Go.Proofs.YtliapkajonbndaaGreatDoor

namespace Go.Proofs.YtliapkajonbndaaGreatDoor
open Go.RowKit

theorem neS {a b : ByteArray} (h : a ≠ b) : ¬ a.toList = b.toList := fun e => h (by
  rw [ByteArray.toList_eq, ByteArray.toList_eq] at e
  cases a; cases b
  congr 1
  exact Array.toList_inj.1 e)

theorem size0 (s : ByteArray) : s.size = 0 ↔ s.toList = [] := by
  rw [ByteArray.toList_eq]
  constructor
  · intro h
    exact List.length_eq_zero_iff.1 (by simpa using h)
  · intro h
    have := congrArg List.length h
    simpa using this
theorem ret_bool {a b : Bool} (h : a = b) : Ending.returned (.bool a) = .returned (.bool b) := by rw [h]
theorem ret_int {k : IntKind} {a b : Int} (h : a = b) : Ending.returned (.int k a) = .returned (.int k b) := by rw [h]

/-- A term: any fields, any terms in it. -/
inductive Tm where
  | mk (kind : Int) (name : ByteArray) (n : Int) (args : List Tm)

namespace Tm
def kind : Tm → Int | .mk k _ _ _ => k
def name : Tm → ByteArray | .mk _ s _ _ => s
def n : Tm → Int | .mk _ _ n _ => n
def args : Tm → List Tm | .mk _ _ _ l => l

theorem ind {P : Tm → Prop} (h : ∀ k s n l, (∀ t ∈ l, P t) → P (.mk k s n l)) : ∀ t, P t := by
  intro t
  refine Tm.rec (motive_1 := P) (motive_2 := fun l => ∀ t ∈ l, P t) ?_ ?_ ?_ t
  · intro k s n l ih
    exact h k s n l ih
  · intro t ht
    cases ht
  · intro t l ht hl u hu
    rcases List.mem_cons.1 hu with rfl | hu
    · exact ht
    · exact hl u hu

mutual
def size : Tm → Nat
  | .mk _ _ _ l => sizes l + 1
def sizes : List Tm → Nat
  | [] => 0
  | t :: r => t.size + sizes r
end

mutual
def deep : Tm → Nat
  | .mk _ _ _ l => deeps l + 1
def deeps : List Tm → Nat
  | [] => 0
  | t :: r => max t.deep (deeps r)
end

/-- Numbers are of 64 bits; names no longer than strings can be. -/
def headOk : Tm → Prop
  | .mk k s n _ => (Lit.int .i64 k).wf = true ∧ s.size ≤ maxLen ∧ (Lit.int .i64 n).wf = true

mutual
/-- 'sv' is the slice of the Args of a term that lies in 'w' below block B. -/
def inn (w : World) (B : Nat) : Tm → Value → Prop
  | .mk k s n l, sv => ((Lit.int .i64 k).wf = true ∧ s.size ≤ maxLen ∧ (Lit.int .i64 n).wf = true) ∧
      ∃ g cap, sv = .slice g l.length cap ∧ l.length ≤ cap ∧ l.length ≤ 2513169434900 ∧ (l = [] ∨ ∃ b off, g = some ⟨b, off, none⟩ ∧ b < B ∧ rowIn w B b off l)
def rowIn (w : World) (B : Nat) (b off : Nat) : List Tm → Prop
  | [] => True
  | t :: r => (∃ sv, w.cell? ⟨b, off, none⟩ = some (.int .i64 t.kind) ∧ w.cell? ⟨b, off + 1, none⟩ = some (.string t.name) ∧ w.cell? ⟨b, off + 2, none⟩ = some (.int .i64 t.n) ∧ w.cell? ⟨b, off + 3, none⟩ = some sv ∧ inn w B t sv) ∧
      rowIn w B b (off + 4) r
end

/-- A slice of terms. -/
def sliceIn (w : World) (B : Nat) (l : List Tm) (sv : Value) : Prop :=
  ∃ g cap, sv = .slice g l.length cap ∧ l.length ≤ cap ∧ l.length ≤ 2513169434900 ∧ (l = [] ∨ ∃ b off, g = some ⟨b, off, none⟩ ∧ b < B ∧ rowIn w B b off l)

theorem inn_mk {w : World} {B : Nat} {k : Int} {s : ByteArray} {n : Int} {l : List Tm} {sv : Value} :
    inn w B (.mk k s n l) sv ↔ ((Lit.int .i64 k).wf = true ∧ s.size ≤ maxLen ∧ (Lit.int .i64 n).wf = true) ∧ sliceIn w B l sv := by
  simp only [inn, sliceIn]

theorem inn_iff {w : World} {B : Nat} {t : Tm} {sv : Value} : inn w B t sv ↔ t.headOk ∧ sliceIn w B t.args sv := by
  cases t
  exact inn_mk

theorem rowIn_get {w : World} {B b : Nat} : ∀ {l : List Tm} {off : Nat}, rowIn w B b off l → ∀ (i : Nat) (h : i < l.length),
    ∃ sv, w.cell? ⟨b, off + i * 4, none⟩ = some (.int .i64 l[i].kind) ∧ w.cell? ⟨b, off + i * 4 + 1, none⟩ = some (.string l[i].name) ∧ w.cell? ⟨b, off + i * 4 + 2, none⟩ = some (.int .i64 l[i].n) ∧ w.cell? ⟨b, off + i * 4 + 3, none⟩ = some sv ∧ inn w B l[i] sv
  | [], _, _, i, h => absurd h (Nat.not_lt_zero _)
  | t :: r, off, hr, i, h => by
    simp only [rowIn] at hr
    cases i with
    | zero => simpa using hr.1
    | succ i =>
      have := rowIn_get hr.2 i (by simpa using h)
      simpa [show off + 4 + i * 4 = off + (i + 1) * 4 by omega] using this

theorem rowIn_of {w : World} {B b : Nat} : ∀ {l : List Tm} {off : Nat}, (∀ (i : Nat) (h : i < l.length),
    ∃ sv, w.cell? ⟨b, off + i * 4, none⟩ = some (.int .i64 l[i].kind) ∧ w.cell? ⟨b, off + i * 4 + 1, none⟩ = some (.string l[i].name) ∧ w.cell? ⟨b, off + i * 4 + 2, none⟩ = some (.int .i64 l[i].n) ∧ w.cell? ⟨b, off + i * 4 + 3, none⟩ = some sv ∧ inn w B l[i] sv) → rowIn w B b off l
  | [], _, _ => by simp [rowIn]
  | t :: r, off, h => by
    simp only [rowIn]
    refine ⟨h 0 (by simp), rowIn_of fun i hi => ?_⟩
    have := h (i + 1) (by simpa using hi)
    simpa [show off + 4 + i * 4 = off + (i + 1) * 4 by omega] using this

theorem rowIn_same {w w' : World} {B B' b : Nat} {l : List Tm} (hl : ∀ t ∈ l, ∀ sv, inn w B t sv → inn w' B' t sv)
    (hc : ∀ o v, w.cell? ⟨b, o, none⟩ = some v → w'.cell? ⟨b, o, none⟩ = some v) {off : Nat} (h : rowIn w B b off l) : rowIn w' B' b off l :=
  rowIn_of fun i hi => by
    obtain ⟨sv, h0, h1, h2, h3, h4⟩ := rowIn_get h i hi
    exact ⟨sv, hc _ _ h0, hc _ _ h1, hc _ _ h2, hc _ _ h3, hl _ (List.getElem_mem hi) _ h4⟩

theorem sliceIn_same {w w' : World} {B B' : Nat} {l : List Tm} (hl : ∀ t ∈ l, ∀ sv, inn w B t sv → inn w' B' t sv) (hB : B ≤ B')
    (hc : ∀ b o v, b < B → w.cell? ⟨b, o, none⟩ = some v → w'.cell? ⟨b, o, none⟩ = some v) {sv : Value} (h : sliceIn w B l sv) : sliceIn w' B' l sv := by
  obtain ⟨g, cap, rfl, h1, h2, h3⟩ := h
  refine ⟨g, cap, rfl, h1, h2, ?_⟩
  rcases h3 with h3 | ⟨b, off, rfl, hb, hr⟩
  · exact .inl h3
  · exact .inr ⟨b, off, rfl, by omega, rowIn_same hl (fun o v => hc b o v hb) hr⟩

theorem inn_same {w w' : World} {B B' : Nat} (hB : B ≤ B') (hc : ∀ b o v, b < B → w.cell? ⟨b, o, none⟩ = some v → w'.cell? ⟨b, o, none⟩ = some v) :
    ∀ (t : Tm) (sv : Value), inn w B t sv → inn w' B' t sv := by
  refine ind fun k s n l ih sv h => ?_
  rw [inn_mk] at h ⊢
  exact ⟨h.1, sliceIn_same ih hB hc h.2⟩

theorem inn_below {w w' : World} {B n₀ : Nat} {t : Tm} {sv : Value} (h : inn w B t sv) (hb : Below n₀ w w') (hB : B ≤ n₀) : inn w' B t sv :=
  inn_same (Nat.le_refl _) (fun b o v hlt hc => by rw [hb.cell (p := ⟨b, o, none⟩) (by show b < n₀; omega)]; exact hc) t sv h

theorem inn_mono {w : World} {B B' : Nat} {t : Tm} {sv : Value} (h : inn w B t sv) (hB : B ≤ B') : inn w B' t sv :=
  inn_same hB (fun _ _ _ _ hc => hc) t sv h

theorem sliceIn_below {w w' : World} {B n₀ : Nat} {l : List Tm} {sv : Value} (h : sliceIn w B l sv) (hb : Below n₀ w w') (hB : B ≤ n₀) : sliceIn w' B l sv :=
  sliceIn_same (fun _ _ _ h => inn_below h hb hB) (Nat.le_refl _) (fun b o v hlt hc => by rw [hb.cell (p := ⟨b, o, none⟩) (by show b < n₀; omega)]; exact hc) h

theorem sliceIn_mono {w : World} {B B' : Nat} {l : List Tm} {sv : Value} (h : sliceIn w B l sv) (hB : B ≤ B') : sliceIn w B' l sv :=
  sliceIn_same (fun _ _ _ h => inn_mono h hB) hB (fun _ _ _ _ hc => hc) h

/-- What a walk wants of element i. -/
theorem sliceIn_get {w : World} {B : Nat} {l : List Tm} {g : Option Addr} {len cap : Nat} (h : sliceIn w B l (.slice g len cap)) (i : Nat) (hi : i < l.length) :
    ∃ b off sv, g = some ⟨b, off, none⟩ ∧ b < B ∧ w.cell? ⟨b, off + i * 4, none⟩ = some (.int .i64 l[i].kind) ∧ w.cell? ⟨b, off + i * 4 + 1, none⟩ = some (.string l[i].name) ∧
      w.cell? ⟨b, off + i * 4 + 2, none⟩ = some (.int .i64 l[i].n) ∧ w.cell? ⟨b, off + i * 4 + 3, none⟩ = some sv ∧ inn w B l[i] sv := by
  obtain ⟨g', cap', he, h1, h2, h3⟩ := h
  injection he with e1 e2 e3
  subst e1
  rcases h3 with rfl | ⟨b, off, rfl, hb, hr⟩
  · simp at hi
  · obtain ⟨sv, hh⟩ := rowIn_get hr i hi
    exact ⟨b, off, sv, rfl, hb, hh⟩

theorem size_pos (t : Tm) : 0 < t.size := by cases t; simp [size]
theorem sizes_take_succ (l : List Tm) (i : Nat) (h : i < l.length) : sizes (l.take (i + 1)) = sizes (l.take i) + l[i].size := by
  induction l generalizing i with
  | nil => simp at h
  | cons t r ih =>
    cases i with
    | zero => simp [sizes]
    | succ i =>
      have := ih i (by simpa using h)
      simp only [List.take_succ_cons, sizes, List.getElem_cons_succ] at this ⊢
      omega
theorem sizes_take_le (l : List Tm) (i : Nat) : sizes (l.take i) ≤ sizes l := by
  induction l generalizing i with
  | nil => simp [sizes]
  | cons t r ih =>
    cases i with
    | zero => simp [sizes]
    | succ i =>
      have := ih i
      simp only [List.take_succ_cons, sizes] at this ⊢
      omega
theorem size_mem_le {l : List Tm} {t : Tm} (h : t ∈ l) : t.size ≤ sizes l := by
  induction l with
  | nil => cases h
  | cons u r ih =>
    rcases List.mem_cons.1 h with rfl | h
    · simp [sizes]
    · have := ih h
      simp only [sizes]
      omega
theorem length_le_sizes (l : List Tm) : l.length ≤ sizes l := by
  induction l with
  | nil => simp
  | cons t r ih =>
    have := t.size_pos
    simp only [sizes, List.length_cons]
    omega

theorem deep_pos (t : Tm) : 0 < t.deep := by cases t; simp [deep]
theorem deeps_take_succ (l : List Tm) (i : Nat) (h : i < l.length) : deeps (l.take (i + 1)) = max (deeps (l.take i)) l[i].deep := by
  induction l generalizing i with
  | nil => simp at h
  | cons t r ih =>
    cases i with
    | zero => simp [deeps]
    | succ i =>
      have := ih i (by simpa using h)
      simp only [List.take_succ_cons, deeps, List.getElem_cons_succ] at this ⊢
      rw [this]; omega
theorem deeps_take_le (l : List Tm) (i : Nat) : deeps (l.take i) ≤ deeps l := by
  induction l generalizing i with
  | nil => simp [deeps]
  | cons t r ih =>
    cases i with
    | zero => simp [deeps]
    | succ i =>
      have := ih i
      simp only [List.take_succ_cons, deeps] at this ⊢
      omega
theorem deeps_le_sizes (l : List Tm) (h : ∀ t ∈ l, t.deep ≤ t.size) : deeps l ≤ sizes l := by
  induction l with
  | nil => simp [deeps]
  | cons t r ih =>
    have h1 := h t (by simp)
    have h2 := ih (fun u hu => h u (by simp [hu]))
    simp only [sizes, deeps]
    omega
theorem deep_le_size : ∀ t : Tm, t.deep ≤ t.size := ind fun k s n l ih => by
  have := deeps_le_sizes l ih
  simp only [size, deep]; omega

/-- A byte that a name may have. -/
def byteOk (c : UInt8) : Bool := decide (32 ≤ c.toNat) && decide (c.toNat ≤ 126)
def nameOk (s : ByteArray) : Bool := s.data.toList.all byteOk
/-- A term's own fields. -/
def alone (k : Int) (s : ByteArray) (n : Int) (m : Nat) : Bool :=
  if k = 1 then decide (0 ≤ n) && decide (n < 1000000) && decide (s.toList = []) && ((m : Int) == 0)
  else if k = 2 then decide (s.toList = []) && ((m : Int) == 0)
  else if k = 3 then decide (n = 0) && decide (1 ≤ (s.size : Int)) && decide ((s.size : Int) ≤ 20) && decide ((m : Int) ≤ 8)
  else false
mutual
def fair : Tm → Bool
  | .mk k s n l => nameOk s && fairs l && alone k s n l.length
def fairs : List Tm → Bool
  | [] => true
  | t :: r => t.fair && fairs r
end
theorem fairs_all (l : List Tm) : fairs l = l.all fair := by
  induction l with
  | nil => simp [fairs]
  | cons t r ih => simp [fairs, ih]
def right (t : Tm) : Bool := t.fair && decide (t.size ≤ 3000) && decide (t.deep ≤ 100)

mutual
/-- Have Vars no Args, here and in all terms inside? -/
def noArgs : Tm → Bool
  | .mk k _ _ l => (if k = 1 ∧ 0 < l.length then false else true) && plain l
def plain : List Tm → Bool
  | [] => true
  | t :: r => t.noArgs && plain r
end
theorem plain_all (l : List Tm) : plain l = l.all noArgs := by
  induction l with
  | nil => simp [plain]
  | cons t r ih => simp [plain, ih]

mutual
/-- Are two terms alike? -/
def same : Tm → Tm → Bool
  | .mk k s n l, u => decide (k = u.kind) && decide (n = u.n) && decide (s = u.name) && sames l u.args
def sames : List Tm → List Tm → Bool
  | [], [] => true
  | [], _ :: _ => false
  | _ :: _, [] => false
  | t :: r, u :: q => t.same u && sames r q
end
theorem sames_iff (l m : List Tm) (h : ∀ t ∈ l, ∀ u, t.same u = true ↔ t = u) : sames l m = true ↔ l = m := by
  induction l generalizing m with
  | nil => cases m <;> simp [sames]
  | cons t r ih =>
    cases m with
    | nil => simp [sames]
    | cons u q =>
      have h1 := h t (by simp) u
      have h2 := ih q (fun v hv => h v (by simp [hv]))
      simp only [sames, Bool.and_eq_true, h1, h2, List.cons.injEq]
theorem same_iff : ∀ (t u : Tm), t.same u = true ↔ t = u := ind fun k s n l ih u => by
  obtain ⟨k', s', n', l'⟩ := u
  have := sames_iff l l' ih
  simp only [same, kind, Tm.n, name, args, Bool.and_eq_true, this, Tm.mk.injEq]
  constructor
  · rintro ⟨⟨⟨h1, h2⟩, h3⟩, h4⟩
    exact ⟨of_decide_eq_true h1, of_decide_eq_true h3, of_decide_eq_true h2, h4⟩
  · rintro ⟨rfl, rfl, rfl, rfl⟩
    exact ⟨⟨⟨decide_eq_true rfl, decide_eq_true rfl⟩, decide_eq_true rfl⟩, rfl⟩
instance : DecidableEq Tm := fun a b => if h : a.same b = true then .isTrue ((same_iff a b).1 h) else .isFalse fun e => h ((same_iff a b).2 e)
theorem same_eq (a b : Tm) : a.same b = decide (a = b) := by
  rw [Bool.eq_iff_iff]; simp [same_iff]

mutual
/-- How many more terms there may be behind this one; below 0: too many, too deep, or too long a name. -/
def few : Tm → Int → Int → Int
  | .mk _ s _ l, most, d => if most - 1 < 0 ∨ d < 1 ∨ 100 < (s.size : Int) then -1 else fews l (most - 1) (d - 1)
def fews : List Tm → Int → Int → Int
  | [], m, _ => m
  | t :: r, m, d => if m < 0 then m else fews r (t.few m d) d
end
theorem fews_neg (l : List Tm) (m d : Int) (h : m < 0) : fews l m d = m := by cases l <;> simp [fews, h]
theorem fews_take_succ (l : List Tm) (i : Nat) (h : i < l.length) (m d : Int) (hm : 0 ≤ fews (l.take i) m d) : fews (l.take (i + 1)) m d = l[i].few (fews (l.take i) m d) d := by
  induction l generalizing i m with
  | nil => simp at h
  | cons t r ih =>
    cases i with
    | zero =>
      simp only [List.take_zero, fews] at hm
      simp [fews, show ¬ m < 0 by omega]
    | succ i =>
      simp only [List.take_succ_cons, fews, List.getElem_cons_succ] at hm ⊢
      by_cases hn : m < 0
      · rw [if_pos hn] at hm; omega
      · rw [if_neg hn] at hm
        simp only [if_neg hn]
        exact ih i (by simpa using h) _ hm
theorem fews_stop (l : List Tm) (i : Nat) (m d : Int) (hm : fews (l.take i) m d < 0) : fews l m d = fews (l.take i) m d := by
  induction l generalizing i m with
  | nil => simp [fews]
  | cons t r ih =>
    cases i with
    | zero =>
      simp only [List.take_zero, fews] at hm ⊢
      rw [if_pos hm]
    | succ i =>
      simp only [List.take_succ_cons, fews] at hm ⊢
      by_cases hn : m < 0
      · simp [hn]
      · rw [if_neg hn] at hm
        simp only [if_neg hn]
        exact ih i _ hm
theorem fews_rng (l : List Tm) (h : ∀ t ∈ l, ∀ m d : Int, 0 ≤ m → -1 ≤ t.few m d ∧ t.few m d ≤ m - 1) (m d : Int) (hm : -1 ≤ m) : -1 ≤ fews l m d ∧ fews l m d ≤ m := by
  induction l generalizing m with
  | nil => simp [fews]; omega
  | cons t r ih =>
    simp only [fews]
    by_cases hn : m < 0
    · rw [if_pos hn]; omega
    · rw [if_neg hn]
      have h1 := h t (by simp) m d (by omega)
      have h2 := ih (fun u hu => h u (by simp [hu])) (t.few m d) (by omega)
      omega
theorem few_rng : ∀ (t : Tm) (m d : Int), 0 ≤ m → -1 ≤ t.few m d ∧ t.few m d ≤ m - 1 := ind fun k s n l ih m d hm => by
  simp only [few]
  split
  · omega
  · exact fews_rng l ih _ _ (by omega)
/-- What 'few' tells. -/
theorem fews_says (l : List Tm) (h : ∀ t ∈ l, ∀ m d : Int, 0 ≤ t.few m d → (t.size : Int) ≤ m ∧ t.few m d = m - t.size ∧ (t.deep : Int) ≤ d) (m d : Int) (hm : 0 ≤ fews l m d) :
    (sizes l : Int) ≤ m ∧ fews l m d = m - sizes l ∧ (deeps l = 0 ∨ (deeps l : Int) ≤ d) := by
  induction l generalizing m with
  | nil => exact ⟨by simpa [fews, sizes] using hm, by simp [fews, sizes], .inl (by simp [deeps])⟩
  | cons t r ih =>
    simp only [fews] at hm ⊢
    by_cases hn : m < 0
    · rw [if_pos hn] at hm; omega
    · rw [if_neg hn] at hm ⊢
      have h2 := ih (fun u hu => h u (by simp [hu])) (t.few m d) hm
      by_cases hc : t.few m d < 0
      · rw [fews_neg _ _ _ hc] at hm; omega
      have h1 := h t (by simp) m d (by omega)
      simp only [sizes, deeps]
      omega
theorem few_says : ∀ (t : Tm) (m d : Int), 0 ≤ t.few m d → (t.size : Int) ≤ m ∧ t.few m d = m - t.size ∧ (t.deep : Int) ≤ d := ind fun k s n l ih m d hm => by
  simp only [few] at hm ⊢
  split at hm
  · omega
  · rename_i hc
    rw [if_neg hc]
    have := fews_says l ih _ _ hm
    simp only [size, deep]
    omega
def someB (l : List Tm) : Bool := decide (0 ≤ fews l 4000 200) && decide (l.length ≤ 100)
theorem some_size {l : List Tm} (h : someB l = true) {t : Tm} (ht : t ∈ l) : t.size ≤ 4000 := by
  simp only [someB, Bool.and_eq_true, decide_eq_true_eq] at h
  have := fews_says l (fun t _ m d => few_says t m d) _ _ h.1
  have := size_mem_le ht
  omega
end Tm
end Go.Proofs.YtliapkajonbndaaGreatDoor

namespace Go.Proofs.YtliapkajonbndaaGreatDoor
open Go.RowKit

/-- A text's bytes. -/
def bsN (s : ByteArray) : List UInt8 := s.data.toList
theorem bsN_length (s : ByteArray) : (bsN s).length = s.size := by simp [bsN]
theorem bsN_get (s : ByteArray) (i : Nat) (h : i < s.size) : (bsN s)[i]'(by rw [bsN_length]; exact h) = s[i] := by simp [bsN]; rfl
theorem bsN_toList (s : ByteArray) : s.toList = bsN s := by rw [ByteArray.toList_eq]; rfl
theorem bsN_arr (s : ByteArray) : (⟨(bsN s).toArray⟩ : ByteArray) = s := by
  cases s
  simp [bsN]
/-! ### the text -/
abbrev P2 := List UInt8 × List UInt8
def dotO (s : List UInt8) : List P2 → Option (P2 × P2)
  | [a, b] => if s = [46] then some (a, b) else none
  | _ => none
def cmX : List P2 → List UInt8
  | [] => []
  | a :: q => 44 :: (a.1 ++ cmX q)
def txO (k : Int) (s : List UInt8) (n : Int) (ps : List P2) : List UInt8 :=
  if k = 1 then 95 :: dgs n.toNat
  else if k = 2 then (if n < 0 then 45 :: dgs (-n).toNat else dgs n.toNat)
  else match ps with
    | [] => nmX s
    | a :: q => match dotO s (a :: q) with
      | some (x, y) => 91 :: (x.1 ++ y.2)
      | none => nmX s ++ 40 :: (a.1 ++ (cmX q ++ [41]))
def tlO (k : Int) (s : List UInt8) (n : Int) (ps : List P2) : List UInt8 :=
  if k = 3 ∧ s = [91, 93] ∧ ps = [] then [93]
  else match (if k = 3 then dotO s ps else none) with
    | some (x, y) => 44 :: (x.1 ++ y.2)
    | none => 124 :: (txO k s n ps ++ [93])
mutual
/-- A term's text, and what stands for it behind a list's element. -/
def wr : Tm → P2
  | .mk k s n l => (txO k (bsN s) n (wrs l), tlO k (bsN s) n (wrs l))
def wrs : List Tm → List P2
  | [] => []
  | t :: r => wr t :: wrs r
end
def tx (t : Tm) : List UInt8 := (wr t).1
def tl (t : Tm) : List UInt8 := (wr t).2
theorem wrs_map (l : List Tm) : wrs l = l.map wr := by
  induction l with
  | nil => rfl
  | cons t r ih => rw [wrs, ih]; rfl
/-! ### what is told of the numbers -/
mutual
def nOk : Tm → Bool
  | .mk k _ n l => (k != 2 || (decide (-9223372036854775807 ≤ n) && decide (n ≤ 9223372036854775807))) && nOks l
def nOks : List Tm → Bool
  | [] => true
  | t :: r => nOk t && nOks r
end
theorem nOks_all (l : List Tm) : nOks l = l.all nOk := by
  induction l with
  | nil => rfl
  | cons t r ih => simp [nOks, ih]
end Go.Proofs.YtliapkajonbndaaGreatDoor
