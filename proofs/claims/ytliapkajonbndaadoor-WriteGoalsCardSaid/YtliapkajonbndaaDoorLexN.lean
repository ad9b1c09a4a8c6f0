import Derived.Test.YtliapkajonbndaaDoorLex
import GoSem.Op.String
namespace Go.Proofs.YtliapkajonbndaaDoor

/-! ### numbers, digit by digit -/
def dfrom (n : Nat) (l : List UInt8) : Nat := l.foldl (fun n c => 10 * n + (c.toNat - 48)) n
theorem dfrom_eq : ∀ (l : List UInt8) (n : Nat), dfrom n l = n * 10 ^ l.length + dval l
  | [], n => by simp [dfrom, dval]
  | c :: r, n => by
    have h1 := dfrom_eq r (10 * n + (c.toNat - 48))
    have h2 := dfrom_eq r (c.toNat - 48)
    have e1 : dfrom n (c :: r) = dfrom (10 * n + (c.toNat - 48)) r := rfl
    have e2 : dval (c :: r) = dfrom (c.toNat - 48) r := by simp [dval, dfrom]
    rw [e1, e2, h1, h2, List.length_cons, Nat.pow_succ, Nat.add_mul]
    have : 10 * n * 10 ^ r.length = n * (10 ^ r.length * 10) := by
      rw [Nat.mul_comm 10 n, Nat.mul_assoc, Nat.mul_comm 10]
    omega
theorem dval_cons (c : UInt8) (r : List UInt8) : dval (c :: r) = (c.toNat - 48) * 10 ^ r.length + dval r := by
  have e2 : dval (c :: r) = dfrom (c.toNat - 48) r := by simp [dval, dfrom]
  rw [e2, dfrom_eq]
theorem dval_snoc (l : List UInt8) (c : UInt8) : dval (l ++ [c]) = 10 * dval l + (c.toNat - 48) := by simp [dval]
theorem dig_says {c : UInt8} (h : isDigit c = true) : 48 ≤ c.toNat ∧ c.toNat ≤ 57 := by
  simp only [isDigit, beq_iff_eq, srt] at h
  split at h
  · omega
  · split at h
    · omega
    · split at h
      · assumption
      · split at h
        · omega
        · split at h <;> omega
theorem dval_lt : ∀ {l : List UInt8}, (∀ c ∈ l, isDigit c = true) → dval l < 10 ^ l.length
  | [], _ => by simp [dval]
  | c :: r, h => by
    have h1 := dval_lt (l := r) (fun d hd => h d (by simp [hd]))
    have h2 := dig_says (h c (by simp))
    rw [dval_cons, List.length_cons, Nat.pow_succ]
    have h3 : (c.toNat - 48) * 10 ^ r.length ≤ 9 * 10 ^ r.length := Nat.mul_le_mul_right _ (by omega)
    omega
theorem less_dval : ∀ {x y : List UInt8}, x.length = y.length → (∀ c ∈ x, isDigit c = true) → (∀ c ∈ y, isDigit c = true) → Op.bytesLess x y = decide (dval x < dval y)
  | [], [], _, _, _ => by simp [Op.bytesLess, dval]
  | [], _ :: _, h, _, _ => by simp at h
  | _ :: _, [], h, _, _ => by simp at h
  | a :: x, b :: y, h, hx, hy => by
    simp only [List.length_cons, Nat.add_right_cancel_iff] at h
    have ih := less_dval h (fun c hc => hx c (by simp [hc])) (fun c hc => hy c (by simp [hc]))
    have lx := dval_lt (l := x) (fun c hc => hx c (by simp [hc]))
    have ly := dval_lt (l := y) (fun c hc => hy c (by simp [hc]))
    have ha := dig_says (hx a (by simp))
    have hb := dig_says (hy b (by simp))
    rw [dval_cons, dval_cons, h]
    rw [h] at lx
    simp only [Op.bytesLess, ih]
    rw [Bool.eq_iff_iff]
    simp only [Bool.or_eq_true, Bool.and_eq_true, decide_eq_true_eq, beq_iff_eq, UInt8.lt_iff_toNat_lt]
    generalize 10 ^ y.length = p at lx ly ⊢
    constructor
    · rintro (h1 | ⟨h1, h2⟩)
      · have h3 : (a.toNat - 48 + 1) * p ≤ (b.toNat - 48) * p := Nat.mul_le_mul_right _ (by omega)
        rw [Nat.add_mul, Nat.one_mul] at h3
        omega
      · rw [h1]; omega
    · intro h1
      by_cases h2 : a.toNat < b.toNat
      · exact .inl h2
      · by_cases h3 : a.toNat = b.toNat
        · refine .inr ⟨UInt8.toNat_inj.1 h3, ?_⟩
          rw [h3] at h1
          omega
        · have h4 : (b.toNat - 48 + 1) * p ≤ (a.toNat - 48) * p := Nat.mul_le_mul_right _ (by omega)
          rw [Nat.add_mul, Nat.one_mul] at h4
          omega
theorem less_same : ∀ {x y : List UInt8}, x.length = y.length → (∀ c ∈ x, isDigit c = true) → (∀ c ∈ y, isDigit c = true) → (dval x = dval y ↔ x = y)
  | [], [], _, _, _ => by simp
  | [], _ :: _, h, _, _ => by simp at h
  | _ :: _, [], h, _, _ => by simp at h
  | a :: x, b :: y, h, hx, hy => by
    simp only [List.length_cons, Nat.add_right_cancel_iff] at h
    have ih := less_same h (fun c hc => hx c (by simp [hc])) (fun c hc => hy c (by simp [hc]))
    have lx := dval_lt (l := x) (fun c hc => hx c (by simp [hc]))
    have ly := dval_lt (l := y) (fun c hc => hy c (by simp [hc]))
    have ha := dig_says (hx a (by simp))
    have hb := dig_says (hy b (by simp))
    rw [dval_cons, dval_cons, h]
    rw [h] at lx
    generalize 10 ^ y.length = p at lx ly ⊢
    constructor
    · intro e
      by_cases h2 : a.toNat < b.toNat
      · have h3 : (a.toNat - 48 + 1) * p ≤ (b.toNat - 48) * p := Nat.mul_le_mul_right _ (by omega)
        rw [Nat.add_mul, Nat.one_mul] at h3
        omega
      · by_cases h3 : b.toNat < a.toNat
        · have h4 : (b.toNat - 48 + 1) * p ≤ (a.toNat - 48) * p := Nat.mul_le_mul_right _ (by omega)
          rw [Nat.add_mul, Nat.one_mul] at h4
          omega
        · have h5 : a = b := UInt8.toNat_inj.1 (by omega)
          subst h5
          rw [ih.1 (by omega)]
    · rintro e
      injection e with e1 e2
      rw [e1, ih.2 e2]
def maxD : List UInt8 := [57, 50, 50, 51, 51, 55, 50, 48, 51, 54, 56, 53, 52, 55, 55, 53, 56, 48, 55]
theorem maxD_val : dval maxD = 9223372036854775807 := by decide
theorem maxD_dig : ∀ c ∈ maxD, isDigit c = true := by decide
/-- What the document asks of digits is that they are a number, and no greater than the greatest. -/
theorem num_doc {l : List UInt8} (hd : ∀ c ∈ l, isDigit c = true) (h1 : ¬ (l.head? = some 48 ∧ 1 < l.length)) :
    (19 < l.length ∨ (l.length = 19 ∧ (Op.bytesLess l maxD || l == maxD) = false)) ↔ 9223372036854775807 < dval l ∧ l ≠ [] := by
  by_cases hl : l = []
  · subst hl; simp
  have hpos : 0 < l.length := List.length_pos_iff.2 hl
  simp only [ne_eq, hl, not_false_eq_true, and_true]
  constructor
  · rintro (h | ⟨h, hc⟩)
    · obtain ⟨c, r, rfl⟩ := List.exists_cons_of_ne_nil hl
      simp only [List.length_cons] at h h1
      have hc := dig_says (hd c (by simp))
      have hn : c.toNat ≠ 48 := fun e => h1 ⟨by simp [UInt8.toNat_inj.1 (show c.toNat = (48 : UInt8).toNat from e)], by omega⟩
      rw [dval_cons]
      have h3 : 1 * 10 ^ r.length ≤ (c.toNat - 48) * 10 ^ r.length := Nat.mul_le_mul_right _ (by omega)
      have h4 : 10 ^ 19 ≤ 10 ^ r.length := Nat.pow_le_pow_right (by decide) (by omega)
      omega
    · have hlen : l.length = maxD.length := h
      rw [less_dval hlen hd maxD_dig, maxD_val] at hc
      have h5 : ¬ dval l < 9223372036854775807 ∧ ¬ l = maxD := by simpa using hc
      have h6 := less_same hlen hd maxD_dig
      rw [maxD_val] at h6
      have : dval l ≠ 9223372036854775807 := fun e => h5.2 (h6.1 e)
      omega
  · intro h
    by_cases h3 : 19 < l.length
    · exact .inl h3
    · have h4 := dval_lt hd
      by_cases h5 : l.length = 19
      · refine .inr ⟨h5, ?_⟩
        have hlen : l.length = maxD.length := h5
        rw [less_dval hlen hd maxD_dig, maxD_val]
        have h6 : ¬ l = maxD := fun e => by rw [e, maxD_val] at h; omega
        simp [h6]
        omega
      · have h6 : 10 ^ l.length ≤ 10 ^ 18 := Nat.pow_le_pow_right (by decide) (by omega)
        omega
end Go.Proofs.YtliapkajonbndaaDoor
