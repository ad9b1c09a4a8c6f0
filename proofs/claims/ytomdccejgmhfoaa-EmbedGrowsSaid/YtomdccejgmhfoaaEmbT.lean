/-
  The program's table of bits, purely: row by row it tells which parts are embedded in which.
-/
import Derived.Test.YtomdccejgmhfoaaETog
namespace Go.Proofs.Ytomdccejgmhfoaa
open Go.RowKit

theorem headB_top {x y : Pt} (hx : x.t.fair = true) (hy : y.t.fair = true) (lx : x.at'.length = x.t.args.length) (ly : y.at'.length = y.t.args.length) : headB x y = topE x.t y.t := by
  rw [Bool.eq_iff_iff, topE_iff]
  simp only [headB, decide_eq_true_eq]
  constructor
  · rintro ⟨h1, h2, h3⟩
    exact ⟨h1, .inr ⟨h2, by omega⟩⟩
  · rintro ⟨h1, h2⟩
    rcases h2 with h2 | ⟨h2, h3⟩
    · obtain ⟨⟨k, s, n, l⟩, a⟩ := x
      obtain ⟨⟨k', s', n', l'⟩, a'⟩ := y
      simp only [Tm.kind, Tm.name, Tm.args] at h1 h2 lx ly ⊢
      have e1 := Tm.alone_kinds (Tm.fair_own hx).1
      have e2 := Tm.alone_kinds (Tm.fair_own hy).1
      have g1 : s.toList = [] ∧ l.length = 0 := by
        rcases e1 with h | h | h
        · exact h.2
        · exact h.2
        · exact absurd h.1 h2
      have g2 : s'.toList = [] ∧ l'.length = 0 := by
        rcases e2 with h | h | h
        · exact h.2
        · exact h.2
        · exact absurd (h1.trans h.1) h2
      exact ⟨h1, Tm.toList_nil g1.1 g2.1, by omega⟩
    · exact ⟨h1, h2, by omega⟩
theorem hasT_or (bt : Nat → Nat) (j p j' i : Nat) (hi : i < 3008) : hasT (orTo bt (47 * j) (47 * p) 47) j' i = if j' = j then hasT bt j i || hasT bt p i else hasT bt j' i := by
  unfold hasT orTo
  by_cases e : j' = j
  · subst e
    rw [if_pos rfl, if_pos (by omega), show 47 * j' + i / 64 - 47 * j' + 47 * p = 47 * p + i / 64 by omega, Nat.testBit_or]
  · rw [if_neg e, if_neg (by omega)]
def setBit (bt : Nat → Nat) (j i o : Nat) : Nat := if o = 47 * j + i / 64 then bt (47 * j + i / 64) ||| 2 ^ (i % 64) else bt o
theorem hasT_set (bt : Nat → Nat) (j i j' i' : Nat) (hi : i < 3008) (hi' : i' < 3008) : hasT (setBit bt j i) j' i' = (hasT bt j' i' || decide (j' = j ∧ i' = i)) := by
  unfold hasT setBit
  by_cases e : 47 * j' + i' / 64 = 47 * j + i / 64
  · have e1 : j' = j := by omega
    have e2 : i' / 64 = i / 64 := by omega
    subst e1
    rw [if_pos e, e2, Nat.testBit_or, Nat.testBit_two_pow]
    congr 1
    rw [decide_eq_decide]
    constructor
    · intro h; exact ⟨rfl, by omega⟩
    · rintro ⟨_, h⟩; rw [h]
  · rw [if_neg e]
    have : ¬ (j' = j ∧ i' = i) := fun ⟨h1, h2⟩ => e (by rw [h1, h2])
    simp [this]
theorem setBit_lt {bt : Nat → Nat} (h : ∀ o, bt o < 18446744073709551616) (j i o : Nat) : setBit bt j i o < 18446744073709551616 := by
  unfold setBit
  split
  · refine or_lt _ _ (h _) ?_
    have := Nat.pow_lt_pow_of_lt (a := 2) (by decide) (Nat.mod_lt i (show 0 < 64 by decide))
    simpa using this
  · exact h _
def RowOk (bt : Nat → Nat) (La Lb : List Pt) (j : Nat) : Prop := ∀ i (_ : i < La.length) (_ : j < Lb.length), hasT bt j i = Lb[j].t.emb La[i].t
def anyB (y x : Tm) (A : Nat) : Bool := decide (∃ q, ∃ h : q < y.args.length, q < A ∧ y.args[q].emb x = true)
theorem anyB_zero (y x : Tm) : anyB y x 0 = false := by simp [anyB]
theorem anyB_succ {y x : Tm} {A : Nat} (h : A < y.args.length) : anyB y x (A + 1) = (anyB y x A || y.args[A].emb x) := by
  rw [Bool.eq_iff_iff]
  simp only [anyB, Bool.or_eq_true, decide_eq_true_eq]
  constructor
  · rintro ⟨q, hq, hlt, he⟩
    by_cases e : q < A
    · exact .inl ⟨q, hq, e, he⟩
    · obtain rfl : q = A := by omega
      exact .inr he
  · rintro (⟨q, hq, hlt, he⟩ | he)
    · exact ⟨q, hq, by omega, he⟩
    · exact ⟨A, h, by omega, he⟩
theorem anyB_emb (y x : Tm) : y.emb x = ((topE x y && Tm.embs y.args x.args) || anyB y x y.args.length) := by
  rw [Bool.eq_iff_iff, Tm.emb_iff]
  simp only [anyB, Bool.or_eq_true, Bool.and_eq_true, decide_eq_true_eq]
  constructor
  · rintro (h | ⟨z, hz, h⟩)
    · exact .inl h
    · obtain ⟨i, hi, rfl⟩ := List.getElem_of_mem hz
      exact .inr ⟨i, hi, hi, h⟩
  · rintro (h | ⟨i, hi, _, h⟩)
    · exact .inl h
    · exact .inr ⟨_, List.getElem_mem hi, h⟩
/-- The rows below j are filled, the others are empty. -/
structure ESt (bt : Nat → Nat) (La Lb : List Pt) (j : Nat) : Prop where
  done : ∀ j', j' < j → RowOk bt La Lb j'
  zero : ∀ o, 47 * j ≤ o → bt o = 0
/-- .. and row j tells what is embedded in the first A Args. -/
structure EStA (bt : Nat → Nat) (La Lb : List Pt) (j A : Nat) : Prop where
  done : ∀ j', j' < j → RowOk bt La Lb j'
  mid : ∀ i (_ : i < La.length) (_ : j < Lb.length), hasT bt j i = anyB Lb[j].t La[i].t A
  zero : ∀ o, 47 * (j + 1) ≤ o → bt o = 0
/-- .. and for the first I parts all that it is to tell. -/
structure EStI (bt : Nat → Nat) (La Lb : List Pt) (j I : Nat) : Prop where
  done : ∀ j', j' < j → RowOk bt La Lb j'
  mid : ∀ i (_ : i < La.length) (_ : j < Lb.length), hasT bt j i = if i < I then Lb[j].t.emb La[i].t else anyB Lb[j].t La[i].t Lb[j].t.args.length
  zero : ∀ o, 47 * (j + 1) ≤ o → bt o = 0
section
variable {bt : Nat → Nat} {La Lb : List Pt} {j : Nat}
theorem ESt.start (La Lb : List Pt) : ESt (fun _ => 0) La Lb 0 := ⟨fun _j' h => absurd h (Nat.not_lt_zero _), fun _ _ => rfl⟩
theorem EStA.start (h : ESt bt La Lb j) : EStA bt La Lb j 0 := by
  refine ⟨h.done, fun i _ _ => ?_, fun o ho => h.zero o (by omega)⟩
  rw [anyB_zero]
  unfold hasT
  rw [h.zero _ (by omega)]
  simp
theorem EStA.step (hb : PartsOk Lb) (hn : La.length ≤ 3000) {A p : Nat} (hj : j < Lb.length) (hA : A < Lb[j].at'.length) (hp : Lb[j].at'[A] = p) (h : EStA bt La Lb j A) : EStA (orTo bt (47 * j) (47 * p) 47) La Lb j (A + 1) := by
  subst hp
  obtain ⟨hl, hh⟩ := hb j hj
  obtain ⟨hlt, q, hq⟩ := hh A hA (by omega)
  refine ⟨fun j' hj' i hi hjl => ?_, fun i hi hjl => ?_, fun o ho => ?_⟩
  · rw [hasT_or _ _ _ _ _ (by omega), if_neg (by omega)]
    exact h.done j' hj' i hi hjl
  · rw [hasT_or _ _ _ _ _ (by omega), if_pos rfl, h.mid i hi hj, anyB_succ (by omega)]
    have hpl : Lb[j].at'[A] < Lb.length := by omega
    rw [h.done _ hlt i hi hpl]
    rw [List.getElem?_eq_getElem hpl] at hq
    have := Option.some.inj hq
    rw [this]
  · unfold orTo
    rw [if_neg (by omega)]
    exact h.zero o ho
theorem EStI.start (_hl : Lb.length = Lb.length) {A : Nat} (hA : ∀ (hj : j < Lb.length), A = Lb[j].t.args.length) (h : EStA bt La Lb j A) : EStI bt La Lb j 0 :=
  ⟨h.done, fun i hi hj => by rw [if_neg (Nat.not_lt_zero _), h.mid i hi hj, hA hj], h.zero⟩
theorem togB_emb (ha : PartsOk La) (hb : PartsOk Lb) (fa : ∀ p ∈ La, p.t.fair = true) (fb : ∀ p ∈ Lb, p.t.fair = true) (hd : ∀ j', j' < j → RowOk bt La Lb j') {i : Nat} (hi : i < La.length) (hj : j < Lb.length) :
    togB bt La[i] Lb[j] = (topE La[i].t Lb[j].t && Tm.embs Lb[j].t.args La[i].t.args) := by
  obtain ⟨hla, hha⟩ := ha i hi
  obtain ⟨hlb, hhb⟩ := hb j hj
  unfold togB
  rw [headB_top (fa _ (List.getElem_mem hi)) (fb _ (List.getElem_mem hj)) hla hlb]
  by_cases ht : topE La[i].t Lb[j].t = true
  · have hlen := Tm.topE_len (fa _ (List.getElem_mem hi)) (fb _ (List.getElem_mem hj)) ht
    rw [ht, Bool.true_and, Bool.true_and, Bool.eq_iff_iff, Tm.embs_iff hlen.symm]
    have key : ∀ k (h : k < Lb[j].at'.length) (h' : k < La[i].at'.length), hasT bt Lb[j].at'[k] La[i].at'[k] = (Lb[j].t.args[k]'(by omega)).emb (La[i].t.args[k]'(by omega)) := fun k h h' => by
      obtain ⟨h1, q1, e1⟩ := hha k h' (by omega)
      obtain ⟨h2, q2, e2⟩ := hhb k h (by omega)
      have g1 : La[i].at'[k] < La.length := by omega
      have g2 : Lb[j].at'[k] < Lb.length := by omega
      rw [hd _ h2 _ g1 g2]
      rw [List.getElem?_eq_getElem g1] at e1
      rw [List.getElem?_eq_getElem g2] at e2
      rw [Option.some.inj e1, Option.some.inj e2]
    simp only [togTo, decide_eq_true_eq]
    constructor
    · intro h k hk hk'
      rw [← key k (by omega) (by omega)]
      exact h k (by omega) (by omega) (by omega)
    · intro h k _ hk hk'
      rw [key k hk hk']
      exact h k (by omega) (by omega)
  · have ht' : topE La[i].t Lb[j].t = false := by simpa using ht
    rw [ht', Bool.false_and, Bool.false_and]
theorem EStI.no {I : Nat} (ha : PartsOk La) (hb : PartsOk Lb) (fa : ∀ p ∈ La, p.t.fair = true) (fb : ∀ p ∈ Lb, p.t.fair = true) (hI : I < La.length) (hj : j < Lb.length) (ht : togB bt La[I] Lb[j] = false) (h : EStI bt La Lb j I) : EStI bt La Lb j (I + 1) := by
  refine ⟨h.done, fun i hi hjl => ?_, h.zero⟩
  rw [h.mid i hi hjl]
  by_cases e : i < I
  · rw [if_pos e, if_pos (by omega)]
  · rw [if_neg e]
    by_cases e2 : i = I
    · subst e2
      rw [if_pos (by omega), anyB_emb, ← togB_emb ha hb fa fb h.done hi hjl, ht, Bool.false_or]
    · rw [if_neg (by omega)]
theorem EStI.yes {I : Nat} (ha : PartsOk La) (hb : PartsOk Lb) (fa : ∀ p ∈ La, p.t.fair = true) (fb : ∀ p ∈ Lb, p.t.fair = true) (hn : La.length ≤ 3000) (hI : I < La.length) (hj : j < Lb.length) (ht : togB bt La[I] Lb[j] = true) (h : EStI bt La Lb j I) : EStI (setBit bt j I) La Lb j (I + 1) := by
  refine ⟨fun j' hj' i hi hjl => ?_, fun i hi hjl => ?_, fun o ho => ?_⟩
  · rw [hasT_set _ _ _ _ _ (by omega) (by omega), h.done j' hj' i hi hjl]
    have : ¬ (j' = j ∧ i = I) := fun ⟨h1, _⟩ => by omega
    simp [this]
  · rw [hasT_set _ _ _ _ _ (by omega) (by omega), h.mid i hi hjl]
    by_cases e2 : i = I
    · subst e2
      rw [if_neg (Nat.lt_irrefl _), if_pos (by omega), anyB_emb Lb[j].t La[i].t, ← togB_emb ha hb fa fb h.done hi hjl, ht]
      simp
    · have : decide (j = j ∧ i = I) = false := by simp [e2]
      rw [this, Bool.or_false]
      by_cases e : i < I
      · rw [if_pos e, if_pos (by omega)]
      · rw [if_neg e, if_neg (by omega)]
  · unfold setBit
    rw [if_neg (by omega)]
    exact h.zero o ho
theorem EStI.done' {I : Nat} (hI : I = La.length) (h : EStI bt La Lb j I) : ESt bt La Lb (j + 1) := by
  refine ⟨fun j' hj' i hi hjl => ?_, fun o ho => h.zero o (by omega)⟩
  by_cases e : j' < j
  · exact h.done j' e i hi hjl
  · obtain rfl : j' = j := by omega
    rw [h.mid i hi hjl, if_pos (by omega)]
theorem ESt.last {m : Nat} (hm : m = Lb.length) (h : ESt bt La Lb m) {a b : Tm} {i q : Nat} (hi : i < La.length) (hq : q < Lb.length) (ea : La[i].t = a) (eb : Lb[q].t = b) : hasT bt q i = b.emb a := by
  rw [h.done q (by omega) i hi hq, ea, eb]
end
end Go.Proofs.Ytomdccejgmhfoaa
