/-
  Reading elsewhere: a text behind another.
-/
import Derived.Test.YtilfglcjcmpfeaaGreatDoorCls
namespace Go.Proofs.YtilfglcjcmpfeaaGreatDoor
open Go.RowKit

def shX (d : Nat) (x : Tk × Nat) : Tk × Nat := (x.1, x.2 + d)
def sh (d : Nat) (ts : Toks) : Toks := ts.map (shX d)
def shE (d : Nat) (e : Nat × Nat) : Nat × Nat := if e.1 = 9 then e else (e.1, e.2 + d)
def shR {α : Type} (d : Nat) : RRes α → RRes α
  | .error e => .error (shE d e)
  | .ok (a, ts, ns) => .ok (a, sh d ts, ns)
theorem sh_nil (d : Nat) : sh d [] = [] := rfl
theorem sh_cons (d : Nat) (x : Tk × Nat) (r : Toks) : sh d (x :: r) = shX d x :: sh d r := rfl
theorem sh_tail (d : Nat) (ts : Toks) : (sh d ts).tail = sh d ts.tail := by cases ts <;> rfl
theorem sh_see (d : Nat) (m : UInt8) (ts : Toks) : seeT m (sh d ts) = seeT m ts := by cases ts <;> rfl
theorem sh_beg (d : Nat) (ts : Toks) : begT (sh d ts) = begT ts := by cases ts <;> rfl
theorem sh_next (d : Nat) (ts : Toks) : nextN (sh d ts) = nextN ts := by cases ts <;> rfl
theorem sh_op (d now p : Nat) (ts : Toks) : opT now p (sh d ts) = opT now p ts := by cases ts <;> rfl
theorem sh_num (d p : Nat) (ts : Toks) : numAt (p + d + 1) (sh d ts) = numAt (p + 1) ts := by
  cases ts with
  | nil => rfl
  | cons x r =>
    show decide (x.1.kind = 3 ∧ x.2 + d = p + d + 1) = decide (x.1.kind = 3 ∧ x.2 = p + 1)
    congr 1
    simp only [eq_iff_iff]
    constructor <;> (rintro ⟨h1, h2⟩; exact ⟨h1, by omega⟩)
theorem sh_place {S S' : List UInt8} {d : Nat} (hl : S'.length = S.length + d) (ts : Toks) : placeT S' (sh d ts) = placeT S ts + d := by
  cases ts with
  | nil => exact hl
  | cons x r => rfl
theorem sh_need {S S' : List UInt8} {d : Nat} (hl : S'.length = S.length + d) (m : UInt8) (ts : Toks) : needT S' m (sh d ts) = (match needT S m ts with | .ok r => .ok (sh d r) | .error e => .error (shE d e)) := by
  unfold needT
  rw [sh_see, sh_tail, sh_place hl]
  by_cases h : seeT m ts = true
  · rw [if_pos h, if_pos h]
  · rw [if_neg h, if_neg h]
    rfl
theorem rd_shift {S S' : List UInt8} {d : Nat} (hl : S'.length = S.length + d) (hm : ∀ i, S'[i + d]? = S[i]?) : ∀ f : Nat,
    (∀ t now p deep ts ns, rdRest S' f t now p deep (sh d ts) ns = shR d (rdRest S f t now p deep ts ns)) ∧
    (∀ p deep ts ns, rdTerm S' f p deep (sh d ts) ns = shR d (rdTerm S f p deep ts ns)) ∧
    (∀ x p deep ts ns, rdName S' f (shX d x) p deep (sh d ts) ns = shR d (rdName S f x p deep ts ns)) ∧
    (∀ deep ts ns, rdRow S' f deep (sh d ts) ns = shR d (rdRow S f deep ts ns))
  | 0 => by
    refine ⟨?_, ?_, ?_, ?_⟩
    · intros; rw [rdRest, rdRest]; rfl
    · intros; rw [rdTerm, rdTerm]; rfl
    · intros; rw [rdName, rdName]; rfl
    · intros; rw [rdRow, rdRow]; rfl
  | f + 1 => by
    obtain ⟨ih1, ih2, ih3, ih4⟩ := rd_shift hl hm f
    refine ⟨?_, ?_, ?_, ?_⟩
    · intro t now p deep ts ns
      rw [rdRest.eq_def, rdRest.eq_def S]
      cases ts with
      | nil => rfl
      | cons x r =>
        rw [sh_cons]
        dsimp only
        rw [← sh_cons, sh_op]
        by_cases ho : opT now p (x :: r) = true
        · rw [if_pos ho, if_pos ho]
          rw [show (shX d x).1 = x.1 from rfl, ih2]
          cases rdTerm S f (infixP x.1.text).2.2 deep r ns with
          | error e => rfl
          | ok q =>
            obtain ⟨u, r1, n1⟩ := q
            exact ih1 _ _ _ _ _ _
        · rw [if_neg ho, if_neg ho]
          rfl
    · intro p deep ts ns
      rw [rdTerm.eq_def, rdTerm.eq_def S]
      dsimp only
      by_cases hd : 999 < deep
      · rw [if_pos hd, if_pos hd, sh_place hl]
        rfl
      rw [if_neg hd, if_neg hd]
      cases ts with
      | nil =>
        show Except.error (2, S'.length) = shR d (.error (2, S.length))
        rw [hl]
        rfl
      | cons x r =>
        rw [sh_cons]
        dsimp only
        rw [show (shX d x).1 = x.1 from rfl]
        by_cases k3 : x.1.kind = 3
        · rw [if_pos k3, if_pos k3, ih1]
        rw [if_neg k3, if_neg k3]
        by_cases k2 : x.1.kind = 2
        · rw [if_pos k2, if_pos k2, ih1]
        rw [if_neg k2, if_neg k2]
        by_cases k1 : x.1.kind = 1
        · rw [if_pos k1, if_pos k1, ih3]
          cases rdName S f x p deep r ns with
          | error e => rfl
          | ok q =>
            obtain ⟨⟨t, q⟩, r1, n1⟩ := q
            exact ih1 _ _ _ _ _ _
        rw [if_neg k1, if_neg k1, ← sh_cons, sh_see, sh_see]
        by_cases h4 : seeT 40 (x :: r) = true
        · rw [if_pos h4, if_pos h4, ih2]
          cases rdTerm S f 1200 (deep + 1) r ns with
          | error e => rfl
          | ok q =>
            obtain ⟨t, r1, n1⟩ := q
            dsimp only [shR]
            rw [sh_need hl]
            cases needT S 41 r1 with
            | error e => rfl
            | ok r2 => exact ih1 _ _ _ _ _ _
        rw [if_neg h4, if_neg h4]
        by_cases h9 : seeT 91 (x :: r) = true
        · rw [if_pos h9, if_pos h9, ih4]
          cases rdRow S f deep r ns with
          | error e => rfl
          | ok q =>
            obtain ⟨l, r1, n1⟩ := q
            dsimp only [shR]
            rw [sh_see, sh_tail]
            by_cases h5 : seeT 124 r1 = true
            · rw [if_pos h5, if_pos h5, ih2]
              cases rdTerm S f 999 (deep + 1) r1.tail n1 with
              | error e => rfl
              | ok q =>
                obtain ⟨t, r2, n2⟩ := q
                dsimp only [shR]
                rw [sh_need hl]
                cases needT S 93 r2 with
                | error e => rfl
                | ok r3 => exact ih1 _ _ _ _ _ _
            · rw [if_neg h5, if_neg h5, sh_need hl]
              cases needT S 93 r1 with
              | error e => rfl
              | ok r3 => exact ih1 _ _ _ _ _ _
        rw [if_neg h9, if_neg h9]
        rfl
    · intro x p deep ts ns
      rw [rdName, rdName]
      rw [show (shX d x).1 = x.1 from rfl, show (shX d x).2 = x.2 + d from rfl, hm, sh_num, sh_next, sh_tail, sh_beg]
      by_cases h1 : x.1.text = [45] ∧ S[x.2]? = some 45 ∧ numAt (x.2 + 1) ts = true
      · rw [if_pos h1, if_pos h1]
        rfl
      rw [if_neg h1, if_neg h1]
      by_cases h2 : x.1.opn = true
      · rw [if_pos h2, if_pos h2, sh_need hl]
        cases needT S 40 ts with
        | error e => rfl
        | ok r1 =>
          dsimp only
          rw [ih4]
          cases rdRow S f deep r1 ns with
          | error e => rfl
          | ok q =>
            obtain ⟨l, r2, n2⟩ := q
            dsimp only [shR]
            rw [sh_need hl]
            cases needT S 41 r2 <;> rfl
      rw [if_neg h2, if_neg h2]
      by_cases h3 : prefP x.1.text = 0 ∨ begT ts = false
      · rw [if_pos h3, if_pos h3]
        rfl
      rw [if_neg h3, if_neg h3]
      by_cases h4 : p < prefP x.1.text
      · rw [if_pos h4, if_pos h4]
        rfl
      rw [if_neg h4, if_neg h4, ih2]
      cases rdTerm S f (prefP x.1.text) (deep + 1) ts ns with
      | error e => rfl
      | ok q => obtain ⟨u, r1, n1⟩ := q; rfl
    · intro deep ts ns
      rw [rdRow, rdRow, ih2]
      cases rdTerm S f 999 (deep + 1) ts ns with
      | error e => rfl
      | ok q =>
        obtain ⟨t, r, n1⟩ := q
        dsimp only [shR]
        rw [sh_see, sh_tail]
        by_cases h : seeT 44 r = true
        · rw [if_pos h, if_pos h, ih4]
          cases rdRow S f deep r.tail n1 with
          | error e => rfl
          | ok q => obtain ⟨l, r2, n2⟩ := q; rfl
        · rw [if_neg h, if_neg h]
end Go.Proofs.YtilfglcjcmpfeaaGreatDoor
