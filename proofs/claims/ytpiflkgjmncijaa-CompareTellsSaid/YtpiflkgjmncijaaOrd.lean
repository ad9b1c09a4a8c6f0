/-
  The order of terms, purely: what it is, and that it is total and transitive. No program here.
-/
import Derived.Test.YtpiflkgjmncijaaTm
namespace Go.Proofs.Ytpiflkgjmncijaa
open Go.RowKit

/-- The first of two numbers that isn't 0. -/
def orI (x y : Int) : Int := if x = 0 then y else x
theorem orI_zero (y : Int) : orI 0 y = y := by simp [orI]
theorem orI_ne {x : Int} (h : x ≠ 0) (y : Int) : orI x y = x := by simp [orI, h]
theorem orI_eq0 {x y : Int} : orI x y = 0 ↔ x = 0 ∧ y = 0 := by
  unfold orI
  split
  · rename_i h; exact ⟨fun e => ⟨h, e⟩, fun e => e.2⟩
  · rename_i h; exact ⟨fun e => absurd e h, fun e => absurd e.1 h⟩
theorem orI_assoc (x y z : Int) : orI (orI x y) z = orI x (orI y z) := by
  unfold orI
  by_cases hx : x = 0 <;> simp [hx]

def cmpI (a b : Int) : Int := if a < b then -1 else if b < a then 1 else 0
def cmpS (a b : List UInt8) : Int := if Op.bytesLess a b = true then -1 else if a = b then 0 else 1

/-- Of three comparisons (of the first and the second, the second and the third, the first and the third): what an order's are. -/
def Tri (x y z : Int) : Prop := (x = 0 → z = y) ∧ (y = 0 → z = x) ∧ (x = y → z = x)
theorem Tri.or {x y z x' y' z' : Int} (h : Tri x y z) (h' : Tri x' y' z') : Tri (orI x x') (orI y y') (orI z z') := by
  obtain ⟨h1, h2, h3⟩ := h
  obtain ⟨h4, h5, h6⟩ := h'
  unfold orI Tri
  refine ⟨?_, ?_, ?_⟩ <;> (split <;> split <;> split <;> omega)
/-- What a comparison is. -/
def Rng (x : Int) : Prop := x = -1 ∨ x = 0 ∨ x = 1
theorem Rng.or {x y : Int} (h : Rng x) (h' : Rng y) : Rng (orI x y) := by
  unfold orI
  split
  · exact h'
  · exact h
theorem or_neg {x y x' y' : Int} (h : x' = -x) (h' : y' = -y) : orI x' y' = -orI x y := by
  unfold orI
  split <;> split <;> omega

theorem cmpI_rng (a b : Int) : Rng (cmpI a b) := by unfold cmpI Rng; split <;> (try split) <;> simp
theorem cmpI_neg (a b : Int) : cmpI b a = -cmpI a b := by unfold cmpI; split <;> split <;> (try split) <;> omega
theorem cmpI_eq0 {a b : Int} : cmpI a b = 0 ↔ a = b := by unfold cmpI; split <;> (try split) <;> omega
theorem cmpI_lt {a b : Int} (h : a < b) : cmpI a b = -1 := by unfold cmpI; rw [if_pos h]
theorem cmpI_gt {a b : Int} (h : b < a) : cmpI a b = 1 := by unfold cmpI; rw [if_neg (by omega), if_pos h]
theorem cmpI_tri (a b c : Int) : Tri (cmpI a b) (cmpI b c) (cmpI a c) := by
  unfold cmpI Tri
  refine ⟨?_, ?_, ?_⟩ <;> (split <;> (try split) <;> split <;> (try split) <;> (try split) <;> (try split) <;> omega)

theorem cmpS_less {a b : List UInt8} (h : Op.bytesLess a b = true) : cmpS a b = -1 := by unfold cmpS; rw [if_pos h]
theorem cmpS_same {a b : List UInt8} (h : Op.bytesLess a b = false) (he : a = b) : cmpS a b = 0 := by unfold cmpS; rw [if_neg (by rw [h]; simp), if_pos he]
theorem cmpS_more {a b : List UInt8} (h : Op.bytesLess a b = false) (he : a ≠ b) : cmpS a b = 1 := by unfold cmpS; rw [if_neg (by rw [h]; simp), if_neg he]
theorem cmpS_nil : cmpS [] [] = 0 := by simp [cmpS, Op.bytesLess]
theorem cmpS_nil_cons (b : UInt8) (y : List UInt8) : cmpS [] (b :: y) = -1 := by simp [cmpS, Op.bytesLess]
theorem cmpS_cons_nil (a : UInt8) (x : List UInt8) : cmpS (a :: x) [] = 1 := by simp [cmpS, Op.bytesLess]
theorem cmpS_cons (a b : UInt8) (x y : List UInt8) : cmpS (a :: x) (b :: y) = orI (cmpI a.toNat b.toNat) (cmpS x y) := by
  by_cases hlt : a < b
  · have h1 : a.toNat < b.toNat := UInt8.lt_iff_toNat_lt.1 hlt
    have h2 : cmpI a.toNat b.toNat = -1 := by unfold cmpI; rw [if_pos (by omega)]
    rw [h2, orI_ne (by omega)]
    simp [cmpS, Op.bytesLess, hlt]
  · by_cases he : a = b
    · subst he
      have h2 : cmpI a.toNat a.toNat = 0 := cmpI_eq0.2 rfl
      rw [h2, orI_zero]
      simp [cmpS, Op.bytesLess]
    · have h1 : ¬ a.toNat < b.toNat := fun h => hlt (UInt8.lt_iff_toNat_lt.2 h)
      have h3 : a.toNat ≠ b.toNat := fun h => he (UInt8.toNat_inj.1 h)
      have h2 : cmpI a.toNat b.toNat = 1 := by unfold cmpI; rw [if_neg (by omega), if_pos (by omega)]
      rw [h2, orI_ne (by omega)]
      simp [cmpS, Op.bytesLess, hlt, he]
theorem cmpS_rng (a b : List UInt8) : Rng (cmpS a b) := by unfold cmpS Rng; split <;> (try split) <;> simp
theorem cmpS_neg : ∀ a b : List UInt8, cmpS b a = -cmpS a b
  | [], [] => by simp [cmpS_nil]
  | [], b :: y => by rw [cmpS_cons_nil, cmpS_nil_cons]; rfl
  | a :: x, [] => by rw [cmpS_cons_nil, cmpS_nil_cons]
  | a :: x, b :: y => by rw [cmpS_cons, cmpS_cons]; exact or_neg (cmpI_neg _ _) (cmpS_neg x y)
theorem cmpS_eq0 : ∀ {a b : List UInt8}, cmpS a b = 0 ↔ a = b
  | [], [] => by simp [cmpS_nil]
  | [], b :: y => by simp [cmpS_nil_cons]
  | a :: x, [] => by simp [cmpS_cons_nil]
  | a :: x, b :: y => by
    rw [cmpS_cons, orI_eq0, cmpI_eq0, cmpS_eq0 (a := x) (b := y), List.cons.injEq]
    exact ⟨fun ⟨h, h'⟩ => ⟨UInt8.toNat_inj.1 (by omega), h'⟩, fun ⟨h, h'⟩ => ⟨by rw [h], h'⟩⟩
theorem tri_refl0 (x : Int) : Tri 0 x x := ⟨fun _ => rfl, fun h => h, fun h => h.symm⟩
theorem cmpS_tri : ∀ a b c : List UInt8, Tri (cmpS a b) (cmpS b c) (cmpS a c)
  | [], [], c => by rw [cmpS_nil]; exact tri_refl0 _
  | [], b :: y, [] => by rw [cmpS_nil_cons, cmpS_cons_nil, cmpS_nil]; unfold Tri; omega
  | [], b :: y, c :: z => by
    rw [cmpS_nil_cons, cmpS_nil_cons]
    have := cmpS_rng (b :: y) (c :: z)
    unfold Rng at this; unfold Tri; omega
  | a :: x, [], [] => by rw [cmpS_nil, cmpS_cons_nil]; unfold Tri; omega
  | a :: x, [], c :: z => by
    rw [cmpS_cons_nil, cmpS_nil_cons]; unfold Tri; omega
  | a :: x, b :: y, [] => by
    rw [cmpS_cons_nil, cmpS_cons_nil]
    have := cmpS_rng (a :: x) (b :: y)
    unfold Rng at this; unfold Tri; omega
  | a :: x, b :: y, c :: z => by
    rw [cmpS_cons, cmpS_cons, cmpS_cons]
    exact (cmpI_tri _ _ _).or (cmpS_tri x y z)

/-- The first number of a row that isn't 0. -/
def orL : List Int → Int
  | [] => 0
  | x :: r => orI x (orL r)
theorem orL_step {l : List Int} {k : Nat} (h : k < l.length) : orL (l.drop k) = orI l[k] (orL (l.drop (k + 1))) := by
  rw [List.drop_eq_getElem_cons h, orL]
theorem orL_end {l : List Int} {k : Nat} (h : l.length ≤ k) : orL (l.drop k) = 0 := by rw [List.drop_of_length_le h, orL]

/-! ### terms -/
/-- The comparison of two terms' own fields. -/
def cmpA (t u : Tm) : Int := orI (cmpI t.kind u.kind) (orI (cmpI t.n u.n) (orI (cmpI t.args.length u.args.length) (cmpS t.name.toList u.name.toList)))
theorem cmpA_four (t u : Tm) : orL [cmpI t.kind u.kind, cmpI t.n u.n, cmpI t.args.length u.args.length, cmpS t.name.toList u.name.toList] = cmpA t u := by
  have h (x : Int) : orI x 0 = x := by unfold orI; split <;> simp_all
  simp only [orL, cmpA, h]
mutual
def Tm.cmp : Tm → Tm → Int
  | .mk k s n l, u => orI (cmpA (.mk k s n l) u) (Tm.cmps l u.args)
def Tm.cmps : List Tm → List Tm → Int
  | [], [] => 0
  | [], _ :: _ => -1
  | _ :: _, [] => 1
  | t :: r, u :: q => orI (t.cmp u) (Tm.cmps r q)
end
theorem cmp_eq (t u : Tm) : t.cmp u = orI (cmpA t u) (Tm.cmps t.args u.args) := by
  cases t; simp only [Tm.cmp, Tm.args]
theorem cmpA_rng (t u : Tm) : Rng (cmpA t u) := ((cmpI_rng _ _).or ((cmpI_rng _ _).or ((cmpI_rng _ _).or (cmpS_rng _ _))))
theorem cmpA_neg (t u : Tm) : cmpA u t = -cmpA t u := or_neg (cmpI_neg _ _) (or_neg (cmpI_neg _ _) (or_neg (cmpI_neg _ _) (cmpS_neg _ _)))
theorem cmpA_tri (t u v : Tm) : Tri (cmpA t u) (cmpA u v) (cmpA t v) := (cmpI_tri _ _ _).or ((cmpI_tri _ _ _).or ((cmpI_tri _ _ _).or (cmpS_tri _ _ _)))
theorem list_rng {l : List Tm} (h : ∀ t ∈ l, ∀ u, Rng (t.cmp u)) : ∀ m, Rng (Tm.cmps l m) := by
  induction l with
  | nil => intro m; cases m <;> simp [Tm.cmps, Rng]
  | cons t r ih =>
    intro m
    cases m with
    | nil => simp [Tm.cmps, Rng]
    | cons u q => rw [Tm.cmps]; exact (h t (by simp) u).or (ih (fun v hv => h v (by simp [hv])) q)
theorem cmp_rng : ∀ t u : Tm, Rng (t.cmp u) := Tm.ind fun k s n l ih u => by
  rw [cmp_eq]; exact (cmpA_rng _ _).or (list_rng ih _)
theorem list_neg {l : List Tm} (h : ∀ t ∈ l, ∀ u, u.cmp t = -t.cmp u) : ∀ m, Tm.cmps m l = -Tm.cmps l m := by
  induction l with
  | nil => intro m; cases m <;> simp [Tm.cmps]
  | cons t r ih =>
    intro m
    cases m with
    | nil => simp [Tm.cmps]
    | cons u q => rw [Tm.cmps, Tm.cmps]; exact or_neg (h t (by simp) u) (ih (fun v hv => h v (by simp [hv])) q)
theorem cmp_neg : ∀ t u : Tm, u.cmp t = -t.cmp u := Tm.ind fun k s n l ih u => by
  rw [cmp_eq, cmp_eq]; exact or_neg (cmpA_neg _ _) (list_neg ih _)
theorem list_tri {l : List Tm} (h : ∀ t ∈ l, ∀ u v, Tri (t.cmp u) (u.cmp v) (t.cmp v)) : ∀ m p, Tri (Tm.cmps l m) (Tm.cmps m p) (Tm.cmps l p) := by
  induction l with
  | nil =>
    intro m p
    cases m with
    | nil => simp only [Tm.cmps]; exact tri_refl0 _
    | cons u q =>
      cases p with
      | nil => simp only [Tm.cmps]; unfold Tri; omega
      | cons v o =>
        have := list_rng (l := u :: q) (fun t _ => cmp_rng t) (v :: o)
        simp only [Tm.cmps] at this ⊢
        unfold Rng at this; unfold Tri; omega
  | cons t r ih =>
    intro m p
    cases m with
    | nil => cases p <;> (simp only [Tm.cmps]; unfold Tri; omega)
    | cons u q =>
      cases p with
      | nil =>
        have := list_rng (l := t :: r) (fun t _ => cmp_rng t) (u :: q)
        simp only [Tm.cmps] at this ⊢
        unfold Rng at this; unfold Tri; omega
      | cons v o =>
        simp only [Tm.cmps]
        exact (h t (by simp) u v).or (ih (fun w hw => h w (by simp [hw])) q o)
theorem cmp_tri : ∀ t u v : Tm, Tri (t.cmp u) (u.cmp v) (t.cmp v) := Tm.ind fun k s n l ih u v => by
  rw [cmp_eq, cmp_eq u v, cmp_eq _ v]; exact (cmpA_tri _ _ _).or (list_tri ih _ _)
theorem cmp_le_trans {t u v : Tm} (h : t.cmp u ≤ 0) (h' : u.cmp v ≤ 0) : t.cmp v ≤ 0 := by
  obtain ⟨h1, h2, h3⟩ := cmp_tri t u v
  have r1 := cmp_rng t u
  have r2 := cmp_rng u v
  have r3 := cmp_rng t v
  unfold Rng at r1 r2 r3
  omega
theorem cmp_lt_le {t u v : Tm} (h : t.cmp u < 0) (h' : u.cmp v ≤ 0) : t.cmp v < 0 := by
  obtain ⟨h1, h2, h3⟩ := cmp_tri t u v
  have r1 := cmp_rng t u
  have r2 := cmp_rng u v
  have r3 := cmp_rng t v
  unfold Rng at r1 r2 r3
  omega
theorem toList_inj {a b : ByteArray} (h : a.toList = b.toList) : a = b := by
  by_cases e : a = b
  · exact e
  · exact absurd h (neS e)
theorem list_eq0 {l : List Tm} (h : ∀ t ∈ l, ∀ u, t.cmp u = 0 ↔ t = u) : ∀ m, Tm.cmps l m = 0 ↔ l = m := by
  induction l with
  | nil => intro m; cases m <;> simp [Tm.cmps]
  | cons t r ih =>
    intro m
    cases m with
    | nil => simp [Tm.cmps]
    | cons u q => rw [Tm.cmps, orI_eq0, h t (by simp) u, ih (fun v hv => h v (by simp [hv])) q, List.cons.injEq]
theorem cmp_eq0 : ∀ t u : Tm, t.cmp u = 0 ↔ t = u := Tm.ind fun k s n l ih u => by
  obtain ⟨k', s', n', l'⟩ := u
  rw [cmp_eq, orI_eq0]
  simp only [cmpA, orI_eq0, cmpI_eq0, cmpS_eq0, Tm.kind, Tm.name, Tm.n, Tm.args, Tm.mk.injEq, list_eq0 ih]
  constructor
  · rintro ⟨⟨h1, h2, h3, h4⟩, h5⟩; exact ⟨h1, toList_inj h4, h2, h5⟩
  · rintro ⟨rfl, rfl, rfl, rfl⟩; exact ⟨⟨rfl, rfl, rfl, rfl⟩, rfl⟩
theorem cmp_same (t u : Tm) : decide (t.cmp u = 0) = t.same u := by
  rw [Tm.same_eq, decide_eq_decide]; exact cmp_eq0 t u

theorem cmps_step {l m : List Tm} {k : Nat} (h : k < l.length) (h' : k < m.length) : Tm.cmps (l.drop k) (m.drop k) = orI (l[k].cmp m[k]) (Tm.cmps (l.drop (k + 1)) (m.drop (k + 1))) := by
  rw [List.drop_eq_getElem_cons h, List.drop_eq_getElem_cons h', Tm.cmps]
theorem cmps_over {l m : List Tm} {k : Nat} (h : k < l.length) (h' : m.length ≤ k) : Tm.cmps (l.drop k) (m.drop k) = 1 := by
  rw [List.drop_eq_getElem_cons h, List.drop_of_length_le h', Tm.cmps]
theorem cmps_end {l m : List Tm} {k : Nat} (h : l.length ≤ k) (h' : k ≤ m.length) (hk : k = l.length) : Tm.cmps (l.drop k) (m.drop k) = if l.length < m.length then -1 else 0 := by
  rw [List.drop_of_length_le h]
  by_cases hlt : k < m.length
  · rw [List.drop_eq_getElem_cons hlt, Tm.cmps, if_pos (by omega)]
  · rw [List.drop_of_length_le (by omega), Tm.cmps, if_neg (by omega)]
end Go.Proofs.Ytpiflkgjmncijaa
