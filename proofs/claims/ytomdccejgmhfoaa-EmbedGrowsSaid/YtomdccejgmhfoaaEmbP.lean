/-
  The parts of a term, each behind its Args' ones, with the places of these; and a table of which is embedded in which, cell by cell.
-/
import Derived.Test.YtomdccejgmhfoaaEmb
namespace Go.Proofs.Ytomdccejgmhfoaa
open Go.RowKit

/-- A part and the places of its Args' parts. -/
structure Pt where
  t : Tm
  at' : List Nat
mutual
/-- The parts of a term, behind others. -/
def Tm.partsTo (L : List Pt) : Tm → List Pt
  | .mk k s n l => (Tm.partsTos L [] l).1 ++ [⟨.mk k s n l, (Tm.partsTos L [] l).2⟩]
def Tm.partsTos (L : List Pt) (ps : List Nat) : List Tm → List Pt × List Nat
  | [] => (L, ps)
  | t :: q => Tm.partsTos (t.partsTo L) (ps ++ [(t.partsTo L).length - 1]) q
end
theorem partsTos_len : ∀ (l : List Tm) (_ : ∀ t ∈ l, ∀ L, (t.partsTo L).length = L.length + t.size) (L : List Pt) (ps : List Nat), (Tm.partsTos L ps l).1.length = L.length + Tm.sizes l
  | [], _, _, _ => by simp [Tm.partsTos, Tm.sizes]
  | t :: q, ih, L, ps => by
    simp only [Tm.partsTos, Tm.sizes]
    rw [partsTos_len q (fun x hx => ih x (by simp [hx])), ih t (by simp)]
    omega
theorem partsTo_len : ∀ (t : Tm) (L : List Pt), (t.partsTo L).length = L.length + t.size := Tm.ind fun k s n l ih L => by
  simp only [Tm.partsTo, List.length_append, List.length_cons, List.length_nil, Tm.size]
  rw [partsTos_len l ih]
  omega
theorem partsTos_ext : ∀ (l : List Tm) (_ : ∀ t ∈ l, ∀ L, ∃ R, t.partsTo L = L ++ R) (L : List Pt) (ps : List Nat), ∃ R, (Tm.partsTos L ps l).1 = L ++ R
  | [], _, _, _ => ⟨[], by simp [Tm.partsTos]⟩
  | t :: q, ih, L, ps => by
    obtain ⟨R, h⟩ := ih t (by simp) L
    obtain ⟨S, g⟩ := partsTos_ext q (fun x hx => ih x (by simp [hx])) (t.partsTo L) (ps ++ [(t.partsTo L).length - 1])
    exact ⟨R ++ S, by simp only [Tm.partsTos]; rw [g, h, List.append_assoc]⟩
theorem partsTo_ext : ∀ (t : Tm) (L : List Pt), ∃ R, t.partsTo L = L ++ R := Tm.ind fun k s n l ih L => by
  obtain ⟨R, h⟩ := partsTos_ext l ih L []
  exact ⟨R ++ [⟨.mk k s n l, (Tm.partsTos L [] l).2⟩], by simp only [Tm.partsTo]; rw [h, List.append_assoc]⟩
/-- The term itself is the last one. -/
theorem partsTo_last (t : Tm) (L : List Pt) : ∃ q, (t.partsTo L)[(t.partsTo L).length - 1]? = some ⟨t, q⟩ := by
  obtain ⟨k, s, n, l⟩ := t
  refine ⟨(Tm.partsTos L [] l).2, ?_⟩
  simp only [Tm.partsTo]
  simp
/-- Each part's Args stand ahead of it, at the places told. -/
def PartsOk (L : List Pt) : Prop := ∀ i (h : i < L.length), L[i].at'.length = L[i].t.args.length ∧ ∀ j (hj : j < L[i].at'.length) (hj' : j < L[i].t.args.length), L[i].at'[j] < i ∧ ∃ q, L[L[i].at'[j]]? = some ⟨L[i].t.args[j], q⟩
theorem PartsOk.nil : PartsOk [] := fun _i h => absurd h (Nat.not_lt_zero _)
theorem PartsOk.snoc {L : List Pt} {t : Tm} {ps : List Nat} (h : PartsOk L) (hl : ps.length = t.args.length) (hp : ∀ j (hj : j < ps.length) (hj' : j < t.args.length), ps[j] < L.length ∧ ∃ q, L[ps[j]]? = some ⟨t.args[j], q⟩) : PartsOk (L ++ [⟨t, ps⟩]) := fun i hi => by
  by_cases hlt : i < L.length
  · have e : (L ++ [⟨t, ps⟩])[i] = L[i] := List.getElem_append_left hlt
    rw [e]
    obtain ⟨h1, h2⟩ := h i hlt
    refine ⟨h1, fun j hj hj' => ?_⟩
    obtain ⟨h3, q, h4⟩ := h2 j hj hj'
    exact ⟨h3, q, by rw [List.getElem?_append_left (by omega)]; exact h4⟩
  · have hi' : i = L.length := by simp at hi; omega
    subst hi'
    have e : (L ++ [⟨t, ps⟩])[L.length] = ⟨t, ps⟩ := by simp
    rw [e]
    refine ⟨hl, fun j hj hj' => ?_⟩
    obtain ⟨h3, q, h4⟩ := hp j hj hj'
    exact ⟨h3, q, by rw [List.getElem?_append_left h3]; exact h4⟩
/-- What the row of places holds while the Args are gone through. -/
theorem partsTos_ok : ∀ (q : List Tm) (_ : ∀ t ∈ q, ∀ L, PartsOk L → PartsOk (t.partsTo L)) (L : List Pt) (ps : List Nat) (d : List Tm), PartsOk L → ps.length = d.length →
    (∀ j (hj : j < ps.length) (hj' : j < d.length), ps[j] < L.length ∧ ∃ u, L[ps[j]]? = some ⟨d[j], u⟩) →
    PartsOk (Tm.partsTos L ps q).1 ∧ (Tm.partsTos L ps q).2.length = (d ++ q).length ∧ ∀ j (hj : j < (Tm.partsTos L ps q).2.length) (hj' : j < (d ++ q).length), (Tm.partsTos L ps q).2[j] < (Tm.partsTos L ps q).1.length ∧ ∃ u, (Tm.partsTos L ps q).1[(Tm.partsTos L ps q).2[j]]? = some ⟨(d ++ q)[j], u⟩
  | [], _, L, ps, d, h, hl, hp => by
    simp only [Tm.partsTos, List.append_nil]
    exact ⟨h, hl, hp⟩
  | t :: q, ih, L, ps, d, h, hl, hp => by
    have h1 := ih t (by simp) L h
    have h2 := partsTo_len t L
    have h3 := t.size_pos
    obtain ⟨R, hR⟩ := partsTo_ext t L
    have := partsTos_ok q (fun x hx => ih x (by simp [hx])) (t.partsTo L) (ps ++ [(t.partsTo L).length - 1]) (d ++ [t]) h1 (by simp [hl]) fun j hj hj' => by
      by_cases hlt : j < ps.length
      · have e1 : (ps ++ [(t.partsTo L).length - 1])[j] = ps[j] := List.getElem_append_left hlt
        have e2 : (d ++ [t])[j] = d[j]'(by omega) := List.getElem_append_left (by omega)
        rw [e1, e2]
        obtain ⟨h4, u, h5⟩ := hp j hlt (by omega)
        exact ⟨by omega, u, by rw [hR, List.getElem?_append_left h4]; exact h5⟩
      · have hj2 : j = ps.length := by simp at hj; omega
        subst hj2
        have e1 : (ps ++ [(t.partsTo L).length - 1])[ps.length] = (t.partsTo L).length - 1 := by simp
        have e2 : (d ++ [t])[ps.length]'hj' = t := by
          have : (d ++ [t])[ps.length]? = some t := by rw [hl]; simp
          rw [List.getElem?_eq_getElem hj'] at this
          exact Option.some.inj this
        rw [e1, e2]
        exact ⟨by omega, partsTo_last t L⟩
    simp only [Tm.partsTos]
    rw [List.append_assoc] at this
    simpa using this
theorem partsTo_ok : ∀ (t : Tm) (L : List Pt), PartsOk L → PartsOk (t.partsTo L) := Tm.ind fun k s n l ih L h => by
  obtain ⟨h1, h2, h3⟩ := partsTos_ok l ih L [] [] h rfl (fun j hj => absurd hj (Nat.not_lt_zero _))
  simp only [List.nil_append] at h2 h3
  simp only [Tm.partsTo]
  exact h1.snoc h2 h3
def partsT (t : Tm) : List Pt := t.partsTo []
theorem partsT_ok (t : Tm) : PartsOk (partsT t) := partsTo_ok t [] PartsOk.nil
theorem partsT_len (t : Tm) : (partsT t).length = t.size := by simpa [partsT] using partsTo_len t []
theorem partsTos_mem : ∀ (l : List Tm) (P : Tm → Prop) (_ : ∀ t ∈ l, P t → ∀ L, (∀ p ∈ L, P p.t) → ∀ p ∈ t.partsTo L, P p.t) (L : List Pt) (ps : List Nat), (∀ t ∈ l, P t) → (∀ p ∈ L, P p.t) → ∀ p ∈ (Tm.partsTos L ps l).1, P p.t
  | [], _, _, _, _, _, h => by simpa [Tm.partsTos] using h
  | t :: q, P, ih, L, ps, hl, h => by
    simp only [Tm.partsTos]
    exact partsTos_mem q P (fun x hx => ih x (by simp [hx])) _ _ (fun x hx => hl x (by simp [hx])) (ih t (by simp) (hl t (by simp)) L h)
/-- What holds of a term and goes over to its Args holds of all parts. -/
theorem partsTo_mem (P : Tm → Prop) (hP : ∀ k s n l, P (.mk k s n l) → ∀ t ∈ l, P t) : ∀ (t : Tm), P t → ∀ L : List Pt, (∀ p ∈ L, P p.t) → ∀ p ∈ t.partsTo L, P p.t := Tm.ind fun k s n l ih h L hL p hp => by
  simp only [Tm.partsTo] at hp
  rcases List.mem_append.1 hp with hp | hp
  · exact partsTos_mem l P ih L [] (hP k s n l h) hL p hp
  · rw [List.mem_singleton.1 hp]; exact h
theorem partsT_fair {t : Tm} (h : t.fair = true) : ∀ p ∈ partsT t, p.t.fair = true := partsTo_mem (fun t => t.fair = true) (fun _ _ _ _ h t ht => (Tm.fair_own h).2 t ht) t h [] (fun p hp => by cases hp)
theorem partsT_args {t : Tm} {m : Nat} (h : t.size ≤ m) : ∀ p ∈ partsT t, p.t.size ≤ m := partsTo_mem (fun t => t.size ≤ m) (fun k s n l h t ht => by have := Tm.size_mem_le ht; simp only [Tm.size] at h; omega) t h [] (fun p hp => by cases hp)

/-! ### a cell of the table -/
/-- The Args place by place, as far as j. -/
def allTo (y x : Tm) (j : Nat) : Bool := topE x y && decide (∀ i (h : i < j) (hy : i < y.args.length) (hx : i < x.args.length), y.args[i].emb x.args[i] = true)
theorem allTo_zero (y x : Tm) : allTo y x 0 = topE x y := by simp [allTo]
theorem allTo_succ {y x : Tm} {j : Nat} (hy : j < y.args.length) (hx : j < x.args.length) : allTo y x (j + 1) = (allTo y x j && y.args[j].emb x.args[j]) := by
  rw [Bool.eq_iff_iff]
  simp only [allTo, Bool.and_eq_true, decide_eq_true_eq]
  constructor
  · rintro ⟨h1, h2⟩
    exact ⟨⟨h1, fun i hi a b => h2 i (by omega) a b⟩, h2 j (by omega) hy hx⟩
  · rintro ⟨⟨h1, h2⟩, h3⟩
    refine ⟨h1, fun i hi a b => ?_⟩
    by_cases hlt : i < j
    · exact h2 i hlt a b
    · obtain rfl : i = j := by omega
      exact h3
theorem allTo_all {y x : Tm} (hf : x.fair = true) (hg : y.fair = true) : allTo y x x.args.length = (topE x y && Tm.embs y.args x.args) := by
  unfold allTo
  by_cases ht : topE x y = true
  · have hlen := Tm.topE_len hf hg ht
    rw [ht, Bool.true_and, Bool.true_and, Bool.eq_iff_iff, decide_eq_true_eq, Tm.embs_iff hlen.symm]
    exact ⟨fun h i hi hi' => h i hi' hi hi', fun h i _ hy hx => h i hy hx⟩
  · simp [ht]
/-- .. and whether it stands in one of the Args, as far as j. -/
def anyTo (y x : Tm) (j : Nat) : Bool := (topE x y && Tm.embs y.args x.args) || decide (∃ i, ∃ h : i < y.args.length, i < j ∧ y.args[i].emb x = true)
theorem anyTo_zero (y x : Tm) : anyTo y x 0 = (topE x y && Tm.embs y.args x.args) := by simp [anyTo]
theorem anyTo_succ {y x : Tm} {j : Nat} (hy : j < y.args.length) : anyTo y x (j + 1) = (anyTo y x j || y.args[j].emb x) := by
  rw [Bool.eq_iff_iff]
  simp only [anyTo, Bool.or_eq_true, decide_eq_true_eq]
  constructor
  · rintro (h | ⟨i, hi, hij, h⟩)
    · exact .inl (.inl h)
    · by_cases hlt : i < j
      · exact .inl (.inr ⟨i, hi, hlt, h⟩)
      · obtain rfl : i = j := by omega
        exact .inr h
  · rintro ((h | ⟨i, hi, hij, h⟩) | h)
    · exact .inl h
    · exact .inr ⟨i, hi, by omega, h⟩
    · exact .inr ⟨j, hy, by omega, h⟩
theorem anyTo_all (y x : Tm) : anyTo y x y.args.length = y.emb x := by
  rw [Bool.eq_iff_iff, Tm.emb_iff]
  simp only [anyTo, Bool.or_eq_true, Bool.and_eq_true, decide_eq_true_eq]
  constructor
  · rintro (h | ⟨i, hi, _, h⟩)
    · exact .inl h
    · exact .inr ⟨_, List.getElem_mem hi, h⟩
  · rintro (h | ⟨z, hz, h⟩)
    · exact .inl h
    · obtain ⟨i, hi, rfl⟩ := List.getElem_of_mem hz
      exact .inr ⟨i, hi, hi, h⟩
end Go.Proofs.Ytomdccejgmhfoaa
