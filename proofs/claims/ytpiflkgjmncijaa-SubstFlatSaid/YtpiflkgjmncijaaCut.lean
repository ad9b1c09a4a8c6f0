/-
  A term that is built as long as there is room: no program here.
-/
import Derived.Test.YtpiflkgjmncijaaSub
namespace Go.Proofs.Ytpiflkgjmncijaa
open Go.RowKit

namespace Tm
def zero : Tm := .mk 0 ⟨#[]⟩ 0 []
mutual
/-- What is built of a term, and how much room is left. -/
def cut : Tm → Nat → Tm × Nat
  | .mk k s n l, room => if room = 0 then (.mk 0 ⟨#[]⟩ 0 [], 0) else (.mk k s n (cuts l (room - 1)).1, (cuts l (room - 1)).2)
def cuts : List Tm → Nat → List Tm × Nat
  | [], room => ([], room)
  | t :: r, room => ((t.cut room).1 :: (cuts r (t.cut room).2).1, (cuts r (t.cut room).2).2)
end
theorem cuts_snoc (l : List Tm) (t : Tm) : ∀ room : Nat, cuts (l ++ [t]) room = ((cuts l room).1 ++ [(t.cut (cuts l room).2).1], (t.cut (cuts l room).2).2) := by
  induction l with
  | nil => intro room; simp [cuts]
  | cons u r ih => intro room; simp [cuts, ih]
theorem cuts_length (l : List Tm) : ∀ room : Nat, (cuts l room).1.length = l.length := by
  induction l with
  | nil => intro room; simp [cuts]
  | cons u r ih => intro room; simp [cuts, ih]
theorem cuts_le (l : List Tm) (h : ∀ t ∈ l, ∀ room, (t.cut room).2 ≤ room) : ∀ room : Nat, (cuts l room).2 ≤ room := by
  induction l with
  | nil => intro room; simp [cuts]
  | cons u r ih =>
    intro room
    simp only [cuts]
    have h1 := h u (by simp) room
    have h2 := ih (fun t ht => h t (by simp [ht])) (u.cut room).2
    omega
theorem cut_le : ∀ (t : Tm) (room : Nat), (t.cut room).2 ≤ room := ind fun k s n l ih room => by
  simp only [cut]
  split
  · omega
  · have := cuts_le l ih (room - 1)
    simp only
    omega
/-- There is room for all of it. -/
theorem cuts_all (l : List Tm) (h : ∀ t ∈ l, ∀ room, t.size ≤ room → t.cut room = (t, room - t.size)) : ∀ room : Nat, sizes l ≤ room → cuts l room = (l, room - sizes l) := by
  induction l with
  | nil => intro room _; simp [cuts, sizes]
  | cons u r ih =>
    intro room hr
    simp only [sizes] at hr
    have h1 := h u (by simp) room (by omega)
    have h2 := ih (fun t ht => h t (by simp [ht])) (room - u.size) (by omega)
    simp only [cuts, h1, h2, sizes]
    rw [show room - u.size - sizes r = room - (u.size + sizes r) by omega]
theorem cut_all : ∀ (t : Tm) (room : Nat), t.size ≤ room → t.cut room = (t, room - t.size) := ind fun k s n l ih room h => by
  simp only [size] at h
  have := cuts_all l ih (room - 1) (by omega)
  simp only [cut, this, size]
  rw [if_neg (by omega), show room - 1 - sizes l = room - (sizes l + 1) by omega]
/-- There is none: what is built is not right. -/
theorem cuts_over (l : List Tm) (h : ∀ t ∈ l, ∀ room, room < t.size → (t.cut room).1.fair = false ∧ (t.cut room).2 = 0) (h0 : ∀ t ∈ l, ∀ room, t.size ≤ room → t.cut room = (t, room - t.size)) :
    ∀ room : Nat, room < sizes l → fairs (cuts l room).1 = false ∧ (cuts l room).2 = 0 := by
  induction l with
  | nil => intro room hr; simp [sizes] at hr
  | cons u r ih =>
    intro room hr
    simp only [sizes] at hr
    simp only [cuts, fairs, Bool.and_eq_false_iff]
    by_cases hu : room < u.size
    · obtain ⟨h1, h2⟩ := h u (by simp) room hu
      refine ⟨.inl h1, ?_⟩
      rw [h2]
      have := cuts_le r (fun t _ room => cut_le t room) 0
      omega
    · rw [h0 u (by simp) room (by omega)]
      obtain ⟨h1, h2⟩ := ih (fun t ht => h t (by simp [ht])) (fun t ht => h0 t (by simp [ht])) (room - u.size) (by omega)
      exact ⟨.inr h1, h2⟩
theorem cut_over : ∀ (t : Tm) (room : Nat), room < t.size → (t.cut room).1.fair = false ∧ (t.cut room).2 = 0 := ind fun k s n l ih room h => by
  simp only [size] at h
  simp only [cut]
  by_cases hr : room = 0
  · subst hr
    simp [fair, alone]
  · rw [if_neg hr]
    obtain ⟨h1, h2⟩ := cuts_over l ih (fun t _ => cut_all t) (room - 1) (by omega)
    refine ⟨?_, h2⟩
    simp only [fair, h1, Bool.and_false, Bool.false_and]
theorem cuts_sizes (l : List Tm) (h : ∀ t ∈ l, ∀ room, (t.cut room).1.size + 8 * (t.cut room).2 ≤ 8 * room + 1) : ∀ room : Nat, sizes (cuts l room).1 + 8 * (cuts l room).2 ≤ 8 * room + l.length := by
  induction l with
  | nil => intro room; simp [cuts, sizes]
  | cons u r ih =>
    intro room
    have h1 := h u (by simp) room
    have h2 := ih (fun t ht => h t (by simp [ht])) (u.cut room).2
    simp only [cuts, sizes, List.length_cons]
    omega
theorem fair_args {k : Int} {s : ByteArray} {n : Int} {l : List Tm} (h : (Tm.mk k s n l).fair = true) : l.length ≤ 8 := by
  have h3 := (fair_alone h).2.2
  simp only [alone] at h3
  split at h3
  · simp at h3; simp [h3.2]
  · split at h3
    · simp at h3; simp [h3.2]
    · split at h3
      · simp at h3; omega
      · cases h3
theorem cut_size : ∀ (t : Tm), t.fair = true → ∀ room, (t.cut room).1.size + 8 * (t.cut room).2 ≤ 8 * room + 1 := ind fun k s n l ih h room => by
  have hl := fair_args h
  have hc := cuts_sizes l (fun t ht room => ih t ht ((fair_alone h).2.1 t ht) room) (room - 1)
  simp only [cut]
  split
  · simp [size, sizes]
  · simp only [size]; omega
/-- What is built of a fair term is right just if that is. -/
theorem cut_right (t : Tm) : (t.cut 3000).1.right = t.right ∧ (t.right = true → (t.cut 3000).1 = t) := by
  by_cases hs : t.size ≤ 3000
  · rw [cut_all t 3000 hs]
    exact ⟨rfl, fun _ => rfl⟩
  · have h1 := (cut_over t 3000 (by omega)).1
    have h2 : t.right = false := by simp [right]; intro _ h; omega
    exact ⟨by rw [h2]; simp [right, h1], fun h3 => by rw [h2] at h3; cases h3⟩
theorem cut_kind (t : Tm) {room : Nat} (h : room ≠ 0) : (t.cut room).1.kind = t.kind ∧ (t.cut room).1.name = t.name ∧ (t.cut room).1.n = t.n ∧ (t.cut room).1.args = (cuts t.args (room - 1)).1 ∧ (t.cut room).2 = (cuts t.args (room - 1)).2 := by
  obtain ⟨k, s, n, l⟩ := t
  simp [cut, h, kind, name, Tm.n, args]

/-- What a term with its own room is: what it becomes, if that is small enough and no deeper than that. -/
def fits (t : Tm) (m d : Int) : Prop := (t.size : Int) ≤ m ∧ (t.deep : Int) ≤ d
theorem fitsArgs {l : List Tm} : ∀ {m d : Int}, ((sizes l : Int) ≤ m ∧ (deeps l : Int) ≤ d) ↔ ((sizes l : Int) ≤ m ∧ ∀ t ∈ l, (t.deep : Int) ≤ d) ∧ (deeps l : Int) ≤ d := fun {m d} => by
  constructor
  · rintro ⟨h1, h2⟩
    refine ⟨⟨h1, fun t ht => ?_⟩, h2⟩
    have : ∀ (r : List Tm), t ∈ r → t.deep ≤ deeps r := by
      intro r
      induction r with
      | nil => intro h; cases h
      | cons u q ih =>
        intro h
        simp only [deeps]
        rcases List.mem_cons.1 h with rfl | h
        · omega
        · have := ih h; omega
    have := this l ht
    omega
  · rintro ⟨⟨h1, _⟩, h2⟩
    exact ⟨h1, h2⟩
end Tm
/-- What a chain's end is. -/
structure EndOK (l : List Bd) (σ : Int → Tm) (x e : Tm) : Prop where
  fair : e.fair = true
  stop : e.kind = 1 → place l e.n = none
  same : e.bnd σ = x.bnd σ
theorem EndOK.self {l : List Bd} {σ : Int → Tm} {x : Tm} (h : x.fair = true) (hs : x.kind = 1 → place l x.n = none) : EndOK l σ x x := ⟨h, hs, rfl⟩
theorem EndOK.args {l : List Bd} {σ : Int → Tm} (hσ : Sol l σ) {x e : Tm} (h : EndOK l σ x e) : x.bnd σ = .mk e.kind e.name e.n (Tm.bnds σ e.args) := by
  rw [← h.same]
  obtain ⟨k, s, n, ts⟩ := e
  by_cases hk : k = 1
  · subst hk
    have hv := Tm.fair_var h.fair
    have hp := h.stop rfl
    have h1 := hσ.free n hp
    have hts : ts = [] := by have := hv.1; simp only [vTm, Tm.mk.injEq] at this; exact this.2.2.2
    subst hts
    rw [hv.1, Tm.bnd_var, h1]
    rfl
  · simp [Tm.bnd, hk, Tm.kind, Tm.name, Tm.n, Tm.args]
end Go.Proofs.Ytpiflkgjmncijaa
