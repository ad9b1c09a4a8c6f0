/-
  Goals as a tree, and how they lie in memory: no program here.
-/
import Derived.Test.YtliapkajonbndaaDoorTm
namespace Go.Proofs.YtliapkajonbndaaDoor
open Go.RowKit

/-- A goal: any fields, any goals in it. -/
inductive Gl where
  | mk (kind : Int) (t : Tm) (a b c : List Gl)
namespace Gl
def kind : Gl → Int | .mk k _ _ _ _ => k
def t : Gl → Tm | .mk _ t _ _ _ => t
def a : Gl → List Gl | .mk _ _ a _ _ => a
def b : Gl → List Gl | .mk _ _ _ b _ => b
def c : Gl → List Gl | .mk _ _ _ _ c => c
theorem ind {P : Gl → Prop} (h : ∀ k t a b c, (∀ g ∈ a, P g) → (∀ g ∈ b, P g) → (∀ g ∈ c, P g) → P (.mk k t a b c)) : ∀ g, P g := by
  intro g
  refine Gl.rec (motive_1 := P) (motive_2 := fun l => ∀ g ∈ l, P g) ?_ ?_ ?_ g
  · intro k t a b c ha hb hc
    exact h k t a b c ha hb hc
  · intro g hg
    cases hg
  · intro g l hg hl u hu
    rcases List.mem_cons.1 hu with rfl | hu
    · exact hg
    · exact hl u hu
theorem eta (g : Gl) : Gl.mk g.kind g.t g.a g.b g.c = g := by cases g; rfl
/-- So many goals of 136 bytes can be. -/
abbrev most : Nat := 1034834473200
mutual
/-- What lies in the cells of a goal behind its kind and its term's own fields: the slices of the term's Args, of A, B and C. -/
def inn (w : World) (B : Nat) : Gl → Value → Value → Value → Value → Prop
  | .mk k t a b c, sv, av, bv, cv => (Lit.int .i64 k).wf = true ∧ Tm.inn w B t sv ∧
      (∃ g cap, av = .slice g a.length cap ∧ a.length ≤ cap ∧ a.length ≤ most ∧ (a = [] ∨ ∃ bk off, g = some ⟨bk, off, none⟩ ∧ bk < B ∧ rowIn w B bk off a)) ∧
      (∃ g cap, bv = .slice g b.length cap ∧ b.length ≤ cap ∧ b.length ≤ most ∧ (b = [] ∨ ∃ bk off, g = some ⟨bk, off, none⟩ ∧ bk < B ∧ rowIn w B bk off b)) ∧
      (∃ g cap, cv = .slice g c.length cap ∧ c.length ≤ cap ∧ c.length ≤ most ∧ (c = [] ∨ ∃ bk off, g = some ⟨bk, off, none⟩ ∧ bk < B ∧ rowIn w B bk off c))
def rowIn (w : World) (B : Nat) (bk off : Nat) : List Gl → Prop
  | [] => True
  | g :: r => (∃ sv av bv cv, w.cell? ⟨bk, off, none⟩ = some (.int .i64 g.kind) ∧ w.cell? ⟨bk, off + 1, none⟩ = some (.int .i64 g.t.kind) ∧ w.cell? ⟨bk, off + 2, none⟩ = some (.string g.t.name) ∧ w.cell? ⟨bk, off + 3, none⟩ = some (.int .i64 g.t.n) ∧ w.cell? ⟨bk, off + 4, none⟩ = some sv ∧ w.cell? ⟨bk, off + 5, none⟩ = some av ∧ w.cell? ⟨bk, off + 6, none⟩ = some bv ∧ w.cell? ⟨bk, off + 7, none⟩ = some cv ∧ inn w B g sv av bv cv) ∧
      rowIn w B bk (off + 8) r
end
/-- A slice of goals. -/
def sliceIn (w : World) (B : Nat) (l : List Gl) (v : Value) : Prop :=
  ∃ g cap, v = .slice g l.length cap ∧ l.length ≤ cap ∧ l.length ≤ most ∧ (l = [] ∨ ∃ bk off, g = some ⟨bk, off, none⟩ ∧ bk < B ∧ rowIn w B bk off l)
theorem inn_mk {w : World} {B : Nat} {k : Int} {t : Tm} {a b c : List Gl} {sv av bv cv : Value} : inn w B (.mk k t a b c) sv av bv cv ↔ (Lit.int .i64 k).wf = true ∧ Tm.inn w B t sv ∧ sliceIn w B a av ∧ sliceIn w B b bv ∧ sliceIn w B c cv := by
  simp only [inn, sliceIn]
theorem inn_iff {w : World} {B : Nat} {g : Gl} {sv av bv cv : Value} : inn w B g sv av bv cv ↔ (Lit.int .i64 g.kind).wf = true ∧ Tm.inn w B g.t sv ∧ sliceIn w B g.a av ∧ sliceIn w B g.b bv ∧ sliceIn w B g.c cv := by
  cases g
  exact inn_mk
theorem rowIn_get {w : World} {B bk : Nat} : ∀ {l : List Gl} {off : Nat}, rowIn w B bk off l → ∀ (i : Nat) (h : i < l.length),
    ∃ sv av bv cv, w.cell? ⟨bk, off + i * 8, none⟩ = some (.int .i64 l[i].kind) ∧ w.cell? ⟨bk, off + i * 8 + 1, none⟩ = some (.int .i64 l[i].t.kind) ∧ w.cell? ⟨bk, off + i * 8 + 2, none⟩ = some (.string l[i].t.name) ∧ w.cell? ⟨bk, off + i * 8 + 3, none⟩ = some (.int .i64 l[i].t.n) ∧ w.cell? ⟨bk, off + i * 8 + 4, none⟩ = some sv ∧ w.cell? ⟨bk, off + i * 8 + 5, none⟩ = some av ∧ w.cell? ⟨bk, off + i * 8 + 6, none⟩ = some bv ∧ w.cell? ⟨bk, off + i * 8 + 7, none⟩ = some cv ∧ inn w B l[i] sv av bv cv
  | [], _, _, i, h => absurd h (Nat.not_lt_zero _)
  | g :: r, off, hr, i, h => by
    simp only [rowIn] at hr
    cases i with
    | zero => simpa using hr.1
    | succ i =>
      have := rowIn_get hr.2 i (by simpa using h)
      simpa [show off + 8 + i * 8 = off + (i + 1) * 8 by omega] using this
theorem rowIn_of {w : World} {B bk : Nat} : ∀ {l : List Gl} {off : Nat}, (∀ (i : Nat) (h : i < l.length),
    ∃ sv av bv cv, w.cell? ⟨bk, off + i * 8, none⟩ = some (.int .i64 l[i].kind) ∧ w.cell? ⟨bk, off + i * 8 + 1, none⟩ = some (.int .i64 l[i].t.kind) ∧ w.cell? ⟨bk, off + i * 8 + 2, none⟩ = some (.string l[i].t.name) ∧ w.cell? ⟨bk, off + i * 8 + 3, none⟩ = some (.int .i64 l[i].t.n) ∧ w.cell? ⟨bk, off + i * 8 + 4, none⟩ = some sv ∧ w.cell? ⟨bk, off + i * 8 + 5, none⟩ = some av ∧ w.cell? ⟨bk, off + i * 8 + 6, none⟩ = some bv ∧ w.cell? ⟨bk, off + i * 8 + 7, none⟩ = some cv ∧ inn w B l[i] sv av bv cv) → rowIn w B bk off l
  | [], _, _ => by simp [rowIn]
  | g :: r, off, h => by
    simp only [rowIn]
    refine ⟨?_, rowIn_of fun i hi => ?_⟩
    · have h0 := h 0 (by simp)
      rw [Nat.zero_mul, Nat.add_zero] at h0
      exact h0
    have := h (i + 1) (by simpa using hi)
    simpa [show off + 8 + i * 8 = off + (i + 1) * 8 by omega] using this
theorem rowIn_same {w w' : World} {B B' bk : Nat} {l : List Gl} (hl : ∀ g ∈ l, ∀ sv av bv cv, inn w B g sv av bv cv → inn w' B' g sv av bv cv)
    (hc : ∀ o v, w.cell? ⟨bk, o, none⟩ = some v → w'.cell? ⟨bk, o, none⟩ = some v) {off : Nat} (h : rowIn w B bk off l) : rowIn w' B' bk off l :=
  rowIn_of fun i hi => by
    obtain ⟨sv, av, bv, cv, h0, h1, h2, h3, h4, h5, h6, h7, h8⟩ := rowIn_get h i hi
    exact ⟨sv, av, bv, cv, hc _ _ h0, hc _ _ h1, hc _ _ h2, hc _ _ h3, hc _ _ h4, hc _ _ h5, hc _ _ h6, hc _ _ h7, hl _ (List.getElem_mem hi) _ _ _ _ h8⟩
theorem sliceIn_same {w w' : World} {B B' : Nat} {l : List Gl} (hl : ∀ g ∈ l, ∀ sv av bv cv, inn w B g sv av bv cv → inn w' B' g sv av bv cv) (hB : B ≤ B')
    (hc : ∀ bk o v, bk < B → w.cell? ⟨bk, o, none⟩ = some v → w'.cell? ⟨bk, o, none⟩ = some v) {v : Value} (h : sliceIn w B l v) : sliceIn w' B' l v := by
  obtain ⟨g, cap, rfl, h1, h2, h3⟩ := h
  refine ⟨g, cap, rfl, h1, h2, ?_⟩
  rcases h3 with h3 | ⟨bk, off, rfl, hb, hr⟩
  · exact .inl h3
  · exact .inr ⟨bk, off, rfl, by omega, rowIn_same hl (fun o v => hc bk o v hb) hr⟩
theorem inn_same {w w' : World} {B B' : Nat} (hB : B ≤ B') (hc : ∀ bk o v, bk < B → w.cell? ⟨bk, o, none⟩ = some v → w'.cell? ⟨bk, o, none⟩ = some v) :
    ∀ (g : Gl) (sv av bv cv : Value), inn w B g sv av bv cv → inn w' B' g sv av bv cv := by
  refine ind fun k t a b c ha hb hc' sv av bv cv h => ?_
  rw [inn_mk] at h ⊢
  exact ⟨h.1, Tm.inn_same hB hc t sv h.2.1, sliceIn_same ha hB hc h.2.2.1, sliceIn_same hb hB hc h.2.2.2.1, sliceIn_same hc' hB hc h.2.2.2.2⟩
theorem inn_below {w w' : World} {B n₀ : Nat} {g : Gl} {sv av bv cv : Value} (h : inn w B g sv av bv cv) (hb : Below n₀ w w') (hB : B ≤ n₀) : inn w' B g sv av bv cv :=
  inn_same (Nat.le_refl _) (fun bk o v hlt hc => by rw [hb.cell (p := ⟨bk, o, none⟩) (by show bk < n₀; omega)]; exact hc) g sv av bv cv h
theorem inn_mono {w : World} {B B' : Nat} {g : Gl} {sv av bv cv : Value} (h : inn w B g sv av bv cv) (hB : B ≤ B') : inn w B' g sv av bv cv :=
  inn_same hB (fun _ _ _ _ hc => hc) g sv av bv cv h
theorem sliceIn_below {w w' : World} {B n₀ : Nat} {l : List Gl} {v : Value} (h : sliceIn w B l v) (hb : Below n₀ w w') (hB : B ≤ n₀) : sliceIn w' B l v :=
  sliceIn_same (fun _ _ _ _ _ _ h => inn_below h hb hB) (Nat.le_refl _) (fun bk o v hlt hc => by rw [hb.cell (p := ⟨bk, o, none⟩) (by show bk < n₀; omega)]; exact hc) h
theorem sliceIn_mono {w : World} {B B' : Nat} {l : List Gl} {v : Value} (h : sliceIn w B l v) (hB : B ≤ B') : sliceIn w B' l v :=
  sliceIn_same (fun _ _ _ _ _ _ h => inn_mono h hB) hB (fun _ _ _ _ hc => hc) h
theorem sliceIn_next {w w' : World} {l : List Gl} {v : Value} (h : sliceIn w w.heap.size l v) (hb : Below w.heap.size w w') : sliceIn w' w'.heap.size l v := sliceIn_mono (sliceIn_below h hb (Nat.le_refl _)) hb.size
/-- A goal at its place in a row. -/
theorem sliceIn_get {w : World} {B : Nat} {l : List Gl} {v : Value} (h : sliceIn w B l v) (i : Nat) (hi : i < l.length) :
    ∃ bk off cap sv av bv cv, v = .slice (some ⟨bk, off, none⟩) l.length cap ∧ bk < B ∧ w.cell? ⟨bk, off + i * 8, none⟩ = some (.int .i64 l[i].kind) ∧ w.cell? ⟨bk, off + i * 8 + 1, none⟩ = some (.int .i64 l[i].t.kind) ∧ w.cell? ⟨bk, off + i * 8 + 2, none⟩ = some (.string l[i].t.name) ∧ w.cell? ⟨bk, off + i * 8 + 3, none⟩ = some (.int .i64 l[i].t.n) ∧ w.cell? ⟨bk, off + i * 8 + 4, none⟩ = some sv ∧ w.cell? ⟨bk, off + i * 8 + 5, none⟩ = some av ∧ w.cell? ⟨bk, off + i * 8 + 6, none⟩ = some bv ∧ w.cell? ⟨bk, off + i * 8 + 7, none⟩ = some cv ∧ inn w B l[i] sv av bv cv := by
  obtain ⟨g, cap, rfl, _, _, h | ⟨bk, off, rfl, hb, hr⟩⟩ := h
  · subst h; simp at hi
  · obtain ⟨sv, av, bv, cv, h⟩ := rowIn_get hr i hi
    exact ⟨bk, off, cap, sv, av, bv, cv, rfl, hb, h⟩
mutual
def size : Gl → Nat
  | .mk _ t a b c => t.size + sizes a + sizes b + sizes c + 1
def sizes : List Gl → Nat
  | [] => 0
  | g :: r => g.size + sizes r
end
mutual
def deep : Gl → Nat
  | .mk _ _ a b c => max (deeps a) (max (deeps b) (deeps c)) + 1
def deeps : List Gl → Nat
  | [] => 0
  | g :: r => max g.deep (deeps r)
end
theorem deep_le {l : List Gl} {g : Gl} (h : g ∈ l) : g.deep ≤ deeps l := by
  induction l with
  | nil => cases h
  | cons u r ih =>
    simp only [deeps]
    rcases List.mem_cons.1 h with rfl | h
    · omega
    · have := ih h; omega
theorem size_le {l : List Gl} {g : Gl} (h : g ∈ l) : g.size ≤ sizes l := by
  induction l with
  | nil => cases h
  | cons u r ih =>
    simp only [sizes]
    rcases List.mem_cons.1 h with rfl | h
    · omega
    · have := ih h; omega
end Gl
end Go.Proofs.YtliapkajonbndaaDoor
