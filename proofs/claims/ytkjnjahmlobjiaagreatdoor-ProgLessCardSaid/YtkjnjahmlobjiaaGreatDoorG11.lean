/-
  Goals in memory, in blocks that a predicate names; rows of goals of a call's own.
  Rows of goals, one appended to another one.
  The program's copy of a term with other variables: for each of the two functions that it is called with.
  The program's copy of a term.
  The program's is and atom; its maker in memory.
-/
import Derived.Test.YtkjnjahmlobjiaaGreatDoorG09
import Derived.Test.YtkjnjahmlobjiaaGreatDoorG02
import Derived.Test.YtkjnjahmlobjiaaGreatDoorG07
import Derived.Test.YtkjnjahmlobjiaaGreatDoorChecked
import Derived.Lib.Hide
import Derived.Test.YtkjnjahmlobjiaaGreatDoorG05
import Derived.Test.YtkjnjahmlobjiaaGreatDoorPbD
namespace Go.Proofs.YtkjnjahmlobjiaaGreatDoor
open Go.RowKit

namespace Gl
mutual
def innP (w : World) (ok : Nat → Prop) : Gl → Value → Value → Value → Value → Prop
  | .mk k t a b c, sv, av, bv, cv => (Lit.int .i64 k).wf = true ∧ Tm.innP w ok t sv ∧
      (∃ g cap, av = .slice g a.length cap ∧ a.length ≤ cap ∧ a.length ≤ most ∧ (a = [] ∨ ∃ bk off, g = some ⟨bk, off, none⟩ ∧ ok bk ∧ rowP w ok bk off a)) ∧
      (∃ g cap, bv = .slice g b.length cap ∧ b.length ≤ cap ∧ b.length ≤ most ∧ (b = [] ∨ ∃ bk off, g = some ⟨bk, off, none⟩ ∧ ok bk ∧ rowP w ok bk off b)) ∧
      (∃ g cap, cv = .slice g c.length cap ∧ c.length ≤ cap ∧ c.length ≤ most ∧ (c = [] ∨ ∃ bk off, g = some ⟨bk, off, none⟩ ∧ ok bk ∧ rowP w ok bk off c))
def rowP (w : World) (ok : Nat → Prop) (bk off : Nat) : List Gl → Prop
  | [] => True
  | g :: r => (∃ sv av bv cv, w.cell? ⟨bk, off, none⟩ = some (.int .i64 g.kind) ∧ w.cell? ⟨bk, off + 1, none⟩ = some (.int .i64 g.t.kind) ∧ w.cell? ⟨bk, off + 2, none⟩ = some (.string g.t.name) ∧ w.cell? ⟨bk, off + 3, none⟩ = some (.int .i64 g.t.n) ∧ w.cell? ⟨bk, off + 4, none⟩ = some sv ∧ w.cell? ⟨bk, off + 5, none⟩ = some av ∧ w.cell? ⟨bk, off + 6, none⟩ = some bv ∧ w.cell? ⟨bk, off + 7, none⟩ = some cv ∧ innP w ok g sv av bv cv) ∧
      rowP w ok bk (off + 8) r
end
def sliceP (w : World) (ok : Nat → Prop) (l : List Gl) (v : Value) : Prop :=
  ∃ g cap, v = .slice g l.length cap ∧ l.length ≤ cap ∧ l.length ≤ most ∧ (l = [] ∨ ∃ bk off, g = some ⟨bk, off, none⟩ ∧ ok bk ∧ rowP w ok bk off l)
theorem innP_mk {w : World} {ok : Nat → Prop} {k : Int} {t : Tm} {a b c : List Gl} {sv av bv cv : Value} : innP w ok (.mk k t a b c) sv av bv cv ↔ (Lit.int .i64 k).wf = true ∧ Tm.innP w ok t sv ∧ sliceP w ok a av ∧ sliceP w ok b bv ∧ sliceP w ok c cv := by
  simp only [innP, sliceP]
theorem innP_iff {w : World} {ok : Nat → Prop} {g : Gl} {sv av bv cv : Value} : innP w ok g sv av bv cv ↔ (Lit.int .i64 g.kind).wf = true ∧ Tm.innP w ok g.t sv ∧ sliceP w ok g.a av ∧ sliceP w ok g.b bv ∧ sliceP w ok g.c cv := by
  cases g
  exact innP_mk
theorem rowP_same {w w' : World} {ok ok' : Nat → Prop} {bk : Nat} {l : List Gl} (hl : ∀ g ∈ l, ∀ sv av bv cv, innP w ok g sv av bv cv → innP w' ok' g sv av bv cv)
    (hc : ∀ o v, w.cell? ⟨bk, o, none⟩ = some v → w'.cell? ⟨bk, o, none⟩ = some v) : ∀ {off : Nat}, rowP w ok bk off l → rowP w' ok' bk off l := by
  induction l with
  | nil => intro off _; simp [rowP]
  | cons g r ih =>
    intro off h
    simp only [rowP] at h ⊢
    obtain ⟨⟨sv, av, bv, cv, h0, h1, h2, h3, h4, h5, h6, h7, h8⟩, h9⟩ := h
    exact ⟨⟨sv, av, bv, cv, hc _ _ h0, hc _ _ h1, hc _ _ h2, hc _ _ h3, hc _ _ h4, hc _ _ h5, hc _ _ h6, hc _ _ h7, hl g (by simp) _ _ _ _ h8⟩, ih (fun u hu => hl u (by simp [hu])) h9⟩
theorem sliceP_same {w w' : World} {ok ok' : Nat → Prop} {l : List Gl} (hl : ∀ g ∈ l, ∀ sv av bv cv, innP w ok g sv av bv cv → innP w' ok' g sv av bv cv) (hB : ∀ b, ok b → ok' b)
    (hc : ∀ b o v, ok b → w.cell? ⟨b, o, none⟩ = some v → w'.cell? ⟨b, o, none⟩ = some v) {v : Value} (h : sliceP w ok l v) : sliceP w' ok' l v := by
  obtain ⟨g, cap, rfl, h1, h2, h3⟩ := h
  refine ⟨g, cap, rfl, h1, h2, ?_⟩
  rcases h3 with h3 | ⟨bk, off, rfl, hb, hr⟩
  · exact .inl h3
  · exact .inr ⟨bk, off, rfl, hB bk hb, rowP_same hl (fun o v => hc bk o v hb) hr⟩
theorem innP_same {w w' : World} {ok ok' : Nat → Prop} (hB : ∀ b, ok b → ok' b) (hc : ∀ b o v, ok b → w.cell? ⟨b, o, none⟩ = some v → w'.cell? ⟨b, o, none⟩ = some v) :
    ∀ (g : Gl) (sv av bv cv : Value), innP w ok g sv av bv cv → innP w' ok' g sv av bv cv := by
  refine ind fun k t a b c ha hb hc' sv av bv cv h => ?_
  rw [innP_mk] at h ⊢
  exact ⟨h.1, Tm.innP_same hB hc t sv h.2.1, sliceP_same ha hB hc h.2.2.1, sliceP_same hb hB hc h.2.2.2.1, sliceP_same hc' hB hc h.2.2.2.2⟩
theorem rowIn_of_P {w : World} {ok : Nat → Prop} {B bk : Nat} {l : List Gl} (hl : ∀ g ∈ l, ∀ sv av bv cv, innP w ok g sv av bv cv → inn w B g sv av bv cv) : ∀ {off : Nat}, rowP w ok bk off l → rowIn w B bk off l := by
  induction l with
  | nil => intro off _; simp [rowIn]
  | cons g r ih =>
    intro off h
    simp only [rowP, rowIn] at h ⊢
    obtain ⟨⟨sv, av, bv, cv, h0, h1, h2, h3, h4, h5, h6, h7, h8⟩, h9⟩ := h
    exact ⟨⟨sv, av, bv, cv, h0, h1, h2, h3, h4, h5, h6, h7, hl g (by simp) _ _ _ _ h8⟩, ih (fun u hu => hl u (by simp [hu])) h9⟩
theorem sliceIn_of_P' {w : World} {ok : Nat → Prop} {B : Nat} {l : List Gl} (hl : ∀ g ∈ l, ∀ sv av bv cv, innP w ok g sv av bv cv → inn w B g sv av bv cv) (hB : ∀ b, ok b → b < B) {v : Value} (h : sliceP w ok l v) : sliceIn w B l v := by
  obtain ⟨g, cap, rfl, h1, h2, h3⟩ := h
  refine ⟨g, cap, rfl, h1, h2, ?_⟩
  rcases h3 with h3 | ⟨bk, off, rfl, hb, hr⟩
  · exact .inl h3
  · exact .inr ⟨bk, off, rfl, hB bk hb, rowIn_of_P hl hr⟩
theorem inn_of_P {w : World} {ok : Nat → Prop} {B : Nat} (hB : ∀ b, ok b → b < B) : ∀ (g : Gl) (sv av bv cv : Value), innP w ok g sv av bv cv → inn w B g sv av bv cv := by
  refine ind fun k t a b c ha hb hc' sv av bv cv h => ?_
  rw [innP_mk] at h
  rw [inn_mk]
  exact ⟨h.1, Tm.inn_of_P hB t sv h.2.1, sliceIn_of_P' ha hB h.2.2.1, sliceIn_of_P' hb hB h.2.2.2.1, sliceIn_of_P' hc' hB h.2.2.2.2⟩
theorem sliceIn_of_P {w : World} {ok : Nat → Prop} {B : Nat} {l : List Gl} (hB : ∀ b, ok b → b < B) {v : Value} (h : sliceP w ok l v) : sliceIn w B l v :=
  sliceIn_of_P' (fun g _ => inn_of_P hB g) hB h
theorem sliceP_nil (w : World) (ok : Nat → Prop) : sliceP w ok [] (.slice none 0 0) := ⟨none, 0, rfl, Nat.le_refl _, Nat.zero_le _, .inl rfl⟩
/-- The cells of a row of goals. -/
def cellsP (w : World) (ok : Nat → Prop) : List Gl → List Value → Prop
  | [], xs => xs = []
  | g :: r, xs => ∃ sv av bv cv ys, xs = .int .i64 g.kind :: .int .i64 g.t.kind :: .string g.t.name :: .int .i64 g.t.n :: sv :: av :: bv :: cv :: ys ∧ innP w ok g sv av bv cv ∧ cellsP w ok r ys
theorem cellsP_same {w w' : World} {ok ok' : Nat → Prop} (hB : ∀ b, ok b → ok' b) (hc : ∀ b o v, ok b → w.cell? ⟨b, o, none⟩ = some v → w'.cell? ⟨b, o, none⟩ = some v) : ∀ (l : List Gl) (xs : List Value), cellsP w ok l xs → cellsP w' ok' l xs
  | [], _, h => h
  | g :: r, _, ⟨sv, av, bv, cv, ys, h1, h2, h3⟩ => ⟨sv, av, bv, cv, ys, h1, innP_same hB hc g _ _ _ _ h2, cellsP_same hB hc r ys h3⟩
theorem cellsP_length {w : World} {ok : Nat → Prop} : ∀ (l : List Gl) (xs : List Value), cellsP w ok l xs → xs.length = l.length * 8
  | [], _, h => by simp only [cellsP] at h; subst h; rfl
  | g :: r, _, ⟨sv, av, bv, cv, ys, h1, _, h3⟩ => by
    have := cellsP_length r ys h3
    rw [h1]
    simp only [List.length_cons, this]
    omega
theorem innP_one {w : World} {ok : Nat → Prop} {g : Gl} {sv av bv cv : Value} (h : innP w ok g sv av bv cv) : sv.oneCell' = true ∧ av.oneCell' = true ∧ bv.oneCell' = true ∧ cv.oneCell' = true := by
  obtain ⟨-, h1, h2, h3, h4⟩ := innP_iff.1 h
  obtain ⟨_, g1, c1, rfl, _⟩ := Tm.innP_iff.1 h1
  obtain ⟨g2, c2, rfl, _⟩ := h2
  obtain ⟨g3, c3, rfl, _⟩ := h3
  obtain ⟨g4, c4, rfl, _⟩ := h4
  exact ⟨rfl, rfl, rfl, rfl⟩
theorem cellsP_one {w : World} {ok : Nat → Prop} : ∀ (l : List Gl) (xs : List Value), cellsP w ok l xs → ∀ u ∈ xs, u.oneCell' = true
  | [], _, h => by simp only [cellsP] at h; subst h; simp
  | g :: r, _, ⟨sv, av, bv, cv, ys, h1, h2, h3⟩ => by
    intro u hu
    rw [h1] at hu
    obtain ⟨e1, e2, e3, e4⟩ := innP_one h2
    simp only [List.mem_cons] at hu
    rcases hu with rfl | rfl | rfl | rfl | rfl | rfl | rfl | rfl | hu
    · rfl
    · rfl
    · rfl
    · rfl
    · exact e1
    · exact e2
    · exact e3
    · exact e4
    · exact cellsP_one r ys h3 u hu
theorem cellsP_app {w : World} {ok : Nat → Prop} : ∀ (a b : List Gl) (xs ys : List Value), cellsP w ok a xs → cellsP w ok b ys → cellsP w ok (a ++ b) (xs ++ ys)
  | [], _, _, _, h, h' => by simp only [cellsP] at h; subst h; simpa using h'
  | g :: r, b, _, ys, ⟨sv, av, bv, cv, zs, h1, h2, h3⟩, h' => ⟨sv, av, bv, cv, zs ++ ys, by rw [h1]; rfl, h2, cellsP_app r b zs ys h3 h'⟩
theorem rowP_of_cells {w : World} {ok : Nat → Prop} {b : Nat} : ∀ (l : List Gl) (xs : List Value) (off : Nat), cellsP w ok l xs → (∀ j u, xs[j]? = some u → w.cell? ⟨b, off + j, none⟩ = some u) → rowP w ok b off l
  | [], _, _, _, _ => by simp [rowP]
  | g :: r, _, off, ⟨sv, av, bv, cv, ys, h1, h2, h3⟩, hc => by
    subst h1
    simp only [rowP]
    refine ⟨⟨sv, av, bv, cv, by simpa using hc 0 _ rfl, hc 1 _ rfl, hc 2 _ rfl, hc 3 _ rfl, hc 4 _ rfl, hc 5 _ rfl, hc 6 _ rfl, hc 7 _ rfl, h2⟩, rowP_of_cells r ys (off + 8) h3 fun j u hj => ?_⟩
    have := hc (j + 8) u (by simpa using hj)
    rwa [show off + (j + 8) = off + 8 + j by omega] at this
end Gl
/-- A row of goals that the call owns: all in blocks from 'lo' on, what is in them elsewhere than in the row itself. -/
structure GOwn (W : World) (lo : Nat) (l : List Gl) (v : Value) : Prop where
  rows : ∃ xs, W.ownsRow lo 49 8 v l.length xs ∧ Gl.cellsP W (okRow lo W v) l xs
theorem GOwn.slice {W : World} {lo : Nat} {l : List Gl} {v : Value} (h : GOwn W lo l v) : ∃ g c, v = .slice g l.length c := by
  obtain ⟨xs, h1, -⟩ := h.rows
  exact owns_slice h1
theorem GOwn.nil (W : World) (lo : Nat) : GOwn W lo [] (.slice none 0 0) := ⟨⟨[], World.ownsRow_nil _ _ _ _, rfl⟩⟩
/-- .. as it is read. -/
theorem GOwn.reads {W : World} {lo : Nat} {l : List Gl} {v : Value} (h : GOwn W lo l v) (hl : l.length ≤ 1000000) : Gl.sliceP W (fun b => lo ≤ b ∧ b < W.heap.size) l v := by
  obtain ⟨xs, h1, h2⟩ := h.rows
  have hm : l.length ≤ Gl.most := by show l.length ≤ 1034834473200; omega
  rcases h1.2 with ⟨rfl, h0⟩ | ⟨g, cap, cur, rfl, h3, h4, h5, _⟩
  · exact ⟨none, 0, by rw [h0], by omega, hm, .inl (List.eq_nil_of_length_eq_zero h0)⟩
  · refine ⟨_, cap, rfl, h5, hm, ?_⟩
    by_cases hn : l = []
    · exact .inl hn
    · refine .inr ⟨g, 0, rfl, ⟨h3, (Array.getElem?_eq_some_iff.1 h4).1⟩, Gl.rowP_of_cells l xs 0 (Gl.cellsP_same (fun b hb => ⟨hb.1, hb.2.1⟩) (fun _ _ _ _ h => h) l xs h2) fun j u hj => ?_⟩
      have := h1.cells (g := g) rfl j u hj
      simpa [Addr.add_lit] using this
/-- It stays where nothing from 'lo' on is written. -/
theorem GOwn.keep {W W' : World} {lo : Nat} {l : List Gl} {v : Value} (h : GOwn W lo l v) (hs : W.heap.size ≤ W'.heap.size) (hb : ∀ b, lo ≤ b → b < W.heap.size → W'.heap[b]? = W.heap[b]?) : GOwn W' lo l v := by
  obtain ⟨xs, h1, h2⟩ := h.rows
  refine ⟨⟨xs, ownsRow_block h1 (fun b e => hb b (h1.lt b e).1 (h1.lt b e).2), Gl.cellsP_same (fun b hb9 => ⟨hb9.1, by have := hb9.2.1; omega, hb9.2.2⟩) (fun b o u hb9 hc => (World.cell?_of_block (a := ⟨b, o, none⟩) (hb b hb9.1 hb9.2.1)).trans hc) l xs h2⟩⟩
theorem GOwn.low {W : World} {lo lo' : Nat} {l : List Gl} {v : Value} (h : GOwn W lo l v) (hl : lo' ≤ lo) : GOwn W lo' l v := by
  obtain ⟨xs, h1, h2⟩ := h.rows
  refine ⟨⟨xs, ⟨h1.1, ?_⟩, Gl.cellsP_same (fun b hb => ⟨by have := hb.1; omega, hb.2⟩) (fun _ _ _ _ h => h) l xs h2⟩⟩
  rcases h1.2 with h3 | ⟨g, cap, cur, e, h3, h4⟩
  · exact .inl h3
  · exact .inr ⟨g, cap, cur, e, by omega, h4⟩
/-- One goal, newly made. -/
theorem GOwn.one {W : World} {lo : Nat} {g : Gl} {sv av bv cv : Value} (hlo : lo ≤ W.heap.size) (hin : Gl.innP W (fun b => lo ≤ b ∧ b < W.heap.size) g sv av bv cv) :
    GOwn (W.alloc (.cells #[.int .i64 g.kind, .int .i64 g.t.kind, .string g.t.name, .int .i64 g.t.n, sv, av, bv, cv] 49)) lo [g] (.slice (some ⟨W.heap.size, 0, none⟩) 1 1) := by
  obtain ⟨e1, e2, e3, e4⟩ := Gl.innP_one hin
  have hb := (Below.refl W.heap.size W).alloc (Nat.le_refl _) (.cells #[.int .i64 g.kind, .int .i64 g.t.kind, .string g.t.name, .int .i64 g.t.n, sv, av, bv, cv] 49)
  refine ⟨⟨[.int .i64 g.kind, .int .i64 g.t.kind, .string g.t.name, .int .i64 g.t.n, sv, av, bv, cv], ?_, sv, av, bv, cv, [], rfl, Gl.innP_same (fun b hb9 => ⟨hb9.1, by simp; omega, fun e => ?_⟩) (fun b o u hb9 hc => (hb.cell (p := ⟨b, o, none⟩) hb9.2).trans hc) g _ _ _ _ hin, rfl⟩⟩
  · have := World.ownsRow_lit (e := 49) (size := 8) W #[.int .i64 g.kind, .int .i64 g.t.kind, .string g.t.name, .int .i64 g.t.n, sv, av, bv, cv] 1 hlo (by decide) rfl
    simpa using this
  · have e : some W.heap.size = some b := e
    injection e with e
    omega
end Go.Proofs.YtkjnjahmlobjiaaGreatDoor

namespace Go.Proofs.YtkjnjahmlobjiaaGreatDoor
open Go.RowKit

theorem goalInfo : (Tryz.prog.info? 49).map (fun i => (i.zero, i.size, i.bytes)) = some (some (.agg #[.int .i64 0, .int .i64 0, .string ⟨#[]⟩, .int .i64 0, .slice none 0 0, .slice none 0 0, .slice none 0 0, .slice none 0 0]), 8, 136) := by kernel_rfl
theorem append_goals {u1 u2 : World} {lo : Nat} {l1 l2 : List Gl} {v1 : Value} {g : Option Addr} {c : Nat} (h1 : GOwn u1 lo l1 v1) (hs : u1.heap.size ≤ u2.heap.size) (hk : ∀ b, lo ≤ b → b < u1.heap.size → u2.heap[b]? = u1.heap[b]?)
    (h2 : GOwn u2 u1.heap.size l2 (.slice g l2.length c)) (hlo : lo ≤ u1.heap.size) (hmax : l1.length + l2.length ≤ 1000000) (ty : TypeId) :
    ∃ v' u3, (Builtin.append_ #[35, 35] ty #[v1, .slice g l2.length c]).run Tryz.prog u2 = .ok v' u3 ∧ GOwn u3 lo (l1 ++ l2) v' ∧ u2.grownBy u3 v1.ownBlock ∧ (∀ b, v1.ownBlock = some b → lo ≤ b) := by
  obtain ⟨i0, hi, hz0, hz1, hz2⟩ := info_parts goalInfo
  obtain ⟨xs, r1, c1⟩ := h1.rows
  obtain ⟨ys, r2, c2⟩ := h2.rows
  have hlt1 : ∀ b, v1.ownBlock = some b → lo ≤ b ∧ b < u1.heap.size := fun b e => r1.lt b e
  have r1' : u2.ownsRow lo 49 8 v1 l1.length xs := ownsRow_block r1 (fun b e => hk b (hlt1 b e).1 (hlt1 b e).2)
  obtain ⟨v', u3, hr, ho, hg, hw⟩ := run_append_any (P := Tryz.prog) (w := u2) lo 35 ty 49 i0 _ 8 136 Tryz.underlying35 hi hz0 hz1 hz2 rfl (by decide) v1 l1.length xs r1' g l2.length c ys (Gl.cellsP_length _ _ c2) (by
    rcases r2.2 with ⟨e, h0⟩ | ⟨b, cap, cur, e, _⟩
    · exact .inl h0
    · injection e with e1 e2 e3
      subst e1
      exact .inr ⟨_, rfl, fun j u hj => r2.cells (g := b) rfl j u hj⟩) (Gl.cellsP_one _ _ c2) (by unfold maxLen; omega) (by omega) (by omega)
  refine ⟨v', u3, hr, ⟨⟨xs ++ ys, by rw [List.length_append]; exact ho, Gl.cellsP_app _ _ _ _ (Gl.cellsP_same (fun b hb => ?_) (fun b o u hb hc => ?_) _ _ c1) (Gl.cellsP_same (fun b hb => ?_) (fun b o u hb hc => ?_) _ _ c2)⟩⟩, hg, fun b e => (hlt1 b e).1⟩
  · refine ⟨hb.1, by have := hb.2.1; have := hg.size; omega, fun e => ?_⟩
    rcases hw with hw | hw
    · exact hb.2.2 (hw ▸ e)
    · rw [hw] at e
      injection e with e
      have := hb.2.1
      omega
  · have h9 : u2.cell? ⟨b, o, none⟩ = some u := (World.cell?_of_block (a := ⟨b, o, none⟩) (hk b hb.1 hb.2.1)).trans hc
    exact hg.cell (a := ⟨b, o, none⟩) h9 (fun e => hb.2.2 e.symm)
  · have hne : v1.ownBlock ≠ some b := fun e => by have := (hlt1 b e).2; have := hb.1; omega
    refine ⟨by have := hb.1; omega, by have := hb.2.1; have := hg.size; omega, fun e => ?_⟩
    rcases hw with hw | hw
    · exact hne (hw ▸ e)
    · rw [hw] at e
      injection e with e
      have := hb.2.1
      omega
  · have hne : v1.ownBlock ≠ some b := fun e => by have := (hlt1 b e).2; have := hb.1; omega
    exact hg.cell (a := ⟨b, o, none⟩) hc (fun e => hne e.symm)
theorem wpList_append_goals {u1 u2 : World} {ops : Array Oper} {rest : List Oper} {o : Oper} {a : Act} {Q : Exit → Act → World → Prop} (hgd : o.guard = none) (s x : Operand)
    (ho : o.op = .call { callee := .builtin .append, args := #[s, x], argTypes := #[35, 35] }) {lo : Nat} {l1 l2 : List Gl} {v1 : Value} {g : Option Addr} {c : Nat} (m : Nat)
    (hs : a.eval s = v1) (hx : a.eval x = .slice g m c) (hm : m = l2.length) (h1 : GOwn u1 lo l1 v1) (hsz : u1.heap.size ≤ u2.heap.size) (hk : ∀ b, lo ≤ b → b < u1.heap.size → u2.heap[b]? = u1.heap[b]?)
    (h2 : GOwn u2 u1.heap.size l2 (.slice g m c)) (hlo : lo ≤ u1.heap.size) (hmax : l1.length + l2.length ≤ 1000000)
    (h : ∀ v' u3, GOwn u3 lo (l1 ++ l2) v' → u2.grownBy u3 v1.ownBlock → (∀ b, v1.ownBlock = some b → lo ≤ b) → wpList Tryz.prog ops Q rest (a.put o.dst v') u3) : wpList Tryz.prog ops Q (o :: rest) a u2 := by
  subst hm
  obtain ⟨v', u3, hr, h3, h4, h5⟩ := append_goals h1 hsz hk h2 hlo hmax o.type
  refine wpList_plain hgd fun K' hK' => ?_
  unfold Oper.wp execOp
  simp only [ho, resolve, invoke, builtin, Sem.run_bind, Sem.run_pure, Result.andThen_ok, List.map_toArray, List.map_cons, List.map_nil, hs, hx, hr]
  exact hK' _ _ (h v' u3 h3 h4 h5)
end Go.Proofs.YtkjnjahmlobjiaaGreatDoor

namespace Go.Proofs.YtkjnjahmlobjiaaGreatDoor
open Go.RowKit

namespace Tm
end Tm

theorem Tryz.infoTm : (Tryz.prog.info? 34).map (fun i => (i.zero, i.size, i.bytes)) = some (some (.agg #[.int .i64 0, .string ⟨#[]⟩, .int .i64 0, .slice none 0 0]), 4, 56) := by kernel_rfl

theorem one4 {k n : Int} {s : ByteArray} {g : Option Addr} {m c : Nat} : ∀ u ∈ [Value.int .i64 k, .string s, .int .i64 n, .slice g m c], u.oneCell' = true := by
  intro u hu
  simp at hu
  rcases hu with rfl | rfl | rfl | rfl <;> rfl

/-- A block's first four cells. -/
theorem news4 {w : World} {a b c d : Value} {t : TypeId} : ∀ (j : Nat) (u : Value), [a, b, c, d][j]? = some u → (w.alloc (.cells #[a, b, c, d] t)).cell? ((⟨w.heap.size, 0, none⟩ : Addr).add j) = some u := by
  intro j u hj
  rw [Addr.add_lit]
  simp only [Nat.zero_add]
  rw [World.cell?_alloc_new]
  simpa using hj

end Go.Proofs.YtkjnjahmlobjiaaGreatDoor

namespace Go.Proofs.YtkjnjahmlobjiaaGreatDoor
open Go.RowKit

def CopyPost (t : Tm) (w : World) (e : Ending) (w' : World) : Prop :=
  ∃ sv', e = .returned (.agg #[.int .i64 t.kind, .string t.name, .int .i64 t.n, sv']) ∧ Tm.innP w' (fun b => w.heap.size ≤ b ∧ b < w'.heap.size) t sv' ∧ Below w.heap.size w w'

set_option maxRecDepth 100000 in
set_option maxHeartbeats 2000000 in
theorem apart_any : ∀ (t : Tm) (w : World) (B : Nat) (sv : Value), B ≤ w.heap.size → Tm.inn w B t sv →
    Calls Tryz.prog 101 #[.agg #[.int .i64 t.kind, .string t.name, .int .i64 t.n, sv]] w fun e w' => CopyPost t w e w' := by
  refine Tm.ind fun k s n l ih w B sv hB hin => ?_
  obtain ⟨⟨hk, hss, hn⟩, hsl⟩ := Tm.inn_mk.1 hin
  have hsl0 := hsl
  obtain ⟨g, cap, rfl, hcap, hlen, _⟩ := hsl0
  have hHead : (Lit.int .i64 k).wf = true ∧ s.size ≤ maxLen ∧ (Lit.int .i64 n).wf = true := ⟨hk, hss, hn⟩
  have HHead := Lib.hid hHead
  have HSL := Lib.hid hsl
  have HIH := Lib.hid ih
  simp only [Tm.kind, Tm.name, Tm.n]
  clear hin hsl ih hk hss hn hHead
  obtain ⟨i0, hi, hz0, hz1, hz2⟩ := info_parts Tryz.infoTm
  go_enter Tryz.func101, Tryz.ntmps101
  go_wp2_with fail
  go_loopw [3, 5, 9] (fun v _ i wr => ∃ k' : Nat, k' ≤ l.length ∧ i = .int .i64 k' ∧ Hid (∃ xs, wr.ownsRow (w.heap.size + 2) 34 4 v k' xs ∧ Tm.cellsP wr (okRow (w.heap.size + 2) wr v) (l.take k') xs) ∧ Below w.heap.size w wr ∧ w.heap.size + 2 ≤ wr.heap.size ∧
      wr.heap[w.heap.size]? = some (Obj.cells #[.int .i64 k, .string s, .int .i64 n, .slice g l.length cap] 34 (0, 0)) ∧ wr.heap[w.heap.size + 1]? = some (Obj.cells #[.int .i64 0, .string ⟨#[]⟩, .int .i64 0, .slice none 0 0] 34 (0, 0))) (fun _ _ i _ => l.length - (intOf i).toNat)
  case atStart =>
    exact ⟨0, Nat.zero_le _, rfl, ⟨[], World.ownsRow_nil _ _ _ _, by simp [Tm.cellsP]⟩, ((Below.refl _ _).alloc (Nat.le_refl _) _).alloc (by simp) _, by simp, (Below.heap_alloc _ _ _ (by simp)).trans (newBlk _ _ _ rfl), newBlk _ _ _ (by simp)⟩
  case round =>
    obtain ⟨k', hk', rfl, hrow, hb, hbs, hbox, hres⟩ := hrel
    have HROW := Lib.hid hrow.out
    have HB := Lib.hid hb
    have HBOX := Lib.hid hbox
    have HRES := Lib.hid hres
    by_cases hlt : k' < l.length
    · obtain ⟨b, off, sv, rfl, hbB, g0, g1, g2, g3, hin'⟩ := Tm.sliceIn_get (Tm.sliceIn_below HSL.out hb hB) k' hlt
      obtain ⟨_, ga, capa, rfl, _, _, _⟩ := Tm.inn_iff.1 hin'
      have HIN := Lib.hid hin'
      have hih := Lib.hid (HIH.out l[k'] (List.getElem_mem hlt))
      have HM := Lib.hid (List.take_succ_eq_append_getElem hlt)
      clear hin' hrow hb hbox hres
      go_wp2_with fail
      refine (hih.out _ B _ (by simp; omega) (Tm.inn_below HIN.out (n₀ := wr.heap.size) ((Below.refl _ _).alloc (Nat.le_refl _) _) (by omega))).mono ?_
      rintro e w2 ⟨sv', rfl, hp, hb2⟩
      obtain ⟨_, ga', capa', rfl, hc2, hl2, _⟩ := Tm.innP_iff.1 hp
      have hb2' : Below wr.heap.size wr w2 := ((Below.refl _ _).alloc (Nat.le_refl _) _).trans (hb2.mono (by simp))
      have HP := Lib.hid (Tm.innP_same (ok' := fun b => wr.heap.size ≤ b ∧ b < w2.heap.size) (fun b hb' => ⟨by have := hb'.1; simp at this; omega, hb'.2⟩) (fun _ _ _ _ h => h) _ _ hp)
      have HB2 := Lib.hid hb2'
      have hsz2 := hb2'.size
      obtain ⟨xs, hown, hcells⟩ := HROW.out
      have HOWN := Lib.hid hown
      have HCELLS := Lib.hid hcells
      have hown2 := Lib.hid (ownsRow_below hown hb2')
      clear hp hb2 hb2' hown hcells hih
      go_wp2_with (at_builtin; refine wpList_append_sep _ rfl _ _ 32 rfl (w.heap.size + 2) 34 i0 _ 4 56 Tryz.underlying32 hi hz0 hz1 hz2 rfl (by decide) u3 k' xs rfl (hown2.out.alloc _) ⟨w2.heap.size, 0, none⟩ 1 1 [.int .i64 l[k'].kind, .string l[k'].name, .int .i64 l[k'].n, .slice ga' l[k'].args.length capa'] rfl (by decide) rfl news4 one4 (by unfold maxLen; omega) (by omega) (by simp; omega) ?_; intro v' w3 hown3 hgrow hsep)
      go_roundw
      case rel =>
        have hne : ∀ j, j < w.heap.size + 2 → u3.ownBlock ≠ some j := fun j hj e => by have := (HOWN.out.lt j e).1; omega
        refine ⟨k' + 1, by omega, by go_num, ⟨_, hown3, ?_⟩, ((HB.out.trans (HB2.out.mono (by omega))).alloc (by omega) _).grown hgrow (by simp; omega) (fun j e => by have := (HOWN.out.lt j e).1; omega), by have := hgrow.size; simp at this; omega, blk_step HB2.out hgrow HBOX.out (hne _ (by omega)), blk_step HB2.out hgrow HRES.out (hne _ (by omega))⟩
        rw [HM.out]
        exact row_step HOWN.out HCELLS.out HB2.out (by omega) HP.out hgrow hsep
      case measure => simp [intOf]; omega
    · obtain rfl : k' = l.length := by omega
      obtain ⟨xs, hown, hcells⟩ := HROW.out
      obtain ⟨gv, cv, rfl⟩ := owns_slice hown
      obtain ⟨⟨b0, b1, b2, b3⟩, d0, d1, d2, d3⟩ := row4 hbox
      obtain ⟨⟨c0, c1, c2, c3⟩, f0, f1, f2, f3⟩ := row4 hres
      rw [List.take_length] at hcells
      have HOWN := Lib.hid hown
      have HCELLS := Lib.hid hcells
      clear hown hcells hrow hbox hres hb HROW
      go_wp2_with fail
      refine bodyPost_ret (v := .agg #[.int .i64 k, .string s, .int .i64 n, .slice gv l.length cv]) (by simp [results, Tryz.results101, go_sem, c0, c1, c2, c3]) rfl ?_
      refine ⟨.slice gv l.length cv, rfl, ?_, ?_⟩
      · rw [Tm.innP_mk]
        refine ⟨HHead.out, sliceP_done (wr := wr) (lo := w.heap.size + 2) (xs := xs) HOWN.out HCELLS.out (by omega) (by omega) (by simp) fun k hk _ => ?_⟩
        exact (set4_other _ _ _ _ _ _ k (by omega)).trans (Below.heap_setCell _ _ _ _ (by simp; omega))
      · exact ((((HB.out.setCell (p := ⟨w.heap.size, 3, none⟩) (by simp) _).setCell (p := ⟨w.heap.size + 1, 0, none⟩) (by simp) _).setCell (p := ⟨w.heap.size + 1, 1, none⟩) (by simp) _).setCell (p := ⟨w.heap.size + 1, 2, none⟩) (by simp) _).setCell (p := ⟨w.heap.size + 1, 3, none⟩) (by simp) _
end Go.Proofs.YtkjnjahmlobjiaaGreatDoor

namespace Go.Proofs.YtkjnjahmlobjiaaGreatDoor
open Go.RowKit

set_option maxRecDepth 100000 in
set_option maxHeartbeats 4000000 in
theorem pis_any (t : Tm) (s : ByteArray) (n : Nat) (w : World) (sv : Value) (hin : Tm.inn w w.heap.size t sv) :
    Calls Tryz.prog 48 #[.agg #[.int .i64 t.kind, .string t.name, .int .i64 t.n, sv], .string s, .int .i64 (n : Nat)] w fun e w' => e = .returned (.bool (isB t (bsN s) n)) ∧ Below w.heap.size w w' := by
  obtain ⟨_, g, c, rfl, hc, hl, _⟩ := Tm.inn_iff.1 hin
  have HX := Lib.hid (show isB t (bsN s) n = (decide (bsN t.name = bsN s) && decide ((t.args.length : Int) = (n : Int))) by
    unfold isB
    congr 1
    rw [Bool.eq_iff_iff, decide_eq_true_eq, decide_eq_true_eq]
    omega)
  have HD := Lib.hid (DB.new hin)
  have HP := Lib.hid (fun W (h : Tm.inn W W.heap.size t (.slice g t.args.length c)) => ppred_any t W _ h)
  clear hin
  obtain ⟨m, hm⟩ : ∃ m, t.args.length = m := ⟨_, rfl⟩
  rw [hm] at hc hl HD HP HX ⊢
  clear hm
  have hE := prd_eq t.name s (m : Int) (n : Int)
  generalize (decide (bsN t.name = bsN s) && decide ((m : Int) = (n : Int))) = hit at hE HX
  go_enter Tryz.func48, Tryz.ntmps48
  go_upto_region 1 with fail
  have HD0 := Lib.hid (show DB w t (.slice g m c) w.heap.size (w.alloc (.cells #[.int .i64 t.kind, .string t.name, .int .i64 t.n, .slice g m c] 34)) from HD.out)
  generalize w.alloc (.cells #[.int .i64 t.kind, .string t.name, .int .i64 t.n, .slice g m c] 34) = u0 at HD0 ⊢
  clear HD
  have x0 : u0.cell? ⟨w.heap.size, 0, none⟩ = some (.int .i64 t.kind) := HD0.out.c0
  have x1 : u0.cell? ⟨w.heap.size, 1, none⟩ = some (.string t.name) := HD0.out.c1
  have x2 : u0.cell? ⟨w.heap.size, 2, none⟩ = some (.int .i64 t.n) := HD0.out.c2
  have x3 : u0.cell? ⟨w.heap.size, 3, none⟩ = some (.slice g m c) := HD0.out.c3
  go_wp2_with (go_at_call 34; (with_reducible refine (HP.out _ HD0.out.hi).mono ?_); rintro e u1 ⟨rfl, hb⟩; have HD1 := Lib.hid (HD0.out.next hb); clear hb)
  go_ret
  exact ⟨by rw [HX.out]; rfl, HD1.out.low⟩
set_option maxRecDepth 100000 in
theorem patom_any (s : ByteArray) (w : World) : Calls Tryz.prog 47 #[.string s] w fun e w' => e = .returned (.agg #[.int .i64 3, .string s, .int .i64 0, .slice none 0 0]) ∧ Below w.heap.size w w' := by
  go_enter Tryz.func47, Tryz.ntmps47
  go_wp2_with fail
  have hb := (Below.refl w.heap.size w).alloc (Nat.le_refl _) (.cells #[.int .i64 3, .string s, .int .i64 0, .slice none 0 0] 34)
  have hn := heap_alloc_new w (.cells #[.int .i64 3, .string s, .int .i64 0, .slice none 0 0] 34)
  obtain ⟨V, hV⟩ : ∃ V, w.alloc (.cells #[.int .i64 3, .string s, .int .i64 0, .slice none 0 0] 34) = V := ⟨_, rfl⟩
  rw [hV] at hb hn ⊢
  have z0 : V.cell? ⟨w.heap.size, 0, none⟩ = some (.int .i64 3) := by simp [World.cell?, hn]
  have z1 : V.cell? ⟨w.heap.size, 1, none⟩ = some (.string s) := by simp [World.cell?, hn]
  have z2 : V.cell? ⟨w.heap.size, 2, none⟩ = some (.int .i64 0) := by simp [World.cell?, hn]
  have z3 : V.cell? ⟨w.heap.size, 3, none⟩ = some (.slice none 0 0) := by simp [World.cell?, hn]
  refine bodyPost_ret (v := .agg #[.int .i64 3, .string s, .int .i64 0, .slice none 0 0]) (by simp [results, Tryz.results47, go_sem, z0, z1, z2, z3]) rfl ?_
  exact ⟨rfl, hb⟩
/-- The maker: so many goals have begun, what is amiss. -/
structure Mkr (W : World) (mx : Nat) (st : MSt) : Prop where
  bk : W.heap[mx]? = some (.cells #[.int .i64 (st.1 : Nat), .int .i64 (st.2 : Nat)] 129 (0, 0))
section
variable {W : World} {mx : Nat} {st : MSt} (h : Mkr W mx st)
include h
theorem Mkr.lt : mx < W.heap.size := (Array.getElem?_eq_some_iff.1 h.bk).1
theorem Mkr.cell0 : W.cell? ⟨mx, 0, none⟩ = some (.int .i64 (st.1 : Nat)) := by simp [World.cell?, h.bk]
theorem Mkr.cell1 : W.cell? ⟨mx, 1, none⟩ = some (.int .i64 (st.2 : Nat)) := by simp [World.cell?, h.bk]
theorem Mkr.frozen0 : W.frozen? ⟨mx, 0, none⟩ = false := by simp [World.frozen?, h.bk]
theorem Mkr.frozen1 : W.frozen? ⟨mx, 1, none⟩ = false := by simp [World.frozen?, h.bk]
theorem Mkr.next {W' : World} (hb : Below W.heap.size W W') : Mkr W' mx st := ⟨(hb.block _ h.lt).trans h.bk⟩
theorem Mkr.set0 (n : Nat) : Mkr (W.setCell ⟨mx, 0, none⟩ (.int .i64 (n : Nat))) mx (n, st.2) := by
  refine ⟨?_⟩
  have h9 := h.bk
  simp [World.setCell, Array.getElem?_modify, h9]
theorem Mkr.set1 (n : Nat) : Mkr (W.setCell ⟨mx, 1, none⟩ (.int .i64 (n : Nat))) mx (st.1, n) := by
  refine ⟨?_⟩
  have h9 := h.bk
  simp [World.setCell, Array.getElem?_modify, h9]
end
theorem Tm.inn_fr {P : Nat → Prop} {w w' : World} {B : Nat} {t : Tm} {sv : Value} (h : Tm.inn w B t sv) (hf : FrP P w w') (hP : ∀ b, P b → B ≤ b) : Tm.inn w' B t sv :=
  Tm.inn_same (Nat.le_refl _) (fr_cell hf hP) t sv h
/-- A maker, and a term in a box of the call's own. -/
structure MS (w0 : World) (t : Tm) (sv : Value) (tx mx B : Nat) (st : MSt) (W : World) : Prop where
  fr : FrP (fun x => x = mx) w0 W
  mr : Mkr W mx st
  bk : W.heap[tx]? = some (.cells #[.int .i64 t.kind, .string t.name, .int .i64 t.n, sv] 34 (0, 0))
  ne : tx ≠ mx
  le : B ≤ mx
  hi : Tm.inn W B t sv
  tb : TabsLo W B
section
variable {w0 : World} {t : Tm} {sv : Value} {tx mx B : Nat} {st : MSt} {W : World} (h : MS w0 t sv tx mx B st W)
include h
theorem MS.lt : tx < W.heap.size := (Array.getElem?_eq_some_iff.1 h.bk).1
theorem MS.c0 : W.cell? ⟨tx, 0, none⟩ = some (.int .i64 t.kind) := by simp [World.cell?, h.bk]
theorem MS.c1 : W.cell? ⟨tx, 1, none⟩ = some (.string t.name) := by simp [World.cell?, h.bk]
theorem MS.c2 : W.cell? ⟨tx, 2, none⟩ = some (.int .i64 t.n) := by simp [World.cell?, h.bk]
theorem MS.c3 : W.cell? ⟨tx, 3, none⟩ = some sv := by simp [World.cell?, h.bk]
theorem MS.mv {W' : World} {st' : MSt} (hf : FrP (fun x => x = mx) W W') (hk : Mkr W' mx st') : MS w0 t sv tx mx B st' W' :=
  ⟨h.fr.trans hf (fun _ _ e => e) (fun _ _ e => e), hk, (hf.block _ h.lt h.ne).trans h.bk, h.ne, h.le, Tm.inn_fr h.hi hf (fun x e => by have := h.le; omega), h.tb.mv hf (fun x e => by have := h.le; omega)⟩
theorem MS.quiet {W' : World} (hb : Below W.heap.size W W') : MS w0 t sv tx mx B st W' := h.mv ((FrP.of_below hb).mono (fun _ _ e => e.elim)) (h.mr.next hb)
theorem MS.B_le : B ≤ W.heap.size := Nat.le_trans h.le (Nat.le_of_lt h.mr.lt)
theorem MS.it : Tm.inn W W.heap.size t sv := Tm.inn_mono h.hi h.B_le
end
theorem MS.new {w : World} {t : Tm} {sv : Value} {mx B : Nat} {st : MSt} (hi : Tm.inn w B t sv) (hle : B ≤ mx) (hk : Mkr w mx st) (ht : TabsLo w B) :
    MS w t sv w.heap.size mx B st (w.alloc (.cells #[.int .i64 t.kind, .string t.name, .int .i64 t.n, sv] 34)) := by
  have hb := (Below.refl w.heap.size w).alloc (Nat.le_refl _) (.cells #[.int .i64 t.kind, .string t.name, .int .i64 t.n, sv] 34)
  have hf : FrP (fun x => x = mx) w _ := (FrP.of_below hb).mono (fun _ _ e => e.elim)
  have hlt := hk.lt
  exact ⟨hf, hk.next hb, heap_alloc_new w _, by omega, hle, Tm.inn_fr hi hf (fun x e => by omega), ht.mv hf (fun x e => by omega)⟩
/-- An Arg of a term, as it lies. -/
theorem arg_in {W : World} {B : Nat} {t : Tm} {g : Option Addr} {c m : Nat} (h : Tm.inn W B t (.slice g m c)) (i : Nat) (hi : i < t.args.length) : ∃ ab ao gs ms cs, g = some ⟨ab, ao, none⟩ ∧ m = t.args.length ∧ ab < B ∧ W.cell? ⟨ab, ao + i * 4, none⟩ = some (.int .i64 (argN t i).kind) ∧ W.cell? ⟨ab, ao + i * 4 + 1, none⟩ = some (.string (argN t i).name) ∧ W.cell? ⟨ab, ao + i * 4 + 2, none⟩ = some (.int .i64 (argN t i).n) ∧ W.cell? ⟨ab, ao + i * 4 + 3, none⟩ = some (.slice gs ms cs) ∧ Tm.inn W B (argN t i) (.slice gs ms cs) := by
  have hsl : Tm.sliceIn W B t.args (.slice g m c) := (Tm.inn_iff.1 h).2
  rw [argN_eq hi]
  obtain ⟨ab, ao, sv, e, hb, g0, g1, g2, g3, hin⟩ := Tm.sliceIn_get hsl i hi
  obtain ⟨_, gs, cs, rfl, _⟩ := Tm.inn_iff.1 hin
  obtain ⟨g9, c9, e9, -⟩ := hsl
  injection e9 with _ e92 _
  exact ⟨ab, ao, gs, _, cs, e, e92, hb, g0, g1, g2, g3, hin⟩
end Go.Proofs.YtkjnjahmlobjiaaGreatDoor
