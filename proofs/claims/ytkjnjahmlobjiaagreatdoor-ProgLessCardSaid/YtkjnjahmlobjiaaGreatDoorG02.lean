/-
  Terms in memory whose blocks obey any test; rows of terms that a call itself makes; the law for append that tells whether the row is a new one.
  The program's Vars.
  Programs as data, and how they lie in memory; what may be a clause, purely.
  The document's Builtin, Control and own.
  The program's tables of builtins and of control; its small functions on predicates.
-/
import Derived.Test.YtkjnjahmlobjiaaGreatDoorG00
import Derived.Deep.Onto
import Derived.Lib.Hide
import Derived.Test.YtkjnjahmlobjiaaGreatDoorG01
import Derived.Maps.OwnIn
import Derived.Maps.OwnSet
import Derived.Maps.AppendAt
import Derived.Test.YtkjnjahmlobjiaaGreatDoorChecked
import Derived.WalkKit
import Derived.Laws.StructEq
import Derived.Deep.CutRange
import Derived.Deep.LoopGhost
import Derived.Deep.DeepCutAuto
namespace Go.Proofs.YtkjnjahmlobjiaaGreatDoor
open Go.RowKit

namespace Tm
mutual
def innP (w : World) (ok : Nat → Prop) : Tm → Value → Prop
  | .mk k s n l, sv => ((Lit.int .i64 k).wf = true ∧ s.size ≤ maxLen ∧ (Lit.int .i64 n).wf = true) ∧
      ∃ g cap, sv = .slice g l.length cap ∧ l.length ≤ cap ∧ l.length ≤ 2513169434900 ∧ (l = [] ∨ ∃ b off, g = some ⟨b, off, none⟩ ∧ ok b ∧ rowP w ok b off l)
def rowP (w : World) (ok : Nat → Prop) (b off : Nat) : List Tm → Prop
  | [] => True
  | t :: r => (∃ sv, w.cell? ⟨b, off, none⟩ = some (.int .i64 t.kind) ∧ w.cell? ⟨b, off + 1, none⟩ = some (.string t.name) ∧ w.cell? ⟨b, off + 2, none⟩ = some (.int .i64 t.n) ∧ w.cell? ⟨b, off + 3, none⟩ = some sv ∧ innP w ok t sv) ∧
      rowP w ok b (off + 4) r
end
def sliceP (w : World) (ok : Nat → Prop) (l : List Tm) (sv : Value) : Prop :=
  ∃ g cap, sv = .slice g l.length cap ∧ l.length ≤ cap ∧ l.length ≤ 2513169434900 ∧ (l = [] ∨ ∃ b off, g = some ⟨b, off, none⟩ ∧ ok b ∧ rowP w ok b off l)
theorem innP_mk {w : World} {ok : Nat → Prop} {k : Int} {s : ByteArray} {n : Int} {l : List Tm} {sv : Value} :
    innP w ok (.mk k s n l) sv ↔ ((Lit.int .i64 k).wf = true ∧ s.size ≤ maxLen ∧ (Lit.int .i64 n).wf = true) ∧ sliceP w ok l sv := by
  simp only [innP, sliceP]
theorem innP_iff {w : World} {ok : Nat → Prop} {t : Tm} {sv : Value} : innP w ok t sv ↔ t.headOk ∧ sliceP w ok t.args sv := by
  cases t
  exact innP_mk

theorem rowP_same {w w' : World} {ok ok' : Nat → Prop} {b : Nat} {l : List Tm} (hl : ∀ t ∈ l, ∀ sv, innP w ok t sv → innP w' ok' t sv)
    (hc : ∀ o v, w.cell? ⟨b, o, none⟩ = some v → w'.cell? ⟨b, o, none⟩ = some v) : ∀ {off : Nat}, rowP w ok b off l → rowP w' ok' b off l := by
  induction l with
  | nil => intro off _; simp [rowP]
  | cons t r ih =>
    intro off h
    simp only [rowP] at h ⊢
    obtain ⟨⟨sv, h0, h1, h2, h3, h4⟩, h5⟩ := h
    exact ⟨⟨sv, hc _ _ h0, hc _ _ h1, hc _ _ h2, hc _ _ h3, hl t (by simp) _ h4⟩, ih (fun u hu => hl u (by simp [hu])) h5⟩
theorem sliceP_same {w w' : World} {ok ok' : Nat → Prop} {l : List Tm} (hl : ∀ t ∈ l, ∀ sv, innP w ok t sv → innP w' ok' t sv) (hB : ∀ b, ok b → ok' b)
    (hc : ∀ b o v, ok b → w.cell? ⟨b, o, none⟩ = some v → w'.cell? ⟨b, o, none⟩ = some v) {sv : Value} (h : sliceP w ok l sv) : sliceP w' ok' l sv := by
  obtain ⟨g, cap, rfl, h1, h2, h3⟩ := h
  refine ⟨g, cap, rfl, h1, h2, ?_⟩
  rcases h3 with h3 | ⟨b, off, rfl, hb, hr⟩
  · exact .inl h3
  · exact .inr ⟨b, off, rfl, hB b hb, rowP_same hl (fun o v => hc b o v hb) hr⟩
theorem innP_same {w w' : World} {ok ok' : Nat → Prop} (hB : ∀ b, ok b → ok' b) (hc : ∀ b o v, ok b → w.cell? ⟨b, o, none⟩ = some v → w'.cell? ⟨b, o, none⟩ = some v) :
    ∀ (t : Tm) (sv : Value), innP w ok t sv → innP w' ok' t sv := by
  refine ind fun k s n l ih sv h => ?_
  rw [innP_mk] at h ⊢
  exact ⟨h.1, sliceP_same ih hB hc h.2⟩

theorem rowIn_of_P {w : World} {ok : Nat → Prop} {B b : Nat} {l : List Tm} (hl : ∀ t ∈ l, ∀ sv, innP w ok t sv → inn w B t sv) : ∀ {off : Nat}, rowP w ok b off l → rowIn w B b off l := by
  induction l with
  | nil => intro off _; simp [rowIn]
  | cons t r ih =>
    intro off h
    simp only [rowP, rowIn] at h ⊢
    obtain ⟨⟨sv, h0, h1, h2, h3, h4⟩, h5⟩ := h
    exact ⟨⟨sv, h0, h1, h2, h3, hl t (by simp) _ h4⟩, ih (fun u hu => hl u (by simp [hu])) h5⟩
theorem sliceIn_of_P' {w : World} {ok : Nat → Prop} {B : Nat} {l : List Tm} (hl : ∀ t ∈ l, ∀ sv, innP w ok t sv → inn w B t sv) (hB : ∀ b, ok b → b < B) {sv : Value} (h : sliceP w ok l sv) : sliceIn w B l sv := by
  obtain ⟨g, cap, rfl, h1, h2, h3⟩ := h
  refine ⟨g, cap, rfl, h1, h2, ?_⟩
  rcases h3 with h3 | ⟨b, off, rfl, hb, hr⟩
  · exact .inl h3
  · exact .inr ⟨b, off, rfl, hB b hb, rowIn_of_P hl hr⟩
theorem inn_of_P {w : World} {ok : Nat → Prop} {B : Nat} (hB : ∀ b, ok b → b < B) : ∀ (t : Tm) (sv : Value), innP w ok t sv → inn w B t sv := by
  refine ind fun k s n l ih sv h => ?_
  rw [innP_mk] at h
  rw [inn_mk]
  exact ⟨h.1, sliceIn_of_P' ih hB h.2⟩
theorem sliceIn_of_P {w : World} {ok : Nat → Prop} {B : Nat} {l : List Tm} (hB : ∀ b, ok b → b < B) {sv : Value} (h : sliceP w ok l sv) : sliceIn w B l sv :=
  sliceIn_of_P' (fun t _ sv => inn_of_P hB t sv) hB h

/-- The cells of a row of terms. -/
def cellsP (w : World) (ok : Nat → Prop) : List Tm → List Value → Prop
  | [], xs => xs = []
  | t :: r, xs => ∃ sv xs', xs = .int .i64 t.kind :: .string t.name :: .int .i64 t.n :: sv :: xs' ∧ innP w ok t sv ∧ cellsP w ok r xs'
theorem cellsP_same {w w' : World} {ok ok' : Nat → Prop} (hB : ∀ b, ok b → ok' b) (hc : ∀ b o v, ok b → w.cell? ⟨b, o, none⟩ = some v → w'.cell? ⟨b, o, none⟩ = some v) :
    ∀ (l : List Tm) (xs : List Value), cellsP w ok l xs → cellsP w' ok' l xs
  | [], _, h => h
  | t :: r, _, ⟨sv, xs', h1, h2, h3⟩ => ⟨sv, xs', h1, innP_same hB hc t sv h2, cellsP_same hB hc r xs' h3⟩
theorem cellsP_snoc {w : World} {ok : Nat → Prop} {t : Tm} {sv : Value} (ht : innP w ok t sv) : ∀ (l : List Tm) (xs : List Value), cellsP w ok l xs →
    cellsP w ok (l ++ [t]) (xs ++ [.int .i64 t.kind, .string t.name, .int .i64 t.n, sv])
  | [], _, h => by
    simp only [cellsP] at h
    subst h
    exact ⟨sv, [], rfl, ht, rfl⟩
  | u :: r, _, ⟨sv', xs', h1, h2, h3⟩ => ⟨sv', _, by rw [h1]; rfl, h2, cellsP_snoc ht r xs' h3⟩
theorem rowP_of_cells {w : World} {ok : Nat → Prop} {b : Nat} : ∀ (l : List Tm) (xs : List Value) (off : Nat), cellsP w ok l xs → (∀ j u, xs[j]? = some u → w.cell? ⟨b, off + j, none⟩ = some u) → rowP w ok b off l
  | [], _, _, _, _ => by simp [rowP]
  | t :: r, _, off, ⟨sv, xs', h1, h2, h3⟩, hc => by
    subst h1
    simp only [rowP]
    refine ⟨⟨sv, hc 0 _ rfl, hc 1 _ rfl, hc 2 _ rfl, hc 3 _ rfl, h2⟩, rowP_of_cells r xs' (off + 4) h3 fun j u hj => ?_⟩
    have := hc (j + 4) u (by simpa using hj)
    rwa [show off + (j + 4) = off + 4 + j by omega] at this
/-- The slice that owns them. -/
theorem sliceP_of_owns {w : World} {base : Nat} {e : TypeId} {v : Value} {l : List Tm} {xs : List Value} {ok ok' : Nat → Prop} (h : w.ownsRow base e 4 v l.length xs) (hc : cellsP w ok l xs) (hlen : l.length ≤ 2513169434900)
    (hB : ∀ b, ok b → ok' b) (hv : ∀ b, v.ownBlock = some b → ok' b) : sliceP w ok' l v := by
  rcases h.2 with ⟨rfl, h0⟩ | ⟨g, cap, cur, rfl, _, hg, hn, _⟩
  · exact ⟨none, 0, by rw [h0], by omega, hlen, .inl (List.eq_nil_of_length_eq_zero h0)⟩
  · refine ⟨_, cap, rfl, hn, hlen, ?_⟩
    by_cases hl : l = []
    · exact .inl hl
    · refine .inr ⟨g, 0, rfl, hv g rfl, rowP_of_cells l xs 0 (cellsP_same hB (fun _ _ _ _ h => h) l xs hc) fun j u hj => ?_⟩
      have := h.cells (g := g) rfl j u hj
      simpa [Addr.add_lit] using this
end Tm

theorem grown_trans {w w1 w2 : World} {r r' : Option Nat} (h : w.grownBy w1 r) (g : w1.grownBy w2 r') (hr : ∀ k, some k = r' → some k = r ∨ w.heap.size ≤ k) : w.grownBy w2 r :=
  ⟨g.os.trans h.os, g.tape.trans h.tape, g.output.trans h.output, Nat.le_trans h.size g.size, fun k hk hne => (g.block k (Nat.lt_of_lt_of_le hk h.size) (fun e => by
    rcases hr k e with e' | e'
    · exact hne e'
    · omega)).trans (h.block k hk hne)⟩
theorem newBlk (w : World) (o : Obj) (n : Nat) (hn : n = w.heap.size) : (w.alloc o).heap[n]? = some o := by
  subst hn
  show (w.heap.push o)[w.heap.size]? = some o
  simp
theorem row4 {w : World} {b : Nat} {a0 a1 a2 a3 : Value} {t : TypeId} (h : w.heap[b]? = some (Obj.cells #[a0, a1, a2, a3] t (0, 0))) :
    (w.cell? ⟨b, 0, none⟩ = some a0 ∧ w.cell? ⟨b, 1, none⟩ = some a1 ∧ w.cell? ⟨b, 2, none⟩ = some a2 ∧ w.cell? ⟨b, 3, none⟩ = some a3) ∧
    (w.frozen? ⟨b, 0, none⟩ = false ∧ w.frozen? ⟨b, 1, none⟩ = false ∧ w.frozen? ⟨b, 2, none⟩ = false ∧ w.frozen? ⟨b, 3, none⟩ = false) := by
  simp [World.cell?, World.frozen?, h]
theorem grownBy_any {w w' : World} (h : w.grownBy w' none) (row : Option Nat) : w.grownBy w' row := ⟨h.os, h.tape, h.output, h.size, fun k hk _ => h.block k hk (by simp)⟩
theorem ownsRow_below {W W' : World} {base : Nat} {e : TypeId} {size : Nat} {v : Value} {n : Nat} {xs : List Value} (h : W.ownsRow base e size v n xs) (hb : Below W.heap.size W W') : W'.ownsRow base e size v n xs := by
  refine ⟨h.1, ?_⟩
  rcases h.2 with hn | ⟨g, cap, cur, rfl, h1, h2, h3⟩
  · exact .inl hn
  · exact .inr ⟨g, cap, cur, rfl, h1, (hb.block g (Array.getElem?_eq_some_iff.1 h2).1).trans h2, h3⟩

theorem ownsRow_block {W W' : World} {base : Nat} {e : TypeId} {size : Nat} {v : Value} {n : Nat} {xs : List Value} (h : W.ownsRow base e size v n xs) (hb : ∀ b, v.ownBlock = some b → W'.heap[b]? = W.heap[b]?) : W'.ownsRow base e size v n xs := by
  refine ⟨h.1, ?_⟩
  rcases h.2 with hn | ⟨g, cap, cur, rfl, h1, h2, h3⟩
  · exact .inl hn
  · exact .inr ⟨g, cap, cur, rfl, h1, (hb g rfl).trans h2, h3⟩
/-- Which blocks the terms of a row that is being gathered may lie in: any of the call's own but the row itself. -/
def okRow (lo : Nat) (W : World) (v : Value) (b : Nat) : Prop := lo ≤ b ∧ b < W.heap.size ∧ v.ownBlock ≠ some b
/-- One term more in a row that a call gathers: from the world before the term was made to the one behind the append. -/
theorem row_step {wr w2 w3 : World} {lo : Nat} {e : TypeId} {v v' : Value} {k : Nat} {l : List Tm} {t : Tm} {xs : List Value} {sv : Value} {tmp : Obj}
    (hrow : wr.ownsRow lo e 4 v k xs) (hcells : Tm.cellsP wr (okRow lo wr v) l xs) (hb : Below wr.heap.size wr w2) (hlo : lo ≤ wr.heap.size)
    (ht : Tm.innP w2 (fun b => wr.heap.size ≤ b ∧ b < w2.heap.size) t sv) (hgrow : (w2.alloc tmp).grownBy w3 v.ownBlock)
    (hsep : v'.ownBlock = v.ownBlock ∨ ∀ b, v'.ownBlock = some b → (w2.alloc tmp).heap.size ≤ b) :
    Tm.cellsP w3 (okRow lo w3 v') (l ++ [t]) (xs ++ [.int .i64 t.kind, .string t.name, .int .i64 t.n, sv]) := by
  have hs3 : w2.heap.size + 1 ≤ w3.heap.size := by simpa using hgrow.size
  have hs2 := hb.size
  have cell3 : ∀ b o u, b < w2.heap.size → v.ownBlock ≠ some b → w2.cell? ⟨b, o, none⟩ = some u → w3.cell? ⟨b, o, none⟩ = some u := fun b o u hlt hne hc =>
    hgrow.cell (a := ⟨b, o, none⟩) (by rw [World.cell?_alloc_lt _ _ _ (by exact hlt)]; exact hc) (fun e => hne e.symm)
  have sep : ∀ b, b < w2.heap.size → v.ownBlock ≠ some b → v'.ownBlock ≠ some b := fun b hlt hne => by
    rcases hsep with h | h
    · rw [h]; exact hne
    · intro e
      have := h b e
      simp at this
      omega
  refine Tm.cellsP_snoc (Tm.innP_same (fun b hb' => ?_) (fun b o u hb' hc => ?_) t sv ht) l xs (Tm.cellsP_same (fun b hb' => ?_) (fun b o u hb' hc => ?_) l xs hcells)
  · have hne : v.ownBlock ≠ some b := fun e => by have := (hrow.lt b e).2; omega
    exact ⟨by omega, by omega, sep b hb'.2 hne⟩
  · have hne : v.ownBlock ≠ some b := fun e => by have := (hrow.lt b e).2; omega
    exact cell3 b o u hb'.2 hne hc
  · exact ⟨hb'.1, by have := hb'.2.1; omega, sep b (by have := hb'.2.1; omega) hb'.2.2⟩
  · exact cell3 b o u (by have := hb'.2.1; omega) hb'.2.2 ((hb.cell (p := ⟨b, o, none⟩) hb'.2.1).trans hc)

theorem blk_step {wr w2 w3 : World} {v : Value} {tmp o : Obj} {j : Nat} (hb : Below wr.heap.size wr w2) (hgrow : (w2.alloc tmp).grownBy w3 v.ownBlock) (h : wr.heap[j]? = some o) (hne : v.ownBlock ≠ some j) : w3.heap[j]? = some o := by
  have hlt := (Array.getElem?_eq_some_iff.1 h).1
  have h2 := (hb.block j hlt).trans h
  have hlt2 := (Array.getElem?_eq_some_iff.1 h2).1
  exact (hgrow.block j (by simp; omega) (fun e => hne e.symm)).trans ((Below.heap_alloc _ _ _ hlt2).trans h2)
theorem owns_slice {w : World} {base : Nat} {e : TypeId} {size : Nat} {v : Value} {n : Nat} {xs : List Value} (h : w.ownsRow base e size v n xs) : ∃ g cap, v = .slice g n cap := by
  rcases h.2 with ⟨rfl, rfl⟩ | ⟨g, cap, _, rfl, _⟩
  · exact ⟨none, 0, rfl⟩
  · exact ⟨_, cap, rfl⟩

/-- A row of terms that a call has gathered, as the slice that it hands on, behind a store of a whole term into a box of its own. -/
theorem sliceP_done {wr wf : World} {lo base : Nat} {e : TypeId} {v : Value} {l : List Tm} {xs : List Value} (hrow : wr.ownsRow lo e 4 v l.length xs) (hcells : Tm.cellsP wr (okRow lo wr v) l xs) (hlen : l.length ≤ 2513169434900)
    (hbl : base ≤ lo) (hsz : wr.heap.size ≤ wf.heap.size) (hsame : ∀ k, lo ≤ k → k < wr.heap.size → wf.heap[k]? = wr.heap[k]?) : Tm.sliceP wf (fun b => base ≤ b ∧ b < wf.heap.size) l v := by
  have hrow' : wf.ownsRow lo e 4 v l.length xs := by
    refine ⟨hrow.1, ?_⟩
    rcases hrow.2 with hn | ⟨g, cap, cur, rfl, h1, h2, h3⟩
    · exact .inl hn
    · exact .inr ⟨g, cap, cur, rfl, h1, (hsame g h1 (Array.getElem?_eq_some_iff.1 h2).1).trans h2, h3⟩
  have hcells' : Tm.cellsP wf (okRow lo wf v) l xs := Tm.cellsP_same (fun b hb => ⟨hb.1, by have := hb.2.1; omega, hb.2.2⟩) (fun b o u hb hc => (World.cell?_of_block (a := ⟨b, o, none⟩) (hsame b hb.1 hb.2.1)).trans hc) l xs hcells
  exact Tm.sliceP_of_owns hrow' hcells' hlen (fun b hb => ⟨by have := hb.1; omega, hb.2.1⟩) (fun b hb => ⟨by have := (hrow'.lt b hb).1; omega, (hrow'.lt b hb).2⟩)
theorem set4_other (W : World) (B : Nat) (a b c d : Value) (k : Nat) (hk : k ≠ B) : ((((W.setCell ⟨B, 0, none⟩ a).setCell ⟨B, 1, none⟩ b).setCell ⟨B, 2, none⟩ c).setCell ⟨B, 3, none⟩ d).heap[k]? = W.heap[k]? := by
  rw [Below.heap_setCell _ _ _ _ hk, Below.heap_setCell _ _ _ _ hk, Below.heap_setCell _ _ _ _ hk, Below.heap_setCell _ _ _ _ hk]

/-- append onto a slice of the call's own: the row is the one that it was, or a new one. -/
theorem wpList_append_sep {P : Program} (w : World) {ops : Array Oper} {rest : List Oper} {o : Oper} {a : Act} {Q : Exit → Act → World → Prop}
    (hg : o.guard = none) (s x : Operand) (t : TypeId) (hop : o.op = Op.call { callee := Callee.builtin Builtin.append, args := #[s, x], argTypes := #[t, t] })
    (base : Nat) (e : TypeId) (i : TypeInfo) (z : Value) (size bytes : Nat) (h1 : P.underlying t = some (.slice e)) (h2 : P.info? e = some i) (h3 : i.zero = some z) (h4 : i.size = size) (h5 : i.bytes = bytes) (h6 : z.cells.size = size) (h7 : 0 < size)
    (v : Value) (k : Nat) (xs : List Value) (hs : a.eval s = v) (hown : w.ownsRow base e size v k xs) (ad : Addr) (m c : Nat) (news : List Value) (hx : a.eval x = .slice (some ad) m c) (hm : 0 < m) (hn : news.length = m * size)
    (hc : ∀ j u, news[j]? = some u → w.cell? (ad.add j) = some u) (h1c : ∀ u ∈ news, u.oneCell' = true) (b1 : k + m ≤ maxLen) (b2 : (k + m) * bytes ≤ 140737488355328) (b3 : base ≤ w.heap.size)
    (hK : ∀ v' w', w'.ownsRow base e size v' (k + m) (xs ++ news) → w.grownBy w' v.ownBlock → (v'.ownBlock = v.ownBlock ∨ ∀ b, v'.ownBlock = some b → w.heap.size ≤ b) → wpList P ops Q rest (a.put o.dst v') w') :
    wpList P ops Q (o :: rest) a w := by
  have fresh : ∀ v' w', w'.ownsRow w.heap.size e size v' (k + m) (xs ++ news) → w.grownBy w' none → wpList P ops Q rest (a.put o.dst v') w' := fun v' w' r1 r2 =>
    hK v' w' (r1.mono b3) (grownBy_any r2 _) (.inr fun b hb => (r1.lt b hb).1)
  rcases hown.2 with ⟨rfl, h0⟩ | ⟨g, cap, cur, rfl, _, _, _⟩
  · exact wpList_append_grows w hg s x t hop e i z size bytes h1 h2 h3 h4 h5 h6 h7 none k 0 xs (by rw [hs, h0]) (fun _ => ⟨h0, rfl⟩) hown.1 (fun b hb => by cases hb) ad m c news hx hn hc h1c (by omega) b1 b2 fresh
  · by_cases hr : k + m ≤ cap
    · exact wpList_append_fits w hg s x t hop base e i size h1 h2 h4 g k cap xs hs hown ad m c news hx hn hc h1c hr fun w' r1 r2 => hK _ w' r1 r2 (.inl rfl)
    · exact wpList_append_grows w hg s x t hop e i z size bytes h1 h2 h3 h4 h5 h6 h7 (some ⟨g, 0, none⟩) k cap xs hs (fun h => by cases h) hown.1 (fun b hb j u hj => by cases hb; exact hown.cells (g := g) rfl j u hj) ad m c news hx hn hc h1c (by omega) b1 b2 fresh
end Go.Proofs.YtkjnjahmlobjiaaGreatDoor

namespace Go.Proofs.YtkjnjahmlobjiaaGreatDoor
open Go.RowKit Go.Shelf

attribute [local go_sem] Oper.semAt_some

/-- The variables that have been met, and one term more. -/
def addV (l : List Int) (x : Key) : List Int := if x.k = 1 ∧ x.n ∉ l then l ++ [x.n] else l
/-- The variables of terms, each once, in the order of their first occurrence. -/
def varsOf (l : List Tm) : List Int := (Tm.nodesL l 1).foldl addV []

theorem addV_length (ks : List Key) : ∀ vs : List Int, (ks.foldl addV vs).length ≤ vs.length + ks.length := by
  induction ks with
  | nil => intro vs; simp
  | cons x r ih =>
    intro vs
    have h1 := ih (addV vs x)
    have h2 : (addV vs x).length ≤ vs.length + 1 := by unfold addV; split <;> simp
    simp only [List.foldl_cons, List.length_cons]
    omega
theorem varsOf_length (l : List Tm) : (varsOf l).length ≤ Tm.sizes l := by
  have := addV_length (Tm.nodesL l 1) []
  rw [nodesL_length l (fun t _ d => nodes_length t d)] at this
  simpa [varsOf] using this

/-- The mark that a range over a function leaves. -/
def mark (D : Nat) : Deferred := { target := .collected D, args := #[] }

theorem leaves_marks {F : Fence} {n : Nat} {P : Program} {fn : Func} {tmps : Array Value} {R : Ending → World → Prop} : ∀ (Ds : List Nat) (W : World), (∀ D ∈ Ds, W.heap[D]? = some (Obj.deferred (some []))) → Ds.Nodup →
    (∀ W', (∀ k, k ∉ Ds → W'.heap[k]? = W.heap[k]?) → (∀ lo, lo ≤ W.heap.size → (∀ D ∈ Ds, lo ≤ D) → Below lo W W') → W'.heap.size = W.heap.size → LeavesInM F n P fn tmps R [] .returning W') → LeavesInM F n P fn tmps R (Ds.map mark) .returning W
  | [], W, _, _, h => h W (fun _ _ => rfl) (fun _ _ _ => Below.refl _ _) rfl
  | D :: Ds, W, hD, hnd, h => ⟨by simp, .inl ⟨D, _, rfl, run_takeDeferred (hD D (by simp)), leaves_marks Ds _
      (fun E hE => (World.putObj_heap_other (fun e => by subst e; exact (List.nodup_cons.1 hnd).1 hE)).trans (hD E (by simp [hE]))) (List.nodup_cons.1 hnd).2
      (fun W' h1 h2 h3 => h W' (fun k hk => (h1 k (fun hm => hk (by simp [hm]))).trans (World.putObj_heap_other (fun e => hk (by simp [e]))))
        (fun lo hlo hl => ((Below.refl lo W).grown (grownBy_putObj' W D (.deferred none)) hlo (fun k e => by cases e; exact hl D (by simp))).trans (h2 lo (by simpa using hlo) (fun E hE => hl E (by simp [hE])))) (by simpa using h3))⟩⟩

/-- A slice of numbers in memory. -/
def intsIn (w : World) (B : Nat) (l : List Int) (v : Value) : Prop :=
  ∃ g cap, v = .slice g l.length cap ∧ l.length ≤ cap ∧ l.length ≤ 1000000000 ∧ (l = [] ∨ ∃ b off, g = some ⟨b, off, none⟩ ∧ b < B ∧ ∀ i (h : i < l.length), w.cell? ⟨b, off + i, none⟩ = some (.int .i64 l[i]))

theorem Tryz.zeroUnit (w : World) : (zeroValue 76).run Tryz.prog w = .ok (.agg #[]) w := by kernel_rfl
theorem has_vars (vs : List Int) (x : Int) (_hx : (Lit.int .i64 x).wf = true) (_hwf : ∀ y ∈ vs, (Lit.int .i64 y).wf = true) : Maps.has (Maps.setOf (DataW.agg (H := Unit) []) (vs.map (Lit.int .i64))) (.int .i64 x) = decide (x ∈ vs) := by
  rw [Maps.has_setOf]
  · rw [Bool.eq_iff_iff]
    simp only [List.any_map, List.any_eq_true, Function.comp, decide_eq_true_eq]
    constructor
    · rintro ⟨y, hy, h⟩
      by_cases e : y = x
      · rw [← e]; exact hy
      · rw [Maps.sameKey_ne (fun e' => e (by cases e'; rfl))] at h
        cases h
    · intro h
      exact ⟨x, h, WideAt.sameKey_self (by simp [WideAt.IsKeyLit])⟩
  · intro y hy
    obtain ⟨z, _, rfl⟩ := List.mem_map.1 hy
    simp [WideAt.IsKeyLit]

theorem Keep.of_grown {lo : Nat} {A B : World} {row : Option Nat} (hg : A.grownBy B row) (hlo : lo ≤ A.heap.size) (h : ∀ r, row = some r → lo ≤ r ∧ ∀ cs fr, A.heap[r]? ≠ some (Obj.cells cs 34 fr)) : Keep lo A B :=
  ⟨hg.size, fun k hk => hg.block k (by omega) (fun e => by have := (h k e.symm).1; omega), fun k cs fr hk => (hg.block k (Array.getElem?_eq_some_iff.1 hk).1 (fun e => (h k e.symm).2 cs fr hk)).trans hk⟩
theorem Tryz.infoInt : (Tryz.prog.info? 3).map (fun i => (i.zero, i.size, i.bytes)) = some (some (.int .i64 0), 1, 8) := by kernel_rfl

/-- What the call's own blocks hold when so many variables have been met: h: the slice's box; h + 1: the map; h + 2: the map's box. -/
def VInv (h : Nat) (vs : List Int) (W : World) : Prop :=
  ((∃ v, Boxed W h 80 v ∧ W.ownsRow h 3 1 v vs.length (vs.map (Value.int .i64)) ∧ True) ∧ Boxed W (h + 2) 115 (.map (some (h + 1)))) ∧
  (W.ownsMap Tryz.prog 3 (unitElem (H := Unit)) (h + 1) vs.length (Maps.setOf (.agg []) (vs.map (Lit.int .i64))) ∧ ((∀ x ∈ vs, (Lit.int .i64 x).wf = true) ∧ vs.length ≤ 1000000))

theorem VInv.own (h B : Nat) (hB : h + 3 ≤ B) {β : Type} (f : β → List Int) : OwnFrom B (fun s W => VInv h (f s) W) := by
  refine OwnFrom.and (OwnFrom.and (Own.from (holdsRow_own _ _ _ _ _ (fun s => (f s).length) (fun s => (f s).map (Value.int .i64)) (fun _ _ => True)) _) (Own.from (boxed_own _ _ _) _)) (OwnFrom.and ?_ (ownFrom_pure _ _))
  intro s X Y row hs hg hr
  exact hs.kept hg (fun e => by have := (hr _ e.symm).1; omega)
theorem VInv.alloc {h : Nat} {vs : List Int} {W : World} (hv : VInv h vs W) (o : Obj) : VInv h vs (W.alloc o) := by
  obtain ⟨⟨⟨v, hb, hr, _⟩, hb2⟩, hm, hp⟩ := hv
  exact ⟨⟨⟨v, hb.alloc o, hr.alloc o, trivial⟩, hb2.alloc o⟩, hm.alloc o, hp⟩

end Go.Proofs.YtkjnjahmlobjiaaGreatDoor

namespace Go.Proofs.YtkjnjahmlobjiaaGreatDoor
open Go.RowKit

/-- A program's clause: head, goals, how many variables. -/
structure Pc where
  h : Tm
  b : List Gl
  n : Int
namespace Pc
abbrev most : Nat := 1599289640354
def inn (w : World) (B : Nat) (c : Pc) (sv v : Value) : Prop := (Lit.int .i64 c.n).wf = true ∧ Tm.inn w B c.h sv ∧ Gl.sliceIn w B c.b v
def At (w : World) (B bk off : Nat) (c : Pc) (sv v : Value) : Prop :=
  w.cell? ⟨bk, off, none⟩ = some (.int .i64 c.h.kind) ∧ w.cell? ⟨bk, off + 1, none⟩ = some (.string c.h.name) ∧ w.cell? ⟨bk, off + 2, none⟩ = some (.int .i64 c.h.n) ∧ w.cell? ⟨bk, off + 3, none⟩ = some sv ∧ w.cell? ⟨bk, off + 4, none⟩ = some v ∧ w.cell? ⟨bk, off + 5, none⟩ = some (.int .i64 c.n) ∧ inn w B c sv v
/-- A row of clauses. -/
def sliceIn (w : World) (B : Nat) (l : List Pc) (v : Value) : Prop :=
  ∃ g cap, v = .slice g l.length cap ∧ l.length ≤ cap ∧ l.length ≤ most ∧ (l = [] ∨ ∃ bk off, g = some ⟨bk, off, none⟩ ∧ bk < B ∧ ∀ (i : Nat) (h : i < l.length), ∃ sv u, At w B bk (off + i * 6) l[i] sv u)
theorem inn_same {w w' : World} {B B' : Nat} (hB : B ≤ B') (hc : ∀ bk o v, bk < B → w.cell? ⟨bk, o, none⟩ = some v → w'.cell? ⟨bk, o, none⟩ = some v) {c : Pc} {sv v : Value} (h : inn w B c sv v) : inn w' B' c sv v :=
  ⟨h.1, Tm.inn_same hB hc c.h sv h.2.1, Gl.sliceIn_same (fun g _ => Gl.inn_same hB hc g) hB hc h.2.2⟩
theorem sliceIn_same {w w' : World} {B B' : Nat} (hB : B ≤ B') (hc : ∀ bk o v, bk < B → w.cell? ⟨bk, o, none⟩ = some v → w'.cell? ⟨bk, o, none⟩ = some v) {l : List Pc} {v : Value} (h : sliceIn w B l v) : sliceIn w' B' l v := by
  obtain ⟨g, cap, rfl, h1, h2, h3⟩ := h
  refine ⟨g, cap, rfl, h1, h2, ?_⟩
  rcases h3 with h3 | ⟨bk, off, rfl, hb, hr⟩
  · exact .inl h3
  · refine .inr ⟨bk, off, rfl, Nat.lt_of_lt_of_le hb hB, fun i hi => ?_⟩
    obtain ⟨sv, u, h0, h1, h2, h3, h4, h5, h6⟩ := hr i hi
    exact ⟨sv, u, hc _ _ _ hb h0, hc _ _ _ hb h1, hc _ _ _ hb h2, hc _ _ _ hb h3, hc _ _ _ hb h4, hc _ _ _ hb h5, inn_same hB hc h6⟩
theorem sliceIn_below {w w' : World} {B n₀ : Nat} {l : List Pc} {v : Value} (h : sliceIn w B l v) (hb : Below n₀ w w') (hB : B ≤ n₀) : sliceIn w' B l v :=
  sliceIn_same (Nat.le_refl _) (fun bk o v hlt hc => by rw [hb.cell (p := ⟨bk, o, none⟩) (by show bk < n₀; omega)]; exact hc) h
theorem sliceIn_mono {w : World} {B B' : Nat} {l : List Pc} {v : Value} (h : sliceIn w B l v) (hB : B ≤ B') : sliceIn w B' l v :=
  sliceIn_same hB (fun _ _ _ _ hc => hc) h
theorem sliceIn_next {w w' : World} {l : List Pc} {v : Value} (h : sliceIn w w.heap.size l v) (hb : Below w.heap.size w w') : sliceIn w' w'.heap.size l v := sliceIn_mono (sliceIn_below h hb (Nat.le_refl _)) hb.size
/-- A clause at its place. -/
theorem sliceIn_get {w : World} {B : Nat} {l : List Pc} {v : Value} (h : sliceIn w B l v) (i : Nat) (hi : i < l.length) :
    ∃ bk off cap sv u, v = .slice (some ⟨bk, off, none⟩) l.length cap ∧ bk < B ∧ At w B bk (off + i * 6) l[i] sv u := by
  obtain ⟨g, cap, rfl, _, _, h | ⟨bk, off, rfl, hb, hr⟩⟩ := h
  · subst h; simp at hi
  · obtain ⟨sv, u, h⟩ := hr i hi
    exact ⟨bk, off, cap, sv, u, rfl, hb, h⟩
end Pc
/-! ### what the document says, purely -/
def names2 : List (List UInt8) := [[61], [92, 61], [61, 61], [92, 61, 61], [64, 60], [64, 62], [64, 61, 60], [64, 62, 61], [105, 115], [61, 58, 61], [61, 92, 61], [60], [62], [61, 60], [62, 61], [61, 46, 46]]
def names1 : List (List UInt8) := [[118, 97, 114], [110, 111, 110, 118, 97, 114], [97, 116, 111, 109], [105, 110, 116, 101, 103, 101, 114], [119, 114, 105, 116, 101]]
def names0 : List (List UInt8) := [[102, 97, 105, 108], [110, 108]]
def names3 : List (List UInt8) := [[102, 117, 110, 99, 116, 111, 114], [97, 114, 103]]
/-- Is a name of so many Args a builtin's? -/
def bltn (s : List UInt8) (n : Int) : Bool :=
  if n = 2 then names2.contains s else if n = 1 then names1.contains s else if n = 0 then names0.contains s else if n = 3 then names3.contains s else false
def ctl0 : List (List UInt8) := [[116, 114, 117, 101], [33]]
def ctl1 : List (List UInt8) := [[92, 43]]
def ctl2 : List (List UInt8) := [[44], [59], [45, 62], [58, 45]]
/-- Is it control? -/
def ctlB (s : List UInt8) (n : Int) : Bool :=
  if s = [63] then true else if n = 0 then ctl0.contains s else if n = 1 then ctl1.contains s else if n = 2 then ctl2.contains s else false
/-- May a term be a predicate's? -/
def ownB (t : Tm) : Bool := decide (t.kind = 3) && (!bltn (bsN t.name) t.args.length && !ctlB (bsN t.name) t.args.length)
/-- Is a term right, its variables below a number? -/
def varsB (t : Tm) (n : Int) : Bool := (varsOf [t]).all (fun v => decide (v < n)) && t.right
def zT : Tm := .mk 0 ⟨#[]⟩ 0 []
/-- May a goal be, as far as its own fields go? -/
def fairG (g : Gl) (n : Int) : Bool :=
  let none := g.a.isEmpty && (g.b.isEmpty && g.c.isEmpty)
  if g.kind = 1 then none && (ownB g.t && varsB g.t n)
  else if g.kind = 2 then none && (decide (g.t.kind = 3) && (bltn (bsN g.t.name) g.t.args.length && varsB g.t n))
  else if g.kind = 3 then none && g.t.same zT
  else g.t.same zT && (decide (g.kind = 4) || (decide (g.kind = 5) && (g.b.isEmpty && g.c.isEmpty)))
mutual
/-- How many goals there are; below 0: they may not be. -/
def cntG : Gl → Int → Int → Bool → Int
  | .mk k t a b c, n, deep, cuts =>
    if fairG (.mk k t a b c) n = false ∨ (k = 3 ∧ cuts = false) then -1
    else if cntL a n (deep + 1) false < 0 ∨ cntL b n (deep + 1) cuts < 0 ∨ cntL c n (deep + 1) cuts < 0 then -1
    else 1 + cntL a n (deep + 1) false + cntL b n (deep + 1) cuts + cntL c n (deep + 1) cuts
def cntS : List Gl → Int → Int → Bool → Int
  | [], _, _, _ => 0
  | g :: r, n, deep, cuts => if cntG g n deep cuts < 0 then -1 else if cntS r n deep cuts < 0 then -1 else cntG g n deep cuts + cntS r n deep cuts
def cntL : List Gl → Int → Int → Bool → Int
  | [], _, _, _ => 0
  | g :: r, n, deep, cuts => if 10 < deep then -1 else if cntG g n deep cuts < 0 then -1 else if cntS r n deep cuts < 0 then -1 else cntG g n deep cuts + cntS r n deep cuts
end
/-- May a clause be? -/
def clauseB (c : Pc) : Bool := decide (0 ≤ c.n) && (decide (c.n ≤ 1000) && (varsB c.h c.n && (ownB c.h && (decide (0 ≤ cntL c.b c.n 1 true) && decide (cntL c.b c.n 1 true ≤ 20)))))
/-- Has a program a clause of a term's predicate? -/
def hasP (p : List Pc) (t : Tm) : Bool := p.any fun c => decide (c.h.name = t.name) && decide (c.h.args.length = t.args.length)
mutual
/-- Is each Call one of a program's predicates? -/
def thG (p : List Pc) : Gl → Bool
  | .mk k t a b c => (decide (k ≠ 1) || hasP p t) && (thL p a && (thL p b && thL p c))
def thL (p : List Pc) : List Gl → Bool
  | [] => true
  | g :: r => thG p g && thL p r
end
def findNo {α : Type} (f : α → Bool) : List α → Nat → Option Nat
  | [], _ => none
  | x :: r, i => if f x = true then findNo f r (i + 1) else some i
/-- What is amiss with a program: the clause's number, and the error. -/
def checkB (p : List Pc) : Nat × Nat :=
  if 200 < p.length then (200, 3) else match findNo clauseB p 0 with
    | some i => (i, 1)
    | none => match findNo (fun c => thL p c.b) p 0 with
      | some i => (i, 9)
      | none => (0, 0)
theorem thL_all (p : List Pc) (l : List Gl) : thL p l = l.all (thG p) := by
  induction l with
  | nil => rfl
  | cons g r ih => rw [thL, ih]; rfl
theorem findNo_some {α : Type} {f : α → Bool} : ∀ {l : List α} {i j : Nat}, findNo f l i = some j → i ≤ j ∧ j < i + l.length
  | [], _, _, h => by cases h
  | x :: r, i, j, h => by
    rw [findNo] at h
    split at h
    · have := findNo_some h
      simp only [List.length_cons]
      omega
    · injection h with h
      subst h
      simp only [List.length_cons]
      omega
end Go.Proofs.YtkjnjahmlobjiaaGreatDoor

namespace Go.Proofs.YtkjnjahmlobjiaaGreatDoor
open Go.RowKit

theorem has_is (x : List UInt8) : ∀ l : List (List UInt8), l.contains x = l.any (fun y => decide (x = y))
  | [] => rfl
  | y :: l => by
    rw [List.contains_cons, List.any_cons, has_is x l]
    congr 1
    rw [Bool.eq_iff_iff, beq_iff_eq, decide_eq_true_eq]
theorem lit_is (s : ByteArray) (y : List UInt8) : (s.toList == y) = decide (bsN s = y) := by rw [bsN_toList, Bool.eq_iff_iff, beq_iff_eq, decide_eq_true_eq]
end Go.Proofs.YtkjnjahmlobjiaaGreatDoor

namespace Go.Proofs.YtkjnjahmlobjiaaGreatDoor
open Go.RowKit

abbrev PTab := List (List UInt8 × Nat)
/-- The builtins, as the program lists them. -/
def bltT : PTab := names2.map (fun x => (x, 2)) ++ (names0.map (fun x => (x, 0)) ++ (names1.map (fun x => (x, 1)) ++ names3.map (fun x => (x, 3))))
def ctlT : PTab := [([116, 114, 117, 101], 0), ([33], 0), ([44], 2), ([59], 2), ([45, 62], 2), ([92, 43], 1), ([58, 45], 2)]
def hitT (s : List UInt8) (n : Int) (x : List UInt8 × Nat) : Bool := decide (s = x.1) && decide (n = (x.2 : Int))
theorem any_tab (s : List UInt8) (n : Int) (k : Nat) : ∀ l : List (List UInt8), (l.map (fun x => (x, k))).any (hitT s n) = (l.contains s && decide (n = (k : Int)))
  | [] => rfl
  | y :: l => by
    rw [List.map_cons, List.any_cons, any_tab s n k l, has_is, has_is, List.any_cons, hitT]
    cases decide (n = (k : Int)) <;> simp
theorem blt_hit (s : List UInt8) (n : Int) : bltT.any (hitT s n) = bltn s n := by
  rw [bltT, List.any_append, List.any_append, List.any_append, any_tab, any_tab, any_tab, any_tab, bltn]
  by_cases h2 : n = 2
  · subst h2; simp
  by_cases h1 : n = 1
  · subst h1; simp
  by_cases h0 : n = 0
  · subst h0; simp
  by_cases h3 : n = 3
  · subst h3; simp
  simp [h0, h1, h2, h3]
theorem ctl_hit (s : List UInt8) (n : Int) : (ctlT.any (hitT s n) || decide (s = [63])) = ctlB s n := by
  rw [ctlB]
  by_cases hq : s = [63]
  · simp [hq]
  rw [if_neg hq]
  have e : ctlT = ctl0.map (fun x => (x, 0)) ++ (ctl2.take 3).map (fun x => (x, 2)) ++ ctl1.map (fun x => (x, 1)) ++ (ctl2.drop 3).map (fun x => (x, 2)) := rfl
  rw [e, List.any_append, List.any_append, List.any_append, any_tab, any_tab, any_tab, any_tab]
  by_cases h2 : n = 2
  · subst h2
    simp [hq, ctl2, Bool.or_assoc]
  by_cases h1 : n = 1
  · subst h1; simp [hq]
  by_cases h0 : n = 0
  · subst h0; simp [hq]
  simp [h0, h1, h2, hq]
/-- A variable of the package that holds a table. -/
def TabAt (w : World) (g : Nat) (l : PTab) : Prop :=
  ∃ R off cap, w.cell? ⟨g, 0, none⟩ = some (.slice (some ⟨R, off, none⟩) l.length cap) ∧ R < w.heap.size ∧ l.length ≤ cap ∧
    ∀ (i : Nat) (h : i < l.length), w.cell? ⟨R, off + i * 2, none⟩ = some (.string ⟨l[i].1.toArray⟩) ∧ w.cell? ⟨R, off + i * 2 + 1, none⟩ = some (.int .i64 (l[i].2 : Nat))
theorem TabAt.next {w w' : World} {g : Nat} {l : PTab} (h : TabAt w g l) (hb : Below w.heap.size w w') : TabAt w' g l := by
  obtain ⟨R, off, cap, h1, h2, h3, h4⟩ := h
  refine ⟨R, off, cap, (hb.cell (p := ⟨g, 0, none⟩) (World.block_lt_of_cell? w _ h1)).trans h1, Nat.lt_of_lt_of_le h2 hb.size, h3, fun i hi => ?_⟩
  obtain ⟨h5, h6⟩ := h4 i hi
  exact ⟨(hb.cell (p := ⟨R, _, none⟩) h2).trans h5, (hb.cell (p := ⟨R, _, none⟩) h2).trans h6⟩
/-- The program's two tables. -/
structure Tabs (w : World) : Prop where
  blt : TabAt w 0 bltT
  ctl : TabAt w 1 ctlT
theorem Tabs.next {w w' : World} (h : Tabs w) (hb : Below w.heap.size w w') : Tabs w' := ⟨h.blt.next hb, h.ctl.next hb⟩
theorem bsN_mk (l : List UInt8) : bsN ⟨l.toArray⟩ = l := by simp [bsN]
set_option maxRecDepth 100000 in
/-- Two predicates, compared. -/
theorem prd_eq (s s' : ByteArray) (n n' : Int) (w : World) : (binOp .eql 75 (.agg #[.string s, .int .i64 n]) (.agg #[.string s', .int .i64 n'])).run Tryz.prog w = .ok (.bool (decide (bsN s = bsN s') && decide (n = n'))) w := by
  have e1 : (s.toList == s'.toList) = decide (bsN s = bsN s') := by rw [bsN_toList, bsN_toList, Bool.eq_iff_iff, beq_iff_eq, decide_eq_true_eq]
  have e2 : (n == n') = decide (n = n') := by rw [Bool.eq_iff_iff, beq_iff_eq, decide_eq_true_eq]
  rw [← e1, ← e2]
  rw [run_eql_struct, run_equalIn_struct _ _ _ _ _ Tryz.underlying75 (by kernel_rfl)]
  simp [Program.fieldsOf, Tryz.underlying75, Op.eqFields, go_sem]
  by_cases h1 : s.toList = s'.toList <;> by_cases h2 : n = n' <;> simp [h1, h2]
theorem any_next {α : Type} (f : α → Bool) (l : List α) (k : Nat) (h : k < l.length) : (l.take (k + 1)).any f = ((l.take k).any f || f l[k]) := by
  rw [List.take_succ_eq_append_getElem h, List.any_append]
  simp only [List.any_cons, List.any_nil, Bool.or_false]
theorem any_hit {α : Type} {f : α → Bool} {l : List α} {k : Nat} (h : (l.take (k + 1)).any f = true) : l.any f = true := by
  obtain ⟨x, hx, hf⟩ := List.any_eq_true.1 h
  exact List.any_eq_true.2 ⟨x, List.mem_of_mem_take hx, hf⟩
/-- A predicate in a box of the call's own, and the table. -/
structure PBx (w0 : World) (s : ByteArray) (n : Int) (bx : Nat) (g R off cap : Nat) (l : PTab) (W : World) : Prop where
  low : Below w0.heap.size w0 W
  bk : W.heap[bx]? = some (.cells #[.string s, .int .i64 n] 75 (0, 0))
  tab : W.cell? ⟨g, 0, none⟩ = some (.slice (some ⟨R, off, none⟩) l.length cap) ∧ R < W.heap.size ∧ l.length ≤ cap ∧
    ∀ (i : Nat) (h : i < l.length), W.cell? ⟨R, off + i * 2, none⟩ = some (.string ⟨l[i].1.toArray⟩) ∧ W.cell? ⟨R, off + i * 2 + 1, none⟩ = some (.int .i64 (l[i].2 : Nat))
section
variable {w0 : World} {s : ByteArray} {n : Int} {bx g R off cap : Nat} {l : PTab} {W : World} (h : PBx w0 s n bx g R off cap l W)
include h
theorem PBx.lt : bx < W.heap.size := (Array.getElem?_eq_some_iff.1 h.bk).1
theorem PBx.cell0 : W.cell? ⟨bx, 0, none⟩ = some (.string s) := by simp [World.cell?, h.bk]
theorem PBx.cell1 : W.cell? ⟨bx, 1, none⟩ = some (.int .i64 n) := by simp [World.cell?, h.bk]
theorem PBx.next {W' : World} (hb : Below W.heap.size W W') : PBx w0 s n bx g R off cap l W' := by
  refine ⟨h.low.trans (hb.mono h.low.size), (hb.block _ h.lt).trans h.bk, ?_⟩
  obtain ⟨h1, h2, h3, h4⟩ := h.tab
  refine ⟨(hb.cell (p := ⟨g, 0, none⟩) (World.block_lt_of_cell? W _ h1)).trans h1, Nat.lt_of_lt_of_le h2 hb.size, h3, fun i hi => ?_⟩
  obtain ⟨h5, h6⟩ := h4 i hi
  exact ⟨(hb.cell (p := ⟨R, _, none⟩) h2).trans h5, (hb.cell (p := ⟨R, _, none⟩) h2).trans h6⟩
end
theorem PBx.new {g R off cap : Nat} {l : PTab} {w : World} (s : ByteArray) (n : Int) (ht : w.cell? ⟨g, 0, none⟩ = some (.slice (some ⟨R, off, none⟩) l.length cap) ∧ R < w.heap.size ∧ l.length ≤ cap ∧
    ∀ (i : Nat) (h : i < l.length), w.cell? ⟨R, off + i * 2, none⟩ = some (.string ⟨l[i].1.toArray⟩) ∧ w.cell? ⟨R, off + i * 2 + 1, none⟩ = some (.int .i64 (l[i].2 : Nat))) :
    PBx w s n w.heap.size g R off cap l (w.alloc (.cells #[.string s, .int .i64 n] 75)) := by
  have hb := (Below.refl w.heap.size w).alloc (Nat.le_refl _) (.cells #[.string s, .int .i64 n] 75)
  obtain ⟨h1, h2, h3, h4⟩ := ht
  refine ⟨hb, heap_alloc_new w _, (hb.cell (p := ⟨g, 0, none⟩) (World.block_lt_of_cell? w _ h1)).trans h1, Nat.lt_of_lt_of_le h2 hb.size, h3, fun i hi => ?_⟩
  obtain ⟨h5, h6⟩ := h4 i hi
  exact ⟨(hb.cell (p := ⟨R, _, none⟩) h2).trans h5, (hb.cell (p := ⟨R, _, none⟩) h2).trans h6⟩
set_option maxRecDepth 100000 in
set_option maxHeartbeats 4000000 in
theorem pblt_any (s : ByteArray) (n : Int) (w : World) (ht : TabAt w 0 bltT) : Calls Tryz.prog 32 #[.agg #[.string s, .int .i64 n]] w fun e w' => e = .returned (.bool (bltn (bsN s) n)) ∧ Below w.heap.size w w' := by
  have HH := Lib.hid (blt_hit (bsN s) n)
  obtain ⟨R, off, cap, ht⟩ := ht
  have HT := Lib.hid (PBx.new s n ht)
  clear ht
  go_enter Tryz.func32, Tryz.ntmps32
  go_upto_region 1 with fail
  have HX := Lib.hid (show PBx w s n w.heap.size 0 R off cap bltT (w.alloc (.cells #[.string s, .int .i64 n] 75)) from HT.out)
  generalize w.alloc (.cells #[.string s, .int .i64 n] 75) = u0 at HX ⊢
  clear HT
  have g0 : u0.cell? ⟨0, 0, none⟩ = some (.slice (some ⟨R, off, none⟩) 25 cap) := HX.out.tab.1
  have HX0 := Lib.hid HX.out
  clear HX
  go_upto_region 2 with fail
  clear g0
  go_loopw [7] (fun i wr => ∃ (k : Nat), k ≤ 25 ∧ i = .int .i64 k ∧ Hid ((bltT.take k).any (hitT (bsN s) n) = false) ∧ Hid (PBx w s n w.heap.size 0 R off cap bltT wr)) (fun i _ => 25 - (intOf i).toNat)
  case atStart => exact ⟨0, Nat.zero_le _, rfl, Lib.hid rfl, Lib.hid HX0.out⟩
  case round =>
    obtain ⟨k, hk, rfl, hn, hx⟩ := hrel
    have HN := Lib.hid hn.out
    have HX := Lib.hid hx.out
    clear hn hx
    by_cases hlt : k < 25
    · have hlt' : k < bltT.length := hlt
      have hst := any_next (hitT (bsN s) n) bltT k hlt'
      obtain ⟨r0, r1⟩ := HX.out.tab.2.2.2 k hlt'
      have hRl := HX.out.tab.2.1
      obtain ⟨⟨y, q⟩, hy⟩ : ∃ y, bltT[k] = y := ⟨_, rfl⟩
      rw [hy] at r0 r1 hst
      have hq : hitT (bsN s) n (y, q) = (decide (bsN s = bsN ⟨y.toArray⟩) && decide (n = (q : Int))) := by rw [bsN_mk]; rfl
      rw [hq] at hst
      have HST := Lib.hid hst
      have j0 : (0 : Int) ≤ (k : Int) := by omega
      have j1 : (k : Int) < 25 := by omega
      have jz : (0 : Int) + (k : Int) = (k : Int) := by omega
      have jw : IntKind.i64.wrap (k : Int) = (k : Int) := by rw [IntKind.wrap_i64]; omega
      clear hy hst hq
      go_upto_region 4 with fail
      obtain ⟨u1, hu1⟩ : ∃ u1, wr.alloc (.cells #[.string ⟨y.toArray⟩, .int .i64 (q : Nat)] 75) = u1 := ⟨_, rfl⟩
      have hb1 : Below wr.heap.size wr u1 := hu1 ▸ (Below.refl _ wr).alloc (Nat.le_refl _) _
      have hn1 : u1.heap[wr.heap.size]? = some (.cells #[.string ⟨y.toArray⟩, .int .i64 (q : Nat)] 75 (0, 0)) := hu1 ▸ heap_alloc_new wr _
      rw [hu1]
      have HX1 := Lib.hid (HX.out.next hb1)
      have x0 : u1.cell? ⟨w.heap.size, 0, none⟩ = some (.string s) := HX1.out.cell0
      have x1 : u1.cell? ⟨w.heap.size, 1, none⟩ = some (.int .i64 n) := HX1.out.cell1
      have z0 : u1.cell? ⟨wr.heap.size, 0, none⟩ = some (.string ⟨y.toArray⟩) := by simp [World.cell?, hn1]
      have z1 : u1.cell? ⟨wr.heap.size, 1, none⟩ = some (.int .i64 (q : Nat)) := by simp [World.cell?, hn1]
      have el := HX1.out.lt
      clear hu1 hb1 hn1 r0 r1
      have hE1 := prd_eq s ⟨y.toArray⟩ n (q : Nat)
      generalize (decide (bsN s = bsN ⟨y.toArray⟩) && decide (n = (q : Int))) = hit at hE1 HST
      cases hit with
      | true =>
        have HY := Lib.hid (any_hit (f := hitT (bsN s) n) (l := bltT) (k := k) (by rw [HST.out, Bool.or_true]))
        have HF := Lib.hid (show bltn (bsN s) n = true by rw [← HH.out]; exact HY.out)
        go_wp2_with fail
        go_ret
        exact ⟨by rw [HF.out]; rfl, HX1.out.low⟩
      | false =>
        have HN1 := Lib.hid (show (bltT.take (k + 1)).any (hitT (bsN s) n) = false by rw [HST.out, HN.out]; rfl)
        go_wp2_with fail
        go_roundw
        case rel => exact ⟨k + 1, by omega, by go_num, HN1, Lib.hid HX1.out⟩
        case measure => simp [intOf]; omega
    · have jn : ((k : Int) < 25) = False := by simp only [eq_iff_iff, iff_false]; omega
      have HN := Lib.hid (show bltT.any (hitT (bsN s) n) = false by have h9 := HN.out; rwa [show k = bltT.length by show k = 25; omega, List.take_length] at h9)
      clear hlt hk
      have HF := Lib.hid (show bltn (bsN s) n = false by rw [← HH.out]; exact HN.out)
      go_wp2_with fail
      go_ret
      exact ⟨by rw [HF.out]; rfl, HX.out.low⟩
set_option maxRecDepth 100000 in
set_option maxHeartbeats 4000000 in
theorem pctl_any (s : ByteArray) (n : Int) (w : World) (ht : TabAt w 1 ctlT) : Calls Tryz.prog 33 #[.agg #[.string s, .int .i64 n]] w fun e w' => e = .returned (.bool (ctlB (bsN s) n)) ∧ Below w.heap.size w w' := by
  have HH := Lib.hid (ctl_hit (bsN s) n)
  obtain ⟨R, off, cap, ht⟩ := ht
  have HT := Lib.hid (PBx.new s n ht)
  clear ht
  go_enter Tryz.func33, Tryz.ntmps33
  go_upto_region 1 with fail
  have HX := Lib.hid (show PBx w s n w.heap.size 1 R off cap ctlT (w.alloc (.cells #[.string s, .int .i64 n] 75)) from HT.out)
  generalize w.alloc (.cells #[.string s, .int .i64 n] 75) = u0 at HX ⊢
  clear HT
  have g0 : u0.cell? ⟨1, 0, none⟩ = some (.slice (some ⟨R, off, none⟩) 7 cap) := HX.out.tab.1
  have HX0 := Lib.hid HX.out
  clear HX
  go_upto_region 2 with fail
  clear g0
  go_loopw [7] (fun i wr => ∃ (k : Nat), k ≤ 7 ∧ i = .int .i64 k ∧ Hid ((ctlT.take k).any (hitT (bsN s) n) = false) ∧ Hid (PBx w s n w.heap.size 1 R off cap ctlT wr)) (fun i _ => 7 - (intOf i).toNat)
  case atStart => exact ⟨0, Nat.zero_le _, rfl, Lib.hid rfl, Lib.hid HX0.out⟩
  case round =>
    obtain ⟨k, hk, rfl, hn, hx⟩ := hrel
    have HN := Lib.hid hn.out
    have HX := Lib.hid hx.out
    clear hn hx
    by_cases hlt : k < 7
    · have hlt' : k < ctlT.length := hlt
      have hst := any_next (hitT (bsN s) n) ctlT k hlt'
      obtain ⟨r0, r1⟩ := HX.out.tab.2.2.2 k hlt'
      have hRl := HX.out.tab.2.1
      obtain ⟨⟨y, q⟩, hy⟩ : ∃ y, ctlT[k] = y := ⟨_, rfl⟩
      rw [hy] at r0 r1 hst
      have hq : hitT (bsN s) n (y, q) = (decide (bsN s = bsN ⟨y.toArray⟩) && decide (n = (q : Int))) := by rw [bsN_mk]; rfl
      rw [hq] at hst
      have HST := Lib.hid hst
      have j0 : (0 : Int) ≤ (k : Int) := by omega
      have j1 : (k : Int) < 7 := by omega
      have jz : (0 : Int) + (k : Int) = (k : Int) := by omega
      have jw : IntKind.i64.wrap (k : Int) = (k : Int) := by rw [IntKind.wrap_i64]; omega
      clear hy hst hq
      go_upto_region 4 with fail
      obtain ⟨u1, hu1⟩ : ∃ u1, wr.alloc (.cells #[.string ⟨y.toArray⟩, .int .i64 (q : Nat)] 75) = u1 := ⟨_, rfl⟩
      have hb1 : Below wr.heap.size wr u1 := hu1 ▸ (Below.refl _ wr).alloc (Nat.le_refl _) _
      have hn1 : u1.heap[wr.heap.size]? = some (.cells #[.string ⟨y.toArray⟩, .int .i64 (q : Nat)] 75 (0, 0)) := hu1 ▸ heap_alloc_new wr _
      rw [hu1]
      have HX1 := Lib.hid (HX.out.next hb1)
      have x0 : u1.cell? ⟨w.heap.size, 0, none⟩ = some (.string s) := HX1.out.cell0
      have x1 : u1.cell? ⟨w.heap.size, 1, none⟩ = some (.int .i64 n) := HX1.out.cell1
      have z0 : u1.cell? ⟨wr.heap.size, 0, none⟩ = some (.string ⟨y.toArray⟩) := by simp [World.cell?, hn1]
      have z1 : u1.cell? ⟨wr.heap.size, 1, none⟩ = some (.int .i64 (q : Nat)) := by simp [World.cell?, hn1]
      have el := HX1.out.lt
      clear hu1 hb1 hn1 r0 r1
      have hE1 := prd_eq s ⟨y.toArray⟩ n (q : Nat)
      generalize (decide (bsN s = bsN ⟨y.toArray⟩) && decide (n = (q : Int))) = hit at hE1 HST
      cases hit with
      | true =>
        have HY := Lib.hid (any_hit (f := hitT (bsN s) n) (l := ctlT) (k := k) (by rw [HST.out, Bool.or_true]))
        have HF := Lib.hid (show ctlB (bsN s) n = true by rw [← HH.out, HY.out]; rfl)
        go_wp2_with fail
        go_ret
        exact ⟨by rw [HF.out]; rfl, HX1.out.low⟩
      | false =>
        have HN1 := Lib.hid (show (ctlT.take (k + 1)).any (hitT (bsN s) n) = false by rw [HST.out, HN.out]; rfl)
        go_wp2_with fail
        go_roundw
        case rel => exact ⟨k + 1, by omega, by go_num, HN1, Lib.hid HX1.out⟩
        case measure => simp [intOf]; omega
    · have jn : ((k : Int) < 7) = False := by simp only [eq_iff_iff, iff_false]; omega
      have HN := Lib.hid (show ctlT.any (hitT (bsN s) n) = false by have h9 := HN.out; rwa [show k = ctlT.length by show k = 7; omega, List.take_length] at h9)
      clear hlt hk
      have HF := Lib.hid (show ctlB (bsN s) n = decide (bsN s = [63]) by rw [← HH.out, show ctlT.any (hitT (bsN s) n) = false from HN.out]; rfl)
      have e8 := lit_is s [63]
      have x0 : wr.cell? ⟨w.heap.size, 0, none⟩ = some (.string s) := HX.out.cell0
      have el := HX.out.lt
      generalize decide (bsN s = [63]) = hit at e8 HF
      go_wp2_with fail
      go_ret
      exact ⟨by rw [HF.out]; rfl, HX.out.low⟩
end Go.Proofs.YtkjnjahmlobjiaaGreatDoor
