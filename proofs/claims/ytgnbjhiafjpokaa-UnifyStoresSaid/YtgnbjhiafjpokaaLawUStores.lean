/-
  The program's Undo: to a mark that stands, and to a number that is none.
  What UnifyStores holds: a store, the document's list, the marks, the lists that stood.
  An argument that is a row of pairs, read from the statement's own reading: it is a row of pairs that lies in memory.
  The statement UnifyStores, walked: for any row of pairs and any term that lie in memory the call returns true, and nothing that was there has turned.
-/
import Derived.Test.YtgnbjhiafjpokaaSUnify
import Derived.Test.YtgnbjhiafjpokaaSVal
import Derived.Test.YtgnbjhiafjpokaaUDoc
import Derived.Test.YtgnbjhiafjpokaaOpen
import Derived.Test.YtgnbjhiafjpokaaBds
import Derived.Test.YtgnbjhiafjpokaaUKnows
import Derived.Test.YtgnbjhiafjpokaaSeen
namespace Go.Proofs.Ytgnbjhiafjpokaa
open Go.RowKit Go.Shelf Go.Maps

def UndoPost (W : World) (B sb : Nat) (l : List Bd) (K i : Nat) (svS mv : Value) (e : Ending) (W' : World) : Prop :=
  e = .returned (.int .i64 0) ∧ ∃ svS' xs', Str W' B sb (l.take i) K svS' mv xs' ∧ SFr B sb svS mv svS' mv W W'
set_option maxRecDepth 100000 in
set_option maxHeartbeats 4000000 in
theorem undo_any {W : World} {B sb K i : Nat} {l : List Bd} {svS mv : Value} {xs : List Value} (h : Str W B sb l K svS mv xs) (hi : i ≤ l.length) (hr : RightL (l.take i)) :
    Calls Try.prog 40 #[.pointer (some ⟨sb, 0, none⟩), .int .i64 (i : Nat)] W fun e W' => UndoPost W B sb l K i svS mv e W' := by
  obtain ⟨⟨c0, c1⟩, f0, f1⟩ := row2 h.mem.box
  obtain ⟨g, c, rfl⟩ := h.mem.slice
  have hp := Try.underlying60
  have hbl := h.mem.low.box
  have hub := unbind_any h.mem h.nil_ hi
  have HUB := Lib.hid hub
  have HR := Lib.hid hr
  have hi0 : ¬ ((i : Int) < 0) := by omega
  have hi1 : ¬ ((l.length : Int) < (i : Int)) := by omega
  clear hub hr h
  go_enter Try.func40, Try.ntmps40
  go_wp2_with fail
  refine HUB.out.mono ?_
  rintro e w1 ⟨rfl, svS', xs', h1, h2, h3⟩
  have HFIN := Lib.hid (show UndoPost W B sb l K i (.slice g l.length c) mv (.returned (.int .i64 0)) w1 from ⟨rfl, svS', xs', ⟨h1, h3, HR.out⟩, h2⟩)
  clear h1 h2 h3 HUB
  go_wp2_with fail
  go_ret
  exact HFIN.out
set_option maxRecDepth 100000 in
set_option maxHeartbeats 4000000 in
theorem undo_neg {W : World} {sb : Nat} : Calls Try.prog 40 #[.pointer (some ⟨sb, 0, none⟩), .int .i64 (-1)] W fun e W' => e = .returned (.int .i64 1) ∧ W = W' := by
  have hp := Try.underlying60
  go_enter Try.func40, Try.ntmps40
  go_wp2_with fail
  go_ret
  exact ⟨rfl, rfl⟩
end Go.Proofs.Ytgnbjhiafjpokaa

namespace Go.Proofs.Ytgnbjhiafjpokaa
open Go.RowKit Go.Shelf Go.Maps

/-- Blocks that nobody writes any more. -/
def okR (sb : Nat) (svS mv v9 v10 : Value) (W : World) (b : Nat) : Prop := b < W.heap.size ∧ ¬ owned sb svS mv b ∧ v9.ownBlock ≠ some b ∧ v10.ownBlock ≠ some b
structure SL (w : World) (lo sb K : Nat) (ls : List Bd) (svS mv : Value) (xs : List Value) (V : List Int) (m : List Bd) (ms : List Nat) (ds : List (List Bd)) (dv : List Value) (v8 v9 v10 : Value) (W : World) : Prop where
  below : Below w.heap.size w W
  hlo : w.heap.size ≤ lo
  grown0 : lo ≤ W.heap.size
  st : Str W w.heap.size sb ls K svS mv xs
  inV : inV V ls
  rm : RightL m
  now : bdsQ W w.heap.size (okR sb svS mv v9 v10 W) m v8
  marks : W.ownsRow lo 3 1 v9 ms.length (ms.map fun n => .int .i64 (n : Nat))
  stood : W.ownsRow lo 22 1 v10 ds.length dv
  dvs : ∀ i (h : i < ds.length), ∃ sv, dv[i]? = some sv ∧ bdsQ W w.heap.size (okR sb svS mv v9 v10 W) ds[i] sv
  le : ∀ i (h : i < ms.length), ms[i] ≤ ls.length
  al : ∀ i (h : i < ms.length) (h' : i < ds.length), RightL (ls.take ms[i]) ∧ Alike (ls.take ms[i]) ds[i] ∧ RightL ds[i]
  mono : ∀ i j (hij : i ≤ j) (h : j < ms.length), ms[i] ≤ ms[j]
  sep1 : ∀ b, v9.ownBlock = some b → v10.ownBlock ≠ some b
  sep2 : ∀ b, v9.ownBlock = some b → ¬ owned sb svS mv b
  sep3 : ∀ b, v10.ownBlock = some b → ¬ owned sb svS mv b
theorem SL.blt {w : World} {lo sb K : Nat} {ls : List Bd} {svS mv : Value} {xs : List Value} {V : List Int} {m : List Bd} {ms : List Nat} {ds : List (List Bd)} {dv : List Value} {v8 v9 v10 : Value} {W : World} (h : SL w lo sb K ls svS mv xs V m ms ds dv v8 v9 v10 W) {b : Nat} (ho : owned sb svS mv b) : w.heap.size ≤ b ∧ b < W.heap.size := by
  have hl := h.st.mem.low
  refine ⟨h.st.low b ho, ?_⟩
  rcases ho with rfl | e | e
  · exact hl.box
  · exact hl.row b e
  · exact hl.map b e
theorem SL.next {w : World} {lo sb K : Nat} {ls : List Bd} {svS mv : Value} {xs : List Value} {V : List Int} {m : List Bd} {ms : List Nat} {ds : List (List Bd)} {dv : List Value} {v8 v9 v10 : Value} {W W' : World} (h : SL w lo sb K ls svS mv xs V m ms ds dv v8 v9 v10 W) (hb : Below W.heap.size W W') : SL w lo sb K ls svS mv xs V m ms ds dv v8 v9 v10 W' := by
  have hs := h.below.size
  have key : ∀ {d : List Bd} {sv : Value}, bdsQ W w.heap.size (okR sb svS mv v9 v10 W) d sv → bdsQ W' w.heap.size (okR sb svS mv v9 v10 W') d sv := fun hd =>
    bdsQ_same hd (fun b g => ⟨Nat.lt_of_lt_of_le g.1 hb.size, g.2⟩) (fun b o v hlt hc => (hb.cell (p := ⟨b, o, none⟩) (by show b < W.heap.size; omega)).trans hc) (fun b o v g hc => (hb.cell (p := ⟨b, o, none⟩) g.1).trans hc)
  exact ⟨h.below.trans (hb.mono hs), h.hlo, Nat.le_trans h.grown0 hb.size, ⟨h.st.mem.next hb, h.st.nil_, h.st.right⟩, h.inV, h.rm, key h.now, ownsRow_below h.marks hb, ownsRow_below h.stood hb, fun i hi => by
    obtain ⟨sv, h1, h2⟩ := h.dvs i hi
    exact ⟨sv, h1, key h2⟩, h.le, h.al, h.mono, h.sep1, h.sep2, h.sep3⟩
/-- Own rows grow: what is not of them stays. -/
theorem SL.kept {w : World} {lo sb K : Nat} {ls : List Bd} {svS mv : Value} {xs : List Value} {W W' : World} (hst : Str W w.heap.size sb ls K svS mv xs) {row : Option Nat} (hlo : w.heap.size ≤ lo) (hrow : ∀ b, row = some b → lo ≤ b) (hno : ∀ b, row = some b → ¬ owned sb svS mv b) {tmp : Obj} (hg : (W.alloc tmp).grownBy W' row) :
    Str W' w.heap.size sb ls K svS mv xs ∧ (∀ b, b < W.heap.size → row ≠ some b → W'.heap[b]? = W.heap[b]?) ∧ W.heap.size + 1 ≤ W'.heap.size := by
  have hl := hst.mem.low
  have hsz : W.heap.size + 1 ≤ W'.heap.size := by simpa using hg.size
  have hblk : ∀ b, b < W.heap.size → row ≠ some b → W'.heap[b]? = W.heap[b]? := fun b hb hne => (hg.block b (by simp; omega) (fun e => hne e.symm)).trans (Below.heap_alloc _ _ _ hb)
  have hk : ∀ b, owned sb svS mv b → W'.heap[b]? = W.heap[b]? := fun b ho => hblk b (by
    rcases ho with rfl | e | e
    · exact hl.box
    · exact hl.row b e
    · exact hl.map b e) (fun e => hno b e ho)
  have hlow := hst.mem.lo
  have hbx := hl.box
  refine ⟨⟨⟨(hk sb (.inl rfl)).trans hst.mem.box, ownsRow_block hst.mem.row (fun b e => hk b (.inr (.inl e))), cellsB_same (fun _ h => h) (fun b o v hlt hc => (World.cell?_of_block (a := ⟨b, o, none⟩) (hblk b (by omega) (fun e => by have := hrow b e; omega))).trans hc) _ _ hst.mem.cells, ?_, hst.mem.lo, hst.mem.sep, hst.mem.ok, hst.mem.len⟩, hst.nil_, hst.right⟩, hblk, hsz⟩
  rcases hst.mem.map with hm | ⟨mm, e, h1, h2⟩
  · exact .inl hm
  · exact .inr ⟨mm, e, h1.of_block (hk mm (.inr (.inr e))), h2⟩
theorem SL.grown {w : World} {lo sb K : Nat} {ls : List Bd} {svS mv : Value} {xs : List Value} {V : List Int} {m : List Bd} {ms : List Nat} {ds : List (List Bd)} {dv : List Value} {v8 v9 v10 : Value} {W W' : World} (h : SL w lo sb K ls svS mv xs V m ms ds dv v8 v9 v10 W) {row : Option Nat} (hrow : ∀ b, row = some b → lo ≤ b) {tmp : Obj} (hg : (W.alloc tmp).grownBy W' row) : Below w.heap.size w W' := by
  have hs := h.below.size
  have hlo := h.hlo
  exact (h.below.alloc hs _).grown hg (by simp; omega) (fun b e => by have := hrow b e; omega)
/-- One mark more. -/
theorem SL.mark {w : World} {lo sb K : Nat} {ls : List Bd} {svS mv : Value} {xs : List Value} {V : List Int} {m : List Bd} {ms : List Nat} {ds : List (List Bd)} {dv : List Value} {v8 v9 v10 v' : Value} {W W' : World} (h : SL w lo sb K ls svS mv xs V m ms ds dv v8 v9 v10 W) {tmp : Obj}
    (hown : W'.ownsRow lo 3 1 v' (ms.length + 1) (ms.map (fun n => Value.int .i64 (n : Nat)) ++ [.int .i64 (ls.length : Nat)])) (hg : (W.alloc tmp).grownBy W' v9.ownBlock) (hsep : v'.ownBlock = v9.ownBlock ∨ ∀ b, v'.ownBlock = some b → (W.alloc tmp).heap.size ≤ b) (hlen : ds.length ≤ ms.length) :
    SL w lo sb K ls svS mv xs V m (ms ++ [ls.length]) ds dv v8 v' v10 W' := by
  have hrow : ∀ b, v9.ownBlock = some b → lo ≤ b := fun b e => (h.marks.lt b e).1
  obtain ⟨hst, hblk, hsz⟩ := SL.kept h.st h.hlo hrow h.sep2 hg
  have hnew : ∀ b, v'.ownBlock = some b → v9.ownBlock = some b ∨ W.heap.size ≤ b := fun b e => by
    rcases hsep with e' | e'
    · exact .inl (e'.symm.trans e)
    · have := e' b e; simp at this; exact .inr (by omega)
  have hlo := h.hlo
  have hs := h.below.size
  have okk : ∀ b, okR sb svS mv v9 v10 W b → okR sb svS mv v' v10 W' b := fun b g => ⟨by have := g.1; omega, g.2.1, fun e => by
    rcases hnew b e with e' | e'
    · exact g.2.2.1 e'
    · have := g.1; omega, g.2.2.2⟩
  have key : ∀ {d : List Bd} {sv : Value}, bdsQ W w.heap.size (okR sb svS mv v9 v10 W) d sv → bdsQ W' w.heap.size (okR sb svS mv v' v10 W') d sv := fun hd =>
    bdsQ_same hd okk (fun b o v hlt hc => (World.cell?_of_block (a := ⟨b, o, none⟩) (hblk b (by omega) (fun e => by have := hrow b e; omega))).trans hc) (fun b o v g hc => (World.cell?_of_block (a := ⟨b, o, none⟩) (hblk b g.1 g.2.2.1)).trans hc)
  refine ⟨h.grown hrow hg, h.hlo, by have := h.grown0; omega, hst, h.inV, h.rm, key h.now, by simpa using hown, ownsRow_block h.stood (fun b e => hblk b (h.stood.lt b e).2 (fun e' => h.sep1 b e' e)), fun i hi => ?_, fun i hi => ?_, fun i hi hi' => ?_, fun i j hij hj => ?_, fun b e e' => ?_, fun b e ho => ?_, h.sep3⟩
  · obtain ⟨sv, h1, h2⟩ := h.dvs i hi
    exact ⟨sv, h1, key h2⟩
  · rw [List.length_append] at hi
    by_cases hlt : i < ms.length
    · rw [List.getElem_append_left hlt]; exact h.le i hlt
    · rw [List.getElem_append_right (by omega)]; simp
  · have hlt : i < ms.length := by omega
    rw [List.getElem_append_left hlt]
    exact h.al i hlt hi'
  · rw [List.length_append] at hj
    by_cases hlt : j < ms.length
    · rw [List.getElem_append_left hlt, List.getElem_append_left (by omega)]; exact h.mono i j hij hlt
    · have e2 : (ms ++ [ls.length])[j] = ls.length := by rw [List.getElem_append_right (by omega)]; simp
      rw [e2]
      by_cases hlt2 : i < ms.length
      · rw [List.getElem_append_left hlt2]; exact h.le i hlt2
      · rw [List.getElem_append_right (by omega)]; simp
  · rcases hnew b e with g | g
    · exact h.sep1 b g e'
    · have := (h.stood.lt b e').2; omega
  · rcases hnew b e with g | g
    · exact h.sep2 b g ho
    · have := (h.blt ho).2; omega
/-- The list that stands now is laid behind those that stood. -/
theorem SL.stand {w : World} {lo sb K : Nat} {ls : List Bd} {svS mv : Value} {xs : List Value} {V : List Int} {m : List Bd} {ms : List Nat} {ds : List (List Bd)} {dv : List Value} {v8 v9 v10 v' : Value} {W W' : World} (h : SL w lo sb K ls svS mv xs V m (ms ++ [ls.length]) ds dv v8 v9 v10 W) {tmp : Obj}
    (hown : W'.ownsRow lo 22 1 v' (ds.length + 1) (dv ++ [v8])) (hg : (W.alloc tmp).grownBy W' v10.ownBlock) (hsep : v'.ownBlock = v10.ownBlock ∨ ∀ b, v'.ownBlock = some b → (W.alloc tmp).heap.size ≤ b) (hlen : ds.length = ms.length) (hal : Alike ls m) :
    SL w lo sb K ls svS mv xs V m (ms ++ [ls.length]) (ds ++ [m]) (dv ++ [v8]) v8 v9 v' W' := by
  have hrow : ∀ b, v10.ownBlock = some b → lo ≤ b := fun b e => (h.stood.lt b e).1
  obtain ⟨hst, hblk, hsz⟩ := SL.kept h.st h.hlo hrow h.sep3 hg
  have hdl : dv.length = ds.length := by have := h.stood.1; omega
  have hnew : ∀ b, v'.ownBlock = some b → v10.ownBlock = some b ∨ W.heap.size ≤ b := fun b e => by
    rcases hsep with e' | e'
    · exact .inl (e'.symm.trans e)
    · have := e' b e; simp at this; exact .inr (by omega)
  have hlo := h.hlo
  have hs := h.below.size
  have okk : ∀ b, okR sb svS mv v9 v10 W b → okR sb svS mv v9 v' W' b := fun b g => ⟨by have := g.1; omega, g.2.1, g.2.2.1, fun e => by
    rcases hnew b e with e' | e'
    · exact g.2.2.2 e'
    · have := g.1; omega⟩
  have key : ∀ {d : List Bd} {sv : Value}, bdsQ W w.heap.size (okR sb svS mv v9 v10 W) d sv → bdsQ W' w.heap.size (okR sb svS mv v9 v' W') d sv := fun hd =>
    bdsQ_same hd okk (fun b o v hlt hc => (World.cell?_of_block (a := ⟨b, o, none⟩) (hblk b (by omega) (fun e => by have := hrow b e; omega))).trans hc) (fun b o v g hc => (World.cell?_of_block (a := ⟨b, o, none⟩) (hblk b g.1 g.2.2.2)).trans hc)
  refine ⟨h.grown hrow hg, h.hlo, by have := h.grown0; omega, hst, h.inV, h.rm, key h.now, ownsRow_block h.marks (fun b e => hblk b (h.marks.lt b e).2 (fun e' => h.sep1 b e e')), by simpa using hown, fun i hi => ?_, h.le, fun i hi hi' => ?_, h.mono, fun b e e' => ?_, h.sep2, fun b e ho => ?_⟩
  · rw [List.length_append] at hi
    by_cases hlt : i < ds.length
    · obtain ⟨sv, h1, h2⟩ := h.dvs i hlt
      rw [List.getElem_append_left hlt]
      exact ⟨sv, by rw [List.getElem?_append_left (by omega)]; exact h1, key h2⟩
    · have e1 : i = ds.length := by simp at hi; omega
      subst e1
      rw [List.getElem_append_right (Nat.le_refl _)]
      exact ⟨v8, by rw [List.getElem?_append_right (by omega)]; simp [hdl], by simpa using key h.now⟩
  · rw [List.length_append] at hi'
    by_cases hlt : i < ds.length
    · have := h.al i hi hlt
      rw [List.getElem_append_left hlt]
      exact this
    · have e1 : i = ds.length := by simp at hi'; omega
      subst e1
      have e2 : (ms ++ [ls.length])[ds.length] = ls.length := by rw [List.getElem_append_right (by omega)]; simp
      rw [e2, List.take_length]
      simpa using ⟨h.st.right, hal, h.rm⟩
  · rcases hnew b e' with g | g
    · exact h.sep1 b e g
    · have := (h.marks.lt b e).2; omega
  · rcases hnew b e with g | g
    · exact h.sep3 b g ho
    · have := (h.blt ho).2; omega
/-- The store has been written. -/
theorem SL.wrote {w : World} {lo sb K K' : Nat} {ls ls' : List Bd} {svS mv svS' mv' : Value} {xs xs' : List Value} {V : List Int} {m : List Bd} {ms : List Nat} {ds : List (List Bd)} {dv : List Value} {v8 v9 v10 : Value} {W W' : World} (h : SL w lo sb K ls svS mv xs V m ms ds dv v8 v9 v10 W)
    (hst : Str W' w.heap.size sb ls' K' svS' mv' xs') (hf : SFr w.heap.size sb svS mv svS' mv' W W') (hV : Proofs.Ytgnbjhiafjpokaa.inV V ls') (hle : ∀ i (h : i < ms.length), ms[i] ≤ ls'.length) (htk : ∀ i (h : i < ms.length), ls'.take ms[i] = ls.take ms[i]) :
    SL w lo sb K' ls' svS' mv' xs' V m ms ds dv v8 v9 v10 W' := by
  have hs := h.below.size
  have hlo := h.hlo
  have okk : ∀ b, okR sb svS mv v9 v10 W b → okR sb svS' mv' v9 v10 W' b := fun b g => ⟨Nat.lt_of_lt_of_le g.1 hf.size, hf.new b g.1 g.2.1, g.2.2⟩
  have key : ∀ {d : List Bd} {sv : Value}, bdsQ W w.heap.size (okR sb svS mv v9 v10 W) d sv → bdsQ W' w.heap.size (okR sb svS' mv' v9 v10 W') d sv := fun hd =>
    bdsQ_same hd okk (fun b o v hlt hc => (World.cell?_of_block (a := ⟨b, o, none⟩) (hf.block b (by omega) (fun ho => by have := (h.blt ho).1; omega))).trans hc) (fun b o v g hc => (World.cell?_of_block (a := ⟨b, o, none⟩) (hf.block b g.1 g.2.1)).trans hc)
  have hbw : Below w.heap.size w W' := h.below.trans ⟨hf.os, hf.tape, hf.output, hf.size, fun b hb => hf.block b (by omega) fun ho => by have := (h.blt ho).1; omega⟩
  refine ⟨hbw, h.hlo, Nat.le_trans h.grown0 hf.size, hst, hV, h.rm, key h.now, ownsRow_block h.marks (fun b e => hf.block b (h.marks.lt b e).2 (h.sep2 b e)), ownsRow_block h.stood (fun b e => hf.block b (h.stood.lt b e).2 (h.sep3 b e)), fun i hi => ?_, hle, fun i hi hi' => ?_, h.mono, h.sep1, fun b e => hf.new b (h.marks.lt b e).2 (h.sep2 b e), fun b e => hf.new b (h.stood.lt b e).2 (h.sep3 b e)⟩
  · obtain ⟨sv, h1, h2⟩ := h.dvs i hi
    exact ⟨sv, h1, key h2⟩
  · rw [htk i hi]
    exact h.al i hi hi'
/-- Another list stands now. -/
theorem SL.now' {w : World} {lo sb K : Nat} {ls : List Bd} {svS mv : Value} {xs : List Value} {V : List Int} {m m' : List Bd} {ms : List Nat} {ds : List (List Bd)} {dv : List Value} {v8 v8' v9 v10 : Value} {W : World} (h : SL w lo sb K ls svS mv xs V m ms ds dv v8 v9 v10 W) (hm : RightL m') (hb : bdsQ W w.heap.size (okR sb svS mv v9 v10 W) m' v8') : SL w lo sb K ls svS mv xs V m' ms ds dv v8' v9 v10 W :=
  ⟨h.below, h.hlo, h.grown0, h.st, h.inV, hm, hb, h.marks, h.stood, h.dvs, h.le, h.al, h.mono, h.sep1, h.sep2, h.sep3⟩
/-- The last mark goes. -/
theorem SL.popm {w : World} {lo sb K : Nat} {ls : List Bd} {svS mv : Value} {xs : List Value} {V : List Int} {m : List Bd} {ms : List Nat} {ds : List (List Bd)} {dv : List Value} {v8 v10 : Value} {g c n : Nat} {W : World} (h : SL w lo sb K ls svS mv xs V m ms ds dv v8 (.slice (some ⟨g, 0, none⟩) n c) v10 W) (hn : n = ms.length) {k : Nat} (hk : k ≤ ms.length) : SL w lo sb K ls svS mv xs V m (ms.take k) ds dv v8 (.slice (some ⟨g, 0, none⟩) k c) v10 W := by
  subst hn
  have hl : (ms.take k).length = k := by rw [List.length_take]; omega
  refine ⟨h.below, h.hlo, h.grown0, h.st, h.inV, h.rm, h.now, ?_, h.stood, h.dvs, fun i hi => ?_, fun i hi hi' => ?_, fun i j hij hj => ?_, h.sep1, h.sep2, h.sep3⟩
  · have := ownsRow_take h.marks hk
    rw [hl]
    simpa [List.map_take] using this
  · rw [hl] at hi
    simpa using h.le i (by omega)
  · rw [hl] at hi
    simpa using h.al i (by omega) hi'
  · rw [hl] at hj
    simpa using h.mono i j hij (by omega)
theorem SL.pops {w : World} {lo sb K : Nat} {ls : List Bd} {svS mv : Value} {xs : List Value} {V : List Int} {m : List Bd} {ms : List Nat} {ds : List (List Bd)} {dv : List Value} {v8 v9 : Value} {g c n : Nat} {W : World} (h : SL w lo sb K ls svS mv xs V m ms ds dv v8 v9 (.slice (some ⟨g, 0, none⟩) n c) W) (hn : n = ds.length) {k : Nat} (hk : k ≤ ds.length) : SL w lo sb K ls svS mv xs V m ms (ds.take k) (dv.take k) v8 v9 (.slice (some ⟨g, 0, none⟩) k c) W := by
  subst hn
  have hl : (ds.take k).length = k := by rw [List.length_take]; omega
  refine ⟨h.below, h.hlo, h.grown0, h.st, h.inV, h.rm, h.now, h.marks, ?_, fun i hi => ?_, h.le, fun i hi hi' => ?_, h.mono, h.sep1, h.sep2, h.sep3⟩
  · have := ownsRow_take h.stood hk
    rw [hl]
    simpa using this
  · rw [hl] at hi
    obtain ⟨sv, h1, h2⟩ := h.dvs i (by omega)
    exact ⟨sv, by rw [List.getElem?_take_of_lt hi]; exact h1, by rw [List.getElem_take]; exact h2⟩
  · rw [hl] at hi'
    simpa using h.al i hi (by omega)
theorem SL.cells {w : World} {lo sb K : Nat} {L : List Bd} {svS mv : Value} {xs : List Value} {V : List Int} {M m : List Bd} {ms : List Nat} {x : Nat} {ds : List (List Bd)} {dv : List Value} {v8 v8o : Value} {g9 c9 g10 c10 n9 n10 : Nat} {W : World} (h : SL w lo sb K L svS mv xs V M (ms ++ [x]) (ds ++ [m]) (dv ++ [v8o]) v8 (.slice (some ⟨g9, 0, none⟩) n9 c9) (.slice (some ⟨g10, 0, none⟩) n10 c10) W) (hmd : ms.length = ds.length) :
    W.cell? ⟨g9, ms.length, none⟩ = some (.int .i64 (x : Nat)) ∧ g9 < W.heap.size ∧ W.cell? ⟨g10, ms.length, none⟩ = some v8o ∧ g10 < W.heap.size ∧ ms.length + 1 ≤ c9 ∧ ms.length + 1 ≤ c10 := by
  have hdl : dv.length = ms.length := by have := h.stood.1; simp at this; omega
  have h1 := World.ownsRow.cells h.marks (g := g9) rfl ms.length (.int .i64 (x : Nat)) (by rw [List.map_append, List.getElem?_append_right (by simp)]; simp)
  have h2 := World.ownsRow.cells h.stood (g := g10) rfl ms.length v8o (by rw [List.getElem?_append_right (by omega)]; simp [hdl])
  rw [Addr.add_lit] at h1 h2
  simp only [Nat.zero_add] at h1 h2
  have room : ∀ {e : TypeId} {g n k c : Nat} {ys : List Value}, W.ownsRow lo e 1 (.slice (some ⟨g, 0, none⟩) n c) k ys → k ≤ c := fun h => by
    rcases h.2 with ⟨e, _⟩ | ⟨_, _, _, e, _, _, h3, _⟩
    · cases e
    · injection e with _ _ e3
      omega
  have r9 := room h.marks
  have r10 := room h.stood
  simp only [List.length_append, List.length_cons, List.length_nil] at r9 r10
  exact ⟨h1, (h.marks.lt g9 rfl).2, h2, (h.stood.lt g10 rfl).2, by omega, by omega⟩
/-- The store went back to the last mark. -/
theorem SL.back {w : World} {lo sb K : Nat} {L ls : List Bd} {svS mv : Value} {xs : List Value} {V : List Int} {M m : List Bd} {ms : List Nat} {ds : List (List Bd)} {dv : List Value} {v8 v8o : Value} {g9 c9 g10 c10 : Nat} {W : World} (h : SL w lo sb K L svS mv xs V M (ms ++ [ls.length]) (ds ++ [m]) (dv ++ [v8o]) v8 (.slice (some ⟨g9, 0, none⟩) (ms.length + 1) c9) (.slice (some ⟨g10, 0, none⟩) (ms.length + 1) c10) W) (hmd : ms.length = ds.length)
    (htk : L.take ls.length = ls) {W' : World} {svS' : Value} {xs' : List Value} (hst : Str W' w.heap.size sb (L.take ls.length) K svS' mv xs') (hf : SFr w.heap.size sb svS mv svS' mv W W') :
    SL w lo sb K ls svS' mv xs' V m ms ds dv v8o (.slice (some ⟨g9, 0, none⟩) ms.length c9) (.slice (some ⟨g10, 0, none⟩) ms.length c10) W' := by
  rw [htk] at hst
  have hdl : dv.length = ds.length := by have := h.stood.1; simp at this; omega
  have hmx : ∀ i (hi : i < (ms ++ [ls.length]).length), (ms ++ [ls.length])[i] ≤ ls.length := fun i hi => by
    have h1 := h.mono i ms.length (by simp at hi; omega) (by simp)
    rw [List.getElem_append_right (Nat.le_refl _)] at h1
    simpa using h1
  have h1 := h.wrote hst hf (fun x hx => h.inV x (List.mem_of_mem_take (htk.symm ▸ hx : x ∈ L.take ls.length))) hmx (fun i hi => by
    have h9 := hmx i hi
    generalize (ms ++ [ls.length])[i] = n at h9 ⊢
    have h8 : ls.take n = (L.take ls.length).take n := by rw [htk]
    rw [h8, List.take_take, Nat.min_eq_left h9])
  obtain ⟨sv, e1, hq⟩ := h1.dvs ds.length (by simp)
  have e2 : sv = v8o := by
    rw [List.getElem?_append_right (by omega)] at e1
    simpa [hdl] using e1.symm
  subst e2
  have e3 : (ds ++ [m])[ds.length]'(by simp) = m := by rw [List.getElem_append_right (Nat.le_refl _)]; simp
  rw [e3] at hq
  have hrm : RightL m := by
    have := (h1.al ds.length (by simp; omega) (by simp)).2.2
    rwa [e3] at this
  have h2 := (h1.popm (k := ms.length) (by simp) (by simp)).pops (k := ms.length) (by simp; omega) (by simp; omega)
  have t1 : (ms ++ [ls.length]).take ms.length = ms := by simp
  have t2 : (ds ++ [m]).take ms.length = ds := by rw [hmd]; simp
  have t3 : (dv ++ [sv]).take ms.length = dv := by rw [hmd, ← hdl]; simp
  rw [t1, t2, t3] at h2
  exact h2.now' hrm hq
end Go.Proofs.Ytgnbjhiafjpokaa

namespace Go.Proofs.Ytgnbjhiafjpokaa
open Go.ChangeShapes Go.WideShapes Go.ChangeAt Go.RowKit Go.Deep

/-- Two terms, and whether the store goes back. -/
structure PrU where
  a : Tm
  b : Tm
  back : Bool
def prAt (w : World) (B b off : Nat) (x : PrU) : Prop :=
  ∃ sa sb, w.cell? ⟨b, off, none⟩ = some (.int .i64 x.a.kind) ∧ w.cell? ⟨b, off + 1, none⟩ = some (.string x.a.name) ∧ w.cell? ⟨b, off + 2, none⟩ = some (.int .i64 x.a.n) ∧ w.cell? ⟨b, off + 3, none⟩ = some sa ∧
    w.cell? ⟨b, off + 4, none⟩ = some (.int .i64 x.b.kind) ∧ w.cell? ⟨b, off + 5, none⟩ = some (.string x.b.name) ∧ w.cell? ⟨b, off + 6, none⟩ = some (.int .i64 x.b.n) ∧ w.cell? ⟨b, off + 7, none⟩ = some sb ∧
    w.cell? ⟨b, off + 8, none⟩ = some (.bool x.back) ∧ Tm.inn w B x.a sa ∧ Tm.inn w B x.b sb
/-- A row of pairs that lies below B. -/
def prsIn (w : World) (B : Nat) (l : List PrU) (sv : Value) : Prop :=
  ∃ g cap, sv = .slice g l.length cap ∧ l.length ≤ cap ∧ l.length ≤ 1172812402961 ∧ (l = [] ∨ ∃ b off, g = some ⟨b, off, none⟩ ∧ b < B ∧ ∀ i (h : i < l.length), prAt w B b (off + i * 9) l[i])
theorem prAt_below {w w' : World} {B n₀ b off : Nat} {x : PrU} (h : prAt w B b off x) (hb : Below n₀ w w') (hB : B ≤ n₀) (hlt : b < n₀) : prAt w' B b off x := by
  obtain ⟨sa, sb, h0, h1, h2, h3, h4, h5, h6, h7, h8, ha, hb'⟩ := h
  have key : ∀ o v, w.cell? ⟨b, o, none⟩ = some v → w'.cell? ⟨b, o, none⟩ = some v := fun o v h => (hb.cell (p := ⟨b, o, none⟩) hlt).trans h
  exact ⟨sa, sb, key _ _ h0, key _ _ h1, key _ _ h2, key _ _ h3, key _ _ h4, key _ _ h5, key _ _ h6, key _ _ h7, key _ _ h8, Tm.inn_below ha hb hB, Tm.inn_below hb' hb hB⟩
theorem prsIn_below {w w' : World} {B n₀ : Nat} {l : List PrU} {sv : Value} (h : prsIn w B l sv) (hb : Below n₀ w w') (hB : B ≤ n₀) : prsIn w' B l sv := by
  obtain ⟨g, cap, e, h1, h2, h3⟩ := h
  refine ⟨g, cap, e, h1, h2, ?_⟩
  rcases h3 with h3 | ⟨b, off, hg, hlt, h3⟩
  · exact .inl h3
  · exact .inr ⟨b, off, hg, hlt, fun i hi => prAt_below (h3 i hi) hb hB (by omega)⟩
theorem prsIn_get {w : World} {B : Nat} {l : List PrU} {g : Option Addr} {len cap : Nat} (h : prsIn w B l (.slice g len cap)) (i : Nat) (hi : i < l.length) :
    ∃ b off, g = some ⟨b, off, none⟩ ∧ b < B ∧ prAt w B b (off + i * 9) l[i] := by
  obtain ⟨g', cap', he, h1, h2, h3⟩ := h
  injection he with e1 e2 e3
  subst e1
  rcases h3 with rfl | ⟨b, off, rfl, hb, hr⟩
  · simp at hi
  · exact ⟨b, off, rfl, hb, hr i hi⟩

theorem Try.cellsPair : Try.prog.cellsOf 59 = 9 := by kernel_rfl
theorem Try.bytesPair : Try.prog.bytesOf 59 = 120 := by kernel_rfl
theorem Try.cellsBool : Try.prog.cellsOf 4 = 1 := by kernel_rfl
instance : Inhabited (PrU × Value) := ⟨(⟨.mk 0 ByteArray.empty 0 [], .mk 0 ByteArray.empty 0 [], false⟩, .slice none 0 0)⟩

set_option maxRecDepth 100000 in
theorem open_pair {H : Type} {enc : TypeId × Value → H} {W : World} {spare : Nat → Bool} {held : Bool} (fuel : Nat) (cs : List Value) (x : DataW H × List MemPlace)
    (h : DataW.trod enc Try.prog W 0 spare held fuel 59 cs = some x) (hw : ∀ n ∈ x.1.weights Try.prog 59, n ≤ reachBytes) :
    ∃ (p : PrU) (sa sb : Value), cs = [.int .i64 p.a.kind, .string p.a.name, .int .i64 p.a.n, sa, .int .i64 p.b.kind, .string p.b.name, .int .i64 p.b.n, sb, .bool p.back] ∧ Tm.inn W W.heap.size p.a sa ∧ Tm.inn W W.heap.size p.b sb := by
  obtain ⟨xs, n, hn, rfl, hlen, hxl, hf⟩ := DataW.trod_struct Try.underlying59 h
  rw [Try.cellsPair] at hlen
  match xs, hxl, cs, hlen with
  | [y0, y1, y2], _, [c0, c1, c2, c3, c4, c5, c6, c7, c8], _ =>
  have h0 := hf 0 _ rfl
  have h1 := hf 1 _ rfl
  have h2 := hf 2 _ rfl
  replace h0 : DataW.trod enc Try.prog W 0 spare held n 27 (([c0, c1, c2, c3, c4, c5, c6, c7, c8].drop 0).take (Try.prog.cellsOf 27)) = some y0 := h0
  replace h1 : DataW.trod enc Try.prog W 0 spare held n 27 (([c0, c1, c2, c3, c4, c5, c6, c7, c8].drop 4).take (Try.prog.cellsOf 27)) = some y1 := h1
  replace h2 : DataW.trod enc Try.prog W 0 spare held n 4 (([c0, c1, c2, c3, c4, c5, c6, c7, c8].drop 8).take (Try.prog.cellsOf 4)) = some y2 := h2
  rw [Try.cellsTerm] at h0 h1
  rw [Try.cellsBool] at h2
  replace h0 : DataW.trod enc Try.prog W 0 spare held n 27 [c0, c1, c2, c3] = some y0 := h0
  replace h1 : DataW.trod enc Try.prog W 0 spare held n 27 [c4, c5, c6, c7] = some y1 := h1
  replace h2 : DataW.trod enc Try.prog W 0 spare held n 4 [c8] = some y2 := h2
  obtain ⟨q, e2, _⟩ := DataW.trod_bool Try.underlying4 h2
  simp only [List.cons.injEq, and_true] at e2
  subst e2
  have hw0 : ∀ n ∈ y0.1.weights Try.prog 27, n ≤ reachBytes := by
    intro n hn
    refine hw n ?_
    simp only [DataW.weights, Try.underlying59]
    exact DataW.weights_mem_each (j := 0) (t := 27) (d := y0.1) rfl rfl n hn
  have hw1 : ∀ n ∈ y1.1.weights Try.prog 27, n ≤ reachBytes := by
    intro n hn
    refine hw n ?_
    simp only [DataW.weights, Try.underlying59]
    exact DataW.weights_mem_each (j := 1) (t := 27) (d := y1.1) rfl rfl n hn
  obtain ⟨t, sv, e0, hin0⟩ := open_term n _ _ h0 hw0
  obtain ⟨u, su, e1, hin1⟩ := open_term n _ _ h1 hw1
  simp only [List.cons.injEq, and_true] at e0 e1
  obtain ⟨rfl, rfl, rfl, rfl⟩ := e0
  obtain ⟨rfl, rfl, rfl, rfl⟩ := e1
  exact ⟨⟨t, u, q⟩, _, _, rfl, hin0, hin1⟩

theorem open_prs {H : Type} {enc : TypeId × Value → H} {W : World} {spare : Nat → Bool} {held : Bool} {fuel : Nat} {cs : List Value} {x : DataW H × List MemPlace}
    (h : DataW.trod enc Try.prog W 0 spare held fuel 57 cs = some x) (hw : ∀ n ∈ x.1.weights Try.prog 57, n ≤ reachBytes) :
    ∃ (l : List PrU) (sv : Value), cs = [sv] ∧ prsIn W W.heap.size l sv := by
  rcases DataW.trod_slice Try.underlying57 h with ⟨e3, _⟩ | ⟨a, len, cap, elems, rest, n', hn', e3, r3, _, hlc, hcm, hel, hcell, _, _⟩
  · subst e3
    exact ⟨[], _, rfl, none, 0, rfl, by simp, by simp, .inl rfl⟩
  · subst e3
    subst r3
    simp only [DataW.weights, Try.underlying57, Try.bytesPair] at hw
    have hbig := hw _ (List.mem_cons_self ..)
    simp only [List.length_map, reachBytes] at hbig
    rw [Try.cellsPair] at hcell
    have hall : ∀ i, i < len → ∃ p : PrU × Value × Value, W.cell? (a.add (i * 9)) = some (.int .i64 p.1.a.kind) ∧ W.cell? (a.add (i * 9 + 1)) = some (.string p.1.a.name) ∧ W.cell? (a.add (i * 9 + 2)) = some (.int .i64 p.1.a.n) ∧ W.cell? (a.add (i * 9 + 3)) = some p.2.1 ∧
        W.cell? (a.add (i * 9 + 4)) = some (.int .i64 p.1.b.kind) ∧ W.cell? (a.add (i * 9 + 5)) = some (.string p.1.b.name) ∧ W.cell? (a.add (i * 9 + 6)) = some (.int .i64 p.1.b.n) ∧ W.cell? (a.add (i * 9 + 7)) = some p.2.2 ∧ W.cell? (a.add (i * 9 + 8)) = some (.bool p.1.back) ∧
        Tm.inn W W.heap.size p.1.a p.2.1 ∧ Tm.inn W W.heap.size p.1.b p.2.2 := by
      intro i hi
      have hc := hcell i hi
      rw [List.getElem?_eq_getElem (by omega)] at hc
      obtain ⟨cs', hc1, hc2⟩ := Option.bind_eq_some_iff.1 hc
      obtain ⟨p, sa, sb, rfl, hina, hinb⟩ := open_pair n' cs' _ hc2 (fun n hn => hw n (by
        refine List.mem_cons_of_mem _ (List.mem_append_left _ (weights_mem_all ?_ n hn))
        exact List.mem_map_of_mem (List.getElem_mem _)))
      obtain ⟨_, _, hat⟩ := World.cells?_some hc1
      have g0 := hat 0 (by omega)
      have g1 := hat 1 (by omega)
      have g2 := hat 2 (by omega)
      have g3 := hat 3 (by omega)
      have g4 := hat 4 (by omega)
      have g5 := hat 5 (by omega)
      have g6 := hat 6 (by omega)
      have g7 := hat 7 (by omega)
      have g8 := hat 8 (by omega)
      rw [add_add] at g0 g1 g2 g3 g4 g5 g6 g7 g8
      exact ⟨(p, sa, sb), by simpa using g0, by simpa using g1, by simpa using g2, by simpa using g3, by simpa using g4, by simpa using g5, by simpa using g6, by simpa using g7, by simpa using g8, hina, hinb⟩
    have hne : Inhabited (PrU × Value × Value) := ⟨(⟨.mk 0 ByteArray.empty 0 [], .mk 0 ByteArray.empty 0 [], false⟩, .slice none 0 0, .slice none 0 0)⟩
    obtain ⟨f, hf'⟩ := choose_lt hall
    refine ⟨(List.range len).map fun i => (f i).1, _, rfl, some a, cap, by simp, by simpa using hlc, by simp; omega, ?_⟩
    by_cases hl0 : len = 0
    · subst hl0; exact .inl rfl
    · obtain ⟨b, off, spot⟩ := a
      have hspot : spot = none := by simpa [Addr.add] using World.cell?_spot (hf' 0 (by omega)).1
      subst hspot
      refine .inr ⟨b, off, rfl, ?_, fun i hi => ?_⟩
      · have := World.block_lt_of_cell? _ _ (hf' 0 (by omega)).1
        simpa [Addr.add] using this
      · have hi' : i < len := by simpa using hi
        obtain ⟨g0, g1, g2, g3, g4, g5, g6, g7, g8, ha, hb⟩ := hf' i hi'
        simp only [add_plain] at g0 g1 g2 g3 g4 g5 g6 g7 g8
        refine ⟨(f i).2.1, (f i).2.2, ?_, ?_, ?_, ?_, ?_, ?_, ?_, ?_, ?_, ?_, ?_⟩
        · simpa using g0
        · simpa [Nat.add_assoc] using g1
        · simpa [Nat.add_assoc] using g2
        · simpa [Nat.add_assoc] using g3
        · simpa [Nat.add_assoc] using g4
        · simpa [Nat.add_assoc] using g5
        · simpa [Nat.add_assoc] using g6
        · simpa [Nat.add_assoc] using g7
        · simpa [Nat.add_assoc] using g8
        · simpa using ha
        · simpa using hb

set_option maxRecDepth 100000 in
/-- .. as an argument. -/
theorem open_pairs {H : Type} {enc : TypeId × Value → H} {W : World} {r : Reach} {base : Nat} {spare : Nat → Bool} {held : Bool} {v : Value} {d : DataW H} {p : List MemPlace} (hv : Value.okWide Try.prog W r base 57 v)
    (h : DataW.Trod enc Try.prog W 0 spare held 57 v d p) (hw : ∀ n ∈ d.weights Try.prog 57, n ≤ reachBytes) :
    ∃ (l : List PrU), prsIn W W.heap.size l v := by
  obtain ⟨a0, len, cap, rfl⟩ := okWide_slice Try.underlying57 hv
  obtain ⟨fuel, hf⟩ := h
  obtain ⟨l, sv, e, hin⟩ := open_prs hf hw
  simp only [Value.cells, List.cons.injEq, and_true] at e
  exact ⟨l, by rw [e]; exact hin⟩
end Go.Proofs.Ytgnbjhiafjpokaa

namespace Go.Proofs.Ytgnbjhiafjpokaa
open Go.RowKit Go.Shelf Go.Maps

/-- The cells of a pair. -/
def PS (p x : Nat) (A Bt : Tm) (sa sb : Value) (W : World) : Prop := W.cell? ⟨p, x, none⟩ = some (.int .i64 A.kind) ∧ W.cell? ⟨p, x + 1, none⟩ = some (.string A.name) ∧ W.cell? ⟨p, x + 2, none⟩ = some (.int .i64 A.n) ∧ W.cell? ⟨p, x + 3, none⟩ = some sa ∧
  W.cell? ⟨p, x + 4, none⟩ = some (.int .i64 Bt.kind) ∧ W.cell? ⟨p, x + 4 + 1, none⟩ = some (.string Bt.name) ∧ W.cell? ⟨p, x + 4 + 2, none⟩ = some (.int .i64 Bt.n) ∧ W.cell? ⟨p, x + 4 + 3, none⟩ = some sb
theorem PS.at {Wa : World} {B p x : Nat} {y : PrU} (h : prAt Wa B p x y) (hp : p < B) (hB : B ≤ Wa.heap.size) : ∃ ga ca gb cb, (∀ W, Below Wa.heap.size Wa W → PS p x y.a y.b (.slice ga y.a.args.length ca) (.slice gb y.b.args.length cb) W ∧ W.cell? ⟨p, x + 8, none⟩ = some (.bool y.back) ∧ Tm.inn W B y.a (.slice ga y.a.args.length ca) ∧ Tm.inn W B y.b (.slice gb y.b.args.length cb)) := by
  obtain ⟨sa, sb, h0, h1, h2, h3, h4, h5, h6, h7, h8, ha, hb⟩ := h
  obtain ⟨ga, ca, rfl⟩ := inn_sl ha
  obtain ⟨gb, cb, rfl⟩ := inn_sl hb
  refine ⟨ga, ca, gb, cb, fun W hw => ?_⟩
  have key : ∀ o v, Wa.cell? ⟨p, o, none⟩ = some v → W.cell? ⟨p, o, none⟩ = some v := fun o v h => (hw.cell (p := ⟨p, o, none⟩) (by show p < Wa.heap.size; omega)).trans h
  exact ⟨⟨key _ _ h0, key _ _ h1, key _ _ h2, key _ _ h3, key _ _ h4, key _ _ h5, key _ _ h6, key _ _ h7⟩, key _ _ h8, Tm.inn_below ha hw hB, Tm.inn_below hb hw hB⟩
def flatP (l : List PrU) : List Tm := l.flatMap fun p => [p.a, p.b]
theorem flatP_succ {l : List PrU} {k : Nat} (h : k < l.length) : flatP (l.take (k + 1)) = flatP (l.take k) ++ [l[k].a, l[k].b] := by
  rw [List.take_succ_eq_append_getElem h, flatP, flatP, List.flatMap_append]
  simp
theorem flatP_length (l : List PrU) : (flatP l).length = 2 * l.length := by
  induction l with
  | nil => rfl
  | cons x r ih =>
    have : flatP (x :: r) = x.a :: x.b :: flatP r := rfl
    rw [this]
    simp only [List.length_cons, ih]
    omega
theorem flatP_mem {l : List PrU} {x : PrU} (h : x ∈ l) : x.a ∈ flatP l ∧ x.b ∈ flatP l := by
  unfold flatP
  exact ⟨List.mem_flatMap.2 ⟨x, h, by simp⟩, List.mem_flatMap.2 ⟨x, h, by simp⟩⟩
theorem run_append_tmsL {w : World} (n₀ base : Nat) (ty : TypeId) (v : Value) (l : List Tm) (hown : ownTms w n₀ base v l) (m : List Tm) (g : Option Addr) (c : Nat) (hsrc : srcTms w n₀ m g)
    (hmax : (l.length + m.length) * 56 ≤ 140737488355328) (hbase : base ≤ w.heap.size) (hn : n₀ ≤ base) :
    ∃ v' w', (Builtin.append_ #[25, 25] ty #[v, .slice g m.length c]).run Try.prog w = .ok v' w' ∧ ownTms w' n₀ base v' (l ++ m) ∧ w.grownBy w' v.ownBlock ∧ (∀ j, v.ownBlock = some j → base ≤ j) := by
  obtain ⟨i0, hi, hz0, hz1, hz2⟩ := info_parts Try.infoTm
  obtain ⟨xs, h1, h2⟩ := hown
  obtain ⟨ys, h3, h4⟩ := hsrc
  obtain ⟨v', w', hr, ho, hg, hs⟩ := run_append_any (P := Try.prog) (w := w) base 25 ty 27 i0 _ 4 56 Try.underlying25 hi hz0 hz1 hz2 rfl (by decide) v l.length xs h1 g m.length c ys (cellsP_length _ _ h3) (by
    rcases h4 with h4 | ⟨a, ha, hc⟩
    · exact .inl (by rw [h4]; rfl)
    · exact .inr ⟨a, ha, hc⟩) (cellsP_one _ _ h3) (by unfold maxLen; omega) hmax hbase
  have hlow : ∀ j, v.ownBlock = some j → base ≤ j := fun j e => (World.ownsRow.lt h1 j e).1
  have hbw : Below n₀ w w' := (Below.refl _ _).grown hg (by omega) (fun k e => by have := hlow k e; omega)
  refine ⟨v', w', hr, ⟨xs ++ ys, by rw [List.length_append]; exact ho, ?_⟩, hg, hlow⟩
  exact Tm.cellsP_same (fun _ h => h) (fun b o v hlt hc => (hbw.cell (p := ⟨b, o, none⟩) hlt).trans hc) _ _ (cellsP_app _ _ _ _ h2 h3)
theorem step_append_tmsL {w : World} {ops : Array Oper} {o : Oper} {a : Act} {K : Act → World → Prop} {Q : Exit → Act → World → Prop} {E : Prop} (hgd : o.guard = none) (s x : Operand)
    (ho : o.op = .call { callee := .builtin .append, args := #[s, x], argTypes := #[25, 25] })
    (n₀ base : Nat) (v : Value) (l : List Tm) (hs : a.eval s = v) (hown : ownTms w n₀ base v l) (m : List Tm) (g : Option Addr) (n c : Nat) (hx : a.eval x = .slice g n c) (hnm : n = m.length) (hsrc : srcTms w n₀ m g)
    (hmax : (l.length + m.length) * 56 ≤ 140737488355328) (hbase : base ≤ w.heap.size) (hn : n₀ ≤ base)
    (h : ∀ v' w', ownTms w' n₀ base v' (l ++ m) → w.grownBy w' v.ownBlock → (∀ j, v.ownBlock = some j → base ≤ j) → K (a.put o.dst v') w') :
    if Region.wanted o (yielded ops a.tmps) = true then Oper.wp Try.prog o a w K Q else E := by
  have hw : Region.wanted o (yielded ops a.tmps) = true := by simp [Region.wanted, hgd]
  rw [if_pos hw]
  subst hnm
  obtain ⟨v', w', hr, h2, h3, h4⟩ := run_append_tmsL (w := w) n₀ base o.type v l hown m g c hsrc hmax hbase hn
  unfold Oper.wp execOp
  simp only [ho, resolve, invoke, builtin, Sem.run_bind, Sem.run_pure, Result.andThen_ok, List.map_toArray, List.map_cons, List.map_nil, hs, hx, hr]
  exact h v' w' h2 h3 h4
theorem src_two {W : World} {B : Nat} {a b : Tm} {sva svb : Value} (ha : Tm.inn W B a sva) (hb : Tm.inn W B b svb) (hB : B ≤ W.heap.size) {n : Nat} (hn : W.heap.size = n) : srcTms (W.alloc (.cells #[.int .i64 a.kind, .string a.name, .int .i64 a.n, sva, .int .i64 b.kind, .string b.name, .int .i64 b.n, svb] 27)) B [a, b] (some ⟨n, 0, none⟩) := by
  subst hn
  have hal : Below W.heap.size W (W.alloc (.cells #[.int .i64 a.kind, .string a.name, .int .i64 a.n, sva, .int .i64 b.kind, .string b.name, .int .i64 b.n, svb] 27)) := (Below.refl W.heap.size W).alloc (Nat.le_refl _) _
  refine ⟨[.int .i64 a.kind, .string a.name, .int .i64 a.n, sva, .int .i64 b.kind, .string b.name, .int .i64 b.n, svb], ⟨_, _, rfl, innP_of_inn _ _ (Tm.inn_below ha hal hB), _, [], rfl, innP_of_inn _ _ (Tm.inn_below hb hal hB), by simp [Tm.cellsP]⟩, .inr ⟨_, rfl, fun j u hj => ?_⟩⟩
  rw [Addr.add_lit]
  simp only [Nat.zero_add]
  rcases j with _ | _ | _ | _ | _ | _ | _ | _ | j
  · simp at hj; subst hj; simp [World.cell?_alloc_new]
  · simp at hj; subst hj; simp [World.cell?_alloc_new]
  · simp at hj; subst hj; simp [World.cell?_alloc_new]
  · simp at hj; subst hj; simp [World.cell?_alloc_new]
  · simp at hj; subst hj; simp [World.cell?_alloc_new]
  · simp at hj; subst hj; simp [World.cell?_alloc_new]
  · simp at hj; subst hj; simp [World.cell?_alloc_new]
  · simp at hj; subst hj; simp [World.cell?_alloc_new]
  · simp at hj
theorem own_one {W : World} {B : Nat} {t : Tm} {sv : Value} {n : Nat} (hn : n = W.heap.size) (hB : B ≤ W.heap.size) (ht : Tm.inn W B t sv) : ownTms (W.alloc (.cells #[.int .i64 t.kind, .string t.name, .int .i64 t.n, sv] 27 (0, 0))) B W.heap.size (.slice (some ⟨n, 0, none⟩) 1 1) [t] := by
  subst hn
  obtain ⟨_, g, c, rfl, _⟩ := Tm.inn_iff.1 ht
  exact ⟨[.int .i64 t.kind, .string t.name, .int .i64 t.n, .slice g t.args.length c], ⟨rfl, .inr ⟨W.heap.size, 1, _, rfl, Nat.le_refl _, newBlk _ _ _ rfl, Nat.le_refl _, by unfold maxLen; omega, rfl, rfl⟩⟩, _, [], rfl, innP_of_inn _ _ (Tm.inn_below ht ((Below.refl _ _).alloc (Nat.le_refl _) _) hB), by simp [Tm.cellsP]⟩
theorem ownTms_drew {w : World} {n₀ base : Nat} {v : Value} {l : List Tm} (h : ownTms w n₀ base v l) : ownTms w.drew n₀ base v l := by
  obtain ⟨xs, h1, h2⟩ := h
  exact ⟨xs, h1, Tm.cellsP_same (w := w) (w' := w.drew) (fun _ h => h) (fun _ _ _ _ hc => hc) _ _ h2⟩
theorem srcTms_drew {w : World} {n₀ : Nat} {l : List Tm} {g : Option Addr} (h : srcTms w n₀ l g) : srcTms w.drew n₀ l g := by
  obtain ⟨xs, h1, h2⟩ := h
  exact ⟨xs, Tm.cellsP_same (w := w) (w' := w.drew) (fun _ h => h) (fun _ _ _ _ hc => hc) _ _ h1, h2⟩
theorem size_le_sizes : ∀ {l : List Tm} {x : Tm}, x ∈ l → x.size ≤ Tm.sizes l
  | y :: r, x, h => by
    simp only [Tm.sizes]
    rcases List.mem_cons.1 h with rfl | h
    · omega
    · have := size_le_sizes h; omega
theorem ownTms_sl {w : World} {n₀ base : Nat} {v : Value} {l : List Tm} (h : ownTms w n₀ base v l) : ∃ g c, v = .slice g l.length c := by
  obtain ⟨xs, h1, _⟩ := h
  exact owns_slice h1
theorem finds_one {l m : List Bd} {σ τ : Int → Tm} (he : Alike l m) (hl : RightL l) (hm : RightL m) (hσ : Sol l σ) (hτ : Sol m τ) {t : Tm} (hf : ∀ x ∈ [t], x.fair = true) :
    ((t.bnd σ).right = true ↔ (t.bnd τ).right = true) ∧ ((t.bnd σ).right = true → numTms [t.bnd σ] = numTms [t.bnd τ]) := by
  have h1 := he.names hl hm hσ hτ hf
  have h2 := he.symm.names hm hl hτ hσ hf
  refine ⟨⟨h1.2 t (by simp), h2.2 t (by simp)⟩, fun h => ?_⟩
  unfold numTms
  rw [if_pos (by simpa using h), if_pos (by simpa using h1.2 t (by simp) h)]
  simpa using h1.1.symm
theorem own_some {w : World} {base : Nat} {e : TypeId} {v : Value} {n sz : Nat} {xs : List Value} (h : w.ownsRow base e sz v n xs) (hn : 0 < n) : ∃ g c, v = .slice (some ⟨g, 0, none⟩) n c := by
  rcases h.2 with ⟨_, h0⟩ | ⟨g, cap, cur, e, _⟩
  · omega
  · exact ⟨g, cap, e⟩
theorem small_gath {t : Tm} {l : List PrU} (h : Tm.smallB (t :: flatP l) = true) : t.size ≤ 60 ∧ (∀ x ∈ l, x.a.size ≤ 60 ∧ x.b.size ≤ 60) ∧ (varsOf (t :: flatP l)).length ≤ 60 := by
  have h1 := Tm.smallB_says h
  have h2 := varsOf_length (t :: flatP l)
  have h3 : ∀ x ∈ t :: flatP l, x.size ≤ Tm.sizes (t :: flatP l) := fun x hx => size_le_sizes hx
  refine ⟨Nat.le_trans (h3 t (by simp)) h1, fun x hx => ⟨Nat.le_trans (h3 _ (List.mem_cons_of_mem _ (flatP_mem hx).1)) h1, Nat.le_trans (h3 _ (List.mem_cons_of_mem _ (flatP_mem hx).2)) h1⟩, Nat.le_trans h2 h1⟩
theorem Try.infoBS : (Try.prog.info? 22).map (fun i => (i.zero, i.size, i.bytes)) = some (some (.slice none 0 0), 1, 24) := by kernel_rfl

set_option maxRecDepth 100000 in
set_option maxHeartbeats 16000000 in
theorem ustores_any (l : List PrU) (t : Tm) (w : World) (svl svt : Value) (hil : prsIn w w.heap.size l svl) (hit : Tm.inn w w.heap.size t svt) :
    Calls Try.prog 9 #[svl, .agg #[.int .i64 t.kind, .string t.name, .int .i64 t.n, svt]] w fun e w' => e = .returned (.bool true) ∧ Below w.heap.size w w' := by
  obtain ⟨gt, ct, rfl⟩ := inn_sl hit
  obtain ⟨gl, cl, rfl, hcl, hll, _⟩ := id hil
  have hal0 : Below w.heap.size w (w.alloc (.cells #[.int .i64 t.kind, .string t.name, .int .i64 t.n, .slice gt t.args.length ct] 27)) := (Below.refl _ _).alloc (Nat.le_refl _) _
  obtain ⟨Wa, hWa⟩ : ∃ x, w.alloc (.cells #[.int .i64 t.kind, .string t.name, .int .i64 t.n, .slice gt t.args.length ct] 27) = x := ⟨_, rfl⟩
  have hbx : Wa.heap[w.heap.size]? = some (.cells #[.int .i64 t.kind, .string t.name, .int .i64 t.n, .slice gt t.args.length ct] 27 (0, 0)) := by rw [← hWa]; exact newBlk _ _ _ rfl
  rw [hWa] at hal0
  have hlw : w.heap.size < Wa.heap.size := (Array.getElem?_eq_some_iff.1 hbx).1
  have hin : Tm.inn Wa Wa.heap.size t (.slice gt t.args.length ct) := lift_inn hit hal0
  have hprs : prsIn Wa w.heap.size l (.slice gl l.length cl) := prsIn_below hil hal0 (Nat.le_refl _)
  have HA := Lib.hid hal0
  have HBX := Lib.hid hbx
  have HIN := Lib.hid hin
  have HP := Lib.hid hprs
  have HWA := Lib.hid hWa
  have hown := own_one (W := Wa) (n := Wa.heap.size) rfl (Nat.le_refl _) hin
  have HO := Lib.hid hown
  obtain ⟨⟨x0, x1, x2, x3⟩, _⟩ := row4 hbx
  have hp := Try.underlying60
  clear hil hit hal0 hWa hbx hin hprs hown
  go_enter Try.func9, Try.ntmps9
  go_upto_region 1 with fail
  rw [HWA.out]
  go_wp2_with fail
  go_loopw [5, 6] (fun v i wr => ∃ k : Nat, k ≤ l.length ∧ i = .int .i64 (k : Nat) ∧ Hid (ownTms wr Wa.heap.size Wa.heap.size v (t :: flatP (l.take k))) ∧ Hid (Below Wa.heap.size Wa wr)) (fun _ i _ => l.length - (intOf i).toNat)
  case atStart => exact ⟨0, Nat.zero_le _, rfl, by simpa [Hid, flatP] using HO.out, (Below.refl _ _).alloc (Nat.le_refl _) _⟩
  case round =>
    obtain ⟨wz, rfl⟩ : ∃ x, x = wr := ⟨_, rfl⟩
    obtain ⟨k, hk, rfl, ho, hb⟩ := hrel
    have HOZ := Lib.hid ho.out
    have HB := Lib.hid hb.out
    have hbz := hb.out.size
    clear ho hb x0 x1 x2 x3
    by_cases hlt : k < l.length
    · have hM := flatP_succ hlt
      obtain ⟨p, po, hgl, hpB, hpr⟩ := prsIn_get HP.out k hlt
      subst hgl
      obtain ⟨ga, ca, gb, cb, hps⟩ := PS.at (Wa := Wa) hpr hpB (by omega)
      have hmem := List.getElem_mem hlt
      obtain ⟨A, hA⟩ : ∃ x, l[k].a = x := ⟨_, rfl⟩
      have hpl : p < Wa.heap.size := by omega
      obtain ⟨Bt, hBt⟩ : ∃ x, l[k].b = x := ⟨_, rfl⟩
      rw [hA, hBt] at hM hps
      have HPS := Lib.hid hps
      have HM := Lib.hid hM
      have hpz : p < wz.heap.size := by omega
      have hk0 : (0 : Int) ≤ (k : Int) := by omega
      have hk1 : (k : Int) < (l.length : Int) := by omega
      clear hps hM hA hBt hmem hpr
      go_wp2_with fail
      refine wp_region_held_drew (S := fun W' => W'.cell? ⟨p, po + k * 9, none⟩ = some (.int .i64 A.kind) ∧ W'.cell? ⟨p, po + k * 9 + 1, none⟩ = some (.string A.name) ∧ W'.cell? ⟨p, po + k * 9 + 2, none⟩ = some (.int .i64 A.n) ∧ W'.cell? ⟨p, po + k * 9 + 3, none⟩ = some (.slice ga A.args.length ca) ∧ W'.cell? ⟨p, po + k * 9 + 4, none⟩ = some (.int .i64 Bt.kind) ∧ W'.cell? ⟨p, po + k * 9 + 4 + 1, none⟩ = some (.string Bt.name) ∧ W'.cell? ⟨p, po + k * 9 + 4 + 2, none⟩ = some (.int .i64 Bt.n) ∧ W'.cell? ⟨p, po + k * 9 + 4 + 3, none⟩ = some (.slice gb Bt.args.length cb)) (by kernel_rfl) (HPS.out _ HB.out.drew).1 (fun hHeld => ?_)
      refine wpAnyH_take (i := 0) (oi := _) (v := ?_) rfl (by kernel_rfl) (by kernel_rfl) (by kernel_rfl) (fun _ _ _ h => h) (Or.inl ⟨by rfl, ?_⟩) hHeld ?_
      rotate_left
      · (intro w hSw; obtain ⟨c0, c1, c2, c3, d0, d1, d2, d3⟩ := hSw; go_simp; try with_reducible rfl)
      try simp only [Act.put, List.setIfInBounds_toArray, List.set_cons_zero, List.set_cons_succ, List.getElem_toArray, List.getElem_cons_zero]
      refine wpAnyH_take (i := 1) (oi := _) (v := ?_) rfl (by kernel_rfl) (by kernel_rfl) (by kernel_rfl) (fun _ _ _ h => h) (Or.inl ⟨by rfl, ?_⟩) hHeld ?_
      rotate_left
      · (intro w hSw; obtain ⟨c0, c1, c2, c3, d0, d1, d2, d3⟩ := hSw; go_simp; try with_reducible rfl)
      try simp only [Act.put, List.setIfInBounds_toArray, List.set_cons_zero, List.set_cons_succ, List.getElem_toArray, List.getElem_cons_zero, List.getElem_cons_succ]
      refine wpAnyH_take (i := 2) (oi := _) (v := ?_) rfl (by kernel_rfl) (by kernel_rfl) (by kernel_rfl) (fun _ _ _ h => h) (Or.inl ⟨by rfl, ?_⟩) hHeld ?_
      rotate_left
      · (intro w hSw; obtain ⟨c0, c1, c2, c3, d0, d1, d2, d3⟩ := hSw; go_simp; try with_reducible rfl)
      try simp only [Act.put, List.setIfInBounds_toArray, List.set_cons_zero, List.set_cons_succ, List.getElem_toArray, List.getElem_cons_zero, List.getElem_cons_succ]
      refine wpAnyH_take (i := 3) (oi := _) (v := ?_) rfl (by kernel_rfl) (by kernel_rfl) (by kernel_rfl) (fun _ _ _ h => h) (Or.inl ⟨by rfl, ?_⟩) hHeld ?_
      rotate_left
      · (intro w hSw; obtain ⟨c0, c1, c2, c3, d0, d1, d2, d3⟩ := hSw; go_simp; try with_reducible rfl)
      try simp only [Act.put, List.setIfInBounds_toArray, List.set_cons_zero, List.set_cons_succ, List.getElem_toArray, List.getElem_cons_zero, List.getElem_cons_succ]
      refine wpAnyH_take (i := 4) (oi := _) (v := ?_) rfl (by kernel_rfl) (by kernel_rfl) (by kernel_rfl) (fun _ _ _ h => h) (Or.inl ⟨by rfl, ?_⟩) hHeld ?_
      rotate_left
      · (intro w hSw; obtain ⟨c0, c1, c2, c3, d0, d1, d2, d3⟩ := hSw; go_simp; try with_reducible rfl)
      try simp only [Act.put, List.setIfInBounds_toArray, List.set_cons_zero, List.set_cons_succ, List.getElem_toArray, List.getElem_cons_zero, List.getElem_cons_succ]
      refine wpAnyH_take (i := 5) (oi := _) (v := ?_) rfl (by kernel_rfl) (by kernel_rfl) (by kernel_rfl) (fun _ _ _ h => h) (Or.inl ⟨by rfl, ?_⟩) hHeld ?_
      rotate_left
      · (intro w hSw; obtain ⟨c0, c1, c2, c3, d0, d1, d2, d3⟩ := hSw; go_simp; try with_reducible rfl)
      try simp only [Act.put, List.setIfInBounds_toArray, List.set_cons_zero, List.set_cons_succ, List.getElem_toArray, List.getElem_cons_zero, List.getElem_cons_succ]
      refine wpAnyH_take (i := 6) (oi := _) (v := ?_) rfl (by kernel_rfl) (by kernel_rfl) (by kernel_rfl) (fun _ _ _ h => h) (Or.inl ⟨by rfl, ?_⟩) hHeld ?_
      rotate_left
      · (intro w hSw; obtain ⟨c0, c1, c2, c3, d0, d1, d2, d3⟩ := hSw; go_simp; try with_reducible rfl)
      try simp only [Act.put, List.setIfInBounds_toArray, List.set_cons_zero, List.set_cons_succ, List.getElem_toArray, List.getElem_cons_zero, List.getElem_cons_succ]
      refine wpAnyH_take (i := 7) (oi := _) (v := ?_) rfl (by kernel_rfl) (by kernel_rfl) (by kernel_rfl) (fun _ _ _ h => h) (Or.inl ⟨by rfl, ?_⟩) hHeld ?_
      rotate_left
      · (intro w hSw; obtain ⟨c0, c1, c2, c3, d0, d1, d2, d3⟩ := hSw; go_simp; try with_reducible rfl)
      try simp only [Act.put, List.setIfInBounds_toArray, List.set_cons_zero, List.set_cons_succ, List.getElem_toArray, List.getElem_cons_zero, List.getElem_cons_succ]
      refine wpAnyH_take (i := 8) (oi := _) (v := ?_) rfl (by kernel_rfl) (by kernel_rfl) (by kernel_rfl) (fun _ _ _ h => h) (Or.inl ⟨by rfl, ?_⟩) hHeld ?_
      rotate_left
      · (intro w hSw; obtain ⟨c0, c1, c2, c3, d0, d1, d2, d3⟩ := hSw; go_simp; try with_reducible rfl)
      try simp only [Act.put, List.setIfInBounds_toArray, List.set_cons_zero, List.set_cons_succ, List.getElem_toArray, List.getElem_cons_zero, List.getElem_cons_succ]
      refine wpAnyH_take (i := 9) (oi := _) (v := ?_) rfl (by kernel_rfl) (by kernel_rfl) (by kernel_rfl) (fun _ _ _ h => h) (Or.inl ⟨by rfl, ?_⟩) hHeld ?_
      rotate_left
      · (intro w hSw; obtain ⟨c0, c1, c2, c3, d0, d1, d2, d3⟩ := hSw; go_simp; try with_reducible rfl)
      try simp only [Act.put, List.setIfInBounds_toArray, List.set_cons_zero, List.set_cons_succ, List.getElem_toArray, List.getElem_cons_zero, List.getElem_cons_succ]
      refine wpAnyH_take (i := 10) (oi := _) (v := ?_) rfl (by kernel_rfl) (by kernel_rfl) (by kernel_rfl) (fun _ _ _ h => h) (Or.inl ⟨by rfl, ?_⟩) hHeld ?_
      rotate_left
      · (intro w hSw; obtain ⟨c0, c1, c2, c3, d0, d1, d2, d3⟩ := hSw; go_simp; try with_reducible rfl)
      try simp only [Act.put, List.setIfInBounds_toArray, List.set_cons_zero, List.set_cons_succ, List.getElem_toArray, List.getElem_cons_zero, List.getElem_cons_succ]
      refine wpAnyH_ready (rs := [11]) (by kernel_rfl) (by simp) ?_
      refine AllReadyH.cons (o := _) rfl (fun K hK => ?_) (AllReadyH.nil)
      go_simp
      have hb1 : Below Wa.heap.size Wa (wz.alloc (.cells #[.int .i64 A.kind, .string A.name, .int .i64 A.n, .slice ga A.args.length ca, .int .i64 Bt.kind, .string Bt.name, .int .i64 Bt.n, .slice gb Bt.args.length cb] 27)).drew := (HB.out.alloc hbz _).drew
      refine hK.out _ _ ((HPS.out _ hb1).1) (fun hHeld => ?_)
      clear hK K
      try simp only [Act.put, List.setIfInBounds_toArray, List.set_cons_zero, List.set_cons_succ, List.getElem_toArray, List.getElem_cons_zero, List.getElem_cons_succ]
      have hin := HPS.out wz HB.out
      have hsrc := src_two (W := wz) (n := wz.heap.size) (Tm.inn_mono hin.2.2.1 (show w.heap.size ≤ Wa.heap.size by omega)) (Tm.inn_mono hin.2.2.2 (show w.heap.size ≤ Wa.heap.size by omega)) hbz rfl
      have ho1 := ownTms_below HOZ.out (((Below.refl wz.heap.size wz).alloc (Nat.le_refl _) (.cells #[.int .i64 A.kind, .string A.name, .int .i64 A.n, .slice ga A.args.length ca, .int .i64 Bt.kind, .string Bt.name, .int .i64 Bt.n, .slice gb Bt.args.length cb] 27))) hbz
      have HSRC := Lib.hid hsrc
      have HO1 := Lib.hid ho1
      have HB1 := Lib.hid (HB.out.alloc hbz (.cells #[.int .i64 A.kind, .string A.name, .int .i64 A.n, .slice ga A.args.length ca, .int .i64 Bt.kind, .string Bt.name, .int .i64 Bt.n, .slice gb Bt.args.length cb] 27))
      clear hin hsrc ho1 hb1
      refine wpAnyH_ready (rs := [12]) (by kernel_rfl) (by simp) ?_
      refine AllReadyH.cons (o := _) rfl (fun K hK => ?_) (AllReadyH.nil)
      refine step_append_tmsL (by rfl) _ _ (by rfl) Wa.heap.size Wa.heap.size u5 (t :: flatP (l.take k)) (by rfl) (ownTms_drew HO1.out) [A, Bt] (some ⟨wz.heap.size, 0, none⟩) 2 2 (by rfl) rfl (srcTms_drew HSRC.out) (by simp [flatP_length]; omega) (by simp; omega) (Nat.le_refl _) ?_
      intro v' w5 hown5 hgrow5 hlow5
      have hb5 : Below Wa.heap.size Wa w5 := HB1.out.drew.grown hgrow5 (by simp; omega) hlow5
      refine hK.out _ _ ((HPS.out _ hb5).1) (fun hHeld => ?_)
      clear hK K
      try simp only [Act.put, List.setIfInBounds_toArray, List.set_cons_zero, List.set_cons_succ, List.getElem_toArray, List.getElem_cons_zero, List.getElem_cons_succ]
      have HO5 := Lib.hid hown5
      have HB5 := Lib.hid hb5
      clear hown5 hgrow5 hlow5 hb5 HO1 HSRC HB1
      refine wpAnyH_ready (rs := [13]) (by kernel_rfl) (by simp) ?_
      refine AllReadyH.cons (o := _) rfl (fun K hK => ?_) (AllReadyH.nil)
      go_simp
      refine hK.out _ _ (hHeld) (fun hHeld => ?_)
      clear hK K
      try simp only [Act.put, List.setIfInBounds_toArray, List.set_cons_zero, List.set_cons_succ, List.getElem_toArray, List.getElem_cons_zero, List.getElem_cons_succ]
      refine wpAnyH_done (by kernel_rfl) ?_ _
      clear hHeld
      go_wp2_with fail
      go_roundw
      case rel => exact ⟨k + 1, by omega, by go_num, by rw [HM.out, ← List.cons_append]; exact HO5.out, HB5.out⟩
      case measure => simp [intOf]; omega
    · obtain rfl : k = l.length := by omega
      have hoz := HOZ.out
      rw [List.take_of_length_le (Nat.le_refl _)] at hoz
      by_cases h12 : 12 < l.length
      · have h12i : (12 : Int) < (l.length : Int) := by omega
        clear hoz h12
        go_wp2_with fail
        refine (uknows_any _).mono ?_
        rintro e V1 ⟨rfl, hbv⟩
        have HBF := Lib.hid (HA.out.trans ((HB.out.trans (hbv.mono hbz)).mono HA.out.size))
        clear hbv
        go_wp2_with fail
        go_ret
        exact ⟨rfl, HBF.out⟩
      have h12i : ¬ (12 : Int) < (l.length : Int) := by omega
      have hl12 : l.length ≤ 12 := by omega
      have hsl := ownTms_slice hoz hbz (by simp [flatP_length]; omega)
      obtain ⟨ga', ca', hga'⟩ := ownTms_sl hoz
      subst hga'
      have HSL := Lib.hid hsl
      clear hoz hsl h12 HOZ
      go_wp2_with fail
      refine (usmall_any (t :: flatP l) _ _ _ (Nat.le_refl _) HSL.out).mono ?_
      rintro e W1 ⟨rfl, hb1⟩
      have HB1 := Lib.hid (HB.out.trans (hb1.mono hbz))
      clear hb1 HSL HB hbz HO
      cases hs : Tm.smallB (t :: flatP l) with
      | false =>
        clear hs
        go_wp2_with fail
        refine (uknows_any _).mono ?_
        rintro e V2 ⟨rfl, hbv⟩
        have HBF := Lib.hid (HA.out.trans ((HB1.out.trans (hbv.mono HB1.out.size)).mono HA.out.size))
        clear hbv
        go_wp2_with fail
        go_ret
        exact ⟨rfl, HBF.out⟩
      | true =>
        obtain ⟨hst, hsx, hvl⟩ := small_gath hs
        have HSX := Lib.hid hsx
        have HVA := Lib.hid (fun (x : Tm) (hx : x ∈ t :: flatP l) (v : Int) (hv : v ∈ x.vs) => (vars_vs (t :: flatP l) v).2 ⟨x, hx, hv⟩)
        obtain ⟨V, hV⟩ : ∃ V, varsOf (t :: flatP l) = V := ⟨_, rfl⟩
        rw [hV] at hvl HVA
        clear hs hsx hV
        go_wp2_with fail
        refine (new_any _ Wa.heap.size HB1.out.size).mono ?_
        rintro e W2 ⟨rfl, hb2, hst2⟩
        have hs2 := hb2.size
        have hnil : RightL [] := ⟨fun i hi => absurd hi (Nat.not_lt_zero _), fun _ => 0, fun i hi => absurd hi (Nat.not_lt_zero _)⟩
        obtain ⟨sb, hsb⟩ : ∃ x, W1.heap.size = x := ⟨_, rfl⟩
        have hb2' : Below Wa.heap.size Wa W2 := HB1.out.trans (hb2.mono HB1.out.size)
        have hbox2 : sb < W2.heap.size := by rw [← hsb]; exact hst2.mem.low.box
        have hge2 : Wa.heap.size ≤ W2.heap.size := hb2'.size
        rw [hsb] at hst2
        have hsl0 : SL Wa W2.heap.size sb 0 [] (.slice none 0 0) (.map none) [] V [] [] [] [] (.slice none 0 0) (.slice none 0 0) (.slice none 0 0) W2 :=
          ⟨hb2', hge2, Nat.le_refl _, hst2, (fun x hx => by cases hx), hnil, ⟨none, 0, rfl, Nat.le_refl _, by simp, by simp, .inl rfl⟩, World.ownsRow_nil _ _ _ _, World.ownsRow_nil _ _ _ _, (fun i hi => absurd hi (Nat.not_lt_zero _)), (fun i hi => absurd hi (Nat.not_lt_zero _)), (fun i hi => absurd hi (Nat.not_lt_zero _)), (fun i j _ hj => absurd hj (Nat.not_lt_zero _)), (fun b e => by cases e), (fun b e => by cases e), (fun b e => by cases e)⟩
        have S0 := Lib.hid hsl0
        rw [hsb]
        clear hsl0 hb2 hst2 hnil hb2' hbox2 hsb hs2 HB1
        obtain ⟨i0, hi0, hz0, hz1, hz2⟩ := info_parts Try.infoInt
        obtain ⟨j0, hj0, hy0, hy1, hy2⟩ := info_parts Try.infoBS
        go_wp2_with fail
        go_loopw [8, 9, 10, 11] (fun v8 v9 v10 i wr => ∃ (k K : Nat) (ls : List Bd) (svS mv : Value) (xs : List Value) (m : List Bd) (ms : List Nat) (ds : List (List Bd)) (dv : List Value), k ≤ l.length ∧ i = .int .i64 (k : Nat) ∧ Hid (SL Wa W2.heap.size sb K ls svS mv xs V m ms ds dv v8 v9 v10 wr) ∧ Hid (Alike ls m) ∧ ms.length = ds.length ∧ ms.length ≤ k ∧ K ≤ 1000 * k) (fun _ _ _ i _ => l.length - (intOf i).toNat)
        case atStart => exact ⟨0, 0, [], _, _, [], [], [], [], [], Nat.zero_le _, rfl, S0.out, Alike.refl _, rfl, Nat.le_refl _, Nat.le_refl _⟩
        case round =>
          obtain ⟨wz, rfl⟩ : ∃ x, x = wr := ⟨_, rfl⟩
          obtain ⟨k, K, ls, svS, mv, xs, m, ms, ds, dv, hk, rfl, hS, hal, hmd, hmk, hK⟩ := hrel
          have S1 := Lib.hid hS.out
          have HAL := Lib.hid hal.out
          have hbz := hS.out.below.size
          have hmd' := Lib.hid hmd
          have hdk : ds.length ≤ k := by omega
          clear hS hal S0 hmd
          by_cases hlt : k < l.length
          · have hlk := hlt
            obtain ⟨p, po, hgl, hpB, hpr⟩ := prsIn_get HP.out k hlt
            subst hgl
            obtain ⟨ga, ca, gb, cb, hps⟩ := PS.at (Wa := Wa) hpr hpB (by omega)
            have hmem := List.getElem_mem hlt
            have hrA := HSX.out _ hmem
            have hpl : p < Wa.heap.size := by omega
            have hvA := fun (v : Int) (hv : v ∈ l[k].a.vs) => HVA.out l[k].a (List.mem_cons_of_mem _ (flatP_mem hmem).1) v hv
            have hvB := fun (v : Int) (hv : v ∈ l[k].b.vs) => HVA.out l[k].b (List.mem_cons_of_mem _ (flatP_mem hmem).2) v hv
            obtain ⟨A, hA⟩ : ∃ x, l[k].a = x := ⟨_, rfl⟩
            obtain ⟨Bt, hBt⟩ : ∃ x, l[k].b = x := ⟨_, rfl⟩
            obtain ⟨bk, hbk⟩ : ∃ x, l[k].back = x := ⟨_, rfl⟩
            rw [hA, hBt, hbk] at hps
            rw [hA, hBt] at hrA
            rw [hA] at hvA
            rw [hBt] at hvB
            obtain ⟨hszA, hszB⟩ := hrA
            have HPS := Lib.hid hps
            have HVAA := Lib.hid hvA
            have HVBB := Lib.hid hvB
            have hpz : p < wz.heap.size := by omega
            have hk0 : (0 : Int) ≤ (k : Int) := by omega
            have hk1 : (k : Int) < (l.length : Int) := by omega
            clear hps hA hBt hbk hmem hpr hvA hvB
            go_wp2_with fail
            refine (mark_any S1.out.st.mem).mono ?_
            rintro e W3 ⟨rfl, rfl⟩
            obtain ⟨g8, n8, c8, h8⟩ : ∃ g n c, u8 = .slice g n c := by obtain ⟨g, c, e, _⟩ := S1.out.now; exact ⟨g, _, c, e⟩
            have hls1 : ls.length ≤ 1000 := S1.out.st.mem.len
            have hwfl : (Lit.int .i64 (ls.length : Nat)).wf = true := WalkArith.wf_i64 (by omega)
            subst h8
            go_upto_region 18 with (at_builtin; refine wpList_append_sep _ rfl _ _ 46 rfl W2.heap.size 3 i0 _ 1 8 Try.underlying46 hi0 hz0 hz1 hz2 rfl (by decide) u9 ms.length (ms.map fun n => .int .i64 (n : Nat)) rfl (World.ownsRow.alloc S1.out.marks _) ⟨wz.heap.size, 0, none⟩ 1 1 [.int .i64 (ls.length : Nat)] rfl (by decide) rfl (news1h _ (by simp)) (by simp [Value.oneCell']) (by unfold maxLen; omega) (by omega) (by have := S1.out.grown0; simp; omega) ?_; intro v9' W4 hown4 hgrow4 hsep4)
            have S4 := Lib.hid (S1.out.mark hown4 hgrow4 hsep4 (by have := hmd'.out; omega))
            clear hown4 hgrow4 hsep4 S1
            go_upto_region 19 with (at_builtin; refine wpList_append_sep _ rfl _ _ 62 rfl W2.heap.size 22 j0 _ 1 24 Try.underlying62 hj0 hy0 hy1 hy2 rfl (by decide) u10 ds.length dv rfl (World.ownsRow.alloc S4.out.stood _) ⟨W4.heap.size, 0, none⟩ 1 1 [.slice g8 n8 c8] rfl (by decide) rfl (news1h _ (by simp)) (by simp [Value.oneCell']) (by unfold maxLen; omega) (by omega) (by have := S4.out.grown0; simp; omega) ?_; intro v10' W5 hown5 hgrow5 hsep5)
            have S5 := Lib.hid (S4.out.stand hown5 hgrow5 hsep5 (by have := hmd'.out; omega) HAL.out)
            clear hown5 hgrow5 hsep5 S4
            have hb5 : Wa.heap.size ≤ W5.heap.size := S5.out.below.size
            have hpz5 : p < W5.heap.size := by omega
            obtain ⟨g9, c9, h9⟩ := own_some S5.out.marks (by simp)
            obtain ⟨g10, c10, h10⟩ := own_some S5.out.stood (by simp)
            subst h9 h10
            have hml : (ms ++ [ls.length]).length = ms.length + 1 := by simp
            have hdl : (ds ++ [m]).length = ms.length + 1 := by have := hmd'.out; simp; omega
            rw [hml] at S5 ⊢
            rw [hdl] at S5 ⊢
            have HRL := Lib.hid S5.out.st.right
            have hle5 := Lib.hid S5.out.le
            have hK5 : K ≤ 1000000 := by omega
            by_cases hrr : A.right = true ∧ Bt.right = true
            rotate_left
            · have HBAD := Lib.hid hrr
              clear hrr
              have hina := HPS.out W5.drew S5.out.below.drew
              have hbad := sunify_bad (W := W5.drew) (sb := sb) (Tm.inn_mono hina.2.2.1 (show w.heap.size ≤ W5.heap.size by omega)) (Tm.inn_mono hina.2.2.2 (show w.heap.size ≤ W5.heap.size by omega)) (by omega) (by omega) HBAD.out
              have HC := Lib.hid hbad
              clear hina hbad
              refine wp_region_held_drew (S := fun W' => W'.cell? ⟨p, po + k * 9, none⟩ = some (.int .i64 A.kind) ∧ W'.cell? ⟨p, po + k * 9 + 1, none⟩ = some (.string A.name) ∧ W'.cell? ⟨p, po + k * 9 + 2, none⟩ = some (.int .i64 A.n) ∧ W'.cell? ⟨p, po + k * 9 + 3, none⟩ = some (.slice ga A.args.length ca) ∧ W'.cell? ⟨p, po + k * 9 + 4, none⟩ = some (.int .i64 Bt.kind) ∧ W'.cell? ⟨p, po + k * 9 + 4 + 1, none⟩ = some (.string Bt.name) ∧ W'.cell? ⟨p, po + k * 9 + 4 + 2, none⟩ = some (.int .i64 Bt.n) ∧ W'.cell? ⟨p, po + k * 9 + 4 + 3, none⟩ = some (.slice gb Bt.args.length cb)) (by kernel_rfl) (HPS.out W5.drew S5.out.below.drew).1 (fun hHeld => ?_)
              refine wpAnyH_take (i := 0) (oi := _) (v := ?_) rfl (by kernel_rfl) (by kernel_rfl) (by kernel_rfl) (fun _ _ _ h => h) (Or.inl ⟨by rfl, ?_⟩) hHeld ?_
              rotate_left
              · (intro w hSw; obtain ⟨c0, c1, c2, c3, d0, d1, d2, d3⟩ := hSw; go_simp; try with_reducible rfl)
              try simp only [Act.put, List.setIfInBounds_toArray, List.set_cons_zero, List.set_cons_succ, List.getElem_toArray, List.getElem_cons_zero]
              refine wpAnyH_take (i := 1) (oi := _) (v := ?_) rfl (by kernel_rfl) (by kernel_rfl) (by kernel_rfl) (fun _ _ _ h => h) (Or.inl ⟨by rfl, ?_⟩) hHeld ?_
              rotate_left
              · (intro w hSw; obtain ⟨c0, c1, c2, c3, d0, d1, d2, d3⟩ := hSw; go_simp; try with_reducible rfl)
              try simp only [Act.put, List.setIfInBounds_toArray, List.set_cons_zero, List.set_cons_succ, List.getElem_toArray, List.getElem_cons_zero, List.getElem_cons_succ]
              refine wpAnyH_take (i := 2) (oi := _) (v := ?_) rfl (by kernel_rfl) (by kernel_rfl) (by kernel_rfl) (fun _ _ _ h => h) (Or.inl ⟨by rfl, ?_⟩) hHeld ?_
              rotate_left
              · (intro w hSw; obtain ⟨c0, c1, c2, c3, d0, d1, d2, d3⟩ := hSw; go_simp; try with_reducible rfl)
              try simp only [Act.put, List.setIfInBounds_toArray, List.set_cons_zero, List.set_cons_succ, List.getElem_toArray, List.getElem_cons_zero, List.getElem_cons_succ]
              refine wpAnyH_take (i := 3) (oi := _) (v := ?_) rfl (by kernel_rfl) (by kernel_rfl) (by kernel_rfl) (fun _ _ _ h => h) (Or.inl ⟨by rfl, ?_⟩) hHeld ?_
              rotate_left
              · (intro w hSw; obtain ⟨c0, c1, c2, c3, d0, d1, d2, d3⟩ := hSw; go_simp; try with_reducible rfl)
              try simp only [Act.put, List.setIfInBounds_toArray, List.set_cons_zero, List.set_cons_succ, List.getElem_toArray, List.getElem_cons_zero, List.getElem_cons_succ]
              refine wpAnyH_take (i := 4) (oi := _) (v := ?_) rfl (by kernel_rfl) (by kernel_rfl) (by kernel_rfl) (fun _ _ _ h => h) (Or.inl ⟨by rfl, ?_⟩) hHeld ?_
              rotate_left
              · (intro w hSw; obtain ⟨c0, c1, c2, c3, d0, d1, d2, d3⟩ := hSw; go_simp; try with_reducible rfl)
              try simp only [Act.put, List.setIfInBounds_toArray, List.set_cons_zero, List.set_cons_succ, List.getElem_toArray, List.getElem_cons_zero, List.getElem_cons_succ]
              refine wpAnyH_take (i := 5) (oi := _) (v := ?_) rfl (by kernel_rfl) (by kernel_rfl) (by kernel_rfl) (fun _ _ _ h => h) (Or.inl ⟨by rfl, ?_⟩) hHeld ?_
              rotate_left
              · (intro w hSw; obtain ⟨c0, c1, c2, c3, d0, d1, d2, d3⟩ := hSw; go_simp; try with_reducible rfl)
              try simp only [Act.put, List.setIfInBounds_toArray, List.set_cons_zero, List.set_cons_succ, List.getElem_toArray, List.getElem_cons_zero, List.getElem_cons_succ]
              refine wpAnyH_take (i := 6) (oi := _) (v := ?_) rfl (by kernel_rfl) (by kernel_rfl) (by kernel_rfl) (fun _ _ _ h => h) (Or.inl ⟨by rfl, ?_⟩) hHeld ?_
              rotate_left
              · (intro w hSw; obtain ⟨c0, c1, c2, c3, d0, d1, d2, d3⟩ := hSw; go_simp; try with_reducible rfl)
              try simp only [Act.put, List.setIfInBounds_toArray, List.set_cons_zero, List.set_cons_succ, List.getElem_toArray, List.getElem_cons_zero, List.getElem_cons_succ]
              refine wpAnyH_take (i := 7) (oi := _) (v := ?_) rfl (by kernel_rfl) (by kernel_rfl) (by kernel_rfl) (fun _ _ _ h => h) (Or.inl ⟨by rfl, ?_⟩) hHeld ?_
              rotate_left
              · (intro w hSw; obtain ⟨c0, c1, c2, c3, d0, d1, d2, d3⟩ := hSw; go_simp; try with_reducible rfl)
              try simp only [Act.put, List.setIfInBounds_toArray, List.set_cons_zero, List.set_cons_succ, List.getElem_toArray, List.getElem_cons_zero, List.getElem_cons_succ]
              refine wpAnyH_take (i := 8) (oi := _) (v := ?_) rfl (by kernel_rfl) (by kernel_rfl) (by kernel_rfl) (fun _ _ _ h => h) (Or.inl ⟨by rfl, ?_⟩) hHeld ?_
              rotate_left
              · (intro w hSw; obtain ⟨c0, c1, c2, c3, d0, d1, d2, d3⟩ := hSw; go_simp; try with_reducible rfl)
              try simp only [Act.put, List.setIfInBounds_toArray, List.set_cons_zero, List.set_cons_succ, List.getElem_toArray, List.getElem_cons_zero, List.getElem_cons_succ]
              refine wpAnyH_take (i := 9) (oi := _) (v := ?_) rfl (by kernel_rfl) (by kernel_rfl) (by kernel_rfl) (fun _ _ _ h => h) (Or.inl ⟨by rfl, ?_⟩) hHeld ?_
              rotate_left
              · (intro w hSw; obtain ⟨c0, c1, c2, c3, d0, d1, d2, d3⟩ := hSw; go_simp; try with_reducible rfl)
              try simp only [Act.put, List.setIfInBounds_toArray, List.set_cons_zero, List.set_cons_succ, List.getElem_toArray, List.getElem_cons_zero, List.getElem_cons_succ]
              refine wpAnyH_take (i := 10) (oi := _) (v := ?_) rfl (by kernel_rfl) (by kernel_rfl) (by kernel_rfl) (fun _ _ _ h => h) (Or.inl ⟨by rfl, ?_⟩) hHeld ?_
              rotate_left
              · (intro w hSw; obtain ⟨c0, c1, c2, c3, d0, d1, d2, d3⟩ := hSw; go_simp; try with_reducible rfl)
              try simp only [Act.put, List.setIfInBounds_toArray, List.set_cons_zero, List.set_cons_succ, List.getElem_toArray, List.getElem_cons_zero, List.getElem_cons_succ]
              refine wpAnyH_ready (rs := [11]) (by kernel_rfl) (by simp) ?_
              refine AllReadyH.cons (o := _) rfl (fun K hK => ?_) (AllReadyH.nil)
              go_simp
              refine HC.out.mono ?_
              rintro e W6 ⟨rfl, hb6⟩
              have S6 := Lib.hid ((S5.out.next (Below.refl _ _).drew).next hb6)
              have HBN := Lib.hid S6.out.below
              clear hb6 S5 HC
              clear hHeld
              go_wp2_with fail
              refine hK.out _ _ ((HPS.out _ HBN.out).1) (fun hHeld => ?_)
              clear hK K
              try simp only [Act.put, List.setIfInBounds_toArray, List.set_cons_zero, List.set_cons_succ, List.getElem_toArray, List.getElem_cons_zero, List.getElem_cons_succ]
              refine wpAnyH_take (i := 12) (oi := _) (v := ?_) rfl (by kernel_rfl) (by kernel_rfl) (by kernel_rfl) (fun _ _ _ h => h) (Or.inl ⟨by rfl, ?_⟩) hHeld ?_
              rotate_left
              · (intro w hSw; obtain ⟨c0, c1, c2, c3, d0, d1, d2, d3⟩ := hSw; go_simp; try with_reducible rfl)
              try simp only [Act.put, List.setIfInBounds_toArray, List.set_cons_zero, List.set_cons_succ, List.getElem_toArray, List.getElem_cons_zero, List.getElem_cons_succ]
              refine wpAnyH_take (i := 13) (oi := _) (v := ?_) rfl (by kernel_rfl) (by kernel_rfl) (by kernel_rfl) (fun _ _ _ h => h) (Or.inl ⟨by rfl, ?_⟩) hHeld ?_
              rotate_left
              · (intro w hSw; obtain ⟨c0, c1, c2, c3, d0, d1, d2, d3⟩ := hSw; go_simp; try with_reducible rfl)
              try simp only [Act.put, List.setIfInBounds_toArray, List.set_cons_zero, List.set_cons_succ, List.getElem_toArray, List.getElem_cons_zero, List.getElem_cons_succ]
              refine wpAnyH_take (i := 14) (oi := _) (v := ?_) rfl (by kernel_rfl) (by kernel_rfl) (by kernel_rfl) (fun _ _ _ h => h) (Or.inl ⟨by rfl, ?_⟩) hHeld ?_
              rotate_left
              · (intro w hSw; obtain ⟨c0, c1, c2, c3, d0, d1, d2, d3⟩ := hSw; go_simp; try with_reducible rfl)
              try simp only [Act.put, List.setIfInBounds_toArray, List.set_cons_zero, List.set_cons_succ, List.getElem_toArray, List.getElem_cons_zero, List.getElem_cons_succ]
              refine wpAnyH_ready (rs := [15]) (by kernel_rfl) (by simp) ?_
              refine AllReadyH.cons (o := _) rfl (fun K hK => ?_) (AllReadyH.nil)
              go_simp
              refine hK.out _ _ (hHeld) (fun hHeld => ?_)
              clear hK K
              try simp only [Act.put, List.setIfInBounds_toArray, List.set_cons_zero, List.set_cons_succ, List.getElem_toArray, List.getElem_cons_zero, List.getElem_cons_succ]
              refine wpAnyH_ready (rs := [16]) (by kernel_rfl) (by simp) ?_
              refine AllReadyH.cons (o := _) rfl (fun K hK => ?_) (AllReadyH.nil)
              go_simp
              refine hK.out _ _ (hHeld) (fun hHeld => ?_)
              clear hK K
              try simp only [Act.put, List.setIfInBounds_toArray, List.set_cons_zero, List.set_cons_succ, List.getElem_toArray, List.getElem_cons_zero, List.getElem_cons_succ]
              refine wpAnyH_done (by kernel_rfl) ?_ _
              clear hHeld
              obtain ⟨⟨x0, x1, x2, x3, y0, y1, y2, y3⟩, z0, inA, inB⟩ := HPS.out W6 S6.out.below
              have HIA := Lib.hid inA
              have HIB := Lib.hid inB
              clear inA inB
              have hpw : p < W6.heap.size := by have := S6.out.below.size; omega
              go_wp2_with fail
              refine (rright_any A W6 w.heap.size _ (by have := S6.out.below.size; omega) HIA.out (by omega)).mono ?_
              rintro e W7 ⟨rfl, hb7⟩
              have S7 := Lib.hid (S6.out.next hb7)
              clear hb7 S6
              clear x0 x1 x2 x3 y0 y1 y2 y3 z0 HIA HIB hpw
              obtain ⟨K1, hK1⟩ : ∃ x, K = x := ⟨_, rfl⟩
              cases hra : A.right with
              | false =>
                clear hra
                obtain ⟨W9, hW9⟩ : ∃ x, x = W7 := ⟨_, rfl⟩
                subst hW9
                have S9 := Lib.hid S7.out
                have A9 := Lib.hid HAL.out
                have HT9 := Lib.hid (show ls.take ls.length = ls ∧ ls.length ≤ ls.length from ⟨List.take_length, Nat.le_refl _⟩)
                clear S7
                obtain ⟨⟨x0, x1, x2, x3, y0, y1, y2, y3⟩, z0, inA, inB⟩ := HPS.out W9 S9.out.below
                have HIA := Lib.hid inA
                have HIB := Lib.hid inB
                clear inA inB
                have hpw : p < W9.heap.size := by have := S9.out.below.size; omega
                cases bk with
                | false =>
                  go_wp2_with fail
                  go_roundw
                  case rel => exact ⟨k + 1, K, ls, svS, mv, xs, m, ms ++ [ls.length], ds ++ [m], dv ++ [Value.slice g8 n8 c8], by omega, by go_num, S9.out, A9.out, by have := hmd'.out; simp; omega, by simp; omega, by omega⟩
                  case measure => simp [intOf]; omega
                | true =>
                  obtain ⟨q0, q1, q2, q3, q6, q7⟩ := S9.out.cells hmd'.out
                  have hc1 : (ms.length : Int) ≤ (c9 : Int) := by omega
                  have hc2 : (ms.length : Int) ≤ (c10 : Int) := by omega
                  have hc3 : ¬ c9 = 0 := by omega
                  have hc4 : ¬ c10 = 0 := by omega
                  clear q6 q7
                  have hm0 : (0 : Int) ≤ (ms.length : Int) := by omega
                  have hm1 : (ms.length : Int) < ((ms.length + 1 : Nat) : Int) := by omega
                  have hm2 : (ms.length : Int) < (ms.length : Int) + 1 := by omega
                  have hm3 : ms.length ≤ 12 := by omega
                  have hun := undo_any (i := ls.length) S9.out.st HT9.out.2 (by rw [HT9.out.1]; exact HRL.out)
                  have HUN := Lib.hid hun
                  clear hun
                  go_wp2_with fail
                  refine HUN.out.mono ?_
                  rintro e W10 ⟨rfl, svS2, xs2, hst10, hsf10⟩
                  have hg10 : W10.heap[g10]? = W9.heap[g10]? := hsf10.block g10 q3 (S9.out.sep3 g10 rfl)
                  have q4 : W10.cell? ⟨g10, ms.length, none⟩ = some (.slice g8 n8 c8) := (World.cell?_of_block (a := ⟨g10, ms.length, none⟩) hg10).trans q2
                  have q5 : g10 < W10.heap.size := Nat.lt_of_lt_of_le q3 hsf10.size
                  have S10 := Lib.hid (S9.out.back hmd'.out HT9.out.1 hst10 hsf10)
                  clear hst10 hsf10 hg10 q0 q1 q2 q3 HUN x0 x1 x2 x3 y0 y1 y2 y3 z0 hpw S9
                  go_wp2_with fail
                  go_roundw
                  case rel => exact ⟨k + 1, K, ls, svS2, mv, xs2, m, ms, ds, dv, by omega, by go_num, S10.out, HAL.out, hmd'.out, by omega, by omega⟩
                  case measure => simp [intOf]; omega
              | true =>
                have hrb : Bt.right = false := by
                  cases h : Bt.right with
                  | false => rfl
                  | true => exact absurd ⟨hra, h⟩ HBAD.out
                have HRB := Lib.hid hrb
                clear hra hrb
                obtain ⟨⟨x0, x1, x2, x3, y0, y1, y2, y3⟩, z0, inA, inB⟩ := HPS.out W7 S7.out.below
                have HIA := Lib.hid inA
                have HIB := Lib.hid inB
                clear inA inB
                have hpw : p < W7.heap.size := by have := S7.out.below.size; omega
                go_wp2_with fail
                refine (rright_any Bt W7 w.heap.size _ (by have := S7.out.below.size; omega) HIB.out (by omega)).mono ?_
                rintro e W9 ⟨rfl, hb9⟩
                rw [HRB.out]
                have S9 := Lib.hid (S7.out.next hb9)
                have A9 := Lib.hid HAL.out
                have HT9 := Lib.hid (show ls.take ls.length = ls ∧ ls.length ≤ ls.length from ⟨List.take_length, Nat.le_refl _⟩)
                clear hb9 S7
                clear x0 x1 x2 x3 y0 y1 y2 y3 z0 HIA HIB hpw
                obtain ⟨⟨x0, x1, x2, x3, y0, y1, y2, y3⟩, z0, inA, inB⟩ := HPS.out W9 S9.out.below
                have HIA := Lib.hid inA
                have HIB := Lib.hid inB
                clear inA inB
                have hpw : p < W9.heap.size := by have := S9.out.below.size; omega
                cases bk with
                | false =>
                  go_wp2_with fail
                  go_roundw
                  case rel => exact ⟨k + 1, K, ls, svS, mv, xs, m, ms ++ [ls.length], ds ++ [m], dv ++ [Value.slice g8 n8 c8], by omega, by go_num, S9.out, A9.out, by have := hmd'.out; simp; omega, by simp; omega, by omega⟩
                  case measure => simp [intOf]; omega
                | true =>
                  obtain ⟨q0, q1, q2, q3, q6, q7⟩ := S9.out.cells hmd'.out
                  have hc1 : (ms.length : Int) ≤ (c9 : Int) := by omega
                  have hc2 : (ms.length : Int) ≤ (c10 : Int) := by omega
                  have hc3 : ¬ c9 = 0 := by omega
                  have hc4 : ¬ c10 = 0 := by omega
                  clear q6 q7
                  have hm0 : (0 : Int) ≤ (ms.length : Int) := by omega
                  have hm1 : (ms.length : Int) < ((ms.length + 1 : Nat) : Int) := by omega
                  have hm2 : (ms.length : Int) < (ms.length : Int) + 1 := by omega
                  have hm3 : ms.length ≤ 12 := by omega
                  have hun := undo_any (i := ls.length) S9.out.st HT9.out.2 (by rw [HT9.out.1]; exact HRL.out)
                  have HUN := Lib.hid hun
                  clear hun
                  go_wp2_with fail
                  refine HUN.out.mono ?_
                  rintro e W10 ⟨rfl, svS2, xs2, hst10, hsf10⟩
                  have hg10 : W10.heap[g10]? = W9.heap[g10]? := hsf10.block g10 q3 (S9.out.sep3 g10 rfl)
                  have q4 : W10.cell? ⟨g10, ms.length, none⟩ = some (.slice g8 n8 c8) := (World.cell?_of_block (a := ⟨g10, ms.length, none⟩) hg10).trans q2
                  have q5 : g10 < W10.heap.size := Nat.lt_of_lt_of_le q3 hsf10.size
                  have S10 := Lib.hid (S9.out.back hmd'.out HT9.out.1 hst10 hsf10)
                  clear hst10 hsf10 hg10 q0 q1 q2 q3 HUN x0 x1 x2 x3 y0 y1 y2 y3 z0 hpw S9
                  go_wp2_with fail
                  go_roundw
                  case rel => exact ⟨k + 1, K, ls, svS2, mv, xs2, m, ms, ds, dv, by omega, by go_num, S10.out, HAL.out, hmd'.out, by omega, by omega⟩
                  case measure => simp [intOf]; omega
            obtain ⟨hra, hrb⟩ := hrr
            have HRA := Lib.hid hra
            have HRB := Lib.hid hrb
            clear hra hrb
            have hina := HPS.out W5.drew S5.out.below.drew
            have S5d := S5.out.next (Below.refl _ _).drew
            have hcall := sunify_any S5d.st S5d.inV (by omega) hK5 HRA.out HRB.out HVAA.out HVBB.out (Tm.inn_mono hina.2.2.1 (show w.heap.size ≤ Wa.heap.size by omega)) (Tm.inn_mono hina.2.2.2 (show w.heap.size ≤ Wa.heap.size by omega))
            have HC := Lib.hid hcall
            have S5D := Lib.hid S5d
            clear hina hcall S5d
            refine wp_region_held_drew (S := fun W' => W'.cell? ⟨p, po + k * 9, none⟩ = some (.int .i64 A.kind) ∧ W'.cell? ⟨p, po + k * 9 + 1, none⟩ = some (.string A.name) ∧ W'.cell? ⟨p, po + k * 9 + 2, none⟩ = some (.int .i64 A.n) ∧ W'.cell? ⟨p, po + k * 9 + 3, none⟩ = some (.slice ga A.args.length ca) ∧ W'.cell? ⟨p, po + k * 9 + 4, none⟩ = some (.int .i64 Bt.kind) ∧ W'.cell? ⟨p, po + k * 9 + 4 + 1, none⟩ = some (.string Bt.name) ∧ W'.cell? ⟨p, po + k * 9 + 4 + 2, none⟩ = some (.int .i64 Bt.n) ∧ W'.cell? ⟨p, po + k * 9 + 4 + 3, none⟩ = some (.slice gb Bt.args.length cb)) (by kernel_rfl) (HPS.out W5.drew S5.out.below.drew).1 (fun hHeld => ?_)
            refine wpAnyH_take (i := 0) (oi := _) (v := ?_) rfl (by kernel_rfl) (by kernel_rfl) (by kernel_rfl) (fun _ _ _ h => h) (Or.inl ⟨by rfl, ?_⟩) hHeld ?_
            rotate_left
            · (intro w hSw; obtain ⟨c0, c1, c2, c3, d0, d1, d2, d3⟩ := hSw; go_simp; try with_reducible rfl)
            try simp only [Act.put, List.setIfInBounds_toArray, List.set_cons_zero, List.set_cons_succ, List.getElem_toArray, List.getElem_cons_zero]
            refine wpAnyH_take (i := 1) (oi := _) (v := ?_) rfl (by kernel_rfl) (by kernel_rfl) (by kernel_rfl) (fun _ _ _ h => h) (Or.inl ⟨by rfl, ?_⟩) hHeld ?_
            rotate_left
            · (intro w hSw; obtain ⟨c0, c1, c2, c3, d0, d1, d2, d3⟩ := hSw; go_simp; try with_reducible rfl)
            try simp only [Act.put, List.setIfInBounds_toArray, List.set_cons_zero, List.set_cons_succ, List.getElem_toArray, List.getElem_cons_zero, List.getElem_cons_succ]
            refine wpAnyH_take (i := 2) (oi := _) (v := ?_) rfl (by kernel_rfl) (by kernel_rfl) (by kernel_rfl) (fun _ _ _ h => h) (Or.inl ⟨by rfl, ?_⟩) hHeld ?_
            rotate_left
            · (intro w hSw; obtain ⟨c0, c1, c2, c3, d0, d1, d2, d3⟩ := hSw; go_simp; try with_reducible rfl)
            try simp only [Act.put, List.setIfInBounds_toArray, List.set_cons_zero, List.set_cons_succ, List.getElem_toArray, List.getElem_cons_zero, List.getElem_cons_succ]
            refine wpAnyH_take (i := 3) (oi := _) (v := ?_) rfl (by kernel_rfl) (by kernel_rfl) (by kernel_rfl) (fun _ _ _ h => h) (Or.inl ⟨by rfl, ?_⟩) hHeld ?_
            rotate_left
            · (intro w hSw; obtain ⟨c0, c1, c2, c3, d0, d1, d2, d3⟩ := hSw; go_simp; try with_reducible rfl)
            try simp only [Act.put, List.setIfInBounds_toArray, List.set_cons_zero, List.set_cons_succ, List.getElem_toArray, List.getElem_cons_zero, List.getElem_cons_succ]
            refine wpAnyH_take (i := 4) (oi := _) (v := ?_) rfl (by kernel_rfl) (by kernel_rfl) (by kernel_rfl) (fun _ _ _ h => h) (Or.inl ⟨by rfl, ?_⟩) hHeld ?_
            rotate_left
            · (intro w hSw; obtain ⟨c0, c1, c2, c3, d0, d1, d2, d3⟩ := hSw; go_simp; try with_reducible rfl)
            try simp only [Act.put, List.setIfInBounds_toArray, List.set_cons_zero, List.set_cons_succ, List.getElem_toArray, List.getElem_cons_zero, List.getElem_cons_succ]
            refine wpAnyH_take (i := 5) (oi := _) (v := ?_) rfl (by kernel_rfl) (by kernel_rfl) (by kernel_rfl) (fun _ _ _ h => h) (Or.inl ⟨by rfl, ?_⟩) hHeld ?_
            rotate_left
            · (intro w hSw; obtain ⟨c0, c1, c2, c3, d0, d1, d2, d3⟩ := hSw; go_simp; try with_reducible rfl)
            try simp only [Act.put, List.setIfInBounds_toArray, List.set_cons_zero, List.set_cons_succ, List.getElem_toArray, List.getElem_cons_zero, List.getElem_cons_succ]
            refine wpAnyH_take (i := 6) (oi := _) (v := ?_) rfl (by kernel_rfl) (by kernel_rfl) (by kernel_rfl) (fun _ _ _ h => h) (Or.inl ⟨by rfl, ?_⟩) hHeld ?_
            rotate_left
            · (intro w hSw; obtain ⟨c0, c1, c2, c3, d0, d1, d2, d3⟩ := hSw; go_simp; try with_reducible rfl)
            try simp only [Act.put, List.setIfInBounds_toArray, List.set_cons_zero, List.set_cons_succ, List.getElem_toArray, List.getElem_cons_zero, List.getElem_cons_succ]
            refine wpAnyH_take (i := 7) (oi := _) (v := ?_) rfl (by kernel_rfl) (by kernel_rfl) (by kernel_rfl) (fun _ _ _ h => h) (Or.inl ⟨by rfl, ?_⟩) hHeld ?_
            rotate_left
            · (intro w hSw; obtain ⟨c0, c1, c2, c3, d0, d1, d2, d3⟩ := hSw; go_simp; try with_reducible rfl)
            try simp only [Act.put, List.setIfInBounds_toArray, List.set_cons_zero, List.set_cons_succ, List.getElem_toArray, List.getElem_cons_zero, List.getElem_cons_succ]
            refine wpAnyH_take (i := 8) (oi := _) (v := ?_) rfl (by kernel_rfl) (by kernel_rfl) (by kernel_rfl) (fun _ _ _ h => h) (Or.inl ⟨by rfl, ?_⟩) hHeld ?_
            rotate_left
            · (intro w hSw; obtain ⟨c0, c1, c2, c3, d0, d1, d2, d3⟩ := hSw; go_simp; try with_reducible rfl)
            try simp only [Act.put, List.setIfInBounds_toArray, List.set_cons_zero, List.set_cons_succ, List.getElem_toArray, List.getElem_cons_zero, List.getElem_cons_succ]
            refine wpAnyH_take (i := 9) (oi := _) (v := ?_) rfl (by kernel_rfl) (by kernel_rfl) (by kernel_rfl) (fun _ _ _ h => h) (Or.inl ⟨by rfl, ?_⟩) hHeld ?_
            rotate_left
            · (intro w hSw; obtain ⟨c0, c1, c2, c3, d0, d1, d2, d3⟩ := hSw; go_simp; try with_reducible rfl)
            try simp only [Act.put, List.setIfInBounds_toArray, List.set_cons_zero, List.set_cons_succ, List.getElem_toArray, List.getElem_cons_zero, List.getElem_cons_succ]
            refine wpAnyH_take (i := 10) (oi := _) (v := ?_) rfl (by kernel_rfl) (by kernel_rfl) (by kernel_rfl) (fun _ _ _ h => h) (Or.inl ⟨by rfl, ?_⟩) hHeld ?_
            rotate_left
            · (intro w hSw; obtain ⟨c0, c1, c2, c3, d0, d1, d2, d3⟩ := hSw; go_simp; try with_reducible rfl)
            try simp only [Act.put, List.setIfInBounds_toArray, List.set_cons_zero, List.set_cons_succ, List.getElem_toArray, List.getElem_cons_zero, List.getElem_cons_succ]
            refine wpAnyH_ready (rs := [11]) (by kernel_rfl) (by simp) ?_
            refine AllReadyH.cons (o := _) rfl (fun K hK => ?_) (AllReadyH.nil)
            go_simp
            refine HC.out.mono ?_
            rintro e W6 ⟨q, L1, K1, svS1, mv1, xs1, rfl, hst6, hsf6, hK6, hV6, hc6⟩
            have htk6 : L1.take ls.length = ls ∧ ls.length ≤ L1.length ∧ (∀ n, n ≤ ls.length → L1.take n = ls.take n) := by
              rcases hc6 with ⟨_, _, bs, rfl⟩ | ⟨_, _, rfl⟩
              · exact ⟨by simp, by simp, fun n hn => by rw [List.take_append_of_le_length hn]⟩
              · exact ⟨List.take_length, Nat.le_refl _, fun n _ => rfl⟩
            have S6 := Lib.hid (S5D.out.wrote hst6 hsf6 hV6 (fun i hi => Nat.le_trans (S5.out.le i hi) htk6.2.1) (fun i hi => htk6.2.2 _ (S5.out.le i hi)))
            have HT9 := Lib.hid (And.intro htk6.1 htk6.2.1)
            have HQ := Lib.hid (show (q = true ∧ MguOf ls A Bt L1) ∨ (q = false ∧ NoMgu ls A Bt ∧ L1 = ls) from hc6.imp (fun h => ⟨h.1, h.2.1⟩) id)
            have HBN := Lib.hid S6.out.below
            clear hst6 hsf6 hV6 hc6 htk6 S5 S5D HC
            clear hHeld
            go_wp2_with fail
            refine hK.out _ _ ((HPS.out _ HBN.out).1) (fun hHeld => ?_)
            clear hK K
            try simp only [Act.put, List.setIfInBounds_toArray, List.set_cons_zero, List.set_cons_succ, List.getElem_toArray, List.getElem_cons_zero, List.getElem_cons_succ]
            refine wpAnyH_take (i := 12) (oi := _) (v := ?_) rfl (by kernel_rfl) (by kernel_rfl) (by kernel_rfl) (fun _ _ _ h => h) (Or.inl ⟨by rfl, ?_⟩) hHeld ?_
            rotate_left
            · (intro w hSw; obtain ⟨c0, c1, c2, c3, d0, d1, d2, d3⟩ := hSw; go_simp; try with_reducible rfl)
            try simp only [Act.put, List.setIfInBounds_toArray, List.set_cons_zero, List.set_cons_succ, List.getElem_toArray, List.getElem_cons_zero, List.getElem_cons_succ]
            refine wpAnyH_take (i := 13) (oi := _) (v := ?_) rfl (by kernel_rfl) (by kernel_rfl) (by kernel_rfl) (fun _ _ _ h => h) (Or.inl ⟨by rfl, ?_⟩) hHeld ?_
            rotate_left
            · (intro w hSw; obtain ⟨c0, c1, c2, c3, d0, d1, d2, d3⟩ := hSw; go_simp; try with_reducible rfl)
            try simp only [Act.put, List.setIfInBounds_toArray, List.set_cons_zero, List.set_cons_succ, List.getElem_toArray, List.getElem_cons_zero, List.getElem_cons_succ]
            refine wpAnyH_take (i := 14) (oi := _) (v := ?_) rfl (by kernel_rfl) (by kernel_rfl) (by kernel_rfl) (fun _ _ _ h => h) (Or.inl ⟨by rfl, ?_⟩) hHeld ?_
            rotate_left
            · (intro w hSw; obtain ⟨c0, c1, c2, c3, d0, d1, d2, d3⟩ := hSw; go_simp; try with_reducible rfl)
            try simp only [Act.put, List.setIfInBounds_toArray, List.set_cons_zero, List.set_cons_succ, List.getElem_toArray, List.getElem_cons_zero, List.getElem_cons_succ]
            refine wpAnyH_ready (rs := [15]) (by kernel_rfl) (by simp) ?_
            refine AllReadyH.cons (o := _) rfl (fun K hK => ?_) (AllReadyH.nil)
            go_simp
            refine hK.out _ _ (hHeld) (fun hHeld => ?_)
            clear hK K
            try simp only [Act.put, List.setIfInBounds_toArray, List.set_cons_zero, List.set_cons_succ, List.getElem_toArray, List.getElem_cons_zero, List.getElem_cons_succ]
            refine wpAnyH_ready (rs := [16]) (by kernel_rfl) (by simp) ?_
            refine AllReadyH.cons (o := _) rfl (fun K hK => ?_) (AllReadyH.nil)
            go_simp
            refine hK.out _ _ (hHeld) (fun hHeld => ?_)
            clear hK K
            try simp only [Act.put, List.setIfInBounds_toArray, List.set_cons_zero, List.set_cons_succ, List.getElem_toArray, List.getElem_cons_zero, List.getElem_cons_succ]
            refine wpAnyH_done (by kernel_rfl) ?_ _
            clear hHeld
            obtain ⟨⟨x0, x1, x2, x3, y0, y1, y2, y3⟩, z0, inA, inB⟩ := HPS.out W6 S6.out.below
            have HIA := Lib.hid inA
            have HIB := Lib.hid inB
            clear inA inB
            have hpw : p < W6.heap.size := by have := S6.out.below.size; omega
            go_wp2_with fail
            refine (rright_any A W6 w.heap.size _ (by have := S6.out.below.size; omega) HIA.out (by omega)).mono ?_
            rintro e W7 ⟨rfl, hb7⟩
            have S7 := Lib.hid (S6.out.next hb7)
            clear hb7 S6
            clear x0 x1 x2 x3 y0 y1 y2 y3 z0 HIA HIB hpw
            rw [HRA.out]
            obtain ⟨⟨x0, x1, x2, x3, y0, y1, y2, y3⟩, z0, inA, inB⟩ := HPS.out W7 S7.out.below
            have HIA := Lib.hid inA
            have HIB := Lib.hid inB
            clear inA inB
            have hpw : p < W7.heap.size := by have := S7.out.below.size; omega
            go_wp2_with fail
            refine (rright_any Bt W7 w.heap.size _ (by have := S7.out.below.size; omega) HIB.out (by omega)).mono ?_
            rintro e W8 ⟨rfl, hb8⟩
            rw [HRB.out]
            have S8 := Lib.hid (S7.out.next hb8)
            clear hb8 S7
            clear x0 x1 x2 x3 y0 y1 y2 y3 z0 HIA HIB hpw
            go_wp2_with fail
            have hina := HPS.out W8.drew S8.out.below.drew
            have S8d := S8.out.next (Below.refl _ _).drew
            have hun := runify_any (ok := fun b => ¬ owned sb svS1 mv1 b ∧ (Value.slice (some ⟨g9, 0, none⟩) (ms.length + 1) c9).ownBlock ≠ some b ∧ (Value.slice (some ⟨g10, 0, none⟩) (ms.length + 1) c10).ownBlock ≠ some b) (B := Wa.heap.size) S8d.rm HRA.out HRB.out S8d.below.size S8d.now (Tm.inn_mono hina.2.2.1 (show w.heap.size ≤ Wa.heap.size by omega)) (Tm.inn_mono hina.2.2.2 (show w.heap.size ≤ Wa.heap.size by omega))
            have HC := Lib.hid hun
            have S8D := Lib.hid S8d
            clear hina hun S8d
            refine wp_region_held_drew (S := fun W' => W'.cell? ⟨p, po + k * 9, none⟩ = some (.int .i64 A.kind) ∧ W'.cell? ⟨p, po + k * 9 + 1, none⟩ = some (.string A.name) ∧ W'.cell? ⟨p, po + k * 9 + 2, none⟩ = some (.int .i64 A.n) ∧ W'.cell? ⟨p, po + k * 9 + 3, none⟩ = some (.slice ga A.args.length ca) ∧ W'.cell? ⟨p, po + k * 9 + 4, none⟩ = some (.int .i64 Bt.kind) ∧ W'.cell? ⟨p, po + k * 9 + 4 + 1, none⟩ = some (.string Bt.name) ∧ W'.cell? ⟨p, po + k * 9 + 4 + 2, none⟩ = some (.int .i64 Bt.n) ∧ W'.cell? ⟨p, po + k * 9 + 4 + 3, none⟩ = some (.slice gb Bt.args.length cb)) (by kernel_rfl) (HPS.out W8.drew S8.out.below.drew).1 (fun hHeld => ?_)
            refine wpAnyH_take (i := 0) (oi := _) (v := ?_) rfl (by kernel_rfl) (by kernel_rfl) (by kernel_rfl) (fun _ _ _ h => h) (Or.inl ⟨by rfl, ?_⟩) hHeld ?_
            rotate_left
            · (intro w hSw; obtain ⟨c0, c1, c2, c3, d0, d1, d2, d3⟩ := hSw; go_simp; try with_reducible rfl)
            try simp only [Act.put, List.setIfInBounds_toArray, List.set_cons_zero, List.set_cons_succ, List.getElem_toArray, List.getElem_cons_zero]
            refine wpAnyH_take (i := 1) (oi := _) (v := ?_) rfl (by kernel_rfl) (by kernel_rfl) (by kernel_rfl) (fun _ _ _ h => h) (Or.inl ⟨by rfl, ?_⟩) hHeld ?_
            rotate_left
            · (intro w hSw; obtain ⟨c0, c1, c2, c3, d0, d1, d2, d3⟩ := hSw; go_simp; try with_reducible rfl)
            try simp only [Act.put, List.setIfInBounds_toArray, List.set_cons_zero, List.set_cons_succ, List.getElem_toArray, List.getElem_cons_zero, List.getElem_cons_succ]
            refine wpAnyH_take (i := 2) (oi := _) (v := ?_) rfl (by kernel_rfl) (by kernel_rfl) (by kernel_rfl) (fun _ _ _ h => h) (Or.inl ⟨by rfl, ?_⟩) hHeld ?_
            rotate_left
            · (intro w hSw; obtain ⟨c0, c1, c2, c3, d0, d1, d2, d3⟩ := hSw; go_simp; try with_reducible rfl)
            try simp only [Act.put, List.setIfInBounds_toArray, List.set_cons_zero, List.set_cons_succ, List.getElem_toArray, List.getElem_cons_zero, List.getElem_cons_succ]
            refine wpAnyH_take (i := 3) (oi := _) (v := ?_) rfl (by kernel_rfl) (by kernel_rfl) (by kernel_rfl) (fun _ _ _ h => h) (Or.inl ⟨by rfl, ?_⟩) hHeld ?_
            rotate_left
            · (intro w hSw; obtain ⟨c0, c1, c2, c3, d0, d1, d2, d3⟩ := hSw; go_simp; try with_reducible rfl)
            try simp only [Act.put, List.setIfInBounds_toArray, List.set_cons_zero, List.set_cons_succ, List.getElem_toArray, List.getElem_cons_zero, List.getElem_cons_succ]
            refine wpAnyH_take (i := 4) (oi := _) (v := ?_) rfl (by kernel_rfl) (by kernel_rfl) (by kernel_rfl) (fun _ _ _ h => h) (Or.inl ⟨by rfl, ?_⟩) hHeld ?_
            rotate_left
            · (intro w hSw; obtain ⟨c0, c1, c2, c3, d0, d1, d2, d3⟩ := hSw; go_simp; try with_reducible rfl)
            try simp only [Act.put, List.setIfInBounds_toArray, List.set_cons_zero, List.set_cons_succ, List.getElem_toArray, List.getElem_cons_zero, List.getElem_cons_succ]
            refine wpAnyH_take (i := 5) (oi := _) (v := ?_) rfl (by kernel_rfl) (by kernel_rfl) (by kernel_rfl) (fun _ _ _ h => h) (Or.inl ⟨by rfl, ?_⟩) hHeld ?_
            rotate_left
            · (intro w hSw; obtain ⟨c0, c1, c2, c3, d0, d1, d2, d3⟩ := hSw; go_simp; try with_reducible rfl)
            try simp only [Act.put, List.setIfInBounds_toArray, List.set_cons_zero, List.set_cons_succ, List.getElem_toArray, List.getElem_cons_zero, List.getElem_cons_succ]
            refine wpAnyH_take (i := 6) (oi := _) (v := ?_) rfl (by kernel_rfl) (by kernel_rfl) (by kernel_rfl) (fun _ _ _ h => h) (Or.inl ⟨by rfl, ?_⟩) hHeld ?_
            rotate_left
            · (intro w hSw; obtain ⟨c0, c1, c2, c3, d0, d1, d2, d3⟩ := hSw; go_simp; try with_reducible rfl)
            try simp only [Act.put, List.setIfInBounds_toArray, List.set_cons_zero, List.set_cons_succ, List.getElem_toArray, List.getElem_cons_zero, List.getElem_cons_succ]
            refine wpAnyH_take (i := 7) (oi := _) (v := ?_) rfl (by kernel_rfl) (by kernel_rfl) (by kernel_rfl) (fun _ _ _ h => h) (Or.inl ⟨by rfl, ?_⟩) hHeld ?_
            rotate_left
            · (intro w hSw; obtain ⟨c0, c1, c2, c3, d0, d1, d2, d3⟩ := hSw; go_simp; try with_reducible rfl)
            try simp only [Act.put, List.setIfInBounds_toArray, List.set_cons_zero, List.set_cons_succ, List.getElem_toArray, List.getElem_cons_zero, List.getElem_cons_succ]
            refine wpAnyH_take (i := 8) (oi := _) (v := ?_) rfl (by kernel_rfl) (by kernel_rfl) (by kernel_rfl) (fun _ _ _ h => h) (Or.inl ⟨by rfl, ?_⟩) hHeld ?_
            rotate_left
            · (intro w hSw; obtain ⟨c0, c1, c2, c3, d0, d1, d2, d3⟩ := hSw; go_simp; try with_reducible rfl)
            try simp only [Act.put, List.setIfInBounds_toArray, List.set_cons_zero, List.set_cons_succ, List.getElem_toArray, List.getElem_cons_zero, List.getElem_cons_succ]
            refine wpAnyH_take (i := 9) (oi := _) (v := ?_) rfl (by kernel_rfl) (by kernel_rfl) (by kernel_rfl) (fun _ _ _ h => h) (Or.inl ⟨by rfl, ?_⟩) hHeld ?_
            rotate_left
            · (intro w hSw; obtain ⟨c0, c1, c2, c3, d0, d1, d2, d3⟩ := hSw; go_simp; try with_reducible rfl)
            try simp only [Act.put, List.setIfInBounds_toArray, List.set_cons_zero, List.set_cons_succ, List.getElem_toArray, List.getElem_cons_zero, List.getElem_cons_succ]
            refine wpAnyH_take (i := 10) (oi := _) (v := ?_) rfl (by kernel_rfl) (by kernel_rfl) (by kernel_rfl) (fun _ _ _ h => h) (Or.inl ⟨by rfl, ?_⟩) hHeld ?_
            rotate_left
            · (intro w hSw; obtain ⟨c0, c1, c2, c3, d0, d1, d2, d3⟩ := hSw; go_simp; try with_reducible rfl)
            try simp only [Act.put, List.setIfInBounds_toArray, List.set_cons_zero, List.set_cons_succ, List.getElem_toArray, List.getElem_cons_zero, List.getElem_cons_succ]
            refine wpAnyH_ready (rs := [11]) (by kernel_rfl) (by simp) ?_
            refine AllReadyH.cons (o := _) rfl (fun K hK => ?_) (AllReadyH.nil)
            go_simp
            refine HC.out.mono ?_
            rintro e W9 ⟨svd, q2, rfl, hb9, hcd⟩
            have S9 := Lib.hid (S8D.out.next hb9)
            have hsz8 := hb9.size
            have HD := Lib.hid hcd
            have HBN := Lib.hid S9.out.below
            have HLT := Lib.hid (show ∀ b, W8.drew.heap.size ≤ b → ¬ owned sb svS1 mv1 b ∧ (Value.slice (some ⟨g9, 0, none⟩) (ms.length + 1) c9).ownBlock ≠ some b ∧ (Value.slice (some ⟨g10, 0, none⟩) (ms.length + 1) c10).ownBlock ≠ some b from fun b hb => ⟨fun ho => by have := (S8D.out.blt ho).2; omega, fun e => by have := (S8D.out.marks.lt b e).2; omega, fun e => by have := (S8D.out.stood.lt b e).2; omega⟩)
            clear hb9 hcd S8 S8D HC
            clear hHeld
            go_wp2_with fail
            refine hK.out _ _ ((HPS.out _ HBN.out).1) (fun hHeld => ?_)
            clear hK K
            try simp only [Act.put, List.setIfInBounds_toArray, List.set_cons_zero, List.set_cons_succ, List.getElem_toArray, List.getElem_cons_zero, List.getElem_cons_succ]
            refine wpAnyH_take (i := 12) (oi := _) (v := ?_) rfl (by kernel_rfl) (by kernel_rfl) (by kernel_rfl) (fun _ _ _ h => h) (Or.inl ⟨by rfl, ?_⟩) hHeld ?_
            rotate_left
            · (intro w hSw; obtain ⟨c0, c1, c2, c3, d0, d1, d2, d3⟩ := hSw; go_simp; try with_reducible rfl)
            try simp only [Act.put, List.setIfInBounds_toArray, List.set_cons_zero, List.set_cons_succ, List.getElem_toArray, List.getElem_cons_zero, List.getElem_cons_succ]
            refine wpAnyH_take (i := 13) (oi := _) (v := ?_) rfl (by kernel_rfl) (by kernel_rfl) (by kernel_rfl) (fun _ _ _ h => h) (Or.inl ⟨by rfl, ?_⟩) hHeld ?_
            rotate_left
            · (intro w hSw; obtain ⟨c0, c1, c2, c3, d0, d1, d2, d3⟩ := hSw; go_simp; try with_reducible rfl)
            try simp only [Act.put, List.setIfInBounds_toArray, List.set_cons_zero, List.set_cons_succ, List.getElem_toArray, List.getElem_cons_zero, List.getElem_cons_succ]
            refine wpAnyH_take (i := 14) (oi := _) (v := ?_) rfl (by kernel_rfl) (by kernel_rfl) (by kernel_rfl) (fun _ _ _ h => h) (Or.inl ⟨by rfl, ?_⟩) hHeld ?_
            rotate_left
            · (intro w hSw; obtain ⟨c0, c1, c2, c3, d0, d1, d2, d3⟩ := hSw; go_simp; try with_reducible rfl)
            try simp only [Act.put, List.setIfInBounds_toArray, List.set_cons_zero, List.set_cons_succ, List.getElem_toArray, List.getElem_cons_zero, List.getElem_cons_succ]
            refine wpAnyH_ready (rs := [15]) (by kernel_rfl) (by simp) ?_
            refine AllReadyH.cons (o := _) rfl (fun K hK => ?_) (AllReadyH.nil)
            go_simp
            refine hK.out _ _ (hHeld) (fun hHeld => ?_)
            clear hK K
            try simp only [Act.put, List.setIfInBounds_toArray, List.set_cons_zero, List.set_cons_succ, List.getElem_toArray, List.getElem_cons_zero, List.getElem_cons_succ]
            refine wpAnyH_ready (rs := [16]) (by kernel_rfl) (by simp) ?_
            refine AllReadyH.cons (o := _) rfl (fun K hK => ?_) (AllReadyH.nil)
            go_simp
            refine hK.out _ _ (hHeld) (fun hHeld => ?_)
            clear hK K
            try simp only [Act.put, List.setIfInBounds_toArray, List.set_cons_zero, List.set_cons_succ, List.getElem_toArray, List.getElem_cons_zero, List.getElem_cons_succ]
            refine wpAnyH_done (by kernel_rfl) ?_ _
            clear hHeld
            have hqq : q2 = q := by
              rcases HQ.out with ⟨rfl, hm⟩ | ⟨rfl, hn, _⟩
              · rcases HD.out with ⟨_, hn, _⟩ | ⟨h, _⟩
                · exact (hm.not HAL.out hn).elim
                · exact h
              · rcases HD.out with ⟨h, _⟩ | ⟨_, m', hm, _⟩
                · exact h
                · exact (hm.not HAL.out.symm hn).elim
            subst hqq
            cases q2 with
            | false =>
              obtain rfl : ls = L1 := by
                rcases HQ.out with ⟨h, _⟩ | ⟨_, _, h⟩
                · cases h
                · exact h.symm
              have A9 := Lib.hid HAL.out
              clear HQ HD HLT
              obtain ⟨⟨x0, x1, x2, x3, y0, y1, y2, y3⟩, z0, inA, inB⟩ := HPS.out W9 S9.out.below
              have HIA := Lib.hid inA
              have HIB := Lib.hid inB
              clear inA inB
              have hpw : p < W9.heap.size := by have := S9.out.below.size; omega
              cases bk with
              | false =>
                go_wp2_with fail
                go_roundw
                case rel => exact ⟨k + 1, K1, ls, svS1, mv1, xs1, m, ms ++ [ls.length], ds ++ [m], dv ++ [Value.slice g8 n8 c8], by omega, by go_num, S9.out, A9.out, by have := hmd'.out; simp; omega, by simp; omega, by omega⟩
                case measure => simp [intOf]; omega
              | true =>
                obtain ⟨q0, q1, q2, q3, q6, q7⟩ := S9.out.cells hmd'.out
                have hc1 : (ms.length : Int) ≤ (c9 : Int) := by omega
                have hc2 : (ms.length : Int) ≤ (c10 : Int) := by omega
                have hc3 : ¬ c9 = 0 := by omega
                have hc4 : ¬ c10 = 0 := by omega
                clear q6 q7
                have hm0 : (0 : Int) ≤ (ms.length : Int) := by omega
                have hm1 : (ms.length : Int) < ((ms.length + 1 : Nat) : Int) := by omega
                have hm2 : (ms.length : Int) < (ms.length : Int) + 1 := by omega
                have hm3 : ms.length ≤ 12 := by omega
                have hun := undo_any (i := ls.length) S9.out.st HT9.out.2 (by rw [HT9.out.1]; exact HRL.out)
                have HUN := Lib.hid hun
                clear hun
                go_wp2_with fail
                refine HUN.out.mono ?_
                rintro e W10 ⟨rfl, svS2, xs2, hst10, hsf10⟩
                have hg10 : W10.heap[g10]? = W9.heap[g10]? := hsf10.block g10 q3 (S9.out.sep3 g10 rfl)
                have q4 : W10.cell? ⟨g10, ms.length, none⟩ = some (.slice g8 n8 c8) := (World.cell?_of_block (a := ⟨g10, ms.length, none⟩) hg10).trans q2
                have q5 : g10 < W10.heap.size := Nat.lt_of_lt_of_le q3 hsf10.size
                have S10 := Lib.hid (S9.out.back hmd'.out HT9.out.1 hst10 hsf10)
                clear hst10 hsf10 hg10 q0 q1 q2 q3 HUN x0 x1 x2 x3 y0 y1 y2 y3 z0 hpw S9
                go_wp2_with fail
                go_roundw
                case rel => exact ⟨k + 1, K1, ls, svS2, mv1, xs2, m, ms, ds, dv, by omega, by go_num, S10.out, HAL.out, hmd'.out, by omega, by omega⟩
                case measure => simp [intOf]; omega
            | true =>
              obtain ⟨hml1, m', hmm, hbd⟩ : MguOf ls A Bt L1 ∧ ∃ m', MguOf m A Bt m' ∧ bdsQ W9 Wa.heap.size (fun k => k < W9.heap.size ∧ ((¬ owned sb svS1 mv1 k ∧ (Value.slice (some ⟨g9, 0, none⟩) (ms.length + 1) c9).ownBlock ≠ some k ∧ (Value.slice (some ⟨g10, 0, none⟩) (ms.length + 1) c10).ownBlock ≠ some k) ∨ W8.drew.heap.size ≤ k)) m' svd := by
                rcases HQ.out with ⟨_, hm⟩ | ⟨h, _⟩
                · rcases HD.out with ⟨h, _⟩ | ⟨_, m', h1, h2⟩
                  · cases h
                  · exact ⟨hm, m', h1, h2⟩
                · cases h
              have A9 := Lib.hid (hml1.alike hmm HAL.out)
              obtain ⟨g7, c7, h7, _⟩ := id hbd
              subst h7
              have S9' := Lib.hid (S9.out.now' hmm.right (bdsQ_same hbd (fun b g => ⟨g.1, g.2.elim id (fun h => HLT.out b h)⟩) (fun _ _ _ _ h => h) (fun _ _ _ _ h => h)))
              clear S9 hml1 hmm hbd HQ HD HLT
              have S9 := S9'
              clear S9'
              obtain ⟨⟨x0, x1, x2, x3, y0, y1, y2, y3⟩, z0, inA, inB⟩ := HPS.out W9 S9.out.below
              have HIA := Lib.hid inA
              have HIB := Lib.hid inB
              clear inA inB
              have hpw : p < W9.heap.size := by have := S9.out.below.size; omega
              cases bk with
              | false =>
                go_wp2_with fail
                go_roundw
                case rel => exact ⟨k + 1, K1, L1, svS1, mv1, xs1, m', ms ++ [ls.length], ds ++ [m], dv ++ [Value.slice g8 n8 c8], by omega, by go_num, S9.out, A9.out, by have := hmd'.out; simp; omega, by simp; omega, by omega⟩
                case measure => simp [intOf]; omega
              | true =>
                obtain ⟨q0, q1, q2, q3, q6, q7⟩ := S9.out.cells hmd'.out
                have hc1 : (ms.length : Int) ≤ (c9 : Int) := by omega
                have hc2 : (ms.length : Int) ≤ (c10 : Int) := by omega
                have hc3 : ¬ c9 = 0 := by omega
                have hc4 : ¬ c10 = 0 := by omega
                clear q6 q7
                have hm0 : (0 : Int) ≤ (ms.length : Int) := by omega
                have hm1 : (ms.length : Int) < ((ms.length + 1 : Nat) : Int) := by omega
                have hm2 : (ms.length : Int) < (ms.length : Int) + 1 := by omega
                have hm3 : ms.length ≤ 12 := by omega
                have hun := undo_any (i := ls.length) S9.out.st HT9.out.2 (by rw [HT9.out.1]; exact HRL.out)
                have HUN := Lib.hid hun
                clear hun
                go_wp2_with fail
                refine HUN.out.mono ?_
                rintro e W10 ⟨rfl, svS2, xs2, hst10, hsf10⟩
                have hg10 : W10.heap[g10]? = W9.heap[g10]? := hsf10.block g10 q3 (S9.out.sep3 g10 rfl)
                have q4 : W10.cell? ⟨g10, ms.length, none⟩ = some (.slice g8 n8 c8) := (World.cell?_of_block (a := ⟨g10, ms.length, none⟩) hg10).trans q2
                have q5 : g10 < W10.heap.size := Nat.lt_of_lt_of_le q3 hsf10.size
                have S10 := Lib.hid (S9.out.back hmd'.out HT9.out.1 hst10 hsf10)
                clear hst10 hsf10 hg10 q0 q1 q2 q3 HUN x0 x1 x2 x3 y0 y1 y2 y3 z0 hpw S9
                go_wp2_with fail
                go_roundw
                case rel => exact ⟨k + 1, K1, ls, svS2, mv1, xs2, m, ms, ds, dv, by omega, by go_num, S10.out, HAL.out, hmd'.out, by omega, by omega⟩
                case measure => simp [intOf]; omega
          · obtain rfl : k = l.length := by omega
            have hbw := S1.out.below
            have HBT := Lib.hid (fun (W : World) (h : Below Wa.heap.size Wa W) => (show TmBox W w.heap.size t (.slice gt t.args.length ct) from TmBox.next ⟨HBX.out, HIN.out⟩ h))
            obtain ⟨x0, x1, x2, x3⟩ := (HBT.out wz hbw).cells
            have hwz : w.heap.size < wz.heap.size := by omega
            obtain ⟨σ, hσ⟩ := sol_of S1.out.st.right
            obtain ⟨τ, hτ⟩ := sol_of S1.out.rm
            have HS := Lib.hid hσ
            have HT := Lib.hid hτ
            have hml := (HAL.out.len S1.out.st.right S1.out.rm S1.out.inV)
            have HVAL := Lib.hid (value_any S1.out.st hσ (HBT.out wz hbw).2 (by omega) S1.out.inV (by omega))
            clear hσ hτ hbw
            go_wp2_with fail
            refine HVAL.out.mono ?_
            rintro e W3 ⟨X, E, gx, cx, rfl, hinx, hb3, hsp⟩
            have hal3 : Below W3.heap.size W3 (W3.alloc (.cells #[.int .i64 X.kind, .string X.name, .int .i64 X.n, .slice gx X.args.length cx] 27)) := (Below.refl _ _).alloc (Nat.le_refl _) _
            obtain ⟨W4, hW4⟩ : ∃ x, W3.alloc (.cells #[.int .i64 X.kind, .string X.name, .int .i64 X.n, .slice gx X.args.length cx] 27) = x := ⟨_, rfl⟩
            have hbx4 : TmBox W4 W3.heap.size X (.slice gx X.args.length cx) := by rw [← hW4]; exact TmBox.new (Tm.inn_of_P (fun b hb' => hb'.2) _ _ hinx)
            rw [hW4] at hal3
            have S4 := Lib.hid ((S1.out.next hb3).next hal3)
            have BX := Lib.hid hbx4
            have HSP := Lib.hid hsp
            obtain ⟨bx, hbx⟩ : ∃ x, W3.heap.size = x := ⟨_, rfl⟩
            clear hinx hb3 hsp hbx4 hal3 x0 x1 x2 x3 hwz HVAL S1
            obtain ⟨x0, x1, x2, x3⟩ := (HBT.out W4 S4.out.below).cells
            have hwz : w.heap.size < W4.heap.size := by have := S4.out.below.size; omega
            try rw [hW4]
            go_wp2_with fail
            try rw [hW4]
            try simp only [hW4, hbx]
            rw [hbx] at BX
            refine (rright_any t W4 _ _ (Nat.le_refl _) (HBT.out W4 S4.out.below).2 (by omega)).mono ?_
            rintro e W5 ⟨rfl, hb5⟩
            have S5 := Lib.hid (S4.out.next hb5)
            have BX5 := Lib.hid (BX.out.next hb5)
            clear hb5 S4 BX x0 x1 x2 x3 hwz hW4 hbx
            obtain ⟨x0, x1, x2, x3⟩ := (HBT.out W5 S5.out.below).cells
            have hwz : w.heap.size < W5.heap.size := by have := S5.out.below.size; omega
            obtain ⟨z0, z1, z2, z3⟩ := BX5.out.cells
            have hbx5 := BX5.out.lt
            cases hrt : t.right with
            | false =>
              obtain ⟨rfl, rfl⟩ : X = kZ ∧ E = 1 := by
                rcases HSP.out with ⟨_, h1, h2⟩ | ⟨⟨_, h⟩, _⟩
                · exact ⟨h1, h2⟩
                · rw [hrt] at h; cases h
              clear hrt
              have hzz : kZ.same kZ = true := (Tm.same_iff _ _).2 rfl
              go_wp2_with fail
              refine (rsame_any kZ kZ _ _ _ _ (Nat.le_refl _) BX5.out.2 (inn_kZ _ _)).mono ?_
              rintro e W6 ⟨rfl, hb6⟩
              rw [hzz]
              have S6 := Lib.hid (S5.out.next hb6)
              clear hb6 S5 BX5 x0 x1 x2 x3 hwz z0 z1 z2 z3 hbx5
              go_wp2_with fail
              refine (undo_neg (W := W6) (sb := sb)).mono ?_
              rintro e W7 ⟨rfl, rfl⟩
              go_wp2_with fail
              refine (uknows_any _).mono ?_
              rintro e V9 ⟨rfl, hbv⟩
              have HBF := Lib.hid (HA.out.trans ((S6.out.below.trans (hbv.mono S6.out.below.size)).mono HA.out.size))
              clear hbv
              go_wp2_with fail
              go_ret
              exact ⟨rfl, HBF.out⟩
            | true =>
              have HRT := Lib.hid hrt
              obtain ⟨g8, n8, c8, h8⟩ : ∃ g n c, u8 = .slice g n c := by obtain ⟨g, c, e, _⟩ := S5.out.now; exact ⟨g, _, c, e⟩
              have hbm := bdsQ_in S5.out.now S5.out.below.size (fun _ h => h.1)
              have hap := rapply_anyP m τ S5.out.rm HT.out t (right_fair hrt) W5 _ _ hbm (HBT.out W5 S5.out.below).2 (by omega)
              subst h8
              have HAP := Lib.hid hap
              clear hrt hbm hap
              go_wp2_with fail
              refine HAP.out.mono ?_
              rintro e W6 ⟨Y, F, gy, cy, rfl, hiny, hb6, hcase⟩
              obtain ⟨rfl, hxy⟩ : F = E ∧ ((E = 3 ∧ X = kZ) ∨ (E = 0 ∧ X.right = true ∧ Y.right = true ∧ numTms [X] = numTms [Y])) := by
                have hf : ∀ x ∈ [t], x.fair = true := fun x hx => by simp only [List.mem_singleton] at hx; rw [hx]; exact right_fair HRT.out
                have hn := finds_one HAL.out S5.out.st.right S5.out.rm HS.out HT.out hf
                rcases HSP.out with ⟨h, _⟩ | ⟨_, ⟨h, h1, h2⟩ | ⟨h, h1, h2⟩⟩
                · exact absurd ⟨S5.out.st.right, HRT.out⟩ h
                · rcases hcase with ⟨g, g1, g2⟩ | ⟨g, g1, g2⟩
                  · exact ⟨by rw [g2, h2], .inl ⟨h2, h1⟩⟩
                  · rw [hn.1.2 g] at h; cases h
                · rcases hcase with ⟨g, g1, g2⟩ | ⟨g, g1, g2⟩
                  · rw [hn.1.1 h] at g; cases g
                  · exact ⟨by rw [g2, h2], .inr ⟨h2, by rw [h1]; exact h, by rw [g1]; exact g, by rw [h1, g1]; exact hn.2 h⟩⟩
              have hal6 : Below W6.heap.size W6 (W6.alloc (.cells #[.int .i64 Y.kind, .string Y.name, .int .i64 Y.n, .slice gy Y.args.length cy] 27)) := (Below.refl _ _).alloc (Nat.le_refl _) _
              have S6 := Lib.hid ((S5.out.next hb6).next hal6)
              have BX6 := Lib.hid ((BX5.out.next hb6).next hal6)
              have BY6 := Lib.hid (TmBox.new (Tm.inn_of_P (fun b hb' => hb'.2) _ _ hiny))
              have HXY := Lib.hid hxy
              have hff : (F != F) = false := by simp
              clear hiny hb6 hcase hal6 hxy HAP HSP S5 BX5 x0 x1 x2 x3 hwz z0 z1 z2 z3 hbx5
              obtain ⟨z0, z1, z2, z3⟩ := BX6.out.cells
              obtain ⟨y0, y1, y2, y3⟩ := BY6.out.cells
              have hbx6 := BX6.out.lt
              have hby6 := BY6.out.lt
              rcases HXY.out with ⟨rfl, rfl⟩ | ⟨rfl, hrx, hry, hnum⟩
              · have hzz : kZ.same kZ = true := (Tm.same_iff _ _).2 rfl
                go_wp2_with fail
                refine (rsame_any kZ kZ _ _ _ _ (Nat.le_refl _) BX6.out.2 (inn_kZ _ _)).mono ?_
                rintro e W7 ⟨rfl, hb7⟩
                rw [hzz]
                have S7 := Lib.hid (S6.out.next hb7)
                clear hb7 S6 BX6 BY6 z0 z1 z2 z3 y0 y1 y2 y3 hbx6 hby6
                go_wp2_with fail
                refine (uknows_any _).mono ?_
                rintro e V9 ⟨rfl, hbv⟩
                have HBF := Lib.hid (HA.out.trans ((S7.out.below.trans (hbv.mono S7.out.below.size)).mono HA.out.size))
                clear hbv
                go_wp2_with fail
                go_ret
                exact ⟨rfl, HBF.out⟩
              · have HRX := Lib.hid hrx
                have HRY := Lib.hid hry
                have HNUM := Lib.hid hnum
                clear hrx hry hnum HXY
                go_wp2_with fail
                obtain ⟨Wq, hWq⟩ : ∃ x, W6.alloc (.cells #[.int .i64 Y.kind, .string Y.name, .int .i64 Y.n, .slice gy Y.args.length cy] 27) = x := ⟨_, rfl⟩
                have hwq := BX6.out
                have hbyq := BY6.out
                rw [hWq] at S6 hwq hbyq
                obtain ⟨bz, hbz6⟩ : ∃ x, W6.heap.size = x := ⟨_, rfl⟩
                rw [hbz6] at hbyq
                have HXYC := Lib.hid (fun (W : World) (h : Below Wq.heap.size Wq W) => (⟨(hwq.next h).cells.1, (hwq.next h).cells.2.1, (hwq.next h).cells.2.2.1, (hwq.next h).cells.2.2.2, (hbyq.next h).cells.1, (hbyq.next h).cells.2.1, (hbyq.next h).cells.2.2.1, (hbyq.next h).cells.2.2.2⟩ : W.cell? ⟨bx, 0, none⟩ = some (.int .i64 X.kind) ∧ W.cell? ⟨bx, 1, none⟩ = some (.string X.name) ∧ W.cell? ⟨bx, 2, none⟩ = some (.int .i64 X.n) ∧ W.cell? ⟨bx, 3, none⟩ = some (.slice gx X.args.length cx) ∧ W.cell? ⟨bz, 0, none⟩ = some (.int .i64 Y.kind) ∧ W.cell? ⟨bz, 1, none⟩ = some (.string Y.name) ∧ W.cell? ⟨bz, 2, none⟩ = some (.int .i64 Y.n) ∧ W.cell? ⟨bz, 3, none⟩ = some (.slice gy Y.args.length cy)))
                have HIX := Lib.hid hwq.2
                have HIY := Lib.hid hbyq.2
                have HBQ := Lib.hid (HA.out.trans (S6.out.below.mono HA.out.size))
                have hlx := hwq.lt
                have hly := hbyq.lt
                simp only [hWq, hbz6]
                clear hwq hbyq hWq hbz6 BX6 BY6 S6 z0 z1 z2 z3 y0 y1 y2 y3 hbx6 hby6
                refine wp_region_held_drew (S := fun W' => W'.cell? ⟨bx, 0, none⟩ = some (.int .i64 X.kind) ∧ W'.cell? ⟨bx, 1, none⟩ = some (.string X.name) ∧ W'.cell? ⟨bx, 2, none⟩ = some (.int .i64 X.n) ∧ W'.cell? ⟨bx, 3, none⟩ = some (.slice gx X.args.length cx) ∧ W'.cell? ⟨bz, 0, none⟩ = some (.int .i64 Y.kind) ∧ W'.cell? ⟨bz, 1, none⟩ = some (.string Y.name) ∧ W'.cell? ⟨bz, 2, none⟩ = some (.int .i64 Y.n) ∧ W'.cell? ⟨bz, 3, none⟩ = some (.slice gy Y.args.length cy)) (by kernel_rfl) (HXYC.out _ (Below.refl _ _).drew) (fun hHeld => ?_)
                refine wpAnyH_take (i := 0) (oi := _) (v := ?_) rfl (by kernel_rfl) (by kernel_rfl) (by kernel_rfl) (fun _ _ _ h => h) (Or.inl ⟨by rfl, ?_⟩) hHeld ?_
                rotate_left
                · (intro w hSw; obtain ⟨c0, c1, c2, c3, d0, d1, d2, d3⟩ := hSw; go_simp; try with_reducible rfl)
                try simp only [Act.put, List.setIfInBounds_toArray, List.set_cons_zero, List.set_cons_succ, List.getElem_toArray, List.getElem_cons_zero]
                refine wpAnyH_take (i := 3) (oi := _) (v := ?_) rfl (by kernel_rfl) (by kernel_rfl) (by kernel_rfl) (fun _ _ _ h => h) (Or.inl ⟨by rfl, ?_⟩) hHeld ?_
                rotate_left
                · (intro w hSw; obtain ⟨c0, c1, c2, c3, d0, d1, d2, d3⟩ := hSw; go_simp; try with_reducible rfl)
                try simp only [Act.put, List.setIfInBounds_toArray, List.set_cons_zero, List.set_cons_succ, List.getElem_toArray, List.getElem_cons_zero, List.getElem_cons_succ]
                refine wpAnyH_ready (rs := [1, 4]) (by kernel_rfl) (by simp) ?_
                refine AllReadyH.cons (o := _) rfl (fun K hK => ?_) (AllReadyH.cons (o := _) rfl (fun K hK => ?_) (AllReadyH.nil))
                · skip
                  go_simp
                  have hbn : Below Wq.heap.size Wq (Wq.alloc (.cells #[.int .i64 X.kind, .string X.name, .int .i64 X.n, .slice gx X.args.length cx] 27)).drew := ((Below.refl Wq.heap.size Wq).alloc (Nat.le_refl _) _).drew
                  refine hK.out _ _ (HXYC.out _ hbn) (fun hHeld => ?_)
                  clear hK K
                  try simp only [Act.put, List.setIfInBounds_toArray, List.set_cons_zero, List.set_cons_succ, List.getElem_toArray, List.getElem_cons_zero, List.getElem_cons_succ]
                  have hsl0 : Tm.sliceIn (Wq.alloc (.cells #[.int .i64 X.kind, .string X.name, .int .i64 X.n, .slice gx X.args.length cx] 27)) (Wq.alloc (.cells #[.int .i64 X.kind, .string X.name, .int .i64 X.n, .slice gx X.args.length cx] 27)).heap.size [X] (.slice (some ⟨Wq.heap.size, 0, none⟩) 1 1) := one_slice (newBlk _ _ _ rfl) (Tm.inn_mono (Tm.inn_below HIX.out ((Below.refl Wq.heap.size Wq).alloc (Nat.le_refl _) (.cells #[.int .i64 X.kind, .string X.name, .int .i64 X.n, .slice gx X.args.length cx] 27)) (Nat.le_refl _)) (by simp))
                  have hsl : Tm.sliceIn (Wq.alloc (.cells #[.int .i64 X.kind, .string X.name, .int .i64 X.n, .slice gx X.args.length cx] 27)).drew (Wq.alloc (.cells #[.int .i64 X.kind, .string X.name, .int .i64 X.n, .slice gx X.args.length cx] 27)).drew.heap.size [X] (.slice (some ⟨Wq.heap.size, 0, none⟩) 1 1) := Tm.sliceIn_below hsl0 ((Below.refl _ _).drew) (Nat.le_refl _)
                  obtain ⟨U1, hU1⟩ : ∃ x, (Wq.alloc (.cells #[.int .i64 X.kind, .string X.name, .int .i64 X.n, .slice gx X.args.length cx] 27)).drew = x := ⟨_, rfl⟩
                  rw [hU1] at hbn hsl
                  simp only [hU1] at hHeld ⊢
                  have HB1 := Lib.hid hbn
                  have HXs1 := Lib.hid hsl
                  clear hU1 hbn hsl0 hsl
                  refine wpAnyH_ready (rs := [2, 4]) (by kernel_rfl) (by simp) ?_
                  refine AllReadyH.cons (o := _) rfl (fun K hK => ?_) (AllReadyH.cons (o := _) rfl (fun K hK => ?_) (AllReadyH.nil))
                  · skip
                    go_simp
                    refine (numbered_any [X] (by simpa using HRX.out) _ _ HXs1.out (by have := right_sz HRX.out; simp [Tm.sizes]; omega)).mono ?_
                    rintro e U2 ⟨⟨gn2, cn2, rfl, hn⟩, hb⟩
                    have hbn := HB1.out.trans (hb.mono HB1.out.size)
                    have HB2 := Lib.hid hbn
                    have HNXs2 := Lib.hid hn
                    clear hn hb hbn hHeld
                    go_wp2_with fail
                    refine hK.out _ _ (HXYC.out _ HB2.out) (fun hHeld => ?_)
                    clear hK K
                    try simp only [Act.put, List.setIfInBounds_toArray, List.set_cons_zero, List.set_cons_succ, List.getElem_toArray, List.getElem_cons_zero, List.getElem_cons_succ]
                    refine wpAnyH_ready (rs := [4]) (by kernel_rfl) (by simp) ?_
                    refine AllReadyH.cons (o := _) rfl (fun K hK => ?_) (AllReadyH.nil)
                    go_simp
                    have hbn : Below Wq.heap.size Wq (U2.alloc (.cells #[.int .i64 Y.kind, .string Y.name, .int .i64 Y.n, .slice gy Y.args.length cy] 27)) := HB2.out.alloc HB2.out.size _
                    refine hK.out _ _ (HXYC.out _ hbn) (fun hHeld => ?_)
                    clear hK K
                    try simp only [Act.put, List.setIfInBounds_toArray, List.set_cons_zero, List.set_cons_succ, List.getElem_toArray, List.getElem_cons_zero, List.getElem_cons_succ]
                    have hsl0 : Tm.sliceIn (U2.alloc (.cells #[.int .i64 Y.kind, .string Y.name, .int .i64 Y.n, .slice gy Y.args.length cy] 27)) (U2.alloc (.cells #[.int .i64 Y.kind, .string Y.name, .int .i64 Y.n, .slice gy Y.args.length cy] 27)).heap.size [Y] (.slice (some ⟨U2.heap.size, 0, none⟩) 1 1) := one_slice (newBlk _ _ _ rfl) (Tm.inn_mono (Tm.inn_below (lift_inn HIY.out HB2.out) ((Below.refl U2.heap.size U2).alloc (Nat.le_refl _) (.cells #[.int .i64 Y.kind, .string Y.name, .int .i64 Y.n, .slice gy Y.args.length cy] 27)) (Nat.le_refl _)) (by simp))
                    have hsl : Tm.sliceIn (U2.alloc (.cells #[.int .i64 Y.kind, .string Y.name, .int .i64 Y.n, .slice gy Y.args.length cy] 27)) (U2.alloc (.cells #[.int .i64 Y.kind, .string Y.name, .int .i64 Y.n, .slice gy Y.args.length cy] 27)).heap.size [Y] (.slice (some ⟨U2.heap.size, 0, none⟩) 1 1) := hsl0
                    have hal : Below U2.heap.size U2 (U2.alloc (.cells #[.int .i64 Y.kind, .string Y.name, .int .i64 Y.n, .slice gy Y.args.length cy] 27)) := (Below.refl _ _).alloc (Nat.le_refl _) _
                    obtain ⟨U3, hU3⟩ : ∃ x, (U2.alloc (.cells #[.int .i64 Y.kind, .string Y.name, .int .i64 Y.n, .slice gy Y.args.length cy] 27)) = x := ⟨_, rfl⟩
                    rw [hU3] at hbn hsl hal
                    simp only [hU3] at hHeld ⊢
                    have HB3 := Lib.hid hbn
                    have HYs3 := Lib.hid hsl
                    have HNXs3 := Lib.hid (lift_sl HNXs2.out hal)
                    clear hU3 hbn hsl0 hsl hal
                    refine wpAnyH_ready (rs := [5]) (by kernel_rfl) (by simp) ?_
                    refine AllReadyH.cons (o := _) rfl (fun K hK => ?_) (AllReadyH.nil)
                    go_simp
                    refine (numbered_any [Y] (by simpa using HRY.out) _ _ HYs3.out (by have := right_sz HRY.out; simp [Tm.sizes]; omega)).mono ?_
                    rintro e U4 ⟨⟨gn4, cn4, rfl, hn⟩, hb⟩
                    have hbn := HB3.out.trans (hb.mono HB3.out.size)
                    have HB4 := Lib.hid hbn
                    have HNYs4 := Lib.hid hn
                    have HNXs4 := Lib.hid (lift_sl HNXs3.out hb)
                    clear hn hb hbn hHeld
                    go_wp2_with fail
                    refine hK.out _ _ (HXYC.out _ HB4.out) (fun hHeld => ?_)
                    clear hK K
                    try simp only [Act.put, List.setIfInBounds_toArray, List.set_cons_zero, List.set_cons_succ, List.getElem_toArray, List.getElem_cons_zero, List.getElem_cons_succ]
                    refine wpAnyH_ready (rs := [6]) (by kernel_rfl) (by simp) ?_
                    refine AllReadyH.cons (o := _) rfl (fun K hK => ?_) (AllReadyH.nil)
                    go_simp
                    refine (sameall_any _ _ _ _ _ _ (Nat.le_refl _) HNXs4.out HNYs4.out).mono ?_
                    rintro e U8 ⟨rfl, hb⟩
                    rw [decide_eq_true HNUM.out]
                    have HB8 := Lib.hid (HB4.out.trans (hb.mono HB4.out.size))
                    clear hb hHeld
                    go_wp2_with fail
                    refine hK.out _ _ (HXYC.out _ HB8.out) (fun hHeld => ?_)
                    clear hK K
                    try simp only [Act.put, List.setIfInBounds_toArray, List.set_cons_zero, List.set_cons_succ, List.getElem_toArray, List.getElem_cons_zero, List.getElem_cons_succ]
                    refine wpAnyH_take (i := 7) (oi := _) (v := ?_) rfl (by kernel_rfl) (by kernel_rfl) (by kernel_rfl) (fun _ _ _ h => h) (Or.inl ⟨by rfl, ?_⟩) hHeld ?_
                    rotate_left
                    · (intro w hSw; obtain ⟨c0, c1, c2, c3, d0, d1, d2, d3⟩ := hSw; go_simp; try with_reducible rfl)
                    try simp only [Act.put, List.setIfInBounds_toArray, List.set_cons_zero, List.set_cons_succ, List.getElem_toArray, List.getElem_cons_zero, List.getElem_cons_succ]
                    refine wpAnyH_ready (rs := [8]) (by kernel_rfl) (by simp) ?_
                    refine AllReadyH.cons (o := _) rfl (fun K hK => ?_) (AllReadyH.nil)
                    go_simp
                    refine (uknows_any _).mono ?_
                    rintro e U9 ⟨rfl, hb⟩
                    have HB9 := Lib.hid (HB8.out.trans (hb.mono HB8.out.size))
                    clear hb hHeld
                    go_wp2_with fail
                    refine hK.out _ _ (HXYC.out _ HB9.out) (fun hHeld => ?_)
                    clear hK K
                    try simp only [Act.put, List.setIfInBounds_toArray, List.set_cons_zero, List.set_cons_succ, List.getElem_toArray, List.getElem_cons_zero, List.getElem_cons_succ]
                    refine wpAnyH_take (i := 9) (oi := _) (v := ?_) rfl (by kernel_rfl) (by kernel_rfl) (by kernel_rfl) (fun _ _ _ h => h) (Or.inl ⟨by rfl, ?_⟩) hHeld ?_
                    rotate_left
                    · (intro w hSw; obtain ⟨c0, c1, c2, c3, d0, d1, d2, d3⟩ := hSw; go_simp; try with_reducible rfl)
                    try simp only [Act.put, List.setIfInBounds_toArray, List.set_cons_zero, List.set_cons_succ, List.getElem_toArray, List.getElem_cons_zero, List.getElem_cons_succ]
                    refine wpAnyH_ready (rs := [10]) (by kernel_rfl) (by simp) ?_
                    refine AllReadyH.cons (o := _) rfl (fun K hK => ?_) (AllReadyH.nil)
                    go_simp
                    refine hK.out _ _ (hHeld) (fun hHeld => ?_)
                    clear hK K
                    try simp only [Act.put, List.setIfInBounds_toArray, List.set_cons_zero, List.set_cons_succ, List.getElem_toArray, List.getElem_cons_zero, List.getElem_cons_succ]
                    refine wpAnyH_done (by kernel_rfl) ?_ _
                    have HBF := Lib.hid (HBQ.out.trans (HB9.out.mono HBQ.out.size))
                    clear hHeld
                    go_wp2_with fail
                    go_ret
                    exact ⟨rfl, HBF.out⟩
                  · skip
                    go_simp
                    have hbn : Below Wq.heap.size Wq (U1.alloc (.cells #[.int .i64 Y.kind, .string Y.name, .int .i64 Y.n, .slice gy Y.args.length cy] 27)) := HB1.out.alloc HB1.out.size _
                    refine hK.out _ _ (HXYC.out _ hbn) (fun hHeld => ?_)
                    clear hK K
                    try simp only [Act.put, List.setIfInBounds_toArray, List.set_cons_zero, List.set_cons_succ, List.getElem_toArray, List.getElem_cons_zero, List.getElem_cons_succ]
                    have hsl0 : Tm.sliceIn (U1.alloc (.cells #[.int .i64 Y.kind, .string Y.name, .int .i64 Y.n, .slice gy Y.args.length cy] 27)) (U1.alloc (.cells #[.int .i64 Y.kind, .string Y.name, .int .i64 Y.n, .slice gy Y.args.length cy] 27)).heap.size [Y] (.slice (some ⟨U1.heap.size, 0, none⟩) 1 1) := one_slice (newBlk _ _ _ rfl) (Tm.inn_mono (Tm.inn_below (lift_inn HIY.out HB1.out) ((Below.refl U1.heap.size U1).alloc (Nat.le_refl _) (.cells #[.int .i64 Y.kind, .string Y.name, .int .i64 Y.n, .slice gy Y.args.length cy] 27)) (Nat.le_refl _)) (by simp))
                    have hsl : Tm.sliceIn (U1.alloc (.cells #[.int .i64 Y.kind, .string Y.name, .int .i64 Y.n, .slice gy Y.args.length cy] 27)) (U1.alloc (.cells #[.int .i64 Y.kind, .string Y.name, .int .i64 Y.n, .slice gy Y.args.length cy] 27)).heap.size [Y] (.slice (some ⟨U1.heap.size, 0, none⟩) 1 1) := hsl0
                    have hal : Below U1.heap.size U1 (U1.alloc (.cells #[.int .i64 Y.kind, .string Y.name, .int .i64 Y.n, .slice gy Y.args.length cy] 27)) := (Below.refl _ _).alloc (Nat.le_refl _) _
                    obtain ⟨U2, hU2⟩ : ∃ x, (U1.alloc (.cells #[.int .i64 Y.kind, .string Y.name, .int .i64 Y.n, .slice gy Y.args.length cy] 27)) = x := ⟨_, rfl⟩
                    rw [hU2] at hbn hsl hal
                    simp only [hU2] at hHeld ⊢
                    have HB2 := Lib.hid hbn
                    have HYs2 := Lib.hid hsl
                    have HXs2 := Lib.hid (lift_sl HXs1.out hal)
                    clear hU2 hbn hsl0 hsl hal
                    refine wpAnyH_ready (rs := [2]) (by kernel_rfl) (by simp) ?_
                    refine AllReadyH.cons (o := _) rfl (fun K hK => ?_) (AllReadyH.nil)
                    go_simp
                    refine (numbered_any [X] (by simpa using HRX.out) _ _ HXs2.out (by have := right_sz HRX.out; simp [Tm.sizes]; omega)).mono ?_
                    rintro e U3 ⟨⟨gn3, cn3, rfl, hn⟩, hb⟩
                    have hbn := HB2.out.trans (hb.mono HB2.out.size)
                    have HB3 := Lib.hid hbn
                    have HNXs3 := Lib.hid hn
                    have HYs3 := Lib.hid (lift_sl HYs2.out hb)
                    clear hn hb hbn hHeld
                    go_wp2_with fail
                    refine hK.out _ _ (HXYC.out _ HB3.out) (fun hHeld => ?_)
                    clear hK K
                    try simp only [Act.put, List.setIfInBounds_toArray, List.set_cons_zero, List.set_cons_succ, List.getElem_toArray, List.getElem_cons_zero, List.getElem_cons_succ]
                    refine wpAnyH_ready (rs := [5]) (by kernel_rfl) (by simp) ?_
                    refine AllReadyH.cons (o := _) rfl (fun K hK => ?_) (AllReadyH.nil)
                    go_simp
                    refine (numbered_any [Y] (by simpa using HRY.out) _ _ HYs3.out (by have := right_sz HRY.out; simp [Tm.sizes]; omega)).mono ?_
                    rintro e U4 ⟨⟨gn4, cn4, rfl, hn⟩, hb⟩
                    have hbn := HB3.out.trans (hb.mono HB3.out.size)
                    have HB4 := Lib.hid hbn
                    have HNYs4 := Lib.hid hn
                    have HNXs4 := Lib.hid (lift_sl HNXs3.out hb)
                    clear hn hb hbn hHeld
                    go_wp2_with fail
                    refine hK.out _ _ (HXYC.out _ HB4.out) (fun hHeld => ?_)
                    clear hK K
                    try simp only [Act.put, List.setIfInBounds_toArray, List.set_cons_zero, List.set_cons_succ, List.getElem_toArray, List.getElem_cons_zero, List.getElem_cons_succ]
                    refine wpAnyH_ready (rs := [6]) (by kernel_rfl) (by simp) ?_
                    refine AllReadyH.cons (o := _) rfl (fun K hK => ?_) (AllReadyH.nil)
                    go_simp
                    refine (sameall_any _ _ _ _ _ _ (Nat.le_refl _) HNXs4.out HNYs4.out).mono ?_
                    rintro e U8 ⟨rfl, hb⟩
                    rw [decide_eq_true HNUM.out]
                    have HB8 := Lib.hid (HB4.out.trans (hb.mono HB4.out.size))
                    clear hb hHeld
                    go_wp2_with fail
                    refine hK.out _ _ (HXYC.out _ HB8.out) (fun hHeld => ?_)
                    clear hK K
                    try simp only [Act.put, List.setIfInBounds_toArray, List.set_cons_zero, List.set_cons_succ, List.getElem_toArray, List.getElem_cons_zero, List.getElem_cons_succ]
                    refine wpAnyH_take (i := 7) (oi := _) (v := ?_) rfl (by kernel_rfl) (by kernel_rfl) (by kernel_rfl) (fun _ _ _ h => h) (Or.inl ⟨by rfl, ?_⟩) hHeld ?_
                    rotate_left
                    · (intro w hSw; obtain ⟨c0, c1, c2, c3, d0, d1, d2, d3⟩ := hSw; go_simp; try with_reducible rfl)
                    try simp only [Act.put, List.setIfInBounds_toArray, List.set_cons_zero, List.set_cons_succ, List.getElem_toArray, List.getElem_cons_zero, List.getElem_cons_succ]
                    refine wpAnyH_ready (rs := [8]) (by kernel_rfl) (by simp) ?_
                    refine AllReadyH.cons (o := _) rfl (fun K hK => ?_) (AllReadyH.nil)
                    go_simp
                    refine (uknows_any _).mono ?_
                    rintro e U9 ⟨rfl, hb⟩
                    have HB9 := Lib.hid (HB8.out.trans (hb.mono HB8.out.size))
                    clear hb hHeld
                    go_wp2_with fail
                    refine hK.out _ _ (HXYC.out _ HB9.out) (fun hHeld => ?_)
                    clear hK K
                    try simp only [Act.put, List.setIfInBounds_toArray, List.set_cons_zero, List.set_cons_succ, List.getElem_toArray, List.getElem_cons_zero, List.getElem_cons_succ]
                    refine wpAnyH_take (i := 9) (oi := _) (v := ?_) rfl (by kernel_rfl) (by kernel_rfl) (by kernel_rfl) (fun _ _ _ h => h) (Or.inl ⟨by rfl, ?_⟩) hHeld ?_
                    rotate_left
                    · (intro w hSw; obtain ⟨c0, c1, c2, c3, d0, d1, d2, d3⟩ := hSw; go_simp; try with_reducible rfl)
                    try simp only [Act.put, List.setIfInBounds_toArray, List.set_cons_zero, List.set_cons_succ, List.getElem_toArray, List.getElem_cons_zero, List.getElem_cons_succ]
                    refine wpAnyH_ready (rs := [10]) (by kernel_rfl) (by simp) ?_
                    refine AllReadyH.cons (o := _) rfl (fun K hK => ?_) (AllReadyH.nil)
                    go_simp
                    refine hK.out _ _ (hHeld) (fun hHeld => ?_)
                    clear hK K
                    try simp only [Act.put, List.setIfInBounds_toArray, List.set_cons_zero, List.set_cons_succ, List.getElem_toArray, List.getElem_cons_zero, List.getElem_cons_succ]
                    refine wpAnyH_done (by kernel_rfl) ?_ _
                    have HBF := Lib.hid (HBQ.out.trans (HB9.out.mono HBQ.out.size))
                    clear hHeld
                    go_wp2_with fail
                    go_ret
                    exact ⟨rfl, HBF.out⟩
                · skip
                  go_simp
                  have hbn : Below Wq.heap.size Wq (Wq.alloc (.cells #[.int .i64 Y.kind, .string Y.name, .int .i64 Y.n, .slice gy Y.args.length cy] 27)).drew := ((Below.refl Wq.heap.size Wq).alloc (Nat.le_refl _) _).drew
                  refine hK.out _ _ (HXYC.out _ hbn) (fun hHeld => ?_)
                  clear hK K
                  try simp only [Act.put, List.setIfInBounds_toArray, List.set_cons_zero, List.set_cons_succ, List.getElem_toArray, List.getElem_cons_zero, List.getElem_cons_succ]
                  have hsl0 : Tm.sliceIn (Wq.alloc (.cells #[.int .i64 Y.kind, .string Y.name, .int .i64 Y.n, .slice gy Y.args.length cy] 27)) (Wq.alloc (.cells #[.int .i64 Y.kind, .string Y.name, .int .i64 Y.n, .slice gy Y.args.length cy] 27)).heap.size [Y] (.slice (some ⟨Wq.heap.size, 0, none⟩) 1 1) := one_slice (newBlk _ _ _ rfl) (Tm.inn_mono (Tm.inn_below HIY.out ((Below.refl Wq.heap.size Wq).alloc (Nat.le_refl _) (.cells #[.int .i64 Y.kind, .string Y.name, .int .i64 Y.n, .slice gy Y.args.length cy] 27)) (Nat.le_refl _)) (by simp))
                  have hsl : Tm.sliceIn (Wq.alloc (.cells #[.int .i64 Y.kind, .string Y.name, .int .i64 Y.n, .slice gy Y.args.length cy] 27)).drew (Wq.alloc (.cells #[.int .i64 Y.kind, .string Y.name, .int .i64 Y.n, .slice gy Y.args.length cy] 27)).drew.heap.size [Y] (.slice (some ⟨Wq.heap.size, 0, none⟩) 1 1) := Tm.sliceIn_below hsl0 ((Below.refl _ _).drew) (Nat.le_refl _)
                  obtain ⟨U1, hU1⟩ : ∃ x, (Wq.alloc (.cells #[.int .i64 Y.kind, .string Y.name, .int .i64 Y.n, .slice gy Y.args.length cy] 27)).drew = x := ⟨_, rfl⟩
                  rw [hU1] at hbn hsl
                  simp only [hU1] at hHeld ⊢
                  have HB1 := Lib.hid hbn
                  have HYs1 := Lib.hid hsl
                  clear hU1 hbn hsl0 hsl
                  refine wpAnyH_ready (rs := [1]) (by kernel_rfl) (by simp) ?_
                  refine AllReadyH.cons (o := _) rfl (fun K hK => ?_) (AllReadyH.nil)
                  go_simp
                  have hbn : Below Wq.heap.size Wq (U1.alloc (.cells #[.int .i64 X.kind, .string X.name, .int .i64 X.n, .slice gx X.args.length cx] 27)) := HB1.out.alloc HB1.out.size _
                  refine hK.out _ _ (HXYC.out _ hbn) (fun hHeld => ?_)
                  clear hK K
                  try simp only [Act.put, List.setIfInBounds_toArray, List.set_cons_zero, List.set_cons_succ, List.getElem_toArray, List.getElem_cons_zero, List.getElem_cons_succ]
                  have hsl0 : Tm.sliceIn (U1.alloc (.cells #[.int .i64 X.kind, .string X.name, .int .i64 X.n, .slice gx X.args.length cx] 27)) (U1.alloc (.cells #[.int .i64 X.kind, .string X.name, .int .i64 X.n, .slice gx X.args.length cx] 27)).heap.size [X] (.slice (some ⟨U1.heap.size, 0, none⟩) 1 1) := one_slice (newBlk _ _ _ rfl) (Tm.inn_mono (Tm.inn_below (lift_inn HIX.out HB1.out) ((Below.refl U1.heap.size U1).alloc (Nat.le_refl _) (.cells #[.int .i64 X.kind, .string X.name, .int .i64 X.n, .slice gx X.args.length cx] 27)) (Nat.le_refl _)) (by simp))
                  have hsl : Tm.sliceIn (U1.alloc (.cells #[.int .i64 X.kind, .string X.name, .int .i64 X.n, .slice gx X.args.length cx] 27)) (U1.alloc (.cells #[.int .i64 X.kind, .string X.name, .int .i64 X.n, .slice gx X.args.length cx] 27)).heap.size [X] (.slice (some ⟨U1.heap.size, 0, none⟩) 1 1) := hsl0
                  have hal : Below U1.heap.size U1 (U1.alloc (.cells #[.int .i64 X.kind, .string X.name, .int .i64 X.n, .slice gx X.args.length cx] 27)) := (Below.refl _ _).alloc (Nat.le_refl _) _
                  obtain ⟨U2, hU2⟩ : ∃ x, (U1.alloc (.cells #[.int .i64 X.kind, .string X.name, .int .i64 X.n, .slice gx X.args.length cx] 27)) = x := ⟨_, rfl⟩
                  rw [hU2] at hbn hsl hal
                  simp only [hU2] at hHeld ⊢
                  have HB2 := Lib.hid hbn
                  have HXs2 := Lib.hid hsl
                  have HYs2 := Lib.hid (lift_sl HYs1.out hal)
                  clear hU2 hbn hsl0 hsl hal
                  refine wpAnyH_ready (rs := [2]) (by kernel_rfl) (by simp) ?_
                  refine AllReadyH.cons (o := _) rfl (fun K hK => ?_) (AllReadyH.nil)
                  go_simp
                  refine (numbered_any [X] (by simpa using HRX.out) _ _ HXs2.out (by have := right_sz HRX.out; simp [Tm.sizes]; omega)).mono ?_
                  rintro e U3 ⟨⟨gn3, cn3, rfl, hn⟩, hb⟩
                  have hbn := HB2.out.trans (hb.mono HB2.out.size)
                  have HB3 := Lib.hid hbn
                  have HNXs3 := Lib.hid hn
                  have HYs3 := Lib.hid (lift_sl HYs2.out hb)
                  clear hn hb hbn hHeld
                  go_wp2_with fail
                  refine hK.out _ _ (HXYC.out _ HB3.out) (fun hHeld => ?_)
                  clear hK K
                  try simp only [Act.put, List.setIfInBounds_toArray, List.set_cons_zero, List.set_cons_succ, List.getElem_toArray, List.getElem_cons_zero, List.getElem_cons_succ]
                  refine wpAnyH_ready (rs := [5]) (by kernel_rfl) (by simp) ?_
                  refine AllReadyH.cons (o := _) rfl (fun K hK => ?_) (AllReadyH.nil)
                  go_simp
                  refine (numbered_any [Y] (by simpa using HRY.out) _ _ HYs3.out (by have := right_sz HRY.out; simp [Tm.sizes]; omega)).mono ?_
                  rintro e U4 ⟨⟨gn4, cn4, rfl, hn⟩, hb⟩
                  have hbn := HB3.out.trans (hb.mono HB3.out.size)
                  have HB4 := Lib.hid hbn
                  have HNYs4 := Lib.hid hn
                  have HNXs4 := Lib.hid (lift_sl HNXs3.out hb)
                  clear hn hb hbn hHeld
                  go_wp2_with fail
                  refine hK.out _ _ (HXYC.out _ HB4.out) (fun hHeld => ?_)
                  clear hK K
                  try simp only [Act.put, List.setIfInBounds_toArray, List.set_cons_zero, List.set_cons_succ, List.getElem_toArray, List.getElem_cons_zero, List.getElem_cons_succ]
                  refine wpAnyH_ready (rs := [6]) (by kernel_rfl) (by simp) ?_
                  refine AllReadyH.cons (o := _) rfl (fun K hK => ?_) (AllReadyH.nil)
                  go_simp
                  refine (sameall_any _ _ _ _ _ _ (Nat.le_refl _) HNXs4.out HNYs4.out).mono ?_
                  rintro e U8 ⟨rfl, hb⟩
                  rw [decide_eq_true HNUM.out]
                  have HB8 := Lib.hid (HB4.out.trans (hb.mono HB4.out.size))
                  clear hb hHeld
                  go_wp2_with fail
                  refine hK.out _ _ (HXYC.out _ HB8.out) (fun hHeld => ?_)
                  clear hK K
                  try simp only [Act.put, List.setIfInBounds_toArray, List.set_cons_zero, List.set_cons_succ, List.getElem_toArray, List.getElem_cons_zero, List.getElem_cons_succ]
                  refine wpAnyH_take (i := 7) (oi := _) (v := ?_) rfl (by kernel_rfl) (by kernel_rfl) (by kernel_rfl) (fun _ _ _ h => h) (Or.inl ⟨by rfl, ?_⟩) hHeld ?_
                  rotate_left
                  · (intro w hSw; obtain ⟨c0, c1, c2, c3, d0, d1, d2, d3⟩ := hSw; go_simp; try with_reducible rfl)
                  try simp only [Act.put, List.setIfInBounds_toArray, List.set_cons_zero, List.set_cons_succ, List.getElem_toArray, List.getElem_cons_zero, List.getElem_cons_succ]
                  refine wpAnyH_ready (rs := [8]) (by kernel_rfl) (by simp) ?_
                  refine AllReadyH.cons (o := _) rfl (fun K hK => ?_) (AllReadyH.nil)
                  go_simp
                  refine (uknows_any _).mono ?_
                  rintro e U9 ⟨rfl, hb⟩
                  have HB9 := Lib.hid (HB8.out.trans (hb.mono HB8.out.size))
                  clear hb hHeld
                  go_wp2_with fail
                  refine hK.out _ _ (HXYC.out _ HB9.out) (fun hHeld => ?_)
                  clear hK K
                  try simp only [Act.put, List.setIfInBounds_toArray, List.set_cons_zero, List.set_cons_succ, List.getElem_toArray, List.getElem_cons_zero, List.getElem_cons_succ]
                  refine wpAnyH_take (i := 9) (oi := _) (v := ?_) rfl (by kernel_rfl) (by kernel_rfl) (by kernel_rfl) (fun _ _ _ h => h) (Or.inl ⟨by rfl, ?_⟩) hHeld ?_
                  rotate_left
                  · (intro w hSw; obtain ⟨c0, c1, c2, c3, d0, d1, d2, d3⟩ := hSw; go_simp; try with_reducible rfl)
                  try simp only [Act.put, List.setIfInBounds_toArray, List.set_cons_zero, List.set_cons_succ, List.getElem_toArray, List.getElem_cons_zero, List.getElem_cons_succ]
                  refine wpAnyH_ready (rs := [10]) (by kernel_rfl) (by simp) ?_
                  refine AllReadyH.cons (o := _) rfl (fun K hK => ?_) (AllReadyH.nil)
                  go_simp
                  refine hK.out _ _ (hHeld) (fun hHeld => ?_)
                  clear hK K
                  try simp only [Act.put, List.setIfInBounds_toArray, List.set_cons_zero, List.set_cons_succ, List.getElem_toArray, List.getElem_cons_zero, List.getElem_cons_succ]
                  refine wpAnyH_done (by kernel_rfl) ?_ _
                  have HBF := Lib.hid (HBQ.out.trans (HB9.out.mono HBQ.out.size))
                  clear hHeld
                  go_wp2_with fail
                  go_ret
                  exact ⟨rfl, HBF.out⟩
end Go.Proofs.Ytgnbjhiafjpokaa
