/-
  Two terms in boxes of their own, the first ones behind a world.
-/
import Derived.Test.YtpiflkgjmncijaaBox
namespace Go.Proofs.Ytpiflkgjmncijaa
open Go.RowKit

/-- What lies in memory while the statement is asked: the two terms in their boxes. -/
structure TSt (w : World) (a b : Tm) (sva svb : Value) (W : World) : Prop where
  ka : W.heap[w.heap.size]? = some (Obj.cells #[.int .i64 a.kind, .string a.name, .int .i64 a.n, sva] 24 (0, 0))
  kb : W.heap[w.heap.size + 1]? = some (Obj.cells #[.int .i64 b.kind, .string b.name, .int .i64 b.n, svb] 24 (0, 0))
  ia : Tm.inn W W.heap.size a sva
  ib : Tm.inn W W.heap.size b svb
  below : Below w.heap.size w W
theorem TSt.next {w : World} {a b : Tm} {sva svb : Value} {W W' : World} (h : TSt w a b sva svb W) (hb : Below W.heap.size W W') : TSt w a b sva svb W' where
  ka := (hb.block _ (Array.getElem?_eq_some_iff.1 h.ka).1).trans h.ka
  kb := (hb.block _ (Array.getElem?_eq_some_iff.1 h.kb).1).trans h.kb
  ia := Tm.inn_mono (Tm.inn_below h.ia hb (Nat.le_refl _)) hb.size
  ib := Tm.inn_mono (Tm.inn_below h.ib hb (Nat.le_refl _)) hb.size
  below := h.below.trans (hb.mono h.below.size)
/-- .. said of the cells. -/
theorem TSt.cells {w : World} {a b : Tm} {sva svb : Value} {W : World} (h : TSt w a b sva svb W) :
    W.cell? ⟨w.heap.size, 0, none⟩ = some (.int .i64 a.kind) ∧ W.cell? ⟨w.heap.size, 1, none⟩ = some (.string a.name) ∧ W.cell? ⟨w.heap.size, 2, none⟩ = some (.int .i64 a.n) ∧ W.cell? ⟨w.heap.size, 3, none⟩ = some sva ∧
    W.cell? ⟨w.heap.size + 1, 0, none⟩ = some (.int .i64 b.kind) ∧ W.cell? ⟨w.heap.size + 1, 1, none⟩ = some (.string b.name) ∧ W.cell? ⟨w.heap.size + 1, 2, none⟩ = some (.int .i64 b.n) ∧ W.cell? ⟨w.heap.size + 1, 3, none⟩ = some svb ∧ TSt w a b sva svb W := by
  obtain ⟨⟨a0, a1, a2, a3⟩, _⟩ := row4 h.ka
  obtain ⟨⟨b0, b1, b2, b3⟩, _⟩ := row4 h.kb
  exact ⟨a0, a1, a2, a3, b0, b1, b2, b3, h⟩
theorem TSt.step {w : World} {a b : Tm} {sva svb : Value} {W W' : World} {p1 p2 p3 p4 p5 p6 p7 p8 : Prop} (hb : Below W.heap.size W W') (h : p1 ∧ p2 ∧ p3 ∧ p4 ∧ p5 ∧ p6 ∧ p7 ∧ p8 ∧ TSt w a b sva svb W) :
    W'.cell? ⟨w.heap.size, 0, none⟩ = some (.int .i64 a.kind) ∧ W'.cell? ⟨w.heap.size, 1, none⟩ = some (.string a.name) ∧ W'.cell? ⟨w.heap.size, 2, none⟩ = some (.int .i64 a.n) ∧ W'.cell? ⟨w.heap.size, 3, none⟩ = some sva ∧
    W'.cell? ⟨w.heap.size + 1, 0, none⟩ = some (.int .i64 b.kind) ∧ W'.cell? ⟨w.heap.size + 1, 1, none⟩ = some (.string b.name) ∧ W'.cell? ⟨w.heap.size + 1, 2, none⟩ = some (.int .i64 b.n) ∧ W'.cell? ⟨w.heap.size + 1, 3, none⟩ = some svb ∧ TSt w a b sva svb W' := (h.2.2.2.2.2.2.2.2.next hb).cells
theorem TSt.a' {w : World} {a b : Tm} {sva svb : Value} {W : World} {p1 p2 p3 p4 p5 p6 p7 p8 : Prop} (h : p1 ∧ p2 ∧ p3 ∧ p4 ∧ p5 ∧ p6 ∧ p7 ∧ p8 ∧ TSt w a b sva svb W) : Tm.inn W W.heap.size a sva := h.2.2.2.2.2.2.2.2.ia
theorem TSt.b' {w : World} {a b : Tm} {sva svb : Value} {W : World} {p1 p2 p3 p4 p5 p6 p7 p8 : Prop} (h : p1 ∧ p2 ∧ p3 ∧ p4 ∧ p5 ∧ p6 ∧ p7 ∧ p8 ∧ TSt w a b sva svb W) : Tm.inn W W.heap.size b svb := h.2.2.2.2.2.2.2.2.ib
/-- The start: both terms are put into boxes. -/
theorem TSt.start {w : World} {a b : Tm} {sva svb : Value} (ha : Tm.inn w w.heap.size a sva) (hb : Tm.inn w w.heap.size b svb) :
    TSt w a b sva svb ((w.alloc (Obj.cells #[.int .i64 a.kind, .string a.name, .int .i64 a.n, sva] 24 (0, 0))).alloc (Obj.cells #[.int .i64 b.kind, .string b.name, .int .i64 b.n, svb] 24 (0, 0))) := by
  have hB0 : Below w.heap.size w ((w.alloc (Obj.cells #[.int .i64 a.kind, .string a.name, .int .i64 a.n, sva] 24 (0, 0))).alloc (Obj.cells #[.int .i64 b.kind, .string b.name, .int .i64 b.n, svb] 24 (0, 0))) := ((Below.refl _ w).alloc (Nat.le_refl _) _).alloc (by simp) _
  refine ⟨?_, ?_, Tm.inn_mono (Tm.inn_below ha hB0 (Nat.le_refl _)) hB0.size, Tm.inn_mono (Tm.inn_below hb hB0 (Nat.le_refl _)) hB0.size, hB0⟩
  · rw [Below.heap_alloc _ _ _ (by simp)]; exact newBlk _ _ _ rfl
  · exact newBlk _ _ _ (by simp)
theorem TSt.size {w : World} {a b : Tm} {sva svb : Value} {W : World} (h : TSt w a b sva svb W) : w.heap.size + 1 < W.heap.size := (Array.getElem?_eq_some_iff.1 h.kb).1
end Go.Proofs.Ytpiflkgjmncijaa
