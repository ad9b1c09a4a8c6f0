/-
  Three terms in boxes of their own, the first ones behind a world.
-/
import Derived.Test.YtomdccejgmhfoaaBox
namespace Go.Proofs.Ytomdccejgmhfoaa
open Go.RowKit

structure OSt (w : World) (a b c : Tm) (sva svb svc : Value) (W : World) : Prop where
  ba : TmBox W w.heap.size a sva
  bb : TmBox W (w.heap.size + 1) b svb
  bc : TmBox W (w.heap.size + 1 + 1) c svc
  below : Below w.heap.size w W
theorem OSt.next {w : World} {a b c : Tm} {sva svb svc : Value} {W W' : World} (h : OSt w a b c sva svb svc W) (hb : Below W.heap.size W W') : OSt w a b c sva svb svc W' :=
  ⟨h.ba.next hb, h.bb.next hb, h.bc.next hb, h.below.trans (hb.mono h.below.size)⟩
theorem OSt.cells {w : World} {a b c : Tm} {sva svb svc : Value} {W : World} (h : OSt w a b c sva svb svc W) :
    (W.cell? ⟨w.heap.size, 0, none⟩ = some (.int .i64 a.kind) ∧ W.cell? ⟨w.heap.size, 1, none⟩ = some (.string a.name) ∧ W.cell? ⟨w.heap.size, 2, none⟩ = some (.int .i64 a.n) ∧ W.cell? ⟨w.heap.size, 3, none⟩ = some sva) ∧
    (W.cell? ⟨w.heap.size + 1, 0, none⟩ = some (.int .i64 b.kind) ∧ W.cell? ⟨w.heap.size + 1, 1, none⟩ = some (.string b.name) ∧ W.cell? ⟨w.heap.size + 1, 2, none⟩ = some (.int .i64 b.n) ∧ W.cell? ⟨w.heap.size + 1, 3, none⟩ = some svb) ∧
    (W.cell? ⟨w.heap.size + 1 + 1, 0, none⟩ = some (.int .i64 c.kind) ∧ W.cell? ⟨w.heap.size + 1 + 1, 1, none⟩ = some (.string c.name) ∧ W.cell? ⟨w.heap.size + 1 + 1, 2, none⟩ = some (.int .i64 c.n) ∧ W.cell? ⟨w.heap.size + 1 + 1, 3, none⟩ = some svc) :=
  ⟨h.ba.cells, h.bb.cells, h.bc.cells⟩
theorem OSt.start {w : World} {a b c : Tm} {sva svb svc : Value} (ha : Tm.inn w w.heap.size a sva) (hb : Tm.inn w w.heap.size b svb) (hc : Tm.inn w w.heap.size c svc) :
    OSt w a b c sva svb svc (((w.alloc (Obj.cells #[.int .i64 a.kind, .string a.name, .int .i64 a.n, sva] 27 (0, 0))).alloc (Obj.cells #[.int .i64 b.kind, .string b.name, .int .i64 b.n, svb] 27 (0, 0))).alloc (Obj.cells #[.int .i64 c.kind, .string c.name, .int .i64 c.n, svc] 27 (0, 0))) := by
  have h2 := TSt.start ha hb
  have hbl := (Below.refl ((w.alloc (Obj.cells #[.int .i64 a.kind, .string a.name, .int .i64 a.n, sva] 27 (0, 0))).alloc (Obj.cells #[.int .i64 b.kind, .string b.name, .int .i64 b.n, svb] 27 (0, 0))).heap.size _).alloc (Nat.le_refl _) (Obj.cells #[.int .i64 c.kind, .string c.name, .int .i64 c.n, svc] 27 (0, 0))
  have h3 := h2.next hbl
  refine ⟨⟨h3.ka, h3.ia⟩, ⟨h3.kb, h3.ib⟩, ⟨newBlk _ _ _ (by simp), Tm.inn_mono (Tm.inn_below hc h3.below (Nat.le_refl _)) h3.below.size⟩, h3.below⟩
theorem three_slice {W : World} {a b c : Tm} {sva svb svc : Value} {n : Nat} (hb : W.heap[n]? = some (Obj.cells #[.int .i64 a.kind, .string a.name, .int .i64 a.n, sva, .int .i64 b.kind, .string b.name, .int .i64 b.n, svb, .int .i64 c.kind, .string c.name, .int .i64 c.n, svc] 27 (0, 0)))
    (ha : Tm.inn W W.heap.size a sva) (hb' : Tm.inn W W.heap.size b svb) (hc : Tm.inn W W.heap.size c svc) : Tm.sliceIn W W.heap.size [a, b, c] (.slice (some ⟨n, 0, none⟩) 3 3) := by
  refine ⟨_, 3, rfl, Nat.le_refl _, by simp, .inr ⟨n, 0, rfl, (Array.getElem?_eq_some_iff.1 hb).1, ?_⟩⟩
  simp only [Tm.rowIn]
  refine ⟨⟨sva, ?_, ?_, ?_, ?_, ha⟩, ⟨svb, ?_, ?_, ?_, ?_, hb'⟩, ⟨svc, ?_, ?_, ?_, ?_, hc⟩, trivial⟩ <;> simp [World.cell?, hb]
end Go.Proofs.Ytomdccejgmhfoaa
