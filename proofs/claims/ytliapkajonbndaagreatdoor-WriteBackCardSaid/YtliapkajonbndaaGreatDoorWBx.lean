/-
  What the laws of texts hold: a term in a box.
-/
import Derived.Test.YtliapkajonbndaaGreatDoorKnX
import Derived.Test.YtliapkajonbndaaGreatDoorG06
namespace Go.Proofs.YtliapkajonbndaaGreatDoor
open Go.RowKit

/-- A term in a box of the call's own; the table stands. -/
structure WB (w0 : World) (t : Tm) (sv : Value) (bx : Nat) (W : World) : Prop where
  low : Below w0.heap.size w0 W
  bk : W.heap[bx]? = some (.cells #[.int .i64 t.kind, .string t.name, .int .i64 t.n, sv] 24 (0, 0))
  hi : Tm.inn W W.heap.size t sv
  pw : Pow W
theorem WB.lt {w0 : World} {t : Tm} {sv : Value} {bx : Nat} {W : World} (h : WB w0 t sv bx W) : bx < W.heap.size := (Array.getElem?_eq_some_iff.1 h.bk).1
theorem WB.next {w0 : World} {t : Tm} {sv : Value} {bx : Nat} {W W' : World} (h : WB w0 t sv bx W) (hb : Below W.heap.size W W') : WB w0 t sv bx W' :=
  ⟨h.low.trans (hb.mono h.low.size), (hb.block _ h.lt).trans h.bk, kn_next h.hi hb, h.pw.next hb h.pw.lt⟩
section
variable {w0 : World} {t : Tm} {sv : Value} {bx : Nat} {W : World} (k : WB w0 t sv bx W)
include k
theorem WB.cells0 : W.cell? ⟨bx, 0, none⟩ = some (.int .i64 t.kind) := by rw [Lib.cell_of_heap k.bk]; rfl
theorem WB.cells1 : W.cell? ⟨bx, 1, none⟩ = some (.string t.name) := by rw [Lib.cell_of_heap k.bk]; rfl
theorem WB.cells2 : W.cell? ⟨bx, 2, none⟩ = some (.int .i64 t.n) := by rw [Lib.cell_of_heap k.bk]; rfl
theorem WB.cells3 : W.cell? ⟨bx, 3, none⟩ = some sv := by rw [Lib.cell_of_heap k.bk]; rfl
end
theorem WB.new {t : Tm} {sv : Value} {w : World} (hi : Tm.inn w w.heap.size t sv) (hp : Pow w) : WB w t sv w.heap.size (w.alloc (.cells #[.int .i64 t.kind, .string t.name, .int .i64 t.n, sv] 24)) := by
  have hb := (Below.refl w.heap.size w).alloc (Nat.le_refl _) (.cells #[.int .i64 t.kind, .string t.name, .int .i64 t.n, sv] 24)
  exact ⟨hb, heap_alloc_new w _, kn_next hi hb, hp.next hb hp.lt⟩
theorem one_wb {W : World} {t : Tm} {sv : Value} {b : Nat} (hb : W.heap[b]? = some (Obj.cells #[.int .i64 t.kind, .string t.name, .int .i64 t.n, sv] 24 (0, 0))) (ht : Tm.inn W W.heap.size t sv) : Tm.sliceIn W W.heap.size [t] (.slice (some ⟨b, 0, none⟩) 1 1) := by
  refine ⟨_, 1, rfl, Nat.le_refl _, by simp, .inr ⟨b, 0, rfl, (Array.getElem?_eq_some_iff.1 hb).1, ?_⟩⟩
  simp only [Tm.rowIn]
  refine ⟨⟨sv, ?_, ?_, ?_, ?_, ht⟩, trivial⟩ <;> simp [World.cell?, hb]
theorem some_size {t : Tm} (h : Tm.someB [t] = true) : t.size ≤ 4000 := by
  simp only [Tm.someB, Bool.and_eq_true, decide_eq_true_eq] at h
  have := Tm.fews_says [t] (fun t _ m d => Tm.few_says t m d) _ _ h.1
  simp only [Tm.sizes] at this
  omega
/-- The row of one term that the law asks about. -/
theorem wsome_any {t : Tm} {g : Option Addr} {m cap : Nat} {W : World} (hi : Tm.inn W W.heap.size t (.slice g m cap)) :
    Calls Tryz.prog 4 #[.slice (some ⟨W.heap.size, 0, none⟩) 1 1] (W.alloc (.cells #[.int .i64 t.kind, .string t.name, .int .i64 t.n, .slice g m cap] 24)) fun e w' => e = .returned (.bool (Tm.someB [t])) ∧ Below W.heap.size W w' := by
  have hb := (Below.refl W.heap.size W).alloc (Nat.le_refl _) (.cells #[.int .i64 t.kind, .string t.name, .int .i64 t.n, .slice g m cap] 24)
  have hs := one_wb (newBlk W (.cells #[.int .i64 t.kind, .string t.name, .int .i64 t.n, .slice g m cap] 24) W.heap.size rfl) (kn_next hi hb)
  exact (some_any [t] _ _ _ (Nat.le_refl _) hs).mono fun e w' h => ⟨h.1, hb.trans (h.2.mono hb.size)⟩
theorem tl0 : ((⟨#[]⟩ : ByteArray).toList == []) = true := by rw [bsN_toList]; rfl
end Go.Proofs.YtliapkajonbndaaGreatDoor
