/-
  What the calls lean on of the library's own variable: it holds an error.
-/
import Derived.Test.YtilfglcjcmpfeaaGreatDoorChecked
import Derived.WalkKit
namespace Go.Proofs.YtilfglcjcmpfeaaGreatDoor
open Go.RowKit

/-- What the library's variable holds: an error. -/
def Rng (w : World) : Prop := ∃ te pe, w.cell? ⟨2, 0, none⟩ = some (.iface te pe)
theorem Rng.next {w w' : World} (h : Rng w) (hb : Below w.heap.size w w') : Rng w' := by
  obtain ⟨te, pe, h⟩ := h
  exact ⟨te, pe, (hb.cell (p := ⟨2, 0, none⟩) (World.block_lt_of_cell? w _ h)).trans h⟩
end Go.Proofs.YtilfglcjcmpfeaaGreatDoor
