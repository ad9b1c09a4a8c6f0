/-
  The document's sort, word, signs, digits: of which sort a byte is, and where bytes of a sort end.
  The document's number and quoted.
  The document's quoted.
  The document's name: a token of a name, in new memory.
  The document's One: the token at a place.
-/
import Derived.Test.YtkjnjahmlobjiaaGreatDoorG00
import Derived.Test.YtkjnjahmlobjiaaGreatDoorChecked
import Derived.WalkKit
import Derived.Lib.Hide
import Derived.StillTailTactics
import Derived.OwnWalk
import Derived.Deep.RegionHeld3
import Derived.Deep.RegionWith
namespace Go.Proofs.YtkjnjahmlobjiaaGreatDoor
open Go.RowKit

def bs (s : ByteArray) : List UInt8 := s.data.toList
theorem bs_length (s : ByteArray) : (bs s).length = s.size := by simp [bs]
theorem bs_get (s : ByteArray) (i : Nat) (h : i < s.size) : (bs s)[i]'(by rw [bs_length]; exact h) = s[i] := by simp [bs]; rfl
end Go.Proofs.YtkjnjahmlobjiaaGreatDoor

namespace Go.Proofs.YtkjnjahmlobjiaaGreatDoor
open Go.RowKit

theorem bs_toList (s : ByteArray) : s.toList = bs s := by rw [ByteArray.toList_eq]; rfl
end Go.Proofs.YtkjnjahmlobjiaaGreatDoor

namespace Go.Proofs.YtkjnjahmlobjiaaGreatDoor
open Go.RowKit

theorem bs_extract (s : ByteArray) (a b : Nat) : bs (s.extract a b) = ((bs s).drop a).take (b - a) := by
  simp [bs, List.extract]
theorem bs_byte (s : ByteArray) (q : Nat) (hq : q < s.size) : bs (s.extract q (q + 1)) = [s[q]] := by
  rw [bs_extract, List.drop_eq_getElem_cons (by rw [bs_length]; exact hq), bs_get s q hq]
  simp
end Go.Proofs.YtkjnjahmlobjiaaGreatDoor

namespace Go.Proofs.YtkjnjahmlobjiaaGreatDoor
open Go.RowKit

/-- A token as a value. -/
def tokV (kind : Nat) (x : ByteArray) (n at' : Nat) (o : Bool) : Value := .agg #[.int .i64 (kind : Nat), .string x, .int .i64 (n : Nat), .int .i64 (at' : Nat), .bool o]
end Go.Proofs.YtkjnjahmlobjiaaGreatDoor

namespace Go.Proofs.YtkjnjahmlobjiaaGreatDoor
open Go.RowKit

theorem lnewBlk (w : World) (o : Obj) : (w.alloc o).heap[w.heap.size]? = some o := by
  show (w.heap.push o)[w.heap.size]? = some o
  simp
theorem set5_below {w W : World} (h : Below w.heap.size w W) (a0 a1 a2 a3 a4 : Value) : Below w.heap.size w (((((W.setCell ⟨w.heap.size, 0, none⟩ a0).setCell ⟨w.heap.size, 1, none⟩ a1).setCell ⟨w.heap.size, 2, none⟩ a2).setCell ⟨w.heap.size, 3, none⟩ a3).setCell ⟨w.heap.size, 4, none⟩ a4) :=
  ((((h.setCell (p := ⟨_, 0, none⟩) (Nat.le_refl _) _).setCell (p := ⟨_, 1, none⟩) (Nat.le_refl _) _).setCell (p := ⟨_, 2, none⟩) (Nat.le_refl _) _).setCell (p := ⟨_, 3, none⟩) (Nat.le_refl _) _).setCell (p := ⟨_, 4, none⟩) (Nat.le_refl _) _
theorem cut_tw {p : UInt8 → Bool} (s : ByteArray) (at' to : Nat) (h : at' + (((bs s).drop at').takeWhile p).length = to) : bs (s.extract at' to) = ((bs s).drop at').takeWhile p ∧ (bs s).drop to = ((bs s).drop at').dropWhile p := by
  obtain ⟨l, hl⟩ : ∃ l, (bs s).drop at' = l := ⟨_, rfl⟩
  rw [hl] at h ⊢
  have e : to - at' = (l.takeWhile p).length := by omega
  refine ⟨by rw [bs_extract, hl, e, tw_take], ?_⟩
  have : (bs s).drop to = l.drop (to - at') := by rw [← hl, List.drop_drop]; congr 1; omega
  rw [this, e]
  conv => lhs; arg 2; rw [← List.takeWhile_append_dropWhile (p := p) (l := l)]
  rw [List.drop_left]
end Go.Proofs.YtkjnjahmlobjiaaGreatDoor
