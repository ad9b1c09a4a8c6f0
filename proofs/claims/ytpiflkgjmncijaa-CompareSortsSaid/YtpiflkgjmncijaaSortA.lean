/-
  The library's sorting of a row of places by the terms at them: what lies in memory, the comparison, insertion.
-/
import Derived.Test.YtpiflkgjmncijaaOrder
import Derived.Test.YtpiflkgjmncijaaBox
import Derived.Sort.WalkA
import Derived.Sort.LotA
import Derived.Deep.QuietTactic
import Derived.BigQuiet
import Derived.BigRegion
namespace Go.Proofs.Ytpiflkgjmncijaa
open Go.RowKit Go.Sort

/-- The term at a place. -/
def keyAt (l : List Tm) (x : Int) : Tm := l.getD x.toNat kZ
def tlt (l : List Tm) (x y : Int) : Bool := decide ((keyAt l x).cmp (keyAt l y) < 0)
theorem keyAt_get {l : List Tm} {i : Nat} (h : i < l.length) : keyAt l (i : Int) = l[i] := by simp [keyAt, h]

set_option maxRecDepth 100000 in
set_option maxHeartbeats 400000 in
/-- The comparison that is handed to the library. -/
theorem torder_any (l : List Tm) (sv : Value) (x y : Int) (w : World) (B : Nat) (hB : B ≤ w.heap.size) (hsl : Tm.sliceIn w B l sv) (hx : 0 ≤ x ∧ x < l.length) (hy : 0 ≤ y ∧ y < l.length) :
    Calls Try.prog 45 #[sv, .int .i64 x, .int .i64 y] w fun e w' => e = .returned (.int .i64 ((keyAt l x).cmp (keyAt l y))) ∧ Below w.heap.size w w' := by
  obtain ⟨i, rfl⟩ : ∃ i : Nat, x = i := ⟨x.toNat, by omega⟩
  obtain ⟨j, rfl⟩ : ∃ j : Nat, y = j := ⟨y.toNat, by omega⟩
  have hi : i < l.length := by omega
  have hj : j < l.length := by omega
  rw [keyAt_get hi, keyAt_get hj]
  have hlen : l.length ≤ 2513169434900 := by obtain ⟨_, _, _, _, h, _⟩ := hsl; exact h
  obtain ⟨g, cap, rfl, hcap, _, _⟩ := id hsl
  obtain ⟨b, off, sva, rfl, hbB, g0, g1, g2, g3, hin⟩ := Tm.sliceIn_get hsl i hi
  obtain ⟨b', off', svb, e', hbB', g0', g1', g2', g3', hin'⟩ := Tm.sliceIn_get hsl j hj
  obtain ⟨rfl, rfl⟩ : b = b' ∧ off = off' := by cases e'; exact ⟨rfl, rfl⟩
  have HIN := Lib.hid hin
  have HIN' := Lib.hid hin'
  clear hsl hin hin' e' hx hy
  go_enter Try.func45, Try.ntmps45
  go_wp2_with fail
  go_still_tail 8, (by kernel_rfl)
  go_wp2_with fail
  refine (order_any l[i] l[j] w.drew B sva svb hB (Tm.inn_below HIN.out (n₀ := w.heap.size) ((Below.refl _ _).drew) hB) (Tm.inn_below HIN'.out (n₀ := w.heap.size) ((Below.refl _ _).drew) hB)).mono ?_
  rintro e w1 ⟨rfl, hb1⟩
  go_wp2_with fail
  go_ret
  exact ⟨rfl, ((Below.refl _ _).drew).trans hb1⟩

/-- While places are sorted: the row lies in block b, nothing that lay before has turned. -/
structure RowSt (w : World) (b N : Nat) (d : Array Int) (W : World) : Prop where
  hb : w.heap.size ≤ b
  below : Below w.heap.size w W
  cell : ∀ i, i < d.size → W.cell? ⟨b, i, none⟩ = some (.int .i64 d[i]!)
  free : ∀ i, i < d.size → W.frozen? ⟨b, i, none⟩ = false
  rng : ∀ i, i < d.size → 0 ≤ d[i]! ∧ d[i]! < N
theorem RowSt.lt {w : World} {b N : Nat} {d : Array Int} {W : World} (h : RowSt w b N d W) {i : Nat} (hi : i < d.size) : b < W.heap.size := World.block_lt_of_cell? _ _ (h.cell i hi)
theorem RowSt.next {w : World} {b N : Nat} {d : Array Int} {W W' : World} (h : RowSt w b N d W) (hb : Below W.heap.size W W') : RowSt w b N d W' where
  hb := h.hb
  below := h.below.trans (hb.mono h.below.size)
  cell i hi := (hb.cell (p := ⟨b, i, none⟩) (h.lt hi)).trans (h.cell i hi)
  free i hi := (hb.frozen (p := ⟨b, i, none⟩) (h.lt hi)).trans (h.free i hi)
  rng := h.rng
theorem RowSt.drew {w : World} {b N : Nat} {d : Array Int} {W : World} (h : RowSt w b N d W) : RowSt w b N d W.drew := h.next (Below.refl _ _).drew
theorem RowSt.drewN {w : World} {b N : Nat} {d : Array Int} {W : World} (h : RowSt w b N d W) (n : Nat) : RowSt w b N d (W.drewN n) := h.next (below_drewN (Below.refl _ _) n)
/-- Two places are exchanged. -/
theorem RowSt.swap {w : World} {b N : Nat} {d : Array Int} {W : World} (h : RowSt w b N d W) {i j : Nat} (hi : i < d.size) (hj : j < d.size) :
    RowSt w b N (swp d i j) (((W.setCell ⟨b, i, none⟩ (.int .i64 d[j]!)).setCell ⟨b, j, none⟩ (.int .i64 d[i]!)).drew) where
  hb := h.hb
  below := ((h.below.setCell (p := ⟨b, i, none⟩) h.hb _).setCell (p := ⟨b, j, none⟩) h.hb _).drew
  cell k hk := by
    rw [swp_size] at hk
    rw [swp_get d hi hj k]
    show ((W.setCell ⟨b, i, none⟩ _).setCell ⟨b, j, none⟩ _).cell? ⟨b, k, none⟩ = _
    by_cases e : k = j
    · subst e
      rw [if_pos rfl]
      by_cases e2 : i = k
      · subst e2
        exact World.cell?_setCell_same _ _ _ (World.cell?_setCell_same _ _ _ (h.cell i hi))
      · exact World.cell?_setCell_same _ _ _ ((World.cell?_setCell_other _ _ _ _ (by intro e'; simp only [Addr.mk.injEq] at e'; omega)).trans (h.cell k hj))
    · rw [if_neg e]
      rw [World.cell?_setCell_other _ _ _ _ (by intro e'; simp only [Addr.mk.injEq] at e'; omega)]
      by_cases e2 : k = i
      · subst e2
        rw [if_pos rfl]
        exact World.cell?_setCell_same _ _ _ (h.cell k hi)
      · rw [if_neg e2, World.cell?_setCell_other _ _ _ _ (by intro e'; simp only [Addr.mk.injEq] at e'; omega)]
        exact h.cell k hk
  free k hk := by
    rw [swp_size] at hk
    show ((W.setCell ⟨b, i, none⟩ _).setCell ⟨b, j, none⟩ _).frozen? ⟨b, k, none⟩ = _
    rw [World.frozen?_setCell, World.frozen?_setCell]
    exact h.free k hk
  rng k hk := by
    rw [swp_size] at hk
    rw [swp_get d hi hj k]
    split
    · exact h.rng i hi
    · split
      · exact h.rng j hj
      · exact h.rng k hk
/-- Behind the first store of an exchange the second place still holds something. -/
theorem RowSt.second {w : World} {b N : Nat} {d : Array Int} {W : World} (h : RowSt w b N d W) {i j : Nat} (hi : i < d.size) (hj : j < d.size) (v : Value) : ∃ u, (W.setCell ⟨b, i, none⟩ v).cell? ⟨b, j, none⟩ = some u := by
  by_cases e : i = j
  · subst e; exact ⟨v, World.cell?_setCell_same _ _ _ (h.cell i hi)⟩
  · exact ⟨_, (World.cell?_setCell_other _ _ _ _ (by intro e'; simp only [Addr.mk.injEq] at e'; omega)).trans (h.cell j hj)⟩
/-- The comparison of two that the row holds. -/
theorem RowSt.less {w : World} {b : Nat} {d : Array Int} {W : World} {l : List Tm} {sv : Value} (h : RowSt w b l.length d W) (hsl : Tm.sliceIn w w.heap.size l sv) {i j : Nat} (hi : i < d.size) (hj : j < d.size) :
    Calls Try.prog 45 #[sv, .int .i64 d[i]!, .int .i64 d[j]!] W fun e w' => e = .returned (.int .i64 ((keyAt l d[i]!).cmp (keyAt l d[j]!))) ∧ Below W.heap.size W w' :=
  torder_any l sv _ _ W w.heap.size h.below.size (Tm.sliceIn_below hsl h.below (Nat.le_refl _)) (h.rng i hi) (h.rng j hj)
end Go.Proofs.Ytpiflkgjmncijaa
