/-
  The library's sorting of a row of places: a range turned around, the median of three.
-/
import Derived.Test.YtpiflkgjmncijaaPdqA
import Derived.Sort.LotD1
import Derived.Sort.LotD4
namespace Go.Proofs.Ytpiflkgjmncijaa
open Go.RowKit Go.Sort

theorem rev_go (i j : Nat) (d : Array Int) (h : i < j) : reverseLoop i j d = reverseLoop (i + 1) (j - 1) (swp d i j) := by rw [reverseLoop, if_pos h]
theorem rev_stop (i j : Nat) (d : Array Int) (h : ¬ i < j) : reverseLoop i j d = d := by rw [reverseLoop, if_neg h]

set_option maxRecDepth 100000 in
set_option maxHeartbeats 4000000 in
theorem reverse_any (N : Nat) (cv : Value) (d : Array Int) (b cap a z : Nat) (w W : World) (hS : RowSt w b N d W) (haz : a < z) (hb : z ≤ d.size) (hsz : d.size ≤ 1000000) :
    Calls Try.prog 86 #[.slice (some ⟨b, 0, none⟩) d.size cap, .int .i64 a, .int .i64 z, cv] W
      fun e W' => e = .returned (.tuple #[]) ∧ RowSt w b N (reverseRange d a z) W' := by
  have HS := Lib.hid hS
  clear hS
  obtain ⟨n, hn⟩ : ∃ n, n = d.size := ⟨_, rfl⟩
  have HN := Lib.hid hn
  rw [← hn] at hb hsz ⊢
  clear hn
  obtain ⟨m, rfl⟩ : ∃ m, z = m + 1 := ⟨z - 1, by omega⟩
  go_enter Try.func86, Try.ntmps86
  go_wp2_with fail
  go_loopw [8, 9] (fun vi vj wr => ∃ (i j : Nat) (dk : Array Int), vi = .int .i64 i ∧ vj = .int .i64 j ∧ j < n ∧ i ≤ n ∧ Hid (dk.size = n) ∧ Hid (RowSt w b N dk wr) ∧ Hid (reverseLoop i j dk = reverseRange d a (m + 1))) (fun vi _ _ => n - (intOf vi).toNat)
  case atStart => exact ⟨a, m, d, rfl, by go_num, by omega, by omega, Lib.hid HN.out.symm, HS, Lib.hid rfl⟩
  case round =>
    obtain ⟨i, j, dk, rfl, rfl, hj, hi, HDK, HD, HQ⟩ := hrel
    by_cases hij : i < j
    · have HQ2 := Lib.hid ((rev_go i j dk hij).symm.trans HQ.out)
      clear HQ
      have hp1 : i < dk.size := by rw [HDK.out]; omega
      have hp0 : j < dk.size := by rw [HDK.out]; omega
      obtain ⟨x, hx⟩ : ∃ x, x = dk[i]! := ⟨_, rfl⟩
      obtain ⟨y, hy⟩ : ∃ y, y = dk[j]! := ⟨_, rfl⟩
      have HX := Lib.hid hx
      have HY := Lib.hid hy
      clear hx hy
      have ha1 : (0 : Int) ≤ (i : Int) := by omega
      have hz1 : (i : Int) < (n : Int) := by omega
      have ht1 : ((i : Int)).toNat = i := by omega
      have hw1 : IntKind.i64.wrap ((i : Int)) = (i : Int) := by rw [IntKind.wrap_i64]; omega

      have ha0 : (0 : Int) ≤ (j : Int) := by omega
      have hz0 : (j : Int) < (n : Int) := by omega
      have ht0 : ((j : Int)).toNat = j := by omega
      have hw0 : IntKind.i64.wrap ((j : Int)) = (j : Int) := by rw [IntKind.wrap_i64]; omega

      have HS1 := Lib.hid (HD.out.swap hp1 hp0)
      have c1 := HD.out.cell (i) hp1
      have c0 := HD.out.cell (j) hp0
      have f1 := HD.out.free (i) hp1
      have f0 := HD.out.free (j) hp0
      obtain ⟨u, c2⟩ := HD.out.second hp1 hp0 (.int .i64 y)
      rw [← HX.out] at c1
      rw [← HY.out] at c0
      rw [← HX.out, ← HY.out] at HS1
      go_wp2_with fail

      go_big_region
      clear c1 c0 f1 f0 c2
      revert HS1
      generalize ((wr.setCell ⟨b, i, none⟩ (.int .i64 y)).setCell ⟨b, j, none⟩ (.int .i64 x)).drew = w2
      intro HS1
      go_wp2_with fail
      go_roundw
      case rel => exact ⟨i + 1, j - 1, swp dk i j, by go_num, by go_num, by omega, by omega, Lib.hid (by rw [swp_size]; exact HDK.out), HS1, HQ2⟩
      case measure => simp [intOf]; omega
    · have HQ2 := Lib.hid ((rev_stop i j dk hij).symm.trans HQ.out)
      go_wp2_with fail
      go_end0
      refine ⟨rfl, ?_⟩
      rw [← HQ2.out]
      exact HD.out

/-- While a pivot is chosen: the row, and the cell that counts. -/
structure PivSt (w : World) (b N : Nat) (d : Array Int) (sb s : Nat) (W : World) : Prop where
  row : RowSt w b N d W
  hs : w.heap.size ≤ sb
  ne : sb ≠ b
  cell : W.cell? ⟨sb, 0, none⟩ = some (.int .i64 s)
  free : W.frozen? ⟨sb, 0, none⟩ = false
theorem PivSt.next {w : World} {b N : Nat} {d : Array Int} {sb s : Nat} {W W' : World} (h : PivSt w b N d sb s W) (hb : Below W.heap.size W W') : PivSt w b N d sb s W' :=
  have hl : sb < W.heap.size := World.block_lt_of_cell? _ _ h.cell
  ⟨h.row.next hb, h.hs, h.ne, (hb.cell (p := ⟨sb, 0, none⟩) hl).trans h.cell, (hb.frozen (p := ⟨sb, 0, none⟩) hl).trans h.free⟩
theorem PivSt.put {w : World} {b N : Nat} {d : Array Int} {sb s : Nat} {W : World} (h : PivSt w b N d sb s W) (t : Nat) : PivSt w b N d sb t (W.setCell ⟨sb, 0, none⟩ (.int .i64 t)) where
  row := { hb := h.row.hb, below := h.row.below.setCell (p := ⟨sb, 0, none⟩) h.hs _,
           cell := fun i hi => (World.cell?_setCell_other _ _ _ _ (by intro e'; simp only [Addr.mk.injEq] at e'; exact absurd e'.1 (by have := h.ne; omega))).trans (h.row.cell i hi),
           free := fun i hi => by rw [World.frozen?_setCell]; exact h.row.free i hi, rng := h.row.rng }
  hs := h.hs
  ne := h.ne
  cell := World.cell?_setCell_same _ _ _ h.cell
  free := by rw [World.frozen?_setCell]; exact h.free

set_option maxRecDepth 100000 in
set_option maxHeartbeats 4000000 in
theorem order2_any (l : List Tm) (sv : Value) (d : Array Int) (b cap sb s p q : Nat) (w W : World) (hS : PivSt w b l.length d sb s W) (hsl : Tm.sliceIn w w.heap.size l sv) (hp : p < d.size) (hq : q < d.size) (hs : s ≤ 1000) (hsz : d.size ≤ 1000000) :
    Calls Try.prog 97 #[.slice (some ⟨b, 0, none⟩) d.size cap, .int .i64 p, .int .i64 q, .pointer (some ⟨sb, 0, none⟩), .func (.func 45) #[sv] #[]] W
      fun e W' => e = .returned (.tuple #[.int .i64 (order2 (tlt l) d p q s).1, .int .i64 (order2 (tlt l) d p q s).2.1]) ∧ PivSt w b l.length d sb (order2 (tlt l) d p q s).2.2 W' := by
  have HS := Lib.hid hS
  have HSL := Lib.hid hsl
  clear hS hsl
  obtain ⟨n, hn⟩ : ∃ n, n = d.size := ⟨_, rfl⟩
  have HDK := Lib.hid hn.symm
  rw [← hn] at hp hq hsz ⊢
  clear hn
  have HD := Lib.hid HS.out.row
  go_enter Try.func97, Try.ntmps97
  go_wp2_with fail
  have ha1 : (0 : Int) ≤ (q : Int) := by omega
  have hz1 : (q : Int) < (n : Int) := by omega
  have ht1 : ((q : Int)).toNat = q := by omega
  have hw1 : IntKind.i64.wrap ((q : Int)) = (q : Int) := by rw [IntKind.wrap_i64]; omega

  have ha0 : (0 : Int) ≤ (p : Int) := by omega
  have hz0 : (p : Int) < (n : Int) := by omega
  have ht0 : ((p : Int)).toNat = p := by omega
  have hw0 : IntKind.i64.wrap ((p : Int)) = (p : Int) := by rw [IntKind.wrap_i64]; omega

  have hp1 : q < d.size := by rw [HDK.out]; omega
  have hp0 : p < d.size := by rw [HDK.out]; omega
  have hless := Lib.hid (HD.out.drew.less HSL.out hp1 hp0)
  have c1 := HD.out.cell (q) hp1
  have c0 := HD.out.cell (p) hp0
  have f1 := HD.out.free (q) hp1
  have f0 := HD.out.free (p) hp0
  obtain ⟨x, hx⟩ : ∃ x, x = d[q]! := ⟨_, rfl⟩
  obtain ⟨y, hy⟩ : ∃ y, y = d[p]! := ⟨_, rfl⟩
  rw [← hx, ← hy] at hless
  rw [← hx] at c1
  rw [← hy] at c0
  have HX := Lib.hid hx
  have HY := Lib.hid hy
  clear hx hy
  go_still_tail 9, (by kernel_rfl)
  go_wp2_with fail
  refine hless.out.mono ?_
  rintro e w1 ⟨rfl, hb1⟩
  have HS1 := Lib.hid (HS.out.next ((Below.refl W.heap.size W).drew.trans hb1))
  clear hb1 hless c1 c0 f1 f0 HD HS
  by_cases hcmp : (keyAt l x).cmp (keyAt l y) < 0
  · have ho : order2 (tlt l) d p q s = (q, p, s + 1) := if_pos (show tlt l d[q]! d[p]! = true by rw [← HX.out, ← HY.out]; exact decide_eq_true hcmp)
    have HO := Lib.hid ho
    clear ho
    have k0 := HS1.out.cell
    have k1 := HS1.out.free
    have HS2 := Lib.hid (HS1.out.put (s + 1))
    clear HS1
    go_wp2_with fail
    go_ret2
    rw [HO.out]
    exact ⟨rfl, HS2.out⟩
  · have ho : order2 (tlt l) d p q s = (p, q, s) := if_neg (fun h => hcmp (by rw [← HX.out, ← HY.out] at h; exact of_decide_eq_true h))
    have hcd : decide ((keyAt l x).cmp (keyAt l y) < 0) = false := decide_eq_false hcmp
    have HO := Lib.hid ho
    clear ho
    go_wp2_with fail
    go_ret2
    rw [HO.out]
    exact ⟨rfl, HS1.out⟩
end Go.Proofs.Ytpiflkgjmncijaa
