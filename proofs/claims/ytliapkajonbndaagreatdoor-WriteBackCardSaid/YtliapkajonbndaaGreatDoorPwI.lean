/-
  The program's Clause.
-/
import Derived.Test.YtliapkajonbndaaGreatDoorPwH
namespace Go.Proofs.YtliapkajonbndaaGreatDoor
open Go.RowKit

/-- What stands at each place of the walk over a clause. -/
structure PK (w0 : World) (b : Nat) (h : Tm) (l : List Gl) (n : Int) (sv v : Value) (bx : Nat) (x : List UInt8) (W : World) : Prop where
  ne : bx < b
  pr : Pr b x W
  low : Below w0.heap.size w0 W
  nw : w0.heap.size ≤ bx
  bk : W.heap[bx]? = some (.cells #[.int .i64 h.kind, .string h.name, .int .i64 h.n, sv, v, .int .i64 n] 46 (0, 0))
  hi : Tm.inn W b h sv
  hs : Gl.sliceIn W b l v
  pw : Pow W
  pg : 0 < b
theorem PK.next {w0 : World} {b : Nat} {h : Tm} {l : List Gl} {n : Int} {sv v : Value} {bx : Nat} {x y : List UInt8} {W W' : World} (k : PK w0 b h l n sv v bx x W) (hp : Pr b y W') (hf : PFr b W W') : PK w0 b h l n sv v bx y W' :=
  ⟨k.ne, hp, k.low.trans (hf.low.mono (by have := k.ne; have := k.nw; omega)), k.nw, (hf.low.block bx k.ne).trans k.bk, Tm.inn_below k.hi hf.low (Nat.le_refl _), Gl.sliceIn_below k.hs hf.low (Nat.le_refl _), k.pw.next hf.low k.pg, k.pg⟩
theorem PK.new {h : Tm} {l : List Gl} {n : Int} {sv v : Value} {w : World} (hi : Tm.inn w w.heap.size h sv) (hs : Gl.sliceIn w w.heap.size l v) (hw : Pow w) : PK w (w.heap.size + 1) h l n sv v w.heap.size [] ((w.alloc (.cells #[.int .i64 h.kind, .string h.name, .int .i64 h.n, sv, v, .int .i64 n] 46)).alloc (.cells #[.pointer none, .slice none 0 0] 53)) := by
  have hb1 := (Below.refl w.heap.size w).alloc (Nat.le_refl _) (.cells #[.int .i64 h.kind, .string h.name, .int .i64 h.n, sv, v, .int .i64 n] 46)
  have h1 := heap_alloc_new w (.cells #[.int .i64 h.kind, .string h.name, .int .i64 h.n, sv, v, .int .i64 n] 46)
  have hs1 : (w.alloc (.cells #[.int .i64 h.kind, .string h.name, .int .i64 h.n, sv, v, .int .i64 n] 46)).heap.size = w.heap.size + 1 := by simp
  have hi1 := Tm.inn_below hi hb1 (Nat.le_refl _)
  have hl1 := Gl.sliceIn_below hs hb1 (Nat.le_refl _)
  have hw1 := hw.next hb1 hw.lt
  have hg := hw.lt
  generalize w.alloc (.cells #[.int .i64 h.kind, .string h.name, .int .i64 h.n, sv, v, .int .i64 n] 46) = u at hb1 h1 hs1 hi1 hl1 hw1 ⊢
  have hb2 := (Below.refl u.heap.size u).alloc (Nat.le_refl _) (.cells #[.pointer none, .slice none 0 0] 53)
  have hp := Pr.fresh u
  rw [hs1] at hp hb2
  exact ⟨Nat.lt_succ_self _, hp, hb1.trans (hb2.mono (Nat.le_succ _)), Nat.le_refl _, (hb2.block _ (Nat.lt_succ_self _)).trans h1, Tm.inn_mono (Tm.inn_below hi1 hb2 (Nat.le_succ _)) (Nat.le_succ _), Gl.sliceIn_mono (Gl.sliceIn_below hl1 hb2 (Nat.le_succ _)) (Nat.le_succ _), hw1.next hb2 (by omega), by omega⟩
section
variable {w0 : World} {b : Nat} {h : Tm} {l : List Gl} {n : Int} {sv v : Value} {bx : Nat} {x : List UInt8} {W : World} (k : PK w0 b h l n sv v bx x W)
include k
theorem PK.bxlt : bx < W.heap.size := (Array.getElem?_eq_some_iff.1 k.bk).1
theorem PK.cell0 : W.cell? ⟨bx, 0, none⟩ = some (.int .i64 h.kind) := by rw [Lib.cell_of_heap k.bk]; rfl
theorem PK.cell1 : W.cell? ⟨bx, 1, none⟩ = some (.string h.name) := by rw [Lib.cell_of_heap k.bk]; rfl
theorem PK.cell2 : W.cell? ⟨bx, 2, none⟩ = some (.int .i64 h.n) := by rw [Lib.cell_of_heap k.bk]; rfl
theorem PK.cell3 : W.cell? ⟨bx, 3, none⟩ = some sv := by rw [Lib.cell_of_heap k.bk]; rfl
theorem PK.cell4 : W.cell? ⟨bx, 4, none⟩ = some v := by rw [Lib.cell_of_heap k.bk]; rfl
theorem PK.cell5 : W.cell? ⟨bx, 5, none⟩ = some (.int .i64 n) := by rw [Lib.cell_of_heap k.bk]; rfl
end
theorem clX_nil (h : Tm) : clX h [] = sureX h ++ [46] := rfl
theorem clX_ne (h : Tm) {l : List Gl} (hl : l ≠ []) : clX h l = sureX h ++ ([32, 58, 45, 32] ++ (glsX l ++ [46])) := by
  cases l with
  | nil => exact absurd rfl hl
  | cons g r => rfl
set_option maxRecDepth 100000 in
set_option maxHeartbeats 4000000 in
theorem wclause_any (h : Tm) (l : List Gl) (n : Int) (w : World) (sv v : Value) (hin : Tm.inn w w.heap.size h sv) (hsl : Gl.sliceIn w w.heap.size l v) (hsh : h.size ≤ 1000000) (hsz : Gl.sizes l ≤ 1000000) (hpw : Pow w) (hlx : (clX h l).length ≤ 8000000000) :
    Calls Tryz.prog 13 #[.agg #[.int .i64 h.kind, .string h.name, .int .i64 h.n, sv, v, .int .i64 n]] w fun e w' => e = .returned (.string ⟨(clX h l).toArray⟩) ∧ Below w.heap.size w w' := by
  obtain ⟨_, gh, ch, rfl, _⟩ := Tm.inn_iff.1 hin
  obtain ⟨gl, cl, rfl, _, _, _⟩ := id hsl
  have HK := Lib.hid (PK.new (n := n) hin hsl hpw)
  have HSZ := Lib.hid hsz
  clear hin hsl hpw hsz
  obtain ⟨mh, hmh⟩ : ∃ m, h.args.length = m := ⟨_, rfl⟩
  obtain ⟨m, hm⟩ : ∃ m, l.length = m := ⟨_, rfl⟩
  rw [hmh, hm] at HK ⊢
  have HM := Lib.hid hm
  clear hmh hm
  go_enter Tryz.func13, Tryz.ntmps13
  go_upto_region 2 with fail
  have HK1 := Lib.hid HK.out
  clear HK
  generalize (w.alloc (.cells #[.int .i64 h.kind, .string h.name, .int .i64 h.n, .slice gh mh ch, .slice gl m cl, .int .i64 n] 46)).alloc (.cells #[.pointer none, .slice none 0 0] 53) = u at HK1 ⊢
  have c0 : u.cell? ⟨w.heap.size, 0, none⟩ = some (.int .i64 h.kind) := HK1.out.cell0; have c1 : u.cell? ⟨w.heap.size, 1, none⟩ = some (.string h.name) := HK1.out.cell1; have c2 : u.cell? ⟨w.heap.size, 2, none⟩ = some (.int .i64 h.n) := HK1.out.cell2; have c3 : u.cell? ⟨w.heap.size, 3, none⟩ = some (.slice gh mh ch) := HK1.out.cell3; have c4 : u.cell? ⟨w.heap.size, 4, none⟩ = some (.slice gl m cl) := HK1.out.cell4; have c5 : u.cell? ⟨w.heap.size, 5, none⟩ = some (.int .i64 n) := HK1.out.cell5; have cl1 := HK1.out.bxlt
  by_cases hz : m = 0
  · subst hz
    obtain rfl : l = [] := List.eq_nil_of_length_eq_zero HM.out
    rw [clX_nil] at hlx
    simp only [List.length_append, List.length_cons, List.length_nil] at hlx
    have HA := Lib.hid (pany_any h (w.heap.size + 1) [] u _ HK1.out.pr HK1.out.hi HK1.out.pw HK1.out.pg hsh (by rw [List.nil_append]; omega))
    go_upto_region 3 with (go_at_call 23; (with_reducible refine (HA.out.mono ?_)); rintro e u2 ⟨rfl, hp, hf⟩; have HK2 := Lib.hid (HK1.out.next (show Pr (w.heap.size + 1) (sureX h) u2 from hp) hf); clear hp hf)
    clear c0 c1 c2 c3 c4 c5 cl1
    have c0 : u2.cell? ⟨w.heap.size, 0, none⟩ = some (.int .i64 h.kind) := HK2.out.cell0; have c1 : u2.cell? ⟨w.heap.size, 1, none⟩ = some (.string h.name) := HK2.out.cell1; have c2 : u2.cell? ⟨w.heap.size, 2, none⟩ = some (.int .i64 h.n) := HK2.out.cell2; have c3 : u2.cell? ⟨w.heap.size, 3, none⟩ = some (.slice gh mh ch) := HK2.out.cell3; have c4 : u2.cell? ⟨w.heap.size, 4, none⟩ = some (.slice gl 0 cl) := HK2.out.cell4; have c5 : u2.cell? ⟨w.heap.size, 5, none⟩ = some (.int .i64 n) := HK2.out.cell5; have cl1 := HK2.out.bxlt
    go_upto_region 7 with (go_at_call 26; (with_reducible refine (pbyte_k (w.heap.size + 1) (sureX h) 46 46 rfl _ HK2.out.pr (by omega)).mono ?_); rintro e u3 ⟨rfl, hp, hf⟩; have HK3 := Lib.hid (HK2.out.next hp hf); clear hp hf)
    have HTX := Lib.hid (ptext_any (w.heap.size + 1) (sureX h ++ [46]) u3 HK3.out.pr (by simp))
    go_wp2_with (go_at_call 18; (with_reducible refine (HTX.out.mono ?_)); rintro e u4 ⟨rfl, hb⟩; have HB4 := Lib.hid hb; clear hb)
    go_ret
    exact ⟨rfl, HK3.out.low.trans (HB4.out.mono (Nat.le_succ _))⟩
  · have hne : l ≠ [] := by rintro rfl; exact hz HM.out.symm
    have HX := Lib.hid (clX_ne h hne)
    rw [HX.out] at hlx
    simp only [List.length_append, List.length_cons, List.length_nil] at hlx
    have k0 : (0 : Int) < (m : Int) := by omega
    clear hz hne
    have HA := Lib.hid (pany_any h (w.heap.size + 1) [] u _ HK1.out.pr HK1.out.hi HK1.out.pw HK1.out.pg hsh (by rw [List.nil_append]; omega))
    go_upto_region 3 with (go_at_call 23; (with_reducible refine (HA.out.mono ?_)); rintro e u2 ⟨rfl, hp, hf⟩; have HK2 := Lib.hid (HK1.out.next (show Pr (w.heap.size + 1) (sureX h) u2 from hp) hf); clear hp hf)
    clear c0 c1 c2 c3 c4 c5 cl1
    have c0 : u2.cell? ⟨w.heap.size, 0, none⟩ = some (.int .i64 h.kind) := HK2.out.cell0; have c1 : u2.cell? ⟨w.heap.size, 1, none⟩ = some (.string h.name) := HK2.out.cell1; have c2 : u2.cell? ⟨w.heap.size, 2, none⟩ = some (.int .i64 h.n) := HK2.out.cell2; have c3 : u2.cell? ⟨w.heap.size, 3, none⟩ = some (.slice gh mh ch) := HK2.out.cell3; have c4 : u2.cell? ⟨w.heap.size, 4, none⟩ = some (.slice gl m cl) := HK2.out.cell4; have c5 : u2.cell? ⟨w.heap.size, 5, none⟩ = some (.int .i64 n) := HK2.out.cell5; have cl1 := HK2.out.bxlt
    go_upto_region 5 with (go_at_call 24; (with_reducible refine (plit (w.heap.size + 1) (sureX h) [32, 58, 45, 32] _ rfl _ HK2.out.pr (by simp only [List.length_cons, List.length_nil]; omega)).mono ?_); rintro e u3 ⟨rfl, hp, hf⟩; have HK3 := Lib.hid (HK2.out.next hp hf); clear hp hf)
    clear c0 c1 c2 c3 c4 c5 cl1
    have c0 : u3.cell? ⟨w.heap.size, 0, none⟩ = some (.int .i64 h.kind) := HK3.out.cell0; have c1 : u3.cell? ⟨w.heap.size, 1, none⟩ = some (.string h.name) := HK3.out.cell1; have c2 : u3.cell? ⟨w.heap.size, 2, none⟩ = some (.int .i64 h.n) := HK3.out.cell2; have c3 : u3.cell? ⟨w.heap.size, 3, none⟩ = some (.slice gh mh ch) := HK3.out.cell3; have c4 : u3.cell? ⟨w.heap.size, 4, none⟩ = some (.slice gl m cl) := HK3.out.cell4; have c5 : u3.cell? ⟨w.heap.size, 5, none⟩ = some (.int .i64 n) := HK3.out.cell5; have cl1 := HK3.out.bxlt
    have HG := Lib.hid (pgoals_all l HSZ.out (w.heap.size + 1) (sureX h ++ [32, 58, 45, 32]) u3 _ HK3.out.pr HK3.out.hs HK3.out.pw HK3.out.pg (by simp only [List.length_append, List.length_cons, List.length_nil]; omega))
    go_upto_region 6 with (go_at_call 25; (with_reducible refine (HG.out.mono ?_)); rintro e u4 ⟨rfl, hp, hf⟩; have HK4 := Lib.hid (HK3.out.next hp hf); clear hp hf)
    go_upto_region 7 with (go_at_call 26; (with_reducible refine (pbyte_k (w.heap.size + 1) (sureX h ++ [32, 58, 45, 32] ++ glsX l) 46 46 rfl _ HK4.out.pr (by simp only [List.length_append, List.length_cons, List.length_nil]; omega)).mono ?_); rintro e u5 ⟨rfl, hp, hf⟩; have HK5 := Lib.hid (HK4.out.next hp hf); clear hp hf)
    have HTX := Lib.hid (ptext_any (w.heap.size + 1) (sureX h ++ [32, 58, 45, 32] ++ glsX l ++ [46]) u5 HK5.out.pr (by simp))
    go_wp2_with (go_at_call 18; (with_reducible refine (HTX.out.mono ?_)); rintro e u6 ⟨rfl, hb⟩; have HB4 := Lib.hid hb; clear hb)
    go_ret
    exact ⟨by rw [HX.out]; rfl, HK5.out.low.trans (HB4.out.mono (Nat.le_succ _))⟩
end Go.Proofs.YtliapkajonbndaaGreatDoor
