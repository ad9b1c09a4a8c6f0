/-
  A goal at its place in memory; sizes of rows of goals.
  What a checker asks: are rows of goals empty, is a term none, is there room for a goal, has a term only variables of the clause?
  What a call leaves as it was: all blocks but those that a predicate names.
-/
import Derived.Test.YtkjnjahmlobjiaaGreatDoorG00
import Derived.Test.YtkjnjahmlobjiaaGreatDoorG08
import Derived.Test.YtkjnjahmlobjiaaGreatDoorChecked
import Derived.WalkKit
import Derived.Lib.Hide
import Derived.ChangeAlike
import Derived.BigQuiet
namespace Go.Proofs.YtkjnjahmlobjiaaGreatDoor
open Go.RowKit

/-- A goal at its place. -/
structure GA9 (W : World) (b p : Nat) (g : Gl) (sv av bv cv : Value) : Prop where
  c0 : W.cell? ⟨b, p, none⟩ = some (.int .i64 g.kind)
  c1 : W.cell? ⟨b, p + 1, none⟩ = some (.int .i64 g.t.kind)
  c2 : W.cell? ⟨b, p + 2, none⟩ = some (.string g.t.name)
  c3 : W.cell? ⟨b, p + 3, none⟩ = some (.int .i64 g.t.n)
  c4 : W.cell? ⟨b, p + 4, none⟩ = some sv
  c5 : W.cell? ⟨b, p + 5, none⟩ = some av
  c6 : W.cell? ⟨b, p + 6, none⟩ = some bv
  c7 : W.cell? ⟨b, p + 7, none⟩ = some cv
  hi : Gl.inn W W.heap.size g sv av bv cv
theorem GA9.lt {W : World} {b p : Nat} {g : Gl} {sv av bv cv : Value} (h : GA9 W b p g sv av bv cv) : b < W.heap.size := World.block_lt_of_cell? _ _ h.c0
theorem GA9.next {W W' : World} {b p : Nat} {g : Gl} {sv av bv cv : Value} (h : GA9 W b p g sv av bv cv) (hb : Below W.heap.size W W') : GA9 W' b p g sv av bv cv :=
  ⟨(hb.cell (p := ⟨b, p, none⟩) h.lt).trans h.c0, (hb.cell (p := ⟨b, p + 1, none⟩) h.lt).trans h.c1, (hb.cell (p := ⟨b, p + 2, none⟩) h.lt).trans h.c2, (hb.cell (p := ⟨b, p + 3, none⟩) h.lt).trans h.c3, (hb.cell (p := ⟨b, p + 4, none⟩) h.lt).trans h.c4, (hb.cell (p := ⟨b, p + 5, none⟩) h.lt).trans h.c5, (hb.cell (p := ⟨b, p + 6, none⟩) h.lt).trans h.c6, (hb.cell (p := ⟨b, p + 7, none⟩) h.lt).trans h.c7, Gl.inn_mono (Gl.inn_below h.hi hb (Nat.le_refl _)) hb.size⟩
theorem GA9.of {W : World} {l : List Gl} {v : Value} (h : Gl.sliceIn W W.heap.size l v) (i : Nat) (hi : i < l.length) : ∃ b o cap sv av bv cv, v = .slice (some ⟨b, o, none⟩) l.length cap ∧ GA9 W b (o + i * 8) l[i] sv av bv cv := by
  obtain ⟨bk, off, cap, sv, av, bv, cv, e, _, g0, g1, g2, g3, g4, g5, g6, g7, hin⟩ := Gl.sliceIn_get h i hi
  exact ⟨bk, off, cap, sv, av, bv, cv, e, g0, g1, g2, g3, g4, g5, g6, g7, hin⟩
theorem gsizes_snoc (l : List Gl) (k : Nat) (h : k < l.length) : Gl.sizes (l.take (k + 1)) = Gl.sizes (l.take k) + l[k].size := by
  rw [List.take_succ_eq_append_getElem h]
  generalize l.take k = x
  induction x with
  | nil => simp [Gl.sizes]
  | cons g r ih => simp only [List.cons_append, Gl.sizes, ih]; omega
theorem gsize_is (g : Gl) : g.size = g.t.size + Gl.sizes g.a + Gl.sizes g.b + Gl.sizes g.c + 1 := by cases g; rfl
end Go.Proofs.YtkjnjahmlobjiaaGreatDoor

namespace Go.Proofs.YtkjnjahmlobjiaaGreatDoor
open Go.RowKit

/-- So long are the rows in a row. -/
def lensAt (W : World) (b : Nat) (l : List Nat) : Prop := ∀ (i : Nat) (h : i < l.length), ∃ g c, W.cell? ⟨b, i, none⟩ = some (.slice g l[i] c)
set_option maxRecDepth 100000 in
set_option maxHeartbeats 4000000 in
theorem pempty_any (l : List Nat) (w : World) (b : Nat) (hb : b < w.heap.size) (hl : l.length ≤ 1000) (hl2 : ∀ x ∈ l, x ≤ 1034834473200) (hc : lensAt w b l) :
    Calls Tryz.prog 52 #[.slice (some ⟨b, 0, none⟩) l.length l.length] w fun e w' => e = .returned (.bool (l.all (fun x => decide (x = 0)))) ∧ Below w.heap.size w w' := by
  obtain ⟨n, hn⟩ : ∃ n, l.length = n := ⟨_, rfl⟩
  rw [hn] at hl ⊢
  have HN := Lib.hid hn
  have HC := Lib.hid hc
  have HL := Lib.hid hl2
  clear hn hc hl2
  go_enter Tryz.func52, Tryz.ntmps52
  go_wp2_with fail
  go_loopw [7] (fun i wr => ∃ (k : Nat), k ≤ n ∧ i = .int .i64 k ∧ Hid ((l.take k).all (fun x => decide (x = 0)) = true) ∧ Hid (Below w.heap.size w wr)) (fun i _ => n - (intOf i).toNat)
  case atStart => exact ⟨0, Nat.zero_le _, rfl, Lib.hid rfl, Lib.hid (Below.refl _ _)⟩
  case round =>
    obtain ⟨k, hk, rfl, hy, hw⟩ := hrel
    have HY := Lib.hid hy.out
    have HW := Lib.hid hw.out
    clear hy hw
    by_cases hlt : k < n
    · have hlt' : k < l.length := by rw [HN.out]; exact hlt
      obtain ⟨g, c, hc⟩ := HC.out k hlt'
      have hc2 : wr.cell? ⟨b, 0 + k, none⟩ = some (.slice g l[k] c) := by rw [Nat.zero_add]; exact (HW.out.cell (p := ⟨b, k, none⟩) hb).trans hc
      have hc3 : wr.cell? ⟨b, k, none⟩ = some (.slice g l[k] c) := (HW.out.cell (p := ⟨b, k, none⟩) hb).trans hc
      have hbl : b < wr.heap.size := Nat.lt_of_lt_of_le hb HW.out.size
      have hx := HL.out _ (List.getElem_mem hlt')
      have hst : (l.take (k + 1)).all (fun x => decide (x = 0)) = decide (l[k] = 0) := by
        rw [List.take_succ_eq_append_getElem hlt', List.all_append, HY.out]
        simp
      have HM := Lib.hid (List.getElem_mem hlt')
      generalize l[k] = x at hc2 hc3 hx hst HM
      have HST := Lib.hid hst
      have j0 : (0 : Int) ≤ (k : Int) := by omega
      have j1 : (k : Int) < (n : Int) := by omega
      have jz : (0 : Int) + (k : Int) = (k : Int) := by omega
      have jw : IntKind.i64.wrap (k : Int) = (k : Int) := by rw [IntKind.wrap_i64]; omega
      clear hc hst
      by_cases h0 : x = 0
      · subst h0
        have HY2 := Lib.hid (show (l.take (k + 1)).all (fun x => decide (x = 0)) = true by rw [HST.out]; rfl)
        go_wp2_with fail
        go_roundw
        case rel => exact ⟨k + 1, by omega, by go_num, HY2, Lib.hid HW.out⟩
        case measure => simp [intOf]; omega
      · have k1 : (0 : Int) < (x : Int) := by omega
        have HR := Lib.hid (show l.all (fun x => decide (x = 0)) = false by rw [List.all_eq_false]; exact ⟨x, HM.out, by simpa using h0⟩)
        clear h0
        go_wp2_with fail
        go_ret
        exact ⟨by rw [HR.out]; rfl, HW.out⟩
    · obtain rfl : n = k := by omega
      have HR := Lib.hid (show l.all (fun x => decide (x = 0)) = true by have h9 := HY.out; rwa [← HN.out, List.take_length] at h9)
      go_wp2_with fail
      go_ret
      exact ⟨by rw [HR.out]; rfl, HW.out⟩
theorem zT_inn (w : World) (B : Nat) : Tm.inn w B zT (.slice none 0 0) := Tm.inn_mk.2 ⟨⟨by decide, by decide, by decide⟩, none, 0, rfl, Nat.le_refl _, by simp, .inl rfl⟩
set_option maxRecDepth 100000 in
set_option maxHeartbeats 4000000 in
theorem pnone_any (t : Tm) (w : World) (sv : Value) (hin : Tm.inn w w.heap.size t sv) : Calls Tryz.prog 53 #[.agg #[.int .i64 t.kind, .string t.name, .int .i64 t.n, sv]] w fun e w' => e = .returned (.bool (t.same zT)) ∧ Below w.heap.size w w' := by
  obtain ⟨_, g, c, rfl, hc, hl, _⟩ := Tm.inn_iff.1 hin
  have HD := Lib.hid (DB.new hin)
  have HS := Lib.hid (fun W (h : Tm.inn W W.heap.size t (.slice g t.args.length c)) => show Calls Tryz.prog 67 #[.agg #[.int .i64 t.kind, .string t.name, .int .i64 t.n, .slice g t.args.length c], .agg #[.int .i64 0, .string ⟨#[]⟩, .int .i64 0, .slice none 0 0]] W fun e w' => e = .returned (.bool (t.same zT)) ∧ Below W.heap.size W w' from tsame_any t zT W W.heap.size _ _ (Nat.le_refl _) h (zT_inn W _))
  clear hin
  obtain ⟨m, hm⟩ : ∃ m, t.args.length = m := ⟨_, rfl⟩
  rw [hm] at hc hl HS HD ⊢
  clear hm
  generalize t.same zT = xs at HS ⊢
  go_enter Tryz.func53, Tryz.ntmps53
  go_upto_region 1 with fail
  have HD0 := Lib.hid (show DB w t (.slice g m c) w.heap.size (w.alloc (.cells #[.int .i64 t.kind, .string t.name, .int .i64 t.n, .slice g m c] 34)) from HD.out)
  generalize w.alloc (.cells #[.int .i64 t.kind, .string t.name, .int .i64 t.n, .slice g m c] 34) = u0 at HD0 ⊢
  clear HD
  have x0 : u0.cell? ⟨w.heap.size, 0, none⟩ = some (.int .i64 t.kind) := HD0.out.c0
  have x1 : u0.cell? ⟨w.heap.size, 1, none⟩ = some (.string t.name) := HD0.out.c1
  have x2 : u0.cell? ⟨w.heap.size, 2, none⟩ = some (.int .i64 t.n) := HD0.out.c2
  have x3 : u0.cell? ⟨w.heap.size, 3, none⟩ = some (.slice g m c) := HD0.out.c3
  go_wp2_with (go_at_call 67; (with_reducible refine (HS.out _ HD0.out.hi).mono ?_); rintro e u1 ⟨rfl, hb⟩; have HD1 := Lib.hid (HD0.out.next hb); clear hb)
  go_ret
  exact ⟨rfl, HD1.out.low⟩
set_option maxRecDepth 100000 in
/-- Is there room for a goal? It is counted. -/
theorem pbegin_any (w : World) (bx : Nat) (b inside : Int) (hc : w.cell? ⟨bx, 0, none⟩ = some (.int .i64 b)) (hz : w.frozen? ⟨bx, 0, none⟩ = false) (hb0 : 0 ≤ b) (hb1 : b ≤ 1000) :
    Calls Tryz.prog 37 #[.pointer (some ⟨bx, 0, none⟩), .int .i64 inside] w fun e w' => e = .returned (.bool (decide (b + 1 ≤ 20) && decide (inside ≤ 9))) ∧ w' = w.setCell ⟨bx, 0, none⟩ (.int .i64 (b + 1)) := by
  have hw : IntKind.i64.wrap (b + 1) = b + 1 := by rw [IntKind.wrap_i64]; omega
  have hn := World.cell?_setCell_same w ⟨bx, 0, none⟩ (.int .i64 (b + 1)) hc
  generalize hr : (decide (b + 1 ≤ 20) && decide (inside ≤ 9)) = r
  by_cases h1 : b + 1 ≤ 20
  · by_cases h2 : inside ≤ 9
    · have HX := Lib.hid (show r = true by rw [← hr, decide_eq_true h1, decide_eq_true h2]; rfl)
      clear hr
      go_enter Tryz.func37, Tryz.ntmps37
      go_wp2_with fail
      go_ret
      exact ⟨by rw [HX.out]; rfl, rfl⟩
    · have HX := Lib.hid (show r = false by rw [← hr, decide_eq_false h2, Bool.and_false])
      clear hr
      go_enter Tryz.func37, Tryz.ntmps37
      go_wp2_with fail
      go_ret
      exact ⟨by rw [HX.out]; rfl, rfl⟩
  · have HX := Lib.hid (show r = false by rw [← hr, decide_eq_false h1, Bool.false_and])
    clear hr
    go_enter Tryz.func37, Tryz.ntmps37
    go_wp2_with fail
    go_ret
    exact ⟨by rw [HX.out]; rfl, rfl⟩
/-- The checker: so many goals have begun, so many variables the clause has. -/
structure Ck (W : World) (bx : Nat) (b n : Int) : Prop where
  bk : W.heap[bx]? = some (.cells #[.int .i64 b, .int .i64 n] 58 (0, 0))
section
variable {W : World} {bx : Nat} {b n : Int} (h : Ck W bx b n)
include h
theorem Ck.lt : bx < W.heap.size := (Array.getElem?_eq_some_iff.1 h.bk).1
theorem Ck.cell0 : W.cell? ⟨bx, 0, none⟩ = some (.int .i64 b) := by simp [World.cell?, h.bk]
theorem Ck.cell1 : W.cell? ⟨bx, 1, none⟩ = some (.int .i64 n) := by simp [World.cell?, h.bk]
theorem Ck.frozen : W.frozen? ⟨bx, 0, none⟩ = false := by simp [World.frozen?, h.bk]
theorem Ck.next {W' : World} (hb : Below W.heap.size W W') : Ck W' bx b n := ⟨(hb.block _ h.lt).trans h.bk⟩
theorem Ck.set (b' : Int) : Ck (W.setCell ⟨bx, 0, none⟩ (.int .i64 b')) bx b' n := by
  refine ⟨?_⟩
  have h9 := h.bk
  simp [World.setCell, Array.getElem?_modify, h9]
end
set_option maxRecDepth 100000 in
set_option maxHeartbeats 4000000 in
/-- Is a term right, with variables of the clause alone? -/
theorem pterm_ck (t : Tm) (w : World) (sv : Value) (bx : Nat) (b n : Int) (hin : Tm.inn w w.heap.size t sv) (hk : Ck w bx b n) (hsz : t.size ≤ 999999) :
    Calls Tryz.prog 23 #[.pointer (some ⟨bx, 0, none⟩), .agg #[.int .i64 t.kind, .string t.name, .int .i64 t.n, sv]] w fun e w' => e = .returned (.bool (varsB t n)) ∧ Below w.heap.size w w' := by
  obtain ⟨_, g, c, rfl, hc, hl, _⟩ := Tm.inn_iff.1 hin
  have HX := Lib.hid (show varsB t n = ((varsOf [t]).all (fun v => decide (v < n)) && t.right) from rfl)
  have HD := Lib.hid (DB.new hin)
  have HK := Lib.hid (hk.next ((Below.refl _ w).alloc (Nat.le_refl _) (.cells #[.int .i64 t.kind, .string t.name, .int .i64 t.n, .slice g t.args.length c] 34)))
  have HR := Lib.hid (fun W (h : Tm.inn W W.heap.size t (.slice g t.args.length c)) => tright_any t W _ h (by omega))
  have HV := Lib.hid (fun W sv (h : Tm.sliceIn W W.heap.size [t] sv) => tvars_new [t] W sv h (by simp [Tm.sizes]; omega))
  clear hin hk
  obtain ⟨m, hm⟩ : ∃ m, t.args.length = m := ⟨_, rfl⟩
  rw [hm] at hc hl HD HK HR ⊢
  have HM := Lib.hid hm
  clear hm
  go_enter Tryz.func23, Tryz.ntmps23
  go_upto_region 1 with fail
  have HD0 := Lib.hid (show DB w t (.slice g m c) w.heap.size (w.alloc (.cells #[.int .i64 t.kind, .string t.name, .int .i64 t.n, .slice g m c] 34)) from HD.out)
  have HK0 := Lib.hid (show Ck (w.alloc (.cells #[.int .i64 t.kind, .string t.name, .int .i64 t.n, .slice g m c] 34)) bx b n from HK.out)
  generalize w.alloc (.cells #[.int .i64 t.kind, .string t.name, .int .i64 t.n, .slice g m c] 34) = u0 at HD0 HK0 ⊢
  clear HD HK
  have x0 : u0.cell? ⟨w.heap.size, 0, none⟩ = some (.int .i64 t.kind) := HD0.out.c0
  have x1 : u0.cell? ⟨w.heap.size, 1, none⟩ = some (.string t.name) := HD0.out.c1
  have x2 : u0.cell? ⟨w.heap.size, 2, none⟩ = some (.int .i64 t.n) := HD0.out.c2
  have x3 : u0.cell? ⟨w.heap.size, 3, none⟩ = some (.slice g m c) := HD0.out.c3
  cases hr : t.right with
  | false =>
    rw [hr] at HR
    have HF := Lib.hid (show varsB t n = false by rw [HX.out, hr, Bool.and_false])
    clear hr
    go_wp2_with (go_at_call 35; (with_reducible refine (HR.out _ HD0.out.hi).mono ?_); rintro e u1 ⟨rfl, hb⟩; have HD1 := Lib.hid (HD0.out.next hb); clear hb)
    go_ret
    exact ⟨by rw [HF.out]; rfl, HD1.out.low⟩
  | true =>
  rw [hr] at HR
  have HX := Lib.hid (show varsB t n = (varsOf [t]).all (fun v => decide (v < n)) by rw [HX.out, hr, Bool.and_true])
  clear hr
  go_upto_region 3 with (go_at_call 35; (with_reducible refine (HR.out _ HD0.out.hi).mono ?_); rintro e u1 ⟨rfl, hb⟩; have HD1 := Lib.hid (HD0.out.next hb); have HK1 := Lib.hid (HK0.out.next hb); clear hb x0 x1 x2 x3)
  have x0 : u1.cell? ⟨w.heap.size, 0, none⟩ = some (.int .i64 t.kind) := HD1.out.c0
  have x1 : u1.cell? ⟨w.heap.size, 1, none⟩ = some (.string t.name) := HD1.out.c1
  have x2 : u1.cell? ⟨w.heap.size, 2, none⟩ = some (.int .i64 t.n) := HD1.out.c2
  have x3 : u1.cell? ⟨w.heap.size, 3, none⟩ = some (.slice g m c) := HD1.out.c3
  obtain ⟨u2, hu2⟩ : ∃ u2, u1.alloc (.cells #[.int .i64 t.kind, .string t.name, .int .i64 t.n, .slice g m c] 34) = u2 := ⟨_, rfl⟩
  have hb2 : Below u1.heap.size u1 u2 := hu2 ▸ (Below.refl _ u1).alloc (Nat.le_refl _) _
  have HD2 := Lib.hid (HD1.out.next hb2)
  have HK2 := Lib.hid (HK1.out.next hb2)
  have HSL := Lib.hid (dg_one (b := u1.heap.size) (hu2 ▸ heap_alloc_new u1 _) HD2.out.hi)
  have HU := Lib.hid hu2
  have HVU := Lib.hid (show Calls Tryz.prog 36 #[.slice (some ⟨u1.heap.size, 0, none⟩) 1 1] (u1.alloc (.cells #[.int .i64 t.kind, .string t.name, .int .i64 t.n, .slice g m c] 34)) fun e w' => ∃ v, e = .returned v ∧ intsIn w' w'.heap.size (varsOf [t]) v ∧ Below u2.heap.size u2 w' ∧ (∀ x ∈ varsOf [t], (Lit.int .i64 x).wf = true) ∧ (∀ b o n c, v = .slice (some ⟨b, o, none⟩) n c → u2.heap.size ≤ b) by rw [hu2]; exact HV.out _ _ HSL.out)
  clear hu2 hb2 HV
  go_upto_region 4 with (go_at_call 36; (with_reducible refine HVU.out.mono ?_); rintro e u3 ⟨v, rfl, hiv, hb, -, -⟩; have HI := Lib.hid hiv; have HD3 := Lib.hid (HD2.out.next hb); have HK3 := Lib.hid (HK2.out.next hb); obtain ⟨gv, cv, hv, -⟩ := id hiv; subst hv; clear hb hiv x0 x1 x2 x3)
  obtain ⟨q, hq⟩ : ∃ q, (varsOf [t]).length = q := ⟨_, rfl⟩
  rw [hq]
  have HQ := Lib.hid hq
  have hq2 : q ≤ 1000000000 := by
    obtain ⟨_, _, e, _, h9, _⟩ := HI.out
    rwa [hq] at h9
  clear hq
  go_loopw [14] (fun i wr => ∃ (k : Nat), k ≤ q ∧ i = .int .i64 k ∧ Hid (((varsOf [t]).take k).all (fun v => decide (v < n)) = true) ∧ Hid (wr = u3)) (fun i _ => q - (intOf i).toNat)
  case atStart => exact ⟨0, Nat.zero_le _, rfl, Lib.hid rfl, Lib.hid rfl⟩
  case round =>
    obtain ⟨k, hk, rfl, hy, hw⟩ := hrel
    have HY := Lib.hid hy.out
    obtain rfl := hw.out
    clear hy hw
    by_cases hlt : k < q
    · have hlt' : k < (varsOf [t]).length := by rw [HQ.out]; exact hlt
      obtain ⟨g9, c9, e9, -, -, h9⟩ := HI.out
      rcases h9 with h9 | ⟨bv, ov, rfl, hbv, hce⟩
      · rw [h9] at hlt'; exact absurd hlt' (Nat.not_lt_zero _)
      injection e9 with e91 e90 e92
      subst e91 e92
      clear e90
      have x0 := hce k hlt'
      have hst : ((varsOf [t]).take (k + 1)).all (fun v => decide (v < n)) = decide ((varsOf [t])[k] < n) := by
        rw [List.take_succ_eq_append_getElem hlt', List.all_append, HY.out]
        simp
      have HMM := Lib.hid (List.getElem_mem hlt')
      generalize (varsOf [t])[k] = x at x0 hst HMM
      have HST := Lib.hid hst
      have j0 : (0 : Int) ≤ (k : Int) := by omega
      have j1 : (k : Int) < (q : Int) := by omega
      have jz : (0 : Int) + (k : Int) = (k : Int) := by omega
      have jw : IntKind.i64.wrap (k : Int) = (k : Int) := by rw [IntKind.wrap_i64]; omega
      have k1 : wr.cell? ⟨bx, 1, none⟩ = some (.int .i64 n) := HK3.out.cell1
      have kl := HK3.out.lt
      clear hst hce
      by_cases h0 : x < n
      · have h1 : (n ≤ x) = False := by simp only [eq_iff_iff, iff_false]; omega
        have HY2 := Lib.hid (show ((varsOf [t]).take (k + 1)).all (fun v => decide (v < n)) = true by rw [HST.out]; exact decide_eq_true h0)
        clear h0
        go_wp2_with fail
        go_roundw
        case rel => exact ⟨k + 1, by omega, by go_num, HY2, Lib.hid trivial⟩
        case measure => simp [intOf]; omega
      · have h1 : n ≤ x := by omega
        have HR := Lib.hid (show varsB t n = false by rw [HX.out, List.all_eq_false]; exact ⟨x, HMM.out, by simpa using h1⟩)
        clear h0
        go_wp2_with fail
        go_ret
        exact ⟨by rw [HR.out]; rfl, HD3.out.low⟩
    · obtain rfl : q = k := by omega
      have HR := Lib.hid (show varsB t n = true by rw [HX.out]; have h9 := HY.out; rwa [← HQ.out, List.take_length] at h9)
      go_wp2_with fail
      go_ret
      exact ⟨by rw [HR.out]; rfl, HD3.out.low⟩
end Go.Proofs.YtkjnjahmlobjiaaGreatDoor

namespace Go.Proofs.YtkjnjahmlobjiaaGreatDoor
open Go.RowKit

/-- What is written lies where 'P' says, but for what is new. -/
structure FrP (P : Nat → Prop) (W W' : World) : Prop where
  os : W'.os = W.os
  tape : W'.tape = W.tape
  output : W'.output = W.output
  size : W.heap.size ≤ W'.heap.size
  block : ∀ b, b < W.heap.size → ¬ P b → W'.heap[b]? = W.heap[b]?
theorem FrP.refl (P : Nat → Prop) (W : World) : FrP P W W := ⟨rfl, rfl, rfl, Nat.le_refl _, fun _ _ _ => rfl⟩
theorem FrP.trans {P P' Q : Nat → Prop} {W W1 W2 : World} (h : FrP P W W1) (g : FrP P' W1 W2) (h1 : ∀ b, b < W.heap.size → P b → Q b) (h2 : ∀ b, b < W.heap.size → P' b → Q b) : FrP Q W W2 :=
  ⟨g.os.trans h.os, g.tape.trans h.tape, g.output.trans h.output, Nat.le_trans h.size g.size, fun b hb hq => (g.block b (Nat.lt_of_lt_of_le hb h.size) (fun hp => hq (h2 b hb hp))).trans (h.block b hb (fun hp => hq (h1 b hb hp)))⟩
theorem FrP.mono {P Q : Nat → Prop} {W W1 : World} (h : FrP P W W1) (h1 : ∀ b, b < W.heap.size → P b → Q b) : FrP Q W W1 := ⟨h.os, h.tape, h.output, h.size, fun b hb hq => h.block b hb (fun hp => hq (h1 b hb hp))⟩
theorem FrP.of_grown {W W' : World} {r : Option Nat} (h : W.grownBy W' r) : FrP (fun b => some b = r) W W' := ⟨h.os, h.tape, h.output, h.size, fun b hb hq => h.block b hb hq⟩
theorem FrP.of_below {W W' : World} (h : Below W.heap.size W W') : FrP (fun _ => False) W W' := ⟨h.os, h.tape, h.output, h.size, fun b hb _ => h.block b hb⟩
theorem FrP.to_below {W W' : World} {n : Nat} (h : FrP (fun b => n ≤ b) W W') (hn : n ≤ W.heap.size) : Below n W W' := ⟨h.os, h.tape, h.output, h.size, fun b hb => h.block b (by omega) (by omega)⟩
theorem FrP.new (W : World) (o : Obj) : FrP (fun _ => False) W (W.alloc o) := FrP.of_below ((Below.refl _ _).alloc (Nat.le_refl _) o)
theorem FrP.dn (W : World) (k : Nat) : FrP (fun _ => False) W (W.drewN k) := ⟨rfl, rfl, rfl, Nat.le_refl _, fun _ _ _ => rfl⟩
theorem FrP.cell {P : Nat → Prop} {W W' : World} (h : FrP P W W') {b o : Nat} {v : Value} (hv : W.cell? ⟨b, o, none⟩ = some v) (hp : ¬ P b) : W'.cell? ⟨b, o, none⟩ = some v :=
  (World.cell?_of_block (a := ⟨b, o, none⟩) (h.block b (World.block_lt_of_cell? W _ hv) hp)).trans hv
theorem FrP.setC (W : World) (b o : Nat) (v : Value) : FrP (fun x => x = b) W (W.setCell ⟨b, o, none⟩ v) :=
  ⟨rfl, rfl, rfl, by simp [World.setCell], fun k _ hk => Below.heap_setCell _ _ _ k (fun e => hk (by rw [e]))⟩
end Go.Proofs.YtkjnjahmlobjiaaGreatDoor
