/-
  The document's Goal; both for all goals.
-/
import Derived.Test.YtliapkajonbndaaDoorDwH
namespace Go.Proofs.YtliapkajonbndaaDoor
open Go.RowKit

theorem row8 {w : World} {b : Nat} {v0 v1 v2 v3 v4 v5 v6 v7 : Value} {t : TypeId} (h : w.heap[b]? = some (Obj.cells #[v0, v1, v2, v3, v4, v5, v6, v7] t (0, 0))) :
    w.cell? ⟨b, 0, none⟩ = some v0 ∧ w.cell? ⟨b, 1, none⟩ = some v1 ∧ w.cell? ⟨b, 2, none⟩ = some v2 ∧ w.cell? ⟨b, 3, none⟩ = some v3 ∧ w.cell? ⟨b, 4, none⟩ = some v4 ∧ w.cell? ⟨b, 5, none⟩ = some v5 ∧ w.cell? ⟨b, 6, none⟩ = some v6 ∧ w.cell? ⟨b, 7, none⟩ = some v7 := by
  simp [World.cell?, h]
set_option maxRecDepth 100000 in
set_option maxHeartbeats 8000000 in
theorem dgoal_one (HR : RightSays) {t : Tm} {a b c : List Gl} (hsz : t.size ≤ 1000000) : GoalW (.mk 1 t a b c) := by
  intro w sv av bv cv hin
  obtain ⟨_, hit, hia, hib, hic⟩ := Gl.inn_mk.1 hin
  obtain ⟨gt, mt, ct, rfl⟩ : ∃ g m c, sv = .slice g m c := by
    obtain ⟨_, g, c, e, _⟩ := Tm.inn_iff.1 hit
    exact ⟨_, _, _, e⟩
  obtain ⟨ga, ma, ca, rfl⟩ : ∃ g m c, av = .slice g m c := by
    obtain ⟨g, c, e, _⟩ := hia
    exact ⟨_, _, _, e⟩
  obtain ⟨gb, mb, cb, rfl⟩ : ∃ g m c, bv = .slice g m c := by
    obtain ⟨g, c, e, _⟩ := hib
    exact ⟨_, _, _, e⟩
  obtain ⟨gc, mc, cc, rfl⟩ : ∃ g m c, cv = .slice g m c := by
    obtain ⟨g, c, e, _⟩ := hic
    exact ⟨_, _, _, e⟩
  have HIN := Lib.hid hin
  clear hit hia hib hic hin
  have HX := Lib.hid (show sureX t = gx (.mk 1 t a b c) by rw [gx, if_pos (by decide)])
  show Calls Tryd.prog 27 #[.agg #[.int .i64 1, .int .i64 t.kind, .string t.name, .int .i64 t.n, .slice gt mt ct, .slice ga ma ca, .slice gb mb cb, .slice gc mc cc]] w _
  go_enter Tryd.func27, Tryd.ntmps27
  go_upto_region 1 with fail
  have hv := (Below.refl w.heap.size w).alloc (Nat.le_refl _) (.cells #[.int .i64 1, .int .i64 t.kind, .string t.name, .int .i64 t.n, .slice gt mt ct, .slice ga ma ca, .slice gb mb cb, .slice gc mc cc] 42)
  have hz := newBlk w (.cells #[.int .i64 1, .int .i64 t.kind, .string t.name, .int .i64 t.n, .slice gt mt ct, .slice ga ma ca, .slice gb mb cb, .slice gc mc cc] 42) w.heap.size rfl
  have hzl : w.heap.size < (w.alloc (.cells #[.int .i64 1, .int .i64 t.kind, .string t.name, .int .i64 t.n, .slice gt mt ct, .slice ga ma ca, .slice gb mb cb, .slice gc mc cc] 42)).heap.size := by simp
  obtain ⟨v, hv1⟩ : ∃ v, w.alloc (.cells #[.int .i64 1, .int .i64 t.kind, .string t.name, .int .i64 t.n, .slice gt mt ct, .slice ga ma ca, .slice gb mb cb, .slice gc mc cc] 42) = v := ⟨_, rfl⟩
  rw [hv1] at hv hz hzl ⊢
  clear hv1
  obtain ⟨a0, a1, a2, a3, a4, a5, a6, a7⟩ := row8 hz
  have HV := Lib.hid hv
  have hi := Gl.inn_mono (Gl.inn_below HIN.out hv (Nat.le_refl _)) hv.size
  have hcall := dsure_any HR t v _ (Gl.inn_mk.1 hi).2.1 hsz
  have HC := Lib.hid hcall
  clear hcall hi hv hz
  go_wp2_with (go_at_call 12; (with_reducible refine (HC.out.mono ?_)); rintro e w' ⟨rfl, hb⟩; have HB := Lib.hid hb; clear hb)
  go_ret
  exact ⟨congrArg (fun z : List UInt8 => Ending.returned (.string ⟨z.toArray⟩)) HX.out, HV.out.trans (HB.out.mono HV.out.size)⟩
set_option maxRecDepth 100000 in
set_option maxHeartbeats 8000000 in
theorem dgoal_two (HR : RightSays) {t : Tm} {a b c : List Gl} (hsz : t.size ≤ 1000000) : GoalW (.mk 2 t a b c) := by
  intro w sv av bv cv hin
  obtain ⟨_, hit, hia, hib, hic⟩ := Gl.inn_mk.1 hin
  obtain ⟨gt, mt, ct, rfl⟩ : ∃ g m c, sv = .slice g m c := by
    obtain ⟨_, g, c, e, _⟩ := Tm.inn_iff.1 hit
    exact ⟨_, _, _, e⟩
  obtain ⟨ga, ma, ca, rfl⟩ : ∃ g m c, av = .slice g m c := by
    obtain ⟨g, c, e, _⟩ := hia
    exact ⟨_, _, _, e⟩
  obtain ⟨gb, mb, cb, rfl⟩ : ∃ g m c, bv = .slice g m c := by
    obtain ⟨g, c, e, _⟩ := hib
    exact ⟨_, _, _, e⟩
  obtain ⟨gc, mc, cc, rfl⟩ : ∃ g m c, cv = .slice g m c := by
    obtain ⟨g, c, e, _⟩ := hic
    exact ⟨_, _, _, e⟩
  have HIN := Lib.hid hin
  clear hit hia hib hic hin
  have HX := Lib.hid (show sureX t = gx (.mk 2 t a b c) by rw [gx, if_pos (by decide)])
  show Calls Tryd.prog 27 #[.agg #[.int .i64 2, .int .i64 t.kind, .string t.name, .int .i64 t.n, .slice gt mt ct, .slice ga ma ca, .slice gb mb cb, .slice gc mc cc]] w _
  go_enter Tryd.func27, Tryd.ntmps27
  go_upto_region 1 with fail
  have hv := (Below.refl w.heap.size w).alloc (Nat.le_refl _) (.cells #[.int .i64 2, .int .i64 t.kind, .string t.name, .int .i64 t.n, .slice gt mt ct, .slice ga ma ca, .slice gb mb cb, .slice gc mc cc] 42)
  have hz := newBlk w (.cells #[.int .i64 2, .int .i64 t.kind, .string t.name, .int .i64 t.n, .slice gt mt ct, .slice ga ma ca, .slice gb mb cb, .slice gc mc cc] 42) w.heap.size rfl
  have hzl : w.heap.size < (w.alloc (.cells #[.int .i64 2, .int .i64 t.kind, .string t.name, .int .i64 t.n, .slice gt mt ct, .slice ga ma ca, .slice gb mb cb, .slice gc mc cc] 42)).heap.size := by simp
  obtain ⟨v, hv1⟩ : ∃ v, w.alloc (.cells #[.int .i64 2, .int .i64 t.kind, .string t.name, .int .i64 t.n, .slice gt mt ct, .slice ga ma ca, .slice gb mb cb, .slice gc mc cc] 42) = v := ⟨_, rfl⟩
  rw [hv1] at hv hz hzl ⊢
  clear hv1
  obtain ⟨a0, a1, a2, a3, a4, a5, a6, a7⟩ := row8 hz
  have HV := Lib.hid hv
  have hi := Gl.inn_mono (Gl.inn_below HIN.out hv (Nat.le_refl _)) hv.size
  have hcall := dsure_any HR t v _ (Gl.inn_mk.1 hi).2.1 hsz
  have HC := Lib.hid hcall
  clear hcall hi hv hz
  go_wp2_with (go_at_call 12; (with_reducible refine (HC.out.mono ?_)); rintro e w' ⟨rfl, hb⟩; have HB := Lib.hid hb; clear hb)
  go_ret
  exact ⟨congrArg (fun z : List UInt8 => Ending.returned (.string ⟨z.toArray⟩)) HX.out, HV.out.trans (HB.out.mono HV.out.size)⟩
set_option maxRecDepth 100000 in
set_option maxHeartbeats 8000000 in
theorem dgoal_cut {t : Tm} {a b c : List Gl} : GoalW (.mk 3 t a b c) := by
  intro w sv av bv cv hin
  obtain ⟨_, hit, hia, hib, hic⟩ := Gl.inn_mk.1 hin
  obtain ⟨gt, mt, ct, rfl⟩ : ∃ g m c, sv = .slice g m c := by
    obtain ⟨_, g, c, e, _⟩ := Tm.inn_iff.1 hit
    exact ⟨_, _, _, e⟩
  obtain ⟨ga, ma, ca, rfl⟩ : ∃ g m c, av = .slice g m c := by
    obtain ⟨g, c, e, _⟩ := hia
    exact ⟨_, _, _, e⟩
  obtain ⟨gb, mb, cb, rfl⟩ : ∃ g m c, bv = .slice g m c := by
    obtain ⟨g, c, e, _⟩ := hib
    exact ⟨_, _, _, e⟩
  obtain ⟨gc, mc, cc, rfl⟩ : ∃ g m c, cv = .slice g m c := by
    obtain ⟨g, c, e, _⟩ := hic
    exact ⟨_, _, _, e⟩
  have HIN := Lib.hid hin
  clear hit hia hib hic hin
  have HX := Lib.hid (show [33] = gx (.mk 3 t a b c) by rw [gx, if_neg (by decide), if_pos rfl])
  show Calls Tryd.prog 27 #[.agg #[.int .i64 3, .int .i64 t.kind, .string t.name, .int .i64 t.n, .slice gt mt ct, .slice ga ma ca, .slice gb mb cb, .slice gc mc cc]] w _
  go_enter Tryd.func27, Tryd.ntmps27
  go_upto_region 1 with fail
  have hv := (Below.refl w.heap.size w).alloc (Nat.le_refl _) (.cells #[.int .i64 3, .int .i64 t.kind, .string t.name, .int .i64 t.n, .slice gt mt ct, .slice ga ma ca, .slice gb mb cb, .slice gc mc cc] 42)
  have hz := newBlk w (.cells #[.int .i64 3, .int .i64 t.kind, .string t.name, .int .i64 t.n, .slice gt mt ct, .slice ga ma ca, .slice gb mb cb, .slice gc mc cc] 42) w.heap.size rfl
  have hzl : w.heap.size < (w.alloc (.cells #[.int .i64 3, .int .i64 t.kind, .string t.name, .int .i64 t.n, .slice gt mt ct, .slice ga ma ca, .slice gb mb cb, .slice gc mc cc] 42)).heap.size := by simp
  obtain ⟨v, hv1⟩ : ∃ v, w.alloc (.cells #[.int .i64 3, .int .i64 t.kind, .string t.name, .int .i64 t.n, .slice gt mt ct, .slice ga ma ca, .slice gb mb cb, .slice gc mc cc] 42) = v := ⟨_, rfl⟩
  rw [hv1] at hv hz hzl ⊢
  clear hv1
  obtain ⟨a0, a1, a2, a3, a4, a5, a6, a7⟩ := row8 hz
  have HV := Lib.hid hv
  clear hv hz
  go_wp2_with fail
  go_ret
  exact ⟨congrArg (fun z : List UInt8 => Ending.returned (.string ⟨z.toArray⟩)) HX.out, HV.out⟩
set_option maxRecDepth 100000 in
set_option maxHeartbeats 8000000 in
theorem dgoal_not {t : Tm} {a b c : List Gl} (ha : GoalsW a) (hsz : Gl.sizes a ≤ 1000000) : GoalW (.mk 5 t a b c) := by
  intro w sv av bv cv hin
  obtain ⟨_, hit, hia, hib, hic⟩ := Gl.inn_mk.1 hin
  obtain ⟨gt, mt, ct, rfl⟩ : ∃ g m c, sv = .slice g m c := by
    obtain ⟨_, g, c, e, _⟩ := Tm.inn_iff.1 hit
    exact ⟨_, _, _, e⟩
  obtain ⟨ga, ma, ca, rfl⟩ : ∃ g m c, av = .slice g m c := by
    obtain ⟨g, c, e, _⟩ := hia
    exact ⟨_, _, _, e⟩
  obtain ⟨gb, mb, cb, rfl⟩ : ∃ g m c, bv = .slice g m c := by
    obtain ⟨g, c, e, _⟩ := hib
    exact ⟨_, _, _, e⟩
  obtain ⟨gc, mc, cc, rfl⟩ : ∃ g m c, cv = .slice g m c := by
    obtain ⟨g, c, e, _⟩ := hic
    exact ⟨_, _, _, e⟩
  have HIN := Lib.hid hin
  clear hit hia hib hic hin
  have hla := gls_len a
  obtain ⟨y1, hy1⟩ : ∃ y, [92, 43, 32, 40] ++ glsX a = y := ⟨_, rfl⟩
  obtain ⟨y2, hy2⟩ : ∃ y, y1 ++ [41] = y := ⟨_, rfl⟩
  have e1 : (⟨#[92, 43, 32, 40]⟩ ++ ⟨(glsX a).toArray⟩ : ByteArray) = ⟨y1.toArray⟩ := by rw [← hy1]; exact ba_app [92, 43, 32, 40] (glsX a)
  have e2 : (⟨y1.toArray⟩ ++ ⟨#[41]⟩ : ByteArray) = ⟨y2.toArray⟩ := by rw [← hy2]; exact ba_app y1 [41]
  have hl1 : y1.length = (glsX a).length + 4 := by rw [← hy1]; simp
  have l1 := lim9 (a := 4 + (glsX a).length) (by omega)
  have l2 := lim9 (a := y1.length + 1) (by omega)
  have HX := Lib.hid (show y2 = gx (.mk 5 t a b c) by rw [gx, if_neg (by decide), if_neg (by decide), if_neg (by decide), if_pos rfl, ← hy2, ← hy1]; simp [glsX])
  show Calls Tryd.prog 27 #[.agg #[.int .i64 5, .int .i64 t.kind, .string t.name, .int .i64 t.n, .slice gt mt ct, .slice ga ma ca, .slice gb mb cb, .slice gc mc cc]] w _
  go_enter Tryd.func27, Tryd.ntmps27
  go_upto_region 1 with fail
  have hv := (Below.refl w.heap.size w).alloc (Nat.le_refl _) (.cells #[.int .i64 5, .int .i64 t.kind, .string t.name, .int .i64 t.n, .slice gt mt ct, .slice ga ma ca, .slice gb mb cb, .slice gc mc cc] 42)
  have hz := newBlk w (.cells #[.int .i64 5, .int .i64 t.kind, .string t.name, .int .i64 t.n, .slice gt mt ct, .slice ga ma ca, .slice gb mb cb, .slice gc mc cc] 42) w.heap.size rfl
  have hzl : w.heap.size < (w.alloc (.cells #[.int .i64 5, .int .i64 t.kind, .string t.name, .int .i64 t.n, .slice gt mt ct, .slice ga ma ca, .slice gb mb cb, .slice gc mc cc] 42)).heap.size := by simp
  obtain ⟨v, hv1⟩ : ∃ v, w.alloc (.cells #[.int .i64 5, .int .i64 t.kind, .string t.name, .int .i64 t.n, .slice gt mt ct, .slice ga ma ca, .slice gb mb cb, .slice gc mc cc] 42) = v := ⟨_, rfl⟩
  rw [hv1] at hv hz hzl ⊢
  clear hv1
  obtain ⟨a0, a1, a2, a3, a4, a5, a6, a7⟩ := row8 hz
  have HV := Lib.hid hv
  have hi := Gl.inn_mono (Gl.inn_below HIN.out hv (Nat.le_refl _)) hv.size
  have hcall := ha v _ (Gl.inn_mk.1 hi).2.2.1
  have HC := Lib.hid hcall
  clear hcall hi hv hz hy1 hy2 hla hl1
  go_wp2_with (go_at_call 13; (with_reducible refine (HC.out.mono ?_)); rintro e w' ⟨rfl, hb⟩; have HB := Lib.hid hb; clear hb)
  go_ret
  exact ⟨congrArg (fun z : List UInt8 => Ending.returned (.string ⟨z.toArray⟩)) HX.out, HV.out.trans (HB.out.mono HV.out.size)⟩
set_option maxRecDepth 100000 in
set_option maxHeartbeats 8000000 in
theorem dgoal_else {k : Int} {t : Tm} {a b c : List Gl} (h1 : k ≠ 1) (h2 : k ≠ 2) (h3 : k ≠ 3) (h4 : k ≠ 4) (h5 : k ≠ 5) : GoalW (.mk k t a b c) := by
  intro w sv av bv cv hin
  obtain ⟨_, hit, hia, hib, hic⟩ := Gl.inn_mk.1 hin
  obtain ⟨gt, mt, ct, rfl⟩ : ∃ g m c, sv = .slice g m c := by
    obtain ⟨_, g, c, e, _⟩ := Tm.inn_iff.1 hit
    exact ⟨_, _, _, e⟩
  obtain ⟨ga, ma, ca, rfl⟩ : ∃ g m c, av = .slice g m c := by
    obtain ⟨g, c, e, _⟩ := hia
    exact ⟨_, _, _, e⟩
  obtain ⟨gb, mb, cb, rfl⟩ : ∃ g m c, bv = .slice g m c := by
    obtain ⟨g, c, e, _⟩ := hib
    exact ⟨_, _, _, e⟩
  obtain ⟨gc, mc, cc, rfl⟩ : ∃ g m c, cv = .slice g m c := by
    obtain ⟨g, c, e, _⟩ := hic
    exact ⟨_, _, _, e⟩
  have HIN := Lib.hid hin
  clear hit hia hib hic hin
  have HX := Lib.hid (show [102, 97, 105, 108] = gx (.mk k t a b c) by rw [gx, if_neg (fun e => e.elim h1 h2), if_neg h3, if_neg h4, if_neg h5])
  have b1 : ((k : Int) == 1) = false := by rw [beq_eq_false_iff_ne]; exact h1
  have b2 : ((k : Int) == 2) = false := by rw [beq_eq_false_iff_ne]; exact h2
  have b3 : ((k : Int) == 3) = false := by rw [beq_eq_false_iff_ne]; exact h3
  have b4 : ((k : Int) == 4) = false := by rw [beq_eq_false_iff_ne]; exact h4
  have b5 : ((k : Int) == 5) = false := by rw [beq_eq_false_iff_ne]; exact h5
  clear h1 h2 h3 h4 h5
  show Calls Tryd.prog 27 #[.agg #[.int .i64 k, .int .i64 t.kind, .string t.name, .int .i64 t.n, .slice gt mt ct, .slice ga ma ca, .slice gb mb cb, .slice gc mc cc]] w _
  go_enter Tryd.func27, Tryd.ntmps27
  go_upto_region 1 with fail
  have hv := (Below.refl w.heap.size w).alloc (Nat.le_refl _) (.cells #[.int .i64 k, .int .i64 t.kind, .string t.name, .int .i64 t.n, .slice gt mt ct, .slice ga ma ca, .slice gb mb cb, .slice gc mc cc] 42)
  have hz := newBlk w (.cells #[.int .i64 k, .int .i64 t.kind, .string t.name, .int .i64 t.n, .slice gt mt ct, .slice ga ma ca, .slice gb mb cb, .slice gc mc cc] 42) w.heap.size rfl
  have hzl : w.heap.size < (w.alloc (.cells #[.int .i64 k, .int .i64 t.kind, .string t.name, .int .i64 t.n, .slice gt mt ct, .slice ga ma ca, .slice gb mb cb, .slice gc mc cc] 42)).heap.size := by simp
  obtain ⟨v, hv1⟩ : ∃ v, w.alloc (.cells #[.int .i64 k, .int .i64 t.kind, .string t.name, .int .i64 t.n, .slice gt mt ct, .slice ga ma ca, .slice gb mb cb, .slice gc mc cc] 42) = v := ⟨_, rfl⟩
  rw [hv1] at hv hz hzl ⊢
  clear hv1
  obtain ⟨a0, a1, a2, a3, a4, a5, a6, a7⟩ := row8 hz
  have HV := Lib.hid hv
  clear hv hz
  go_wp2_with fail
  go_ret
  exact ⟨congrArg (fun z : List UInt8 => Ending.returned (.string ⟨z.toArray⟩)) HX.out, HV.out⟩
/-- A goal in a box, and what the call keeps. -/
structure GB9 (w0 : World) (k : Int) (t : Tm) (a b c : List Gl) (bx : Nat) (sv av bv cv : Value) (W : World) : Prop where
  hb : W.heap[bx]? = some (.cells #[.int .i64 k, .int .i64 t.kind, .string t.name, .int .i64 t.n, sv, av, bv, cv] 42 (0, 0))
  hi : Gl.inn W W.heap.size (.mk k t a b c) sv av bv cv
  low : Below w0.heap.size w0 W
theorem GB9.next {w0 : World} {k : Int} {t : Tm} {a b c : List Gl} {bx : Nat} {sv av bv cv : Value} {W W' : World} (h : GB9 w0 k t a b c bx sv av bv cv W) (hb : Below W.heap.size W W') : GB9 w0 k t a b c bx sv av bv cv W' :=
  ⟨(hb.block _ (Array.getElem?_eq_some_iff.1 h.hb).1).trans h.hb, Gl.inn_mono (Gl.inn_below h.hi hb (Nat.le_refl _)) hb.size, h.low.trans (hb.mono h.low.size)⟩
set_option maxRecDepth 100000 in
set_option maxHeartbeats 8000000 in
theorem dgoal_if {t : Tm} {a b c : List Gl} (ha : GoalsW a) (hb : GoalsW b) (hc : GoalsW c) (hsz : Gl.sizes a + Gl.sizes b + Gl.sizes c ≤ 1000000) : GoalW (.mk 4 t a b c) := by
  intro w sv av bv cv hin
  obtain ⟨_, hit, hia, hib, hic⟩ := Gl.inn_mk.1 hin
  obtain ⟨gt, mt, ct, rfl⟩ : ∃ g m c, sv = .slice g m c := by
    obtain ⟨_, g, c, e, _⟩ := Tm.inn_iff.1 hit
    exact ⟨_, _, _, e⟩
  obtain ⟨ga, ma, ca, rfl⟩ : ∃ g m c, av = .slice g m c := by
    obtain ⟨g, c, e, _⟩ := hia
    exact ⟨_, _, _, e⟩
  obtain ⟨gb, mb, cb, rfl⟩ : ∃ g m c, bv = .slice g m c := by
    obtain ⟨g, c, e, _⟩ := hib
    exact ⟨_, _, _, e⟩
  obtain ⟨gc, mc, cc, rfl⟩ : ∃ g m c, cv = .slice g m c := by
    obtain ⟨g, c, e, _⟩ := hic
    exact ⟨_, _, _, e⟩
  have HIN := Lib.hid hin
  clear hit hia hib hic hin
  have hla := gls_len a
  have hlb := gls_len b
  have hlc := gls_len c
  obtain ⟨s1, hs1⟩ : ∃ y, [40] ++ glsX a = y := ⟨_, rfl⟩
  obtain ⟨s2, hs2⟩ : ∃ y, s1 ++ [32, 45, 62, 32] = y := ⟨_, rfl⟩
  obtain ⟨s3, hs3⟩ : ∃ y, s2 ++ glsX b = y := ⟨_, rfl⟩
  obtain ⟨s4, hs4⟩ : ∃ y, s3 ++ [32, 59, 32] = y := ⟨_, rfl⟩
  obtain ⟨s5, hs5⟩ : ∃ y, s4 ++ glsX c = y := ⟨_, rfl⟩
  obtain ⟨s6, hs6⟩ : ∃ y, s5 ++ [41] = y := ⟨_, rfl⟩
  have es1 : (⟨#[40]⟩ ++ ⟨(glsX a).toArray⟩ : ByteArray) = ⟨s1.toArray⟩ := by rw [← hs1]; exact ba_app [40] (glsX a)
  have es2 : (⟨s1.toArray⟩ ++ ⟨#[32, 45, 62, 32]⟩ : ByteArray) = ⟨s2.toArray⟩ := by rw [← hs2]; exact ba_app s1 [32, 45, 62, 32]
  have es3 : (⟨s2.toArray⟩ ++ ⟨(glsX b).toArray⟩ : ByteArray) = ⟨s3.toArray⟩ := by rw [← hs3]; exact ba_app s2 (glsX b)
  have es4 : (⟨s3.toArray⟩ ++ ⟨#[32, 59, 32]⟩ : ByteArray) = ⟨s4.toArray⟩ := by rw [← hs4]; exact ba_app s3 [32, 59, 32]
  have es5 : (⟨s4.toArray⟩ ++ ⟨(glsX c).toArray⟩ : ByteArray) = ⟨s5.toArray⟩ := by rw [← hs5]; exact ba_app s4 (glsX c)
  have es6 : (⟨s5.toArray⟩ ++ ⟨#[41]⟩ : ByteArray) = ⟨s6.toArray⟩ := by rw [← hs6]; exact ba_app s5 [41]
  have ns1 : s1.length = (glsX a).length + 1 := by rw [← hs1]; simp
  have ns2 : s2.length = s1.length + 4 := by rw [← hs2]; simp
  have ns3 : s3.length = s2.length + (glsX b).length := by rw [← hs3]; simp
  have ns4 : s4.length = s3.length + 3 := by rw [← hs4]; simp
  have ns5 : s5.length = s4.length + (glsX c).length := by rw [← hs5]; simp
  have ns6 : s6.length = s5.length + 1 := by rw [← hs6]; simp
  have ls1 := lim9 (a := 1 + (glsX a).length) (by omega)
  have ls2 := lim9 (a := s1.length + 4) (by omega)
  have ls3 := lim9 (a := s2.length + (glsX b).length) (by omega)
  have ls4 := lim9 (a := s3.length + 3) (by omega)
  have ls5 := lim9 (a := s4.length + (glsX c).length) (by omega)
  have ls6 := lim9 (a := s5.length + 1) (by omega)
  have HX := Lib.hid (show s6 = gx (.mk 4 t a b c) by rw [gx, if_neg (by decide), if_neg (by decide), if_pos rfl, ← hs6, ← hs5, ← hs4, ← hs3, ← hs2, ← hs1]; simp [glsX])
  have HA := Lib.hid ha
  have HBB := Lib.hid hb
  have HCC := Lib.hid hc
  show Calls Tryd.prog 27 #[.agg #[.int .i64 4, .int .i64 t.kind, .string t.name, .int .i64 t.n, .slice gt mt ct, .slice ga ma ca, .slice gb mb cb, .slice gc mc cc]] w _
  go_enter Tryd.func27, Tryd.ntmps27
  go_upto_region 1 with fail
  have hv := (Below.refl w.heap.size w).alloc (Nat.le_refl _) (.cells #[.int .i64 4, .int .i64 t.kind, .string t.name, .int .i64 t.n, .slice gt mt ct, .slice ga ma ca, .slice gb mb cb, .slice gc mc cc] 42)
  have hz := newBlk w (.cells #[.int .i64 4, .int .i64 t.kind, .string t.name, .int .i64 t.n, .slice gt mt ct, .slice ga ma ca, .slice gb mb cb, .slice gc mc cc] 42) w.heap.size rfl
  have hzl : w.heap.size < (w.alloc (.cells #[.int .i64 4, .int .i64 t.kind, .string t.name, .int .i64 t.n, .slice gt mt ct, .slice ga ma ca, .slice gb mb cb, .slice gc mc cc] 42)).heap.size := by simp
  obtain ⟨v, hv1⟩ : ∃ v, w.alloc (.cells #[.int .i64 4, .int .i64 t.kind, .string t.name, .int .i64 t.n, .slice gt mt ct, .slice ga ma ca, .slice gb mb cb, .slice gc mc cc] 42) = v := ⟨_, rfl⟩
  rw [hv1] at hv hz hzl ⊢
  clear hv1
  obtain ⟨a0, a1, a2, a3, a4, a5, a6, a7⟩ := row8 hz
  have HV := Lib.hid hv
  have hgb : GB9 w 4 t a b c w.heap.size (.slice gt mt ct) (.slice ga ma ca) (.slice gb mb cb) (.slice gc mc cc) v := ⟨hz, Gl.inn_mono (Gl.inn_below HIN.out hv (Nat.le_refl _)) hv.size, hv⟩
  have HSC := Lib.hid (fun W1 (h : GB9 w 4 t a b c w.heap.size (.slice gt mt ct) (.slice ga ma ca) (.slice gb mb cb) (.slice gc mc cc) W1) => (⟨(row8 h.hb).2.2.2.2.2.1, (row8 h.hb).2.2.2.2.2.2.1, (row8 h.hb).2.2.2.2.2.2.2, h⟩ : W1.cell? ⟨w.heap.size, 5, none⟩ = some (.slice ga ma ca) ∧ W1.cell? ⟨w.heap.size, 6, none⟩ = some (.slice gb mb cb) ∧ W1.cell? ⟨w.heap.size, 7, none⟩ = some (.slice gc mc cc) ∧ GB9 w 4 t a b c w.heap.size (.slice gt mt ct) (.slice ga ma ca) (.slice gb mb cb) (.slice gc mc cc) W1))
  have hs9 := HSC.out _ (hgb.next (Below.refl v.heap.size v).drew)
  have HST := Lib.hid (fun W1 W2 (h : W1.cell? ⟨w.heap.size, 5, none⟩ = some (.slice ga ma ca) ∧ W1.cell? ⟨w.heap.size, 6, none⟩ = some (.slice gb mb cb) ∧ W1.cell? ⟨w.heap.size, 7, none⟩ = some (.slice gc mc cc) ∧ GB9 w 4 t a b c w.heap.size (.slice gt mt ct) (.slice ga ma ca) (.slice gb mb cb) (.slice gc mc cc) W1) (hb : Below W1.heap.size W1 W2) => HSC.out W2 (h.2.2.2.next hb))
  have HTA := Lib.hid (fun W1 (h : W1.cell? ⟨w.heap.size, 5, none⟩ = some (.slice ga ma ca) ∧ W1.cell? ⟨w.heap.size, 6, none⟩ = some (.slice gb mb cb) ∧ W1.cell? ⟨w.heap.size, 7, none⟩ = some (.slice gc mc cc) ∧ GB9 w 4 t a b c w.heap.size (.slice gt mt ct) (.slice ga ma ca) (.slice gb mb cb) (.slice gc mc cc) W1) => HA.out W1 _ (Gl.inn_mk.1 h.2.2.2.hi).2.2.1)
  have HTB := Lib.hid (fun W1 (h : W1.cell? ⟨w.heap.size, 5, none⟩ = some (.slice ga ma ca) ∧ W1.cell? ⟨w.heap.size, 6, none⟩ = some (.slice gb mb cb) ∧ W1.cell? ⟨w.heap.size, 7, none⟩ = some (.slice gc mc cc) ∧ GB9 w 4 t a b c w.heap.size (.slice gt mt ct) (.slice ga ma ca) (.slice gb mb cb) (.slice gc mc cc) W1) => HBB.out W1 _ (Gl.inn_mk.1 h.2.2.2.hi).2.2.2.1)
  have HTC := Lib.hid (fun W1 (h : W1.cell? ⟨w.heap.size, 5, none⟩ = some (.slice ga ma ca) ∧ W1.cell? ⟨w.heap.size, 6, none⟩ = some (.slice gb mb cb) ∧ W1.cell? ⟨w.heap.size, 7, none⟩ = some (.slice gc mc cc) ∧ GB9 w 4 t a b c w.heap.size (.slice gt mt ct) (.slice ga ma ca) (.slice gb mb cb) (.slice gc mc cc) W1) => HCC.out W1 _ (Gl.inn_mk.1 h.2.2.2.hi).2.2.2.2)
  clear hgb ha hb hc hz hv hla hlb hlc hs1 hs2 hs3 hs4 hs5 hs6 ns1 ns2 ns3 ns4 ns5 ns6
  go_upto_region 6 with fail
  go_region_held3 (fun W1 => W1.cell? ⟨w.heap.size, 5, none⟩ = some (.slice ga ma ca) ∧ W1.cell? ⟨w.heap.size, 6, none⟩ = some (.slice gb mb cb) ∧ W1.cell? ⟨w.heap.size, 7, none⟩ = some (.slice gc mc cc) ∧ GB9 w 4 t a b c w.heap.size (.slice gt mt ct) (.slice ga ma ca) (.slice gb mb cb) (.slice gc mc cc) W1)
    (first | with_reducible exact hs9 | assumption | exact HST.out _ _ (by assumption) (by assumption))
    (first
      | (go_at_call 13; (with_reducible refine ((HTA.out _ (by assumption)).mono ?_)); rintro e w' ⟨rfl, hb⟩)
      | (go_at_call 13; (with_reducible refine ((HTB.out _ (by assumption)).mono ?_)); rintro e w' ⟨rfl, hb⟩)
      | (go_at_call 13; (with_reducible refine ((HTC.out _ (by assumption)).mono ?_)); rintro e w' ⟨rfl, hb⟩))
  all_goals
    rename_i hheld
    have HX9 := Lib.hid hheld.2.2.2.low
    clear hheld
    go_wp2_with fail
    go_ret
    exact ⟨congrArg (fun z : List UInt8 => Ending.returned (.string ⟨z.toArray⟩)) HX.out, HX9.out⟩
theorem dgoal_any (HR : RightSays) : ∀ g : Gl, g.size ≤ 1000000 → GoalW g := Gl.ind fun k t a b c ha hb hc hsz => by
  simp only [Gl.size] at hsz
  have hA : GoalsW a := dgoals_of a (fun g hg => ha g hg (by have := Gl.size_le hg; omega)) (by omega)
  have hB : GoalsW b := dgoals_of b (fun g hg => hb g hg (by have := Gl.size_le hg; omega)) (by omega)
  have hC : GoalsW c := dgoals_of c (fun g hg => hc g hg (by have := Gl.size_le hg; omega)) (by omega)
  by_cases h1 : k = 1
  · subst h1; exact dgoal_one HR (by omega)
  by_cases h2 : k = 2
  · subst h2; exact dgoal_two HR (by omega)
  by_cases h3 : k = 3
  · subst h3; exact dgoal_cut
  by_cases h4 : k = 4
  · subst h4; exact dgoal_if hA hB hC (by omega)
  by_cases h5 : k = 5
  · subst h5; exact dgoal_not hA (by omega)
  exact dgoal_else h1 h2 h3 h4 h5
theorem dgoals_any (HR : RightSays) (l : List Gl) (hsz : Gl.sizes l ≤ 1000000) : GoalsW l :=
  dgoals_of l (fun g hg => dgoal_any HR g (by have := Gl.size_le hg; omega)) hsz
end Go.Proofs.YtliapkajonbndaaDoor
