/-
  The document's Goals and Goal.
-/
import Derived.Test.YtliapkajonbndaaDoorDwG
namespace Go.Proofs.YtliapkajonbndaaDoor
open Go.RowKit

def GoalW (g : Gl) : Prop := ∀ (w : World) (sv av bv cv : Value), Gl.inn w w.heap.size g sv av bv cv → Calls Tryd.prog 27 #[.agg #[.int .i64 g.kind, .int .i64 g.t.kind, .string g.t.name, .int .i64 g.t.n, sv, av, bv, cv]] w fun e w' => e = .returned (.string ⟨(gx g).toArray⟩) ∧ Below w.heap.size w w'
def GoalsW (l : List Gl) : Prop := ∀ (w : World) (v : Value), Gl.sliceIn w w.heap.size l v → Calls Tryd.prog 13 #[v] w fun e w' => e = .returned (.string ⟨(glsX l).toArray⟩) ∧ Below w.heap.size w w'
/-- A goal at its place. -/
structure GA9 (W : World) (b p : Nat) (g : Gl) (sv av bv cv : Value) : Prop where
  c0 : W.cell? ⟨b, p, none⟩ = some (.int .i64 g.kind)
  c1 : W.cell? ⟨b, p + 1, none⟩ = some (.int .i64 g.t.kind)
  c2 : W.cell? ⟨b, p + 2, none⟩ = some (.string g.t.name)
  c3 : W.cell? ⟨b, p + 3, none⟩ = some (.int .i64 g.t.n)
  c4 : W.cell? ⟨b, p + 4, none⟩ = some sv
  c5 : W.cell? ⟨b, p + 5, none⟩ = some av
  c6 : W.cell? ⟨b, p + 6, none⟩ = some bv
  c7 : W.cell? ⟨b, p + 7, none⟩ = some cv
  hi : Gl.inn W W.heap.size g sv av bv cv
theorem GA9.lt {W : World} {b p : Nat} {g : Gl} {sv av bv cv : Value} (h : GA9 W b p g sv av bv cv) : b < W.heap.size := World.block_lt_of_cell? _ _ h.c0
theorem GA9.next {W W' : World} {b p : Nat} {g : Gl} {sv av bv cv : Value} (h : GA9 W b p g sv av bv cv) (hb : Below W.heap.size W W') : GA9 W' b p g sv av bv cv :=
  ⟨(hb.cell (p := ⟨b, p, none⟩) h.lt).trans h.c0, (hb.cell (p := ⟨b, p + 1, none⟩) h.lt).trans h.c1, (hb.cell (p := ⟨b, p + 2, none⟩) h.lt).trans h.c2, (hb.cell (p := ⟨b, p + 3, none⟩) h.lt).trans h.c3, (hb.cell (p := ⟨b, p + 4, none⟩) h.lt).trans h.c4, (hb.cell (p := ⟨b, p + 5, none⟩) h.lt).trans h.c5, (hb.cell (p := ⟨b, p + 6, none⟩) h.lt).trans h.c6, (hb.cell (p := ⟨b, p + 7, none⟩) h.lt).trans h.c7, Gl.inn_mono (Gl.inn_below h.hi hb (Nat.le_refl _)) hb.size⟩
theorem GA9.of {W : World} {l : List Gl} {v : Value} (h : Gl.sliceIn W W.heap.size l v) (i : Nat) (hi : i < l.length) : ∃ b o cap sv av bv cv, v = .slice (some ⟨b, o, none⟩) l.length cap ∧ GA9 W b (o + i * 8) l[i] sv av bv cv := by
  obtain ⟨bk, off, cap, sv, av, bv, cv, e, _, g0, g1, g2, g3, g4, g5, g6, g7, hin⟩ := Gl.sliceIn_get h i hi
  exact ⟨bk, off, cap, sv, av, bv, cv, e, g0, g1, g2, g3, g4, g5, g6, g7, hin⟩
theorem lim9 {a : Nat} (h : a ≤ 90000000000000) : (9223372036854775807 < a) = False := by simp only [eq_iff_iff, iff_false]; omega
/-! ### how long goals' texts are -/
theorem joinX_len : ∀ l : List Gl, (∀ g ∈ l, (gx g).length + 50 ≤ 8100 * g.size) → (joinX (gxs l)).length ≤ 8100 * Gl.sizes l
  | [], _ => by simp [gxs, joinX, Gl.sizes]
  | g :: l, h => by
    have h1 := joinX_len l (fun u hu => h u (by simp [hu]))
    have h2 := h g (by simp)
    have e : joinX (gxs (g :: l)) = 44 :: 32 :: (gx g ++ joinX (gxs l)) := rfl
    rw [e]
    simp only [List.length_cons, List.length_append, Gl.sizes]
    omega
theorem gsize_pos (g : Gl) : 1 ≤ g.size := by cases g; simp [Gl.size]
theorem gsizes_len : ∀ l : List Gl, l.length ≤ Gl.sizes l
  | [] => by simp [Gl.sizes]
  | g :: l => by
    have h1 := gsizes_len l
    have h2 := gsize_pos g
    simp only [List.length_cons, Gl.sizes]
    omega
theorem glsX_len (l : List Gl) (h : ∀ g ∈ l, (gx g).length + 50 ≤ 8100 * g.size) : (glsX l).length ≤ 8100 * Gl.sizes l + 4 := by
  cases l with
  | nil => simp [glsX, gxs, rowX]
  | cons g r =>
    have h1 := joinX_len r (fun u hu => h u (by simp [hu]))
    have h2 := h g (by simp)
    show (gx g ++ joinX (gxs r)).length ≤ _
    simp only [List.length_append, Gl.sizes]
    omega
theorem gx_len : ∀ g : Gl, (gx g).length + 50 ≤ 8100 * g.size := Gl.ind fun k t a b c ha hb hc => by
  have h1 := glsX_len a ha
  have h2 := glsX_len b hb
  have h3 := glsX_len c hc
  have h4 := sureX_len t
  have h5 : 1 ≤ t.size := size_pos t
  rw [gx]
  simp only [Gl.size]
  unfold glsX at h1 h2 h3
  split
  · omega
  split
  · simp only [List.length_cons, List.length_nil]; omega
  split
  · simp only [List.length_cons, List.length_nil, List.length_append]; omega
  split
  · simp only [List.length_cons, List.length_nil, List.length_append]; omega
  · simp only [List.length_cons, List.length_nil]; omega
theorem gls_len (l : List Gl) : (glsX l).length ≤ 8100 * Gl.sizes l + 4 := glsX_len l (fun g _ => gx_len g)
theorem join_take (l : List Gl) (j : Nat) : (joinX (gxs (l.take j))).length ≤ 8100 * Gl.sizes l := by
  have h1 := joinX_len l (fun g _ => gx_len g)
  have h2 : gxs l = gxs (l.take j) ++ gxs (l.drop j) := by
    rw [gxs_map, gxs_map, gxs_map, ← List.map_append, List.take_append_drop]
  rw [h2, joinX_app, List.length_append] at h1
  omega
set_option maxRecDepth 100000 in
set_option maxHeartbeats 8000000 in
theorem dgoals_of (l : List Gl) (hl : ∀ g ∈ l, GoalW g) (hsz : Gl.sizes l ≤ 1000000) : GoalsW l := by
  intro w v hsl
  obtain ⟨g0, cap, rfl, -, -, -⟩ := id hsl
  have HL := Lib.hid hl
  have HSL := Lib.hid hsl
  clear hl hsl
  cases l with
  | nil =>
    show Calls Tryd.prog 13 #[.slice g0 0 cap] w _
    go_enter Tryd.func13, Tryd.ntmps13
    go_wp2_with fail
    go_ret
    exact ⟨rfl, Below.refl _ _⟩
  | cons g r =>
    have hmB : (g :: r).length ≤ 1000000 := by have := gsizes_len (g :: r); omega
    obtain ⟨m, hm⟩ : ∃ m, (g :: r).length = m := ⟨_, rfl⟩
    have hm1 : 1 ≤ m := by rw [← hm]; simp
    rw [hm] at hmB
    have HM := Lib.hid hm
    have k0 : ((m : Int) == 0) = false := by rw [beq_eq_false_iff_ne]; omega
    have hg1 := gx_len g
    have hg2 := fun j => join_take r j
    simp only [Gl.sizes] at hsz
    have HG1 := Lib.hid hg1
    have HG2 := Lib.hid hg2
    have HSZ := Lib.hid hsz
    obtain ⟨b0, o0, cap0, sv, av, bv, cv, e9, hga⟩ := GA9.of HSL.out 0 (by simp)
    injection e9 with e91 e92 e93
    subst e91 e93
    rw [Nat.zero_mul, Nat.add_zero] at hga
    have hga : GA9 w b0 o0 g sv av bv cv := hga
    have hcall := HL.out g (by simp) w sv av bv cv hga.hi
    have HC := Lib.hid hcall
    obtain ⟨c0, c1, c2, c3, c4, c5, c6, c7, _⟩ := id hga
    have hbl := hga.lt
    clear hcall hga hg1 hg2 hsz
    show Calls Tryd.prog 13 #[.slice (some ⟨b0, o0, none⟩) (g :: r).length cap] w _
    rw [hm]
    clear hm
    go_enter Tryd.func13, Tryd.ntmps13
    go_wp2_with (go_at_call 27; (with_reducible refine (HC.out.mono ?_)); rintro e w1 ⟨rfl, hb⟩; have HB := Lib.hid hb; clear hb)
    go_loopw [3, 4] (fun o i wr => ∃ (k : Nat) (y : List UInt8), 1 ≤ k ∧ k ≤ m ∧ o = .string ⟨y.toArray⟩ ∧ i = .int .i64 k ∧ Hid (y = gx g ++ joinX (gxs (r.take (k - 1)))) ∧ Hid (Below w.heap.size w wr)) (fun _ i _ => m - (intOf i).toNat)
    case atStart => exact ⟨1, gx g, Nat.le_refl _, hm1, rfl, rfl, Lib.hid (by simp [gxs, joinX]), HB⟩
    case round =>
      obtain ⟨k, y, hk1, hk, rfl, rfl, hy, hbw⟩ := hrel
      have HY := Lib.hid hy.out
      have HBW := Lib.hid hbw.out
      have hyl : y.length ≤ 8200000000 := by
        have h1 := HY.out
        have h2 := HG1.out
        have h3 := HG2.out (k - 1)
        have h5 := HSZ.out
        rw [h1]
        simp only [List.length_append]
        omega
      clear hy hbw
      by_cases hlt : k < m
      · have hlt' : k < (g :: r).length := by rw [HM.out]; exact hlt
        obtain ⟨b', o', cap', sv', av', bv', cv', e9, hga⟩ := GA9.of (Gl.sliceIn_mono (Gl.sliceIn_below HSL.out HBW.out (Nat.le_refl _)) HBW.out.size) k hlt'
        injection e9 with e9 _ e93
        injection e9 with e9
        injection e9 with e91 e92
        subst e91 e92 e93
        obtain ⟨u, hu⟩ : ∃ u, (g :: r)[k] = u := ⟨_, rfl⟩
        have hmem : u ∈ g :: r := hu ▸ List.getElem_mem hlt'
        rw [hu] at hga
        have hcall := HL.out u hmem wr _ _ _ _ hga.hi
        have HCA := Lib.hid hcall
        have hlu := gx_len u
        have hsu := Gl.size_le hmem
        have hsz8 := HSZ.out
        simp only [Gl.sizes] at hsu
        obtain ⟨z1, hz1⟩ : ∃ z, y ++ [44, 32] = z := ⟨_, rfl⟩
        obtain ⟨z2, hz2⟩ : ∃ z, z1 ++ gx u = z := ⟨_, rfl⟩
        have e1 : (⟨y.toArray⟩ ++ ⟨#[44, 32]⟩ : ByteArray) = ⟨z1.toArray⟩ := by rw [← hz1]; exact ba_app y [44, 32]
        have e2 : (⟨z1.toArray⟩ ++ ⟨(gx u).toArray⟩ : ByteArray) = ⟨z2.toArray⟩ := by rw [← hz2]; exact ba_app z1 (gx u)
        have hl1 : z1.length = y.length + 2 := by rw [← hz1]; simp
        have l1 := lim9 (a := y.length + 2) (by omega)
        have l2 := lim9 (a := z1.length + (gx u).length) (by omega)
        have HZ2 := Lib.hid (show z2 = gx g ++ joinX (gxs (r.take k)) by
          obtain ⟨j, rfl⟩ : ∃ j, k = j + 1 := ⟨k - 1, by omega⟩
          have hj : j < r.length := by simpa using hlt'
          have hq9 : r[j] = u := by rw [← hu]; simp
          rw [← hz2, ← hz1, HY.out, List.take_succ_eq_append_getElem hj, hq9, gxs_map, gxs_map, List.map_append, joinX_app]
          simp [joinX])
        have j0 : (0 : Int) ≤ (k : Int) := by omega
        have j1 : (k : Int) < (m : Int) := by omega
        have jz : (0 : Int) + (k : Int) = (k : Int) := by omega
        have jw : IntKind.i64.wrap (k : Int) = (k : Int) := by rw [IntKind.wrap_i64]; omega
        obtain ⟨x0, x1, x2, x3, x4, x5, x6, x7, _⟩ := id hga
        have hbl' := hga.lt
        clear hga hu hmem hcall hlu hsu hsz8 hz1 hz2 hl1 c0 c1 c2 c3 c4 c5 c6 c7
        go_wp2_with (go_at_call 27; (with_reducible refine (HCA.out.mono ?_)); rintro e w' ⟨rfl, hb⟩; have HT9 := Lib.hid (HBW.out.trans (hb.mono HBW.out.size)); clear hb)
        go_roundw
        case rel => exact ⟨k + 1, z2, by omega, by omega, rfl, by go_num, HZ2, HT9⟩
        case measure => simp [intOf]; omega
      · obtain rfl : m = k := by omega
        have HYE := Lib.hid (show y = glsX (g :: r) by
          have h2 := HM.out
          simp only [List.length_cons] at h2
          rw [HY.out, show m - 1 = r.length by omega, List.take_length]
          rfl)
        go_wp2_with fail
        go_ret
        exact ⟨congrArg (fun z : List UInt8 => Ending.returned (.string ⟨z.toArray⟩)) HYE.out, HBW.out⟩
end Go.Proofs.YtliapkajonbndaaDoor
