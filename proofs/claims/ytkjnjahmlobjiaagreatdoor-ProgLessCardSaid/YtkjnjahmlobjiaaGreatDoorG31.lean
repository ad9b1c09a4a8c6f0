/-
  Is each Call of goals one of the predicates?
  The program's There and Check.
-/
import Derived.Test.YtkjnjahmlobjiaaGreatDoorG30
namespace Go.Proofs.YtkjnjahmlobjiaaGreatDoor
open Go.RowKit

/-- A goal in a box, the row that it is of, and the map. -/
structure HB9 (w0 : World) (l : List Gl) (v : Value) (p : List Pc) (mb : Nat) (g : Gl) (sv av bv cv : Value) (gx : Nat) (W : World) : Prop where
  low : Below w0.heap.size w0 W
  hs : Gl.sliceIn W W.heap.size l v
  ps : PSet W mb p
  bk : W.heap[gx]? = some (.cells #[.int .i64 g.kind, .int .i64 g.t.kind, .string g.t.name, .int .i64 g.t.n, sv, av, bv, cv] 49 (0, 0))
  hi : Gl.inn W W.heap.size g sv av bv cv
section
variable {w0 : World} {l : List Gl} {v : Value} {p : List Pc} {mb : Nat} {g : Gl} {sv av bv cv : Value} {gx : Nat} {W : World} (h : HB9 w0 l v p mb g sv av bv cv gx W)
include h
theorem HB9.lt : gx < W.heap.size := (Array.getElem?_eq_some_iff.1 h.bk).1
theorem HB9.c0 : W.cell? ⟨gx, 0, none⟩ = some (.int .i64 g.kind) := by simp [World.cell?, h.bk]
theorem HB9.c1 : W.cell? ⟨gx, 1, none⟩ = some (.int .i64 g.t.kind) := by simp [World.cell?, h.bk]
theorem HB9.c2 : W.cell? ⟨gx, 2, none⟩ = some (.string g.t.name) := by simp [World.cell?, h.bk]
theorem HB9.c3 : W.cell? ⟨gx, 3, none⟩ = some (.int .i64 g.t.n) := by simp [World.cell?, h.bk]
theorem HB9.c4 : W.cell? ⟨gx, 4, none⟩ = some sv := by simp [World.cell?, h.bk]
theorem HB9.c5 : W.cell? ⟨gx, 5, none⟩ = some av := by simp [World.cell?, h.bk]
theorem HB9.c6 : W.cell? ⟨gx, 6, none⟩ = some bv := by simp [World.cell?, h.bk]
theorem HB9.c7 : W.cell? ⟨gx, 7, none⟩ = some cv := by simp [World.cell?, h.bk]
theorem HB9.next {W' : World} (hb : Below W.heap.size W W') : HB9 w0 l v p mb g sv av bv cv gx W' :=
  ⟨h.low.trans (hb.mono h.low.size), Gl.sliceIn_next h.hs hb, h.ps.next hb, (hb.block _ h.lt).trans h.bk, Gl.inn_mono (Gl.inn_below h.hi hb (Nat.le_refl _)) hb.size⟩
theorem HB9.it : Tm.inn W W.heap.size g.t sv := (Gl.inn_iff.1 h.hi).2.1
theorem HB9.ia : Gl.sliceIn W W.heap.size g.a av := (Gl.inn_iff.1 h.hi).2.2.1
theorem HB9.ib : Gl.sliceIn W W.heap.size g.b bv := (Gl.inn_iff.1 h.hi).2.2.2.1
theorem HB9.ic : Gl.sliceIn W W.heap.size g.c cv := (Gl.inn_iff.1 h.hi).2.2.2.2
end
def HvL (p : List Pc) (l : List Gl) : Prop := ∀ (w : World) (v : Value) (mb : Nat), Gl.sliceIn w w.heap.size l v → PSet w mb p → Calls Tryz.prog 21 #[.map (some mb), v] w fun e w' => e = .returned (.bool (thL p l)) ∧ Below w.heap.size w w'
set_option maxRecDepth 100000 in
set_option maxHeartbeats 32000000 in
theorem phave_of (p : List Pc) (l : List Gl) (_hpl : p.length ≤ 1599289640354) (hl : ∀ g ∈ l, HvL p g.a ∧ HvL p g.b ∧ HvL p g.c) : HvL p l := by
  intro w v mb hsl hps
  obtain ⟨g0, cap, rfl, -, hlm, -⟩ := id hsl
  have hlm2 : l.length ≤ 1034834473200 := hlm
  have HL := Lib.hid hl
  have HS := Lib.hid (show Below w.heap.size w w ∧ Gl.sliceIn w w.heap.size l (.slice g0 l.length cap) ∧ PSet w mb p from ⟨Below.refl _ _, hsl, hps⟩)
  obtain ⟨m, hm⟩ : ∃ m, l.length = m := ⟨_, rfl⟩
  rw [hm] at HS hlm2 ⊢
  have HM := Lib.hid hm
  clear hm hl hlm hsl hps
  go_enter Tryz.func21, Tryz.ntmps21
  go_wp2_with fail
  go_loopw [11] (fun i wr => ∃ (k : Nat), k ≤ m ∧ i = .int .i64 k ∧ Hid (thL p (l.take k) = true) ∧ Hid (Below w.heap.size w wr ∧ Gl.sliceIn wr wr.heap.size l (.slice g0 m cap) ∧ PSet wr mb p)) (fun i _ => m - (intOf i).toNat)
  case atStart => exact ⟨0, Nat.zero_le _, rfl, Lib.hid (by rw [List.take_zero, thL]), Lib.hid HS.out⟩
  case round =>
    obtain ⟨k, hk, rfl, hy, hs⟩ := hrel
    have HY := Lib.hid hy.out
    have HS := Lib.hid hs.out
    clear hy hs
    by_cases hlt : k < m
    · have hlt' : k < l.length := by rw [HM.out]; exact hlt
      obtain ⟨bk, off, cap2, sv, av, bv, cv, e9, hbl, g1, g2, g3, g4, g5, g6, g7, g8, hig⟩ := Gl.sliceIn_get HS.out.2.1 k hlt'
      injection e9 with e91 e90 e92
      subst e91 e92
      clear e90
      have hmem := List.getElem_mem hlt'
      have hcl := HL.out _ hmem
      have hstep := thL_step (p := p) hlt'
      have hbad := fun h => thL_bad (p := p) hmem h
      have hgi := thG_is p (l[k]'hlt')
      generalize l[k] = g at g1 g2 g3 g4 g5 g6 g7 g8 hig hmem hcl hstep hbad hgi
      obtain ⟨hho, gt, ct, rfl, -, hml, -⟩ := Tm.inn_iff.1 (Gl.inn_iff.1 hig).2.1
      have hsn := head_name hho
      obtain ⟨ga, ma, ca, rfl⟩ : ∃ g m c, av = .slice g m c := by
        obtain ⟨g, c, e, _⟩ := (Gl.inn_iff.1 hig).2.2.1
        exact ⟨_, _, _, e⟩
      obtain ⟨gb, mb9, cb, rfl⟩ : ∃ g m c, bv = .slice g m c := by
        obtain ⟨g, c, e, _⟩ := (Gl.inn_iff.1 hig).2.2.2.1
        exact ⟨_, _, _, e⟩
      obtain ⟨gc, mc, cc, rfl⟩ : ∃ g m c, cv = .slice g m c := by
        obtain ⟨g, c, e, _⟩ := (Gl.inn_iff.1 hig).2.2.2.2
        exact ⟨_, _, _, e⟩
      obtain ⟨kl, hkl⟩ := pkey_mk g.t.name g.t.args.length hsn (by omega)
      have HKL := Lib.hid hkl
      have HPR := Lib.hid (fun W (h : HB9 w l (.slice (some ⟨bk, off, none⟩) m cap) p mb g (.slice gt g.t.args.length ct) (.slice ga ma ca) (.slice gb mb9 cb) (.slice gc mc cc) wr.heap.size W) => ppred_any g.t W _ h.it)
      have HA := Lib.hid (fun W (h : HB9 w l (.slice (some ⟨bk, off, none⟩) m cap) p mb g (.slice gt g.t.args.length ct) (.slice ga ma ca) (.slice gb mb9 cb) (.slice gc mc cc) wr.heap.size W) => hcl.1 W _ mb h.ia h.ps)
      have HB := Lib.hid (fun W (h : HB9 w l (.slice (some ⟨bk, off, none⟩) m cap) p mb g (.slice gt g.t.args.length ct) (.slice ga ma ca) (.slice gb mb9 cb) (.slice gc mc cc) wr.heap.size W) => hcl.2.1 W _ mb h.ib h.ps)
      have HC := Lib.hid (fun W (h : HB9 w l (.slice (some ⟨bk, off, none⟩) m cap) p mb g (.slice gt g.t.args.length ct) (.slice ga ma ca) (.slice gb mb9 cb) (.slice gc mc cc) wr.heap.size W) => hcl.2.2 W _ mb h.ic h.ps)
      have HIG := Lib.hid hig
      have HX := Lib.hid hgi
      have HST := Lib.hid hstep
      have HBD := Lib.hid hbad
      clear hcl hgi hstep hbad hmem hig hsn hml hho
      obtain ⟨mt, hmt⟩ : ∃ m, g.t.args.length = m := ⟨_, rfl⟩
      rw [hmt] at g5 hkl HPR HA HB HC HIG
      have HMT := Lib.hid hmt
      clear hmt
      generalize thL p g.a = xa at HA HX
      generalize thL p g.b = xb at HB HX
      generalize thL p g.c = xc at HC HX
      have hbl2 : bk < wr.heap.size := hbl
      clear hbl
      have j0 : (0 : Int) ≤ (k : Int) := by omega
      have j1 : (k : Int) < (m : Int) := by omega
      have jz : (0 : Int) + (k : Int) = (k : Int) := by omega
      have jw : IntKind.i64.wrap (k : Int) = (k : Int) := by rw [IntKind.wrap_i64]; omega
      go_upto_region 4 with fail
      obtain ⟨u1, hu1⟩ : ∃ u1, wr.alloc (.cells #[.int .i64 g.kind, .int .i64 g.t.kind, .string g.t.name, .int .i64 g.t.n, .slice gt mt ct, .slice ga ma ca, .slice gb mb9 cb, .slice gc mc cc] 49) = u1 := ⟨_, rfl⟩
      have hb1 : Below wr.heap.size wr u1 := hu1 ▸ (Below.refl _ wr).alloc (Nat.le_refl _) _
      have hn1 : u1.heap[wr.heap.size]? = some (.cells #[.int .i64 g.kind, .int .i64 g.t.kind, .string g.t.name, .int .i64 g.t.n, .slice gt mt ct, .slice ga ma ca, .slice gb mb9 cb, .slice gc mc cc] 49 (0, 0)) := hu1 ▸ heap_alloc_new wr _
      have HS1 := Lib.hid (show HB9 w l (.slice (some ⟨bk, off, none⟩) m cap) p mb g (.slice gt mt ct) (.slice ga ma ca) (.slice gb mb9 cb) (.slice gc mc cc) wr.heap.size u1 from
        ⟨HS.out.1.trans (hb1.mono HS.out.1.size), Gl.sliceIn_next HS.out.2.1 hb1, HS.out.2.2.next hb1, hn1, Gl.inn_mono (Gl.inn_below HIG.out hb1 (Nat.le_refl _)) hb1.size⟩)
      rw [hu1]
      clear hu1 g1 g2 g3 g4 g5 g6 g7 g8 hb1 hn1
      have x0 : u1.cell? ⟨wr.heap.size, 0, none⟩ = some (.int .i64 g.kind) := HS1.out.c0; have x1 : u1.cell? ⟨wr.heap.size, 1, none⟩ = some (.int .i64 g.t.kind) := HS1.out.c1; have x2 : u1.cell? ⟨wr.heap.size, 2, none⟩ = some (.string g.t.name) := HS1.out.c2; have x3 : u1.cell? ⟨wr.heap.size, 3, none⟩ = some (.int .i64 g.t.n) := HS1.out.c3; have x4 : u1.cell? ⟨wr.heap.size, 4, none⟩ = some (.slice gt mt ct) := HS1.out.c4; have x5 : u1.cell? ⟨wr.heap.size, 5, none⟩ = some (.slice ga ma ca) := HS1.out.c5; have x6 : u1.cell? ⟨wr.heap.size, 6, none⟩ = some (.slice gb mb9 cb) := HS1.out.c6; have x7 : u1.cell? ⟨wr.heap.size, 7, none⟩ = some (.slice gc mc cc) := HS1.out.c7; have xl := HS1.out.lt
      by_cases hk1 : g.kind = 1
      · rw [hk1] at x0
        have HX := Lib.hid (show thG p g = (hasP p g.t && (xa && (xb && xc))) by rw [HX.out, decide_eq_false (show ¬ g.kind ≠ 1 from fun h => h hk1), Bool.false_or])
        clear hk1
        obtain ⟨xh, hxh⟩ : ∃ x, hasP p g.t = x := ⟨_, rfl⟩
        rw [hxh] at HX
        have HXH := Lib.hid hxh
        clear hxh
        cases xh with
        | false =>
          have HF := Lib.hid (HBD.out (show thG p g = false by rw [HX.out]; rfl))
          go_wp2_with (first | (go_at_call 34; (with_reducible refine (HPR.out _ HS1.out).mono ?_); rintro e u2 ⟨rfl, hb⟩; have HS2 := Lib.hid (HS1.out.next hb); obtain ⟨n9, D9, hown, -, hh9⟩ := HS1.out.ps.next hb; have HOWN := Lib.hid hown; have HH9 := Lib.hid ((hh9 g.t kl HKL.out).trans HXH.out); clear hb hown hh9; have y20 : u2.cell? ⟨wr.heap.size, 0, none⟩ = some (.int .i64 g.kind) := HS2.out.c0; have y21 : u2.cell? ⟨wr.heap.size, 1, none⟩ = some (.int .i64 g.t.kind) := HS2.out.c1; have y22 : u2.cell? ⟨wr.heap.size, 2, none⟩ = some (.string g.t.name) := HS2.out.c2; have y23 : u2.cell? ⟨wr.heap.size, 3, none⟩ = some (.int .i64 g.t.n) := HS2.out.c3; have y24 : u2.cell? ⟨wr.heap.size, 4, none⟩ = some (.slice gt mt ct) := HS2.out.c4; have y25 : u2.cell? ⟨wr.heap.size, 5, none⟩ = some (.slice ga ma ca) := HS2.out.c5; have y26 : u2.cell? ⟨wr.heap.size, 6, none⟩ = some (.slice gb mb9 cb) := HS2.out.c6; have y27 : u2.cell? ⟨wr.heap.size, 7, none⟩ = some (.slice gc mc cc) := HS2.out.c7; have y2l := HS2.out.lt) | (at_lookup; refine wpList_lookup_own_unit _ rfl _ _ 52 rfl 75 76 pkeyed Tryz.underlying52 (Tryz.zeroNone _) mb n9 D9 rfl HOWN.out _ _ rfl hkl ?_; rw [HH9.out]))
          go_ret
          exact ⟨by rw [HF.out]; rfl, HS2.out.low.alloc HS2.out.low.size _⟩
        | true =>
        have HX := Lib.hid (show thG p g = (xa && (xb && xc)) by rw [HX.out]; rfl)
        go_upto_region 8 with (first | (go_at_call 34; (with_reducible refine (HPR.out _ HS1.out).mono ?_); rintro e u2 ⟨rfl, hb⟩; have HS2 := Lib.hid (HS1.out.next hb); obtain ⟨n9, D9, hown, -, hh9⟩ := HS1.out.ps.next hb; have HOWN := Lib.hid hown; have HH9 := Lib.hid ((hh9 g.t kl HKL.out).trans HXH.out); clear hb hown hh9; have y20 : u2.cell? ⟨wr.heap.size, 0, none⟩ = some (.int .i64 g.kind) := HS2.out.c0; have y21 : u2.cell? ⟨wr.heap.size, 1, none⟩ = some (.int .i64 g.t.kind) := HS2.out.c1; have y22 : u2.cell? ⟨wr.heap.size, 2, none⟩ = some (.string g.t.name) := HS2.out.c2; have y23 : u2.cell? ⟨wr.heap.size, 3, none⟩ = some (.int .i64 g.t.n) := HS2.out.c3; have y24 : u2.cell? ⟨wr.heap.size, 4, none⟩ = some (.slice gt mt ct) := HS2.out.c4; have y25 : u2.cell? ⟨wr.heap.size, 5, none⟩ = some (.slice ga ma ca) := HS2.out.c5; have y26 : u2.cell? ⟨wr.heap.size, 6, none⟩ = some (.slice gb mb9 cb) := HS2.out.c6; have y27 : u2.cell? ⟨wr.heap.size, 7, none⟩ = some (.slice gc mc cc) := HS2.out.c7; have y2l := HS2.out.lt) | (at_lookup; refine wpList_lookup_own_unit _ rfl _ _ 52 rfl 75 76 pkeyed Tryz.underlying52 (Tryz.zeroNone _) mb n9 D9 rfl HOWN.out _ _ rfl hkl ?_; rw [HH9.out]))
        obtain ⟨u3, hu3⟩ : ∃ u3, u2.alloc (.cells #[] 76) = u3 := ⟨_, rfl⟩
        have hb3 : Below u2.heap.size u2 u3 := hu3 ▸ (Below.refl _ u2).alloc (Nat.le_refl _) _
        have HS3 := Lib.hid (HS2.out.next hb3)
        rw [hu3]
        clear hu3 hb3
        have y30 : u3.cell? ⟨wr.heap.size, 0, none⟩ = some (.int .i64 g.kind) := HS3.out.c0; have y31 : u3.cell? ⟨wr.heap.size, 1, none⟩ = some (.int .i64 g.t.kind) := HS3.out.c1; have y32 : u3.cell? ⟨wr.heap.size, 2, none⟩ = some (.string g.t.name) := HS3.out.c2; have y33 : u3.cell? ⟨wr.heap.size, 3, none⟩ = some (.int .i64 g.t.n) := HS3.out.c3; have y34 : u3.cell? ⟨wr.heap.size, 4, none⟩ = some (.slice gt mt ct) := HS3.out.c4; have y35 : u3.cell? ⟨wr.heap.size, 5, none⟩ = some (.slice ga ma ca) := HS3.out.c5; have y36 : u3.cell? ⟨wr.heap.size, 6, none⟩ = some (.slice gb mb9 cb) := HS3.out.c6; have y37 : u3.cell? ⟨wr.heap.size, 7, none⟩ = some (.slice gc mc cc) := HS3.out.c7; have y3l := HS3.out.lt
        cases xa with
        | false =>
          have HF := Lib.hid (HBD.out (show thG p g = false by rw [HX.out]; rfl))
          go_wp2_with (go_at_call 21; (with_reducible refine (HA.out _ HS3.out).mono ?_); rintro e u4 ⟨rfl, hb⟩; have HS4 := Lib.hid (HS3.out.next hb); clear hb; have y40 : u4.cell? ⟨wr.heap.size, 0, none⟩ = some (.int .i64 g.kind) := HS4.out.c0; have y41 : u4.cell? ⟨wr.heap.size, 1, none⟩ = some (.int .i64 g.t.kind) := HS4.out.c1; have y42 : u4.cell? ⟨wr.heap.size, 2, none⟩ = some (.string g.t.name) := HS4.out.c2; have y43 : u4.cell? ⟨wr.heap.size, 3, none⟩ = some (.int .i64 g.t.n) := HS4.out.c3; have y44 : u4.cell? ⟨wr.heap.size, 4, none⟩ = some (.slice gt mt ct) := HS4.out.c4; have y45 : u4.cell? ⟨wr.heap.size, 5, none⟩ = some (.slice ga ma ca) := HS4.out.c5; have y46 : u4.cell? ⟨wr.heap.size, 6, none⟩ = some (.slice gb mb9 cb) := HS4.out.c6; have y47 : u4.cell? ⟨wr.heap.size, 7, none⟩ = some (.slice gc mc cc) := HS4.out.c7; have y4l := HS4.out.lt)
          go_ret
          exact ⟨by rw [HF.out]; rfl, HS4.out.low⟩
        | true =>
        cases xb with
        | false =>
          have HF := Lib.hid (HBD.out (show thG p g = false by rw [HX.out]; rfl))
          go_wp2_with (first | (go_at_call 21; (with_reducible refine (HA.out _ HS3.out).mono ?_); rintro e u4 ⟨rfl, hb⟩; have HS4 := Lib.hid (HS3.out.next hb); clear hb; have y40 : u4.cell? ⟨wr.heap.size, 0, none⟩ = some (.int .i64 g.kind) := HS4.out.c0; have y41 : u4.cell? ⟨wr.heap.size, 1, none⟩ = some (.int .i64 g.t.kind) := HS4.out.c1; have y42 : u4.cell? ⟨wr.heap.size, 2, none⟩ = some (.string g.t.name) := HS4.out.c2; have y43 : u4.cell? ⟨wr.heap.size, 3, none⟩ = some (.int .i64 g.t.n) := HS4.out.c3; have y44 : u4.cell? ⟨wr.heap.size, 4, none⟩ = some (.slice gt mt ct) := HS4.out.c4; have y45 : u4.cell? ⟨wr.heap.size, 5, none⟩ = some (.slice ga ma ca) := HS4.out.c5; have y46 : u4.cell? ⟨wr.heap.size, 6, none⟩ = some (.slice gb mb9 cb) := HS4.out.c6; have y47 : u4.cell? ⟨wr.heap.size, 7, none⟩ = some (.slice gc mc cc) := HS4.out.c7; have y4l := HS4.out.lt) | (go_at_call 21; (with_reducible refine (HB.out _ HS4.out).mono ?_); rintro e u5 ⟨rfl, hb⟩; have HS5 := Lib.hid (HS4.out.next hb); clear hb; have y50 : u5.cell? ⟨wr.heap.size, 0, none⟩ = some (.int .i64 g.kind) := HS5.out.c0; have y51 : u5.cell? ⟨wr.heap.size, 1, none⟩ = some (.int .i64 g.t.kind) := HS5.out.c1; have y52 : u5.cell? ⟨wr.heap.size, 2, none⟩ = some (.string g.t.name) := HS5.out.c2; have y53 : u5.cell? ⟨wr.heap.size, 3, none⟩ = some (.int .i64 g.t.n) := HS5.out.c3; have y54 : u5.cell? ⟨wr.heap.size, 4, none⟩ = some (.slice gt mt ct) := HS5.out.c4; have y55 : u5.cell? ⟨wr.heap.size, 5, none⟩ = some (.slice ga ma ca) := HS5.out.c5; have y56 : u5.cell? ⟨wr.heap.size, 6, none⟩ = some (.slice gb mb9 cb) := HS5.out.c6; have y57 : u5.cell? ⟨wr.heap.size, 7, none⟩ = some (.slice gc mc cc) := HS5.out.c7; have y5l := HS5.out.lt))
          go_ret
          exact ⟨by rw [HF.out]; rfl, HS5.out.low⟩
        | true =>
        cases xc with
        | false =>
          have HF := Lib.hid (HBD.out (show thG p g = false by rw [HX.out]; rfl))
          go_wp2_with (first | (go_at_call 21; (with_reducible refine (HA.out _ HS3.out).mono ?_); rintro e u4 ⟨rfl, hb⟩; have HS4 := Lib.hid (HS3.out.next hb); clear hb; have y40 : u4.cell? ⟨wr.heap.size, 0, none⟩ = some (.int .i64 g.kind) := HS4.out.c0; have y41 : u4.cell? ⟨wr.heap.size, 1, none⟩ = some (.int .i64 g.t.kind) := HS4.out.c1; have y42 : u4.cell? ⟨wr.heap.size, 2, none⟩ = some (.string g.t.name) := HS4.out.c2; have y43 : u4.cell? ⟨wr.heap.size, 3, none⟩ = some (.int .i64 g.t.n) := HS4.out.c3; have y44 : u4.cell? ⟨wr.heap.size, 4, none⟩ = some (.slice gt mt ct) := HS4.out.c4; have y45 : u4.cell? ⟨wr.heap.size, 5, none⟩ = some (.slice ga ma ca) := HS4.out.c5; have y46 : u4.cell? ⟨wr.heap.size, 6, none⟩ = some (.slice gb mb9 cb) := HS4.out.c6; have y47 : u4.cell? ⟨wr.heap.size, 7, none⟩ = some (.slice gc mc cc) := HS4.out.c7; have y4l := HS4.out.lt) | (go_at_call 21; (with_reducible refine (HB.out _ HS4.out).mono ?_); rintro e u5 ⟨rfl, hb⟩; have HS5 := Lib.hid (HS4.out.next hb); clear hb; have y50 : u5.cell? ⟨wr.heap.size, 0, none⟩ = some (.int .i64 g.kind) := HS5.out.c0; have y51 : u5.cell? ⟨wr.heap.size, 1, none⟩ = some (.int .i64 g.t.kind) := HS5.out.c1; have y52 : u5.cell? ⟨wr.heap.size, 2, none⟩ = some (.string g.t.name) := HS5.out.c2; have y53 : u5.cell? ⟨wr.heap.size, 3, none⟩ = some (.int .i64 g.t.n) := HS5.out.c3; have y54 : u5.cell? ⟨wr.heap.size, 4, none⟩ = some (.slice gt mt ct) := HS5.out.c4; have y55 : u5.cell? ⟨wr.heap.size, 5, none⟩ = some (.slice ga ma ca) := HS5.out.c5; have y56 : u5.cell? ⟨wr.heap.size, 6, none⟩ = some (.slice gb mb9 cb) := HS5.out.c6; have y57 : u5.cell? ⟨wr.heap.size, 7, none⟩ = some (.slice gc mc cc) := HS5.out.c7; have y5l := HS5.out.lt) | (go_at_call 21; (with_reducible refine (HC.out _ HS5.out).mono ?_); rintro e u6 ⟨rfl, hb⟩; have HS6 := Lib.hid (HS5.out.next hb); clear hb; have y60 : u6.cell? ⟨wr.heap.size, 0, none⟩ = some (.int .i64 g.kind) := HS6.out.c0; have y61 : u6.cell? ⟨wr.heap.size, 1, none⟩ = some (.int .i64 g.t.kind) := HS6.out.c1; have y62 : u6.cell? ⟨wr.heap.size, 2, none⟩ = some (.string g.t.name) := HS6.out.c2; have y63 : u6.cell? ⟨wr.heap.size, 3, none⟩ = some (.int .i64 g.t.n) := HS6.out.c3; have y64 : u6.cell? ⟨wr.heap.size, 4, none⟩ = some (.slice gt mt ct) := HS6.out.c4; have y65 : u6.cell? ⟨wr.heap.size, 5, none⟩ = some (.slice ga ma ca) := HS6.out.c5; have y66 : u6.cell? ⟨wr.heap.size, 6, none⟩ = some (.slice gb mb9 cb) := HS6.out.c6; have y67 : u6.cell? ⟨wr.heap.size, 7, none⟩ = some (.slice gc mc cc) := HS6.out.c7; have y6l := HS6.out.lt))
          go_ret
          exact ⟨by rw [HF.out]; rfl, HS6.out.low⟩
        | true =>
        have HYN := Lib.hid (show thL p (l.take (k + 1)) = true by rw [HST.out, HY.out, HX.out]; rfl)
        go_wp2_with (first | (go_at_call 21; (with_reducible refine (HA.out _ HS3.out).mono ?_); rintro e u4 ⟨rfl, hb⟩; have HS4 := Lib.hid (HS3.out.next hb); clear hb; have y40 : u4.cell? ⟨wr.heap.size, 0, none⟩ = some (.int .i64 g.kind) := HS4.out.c0; have y41 : u4.cell? ⟨wr.heap.size, 1, none⟩ = some (.int .i64 g.t.kind) := HS4.out.c1; have y42 : u4.cell? ⟨wr.heap.size, 2, none⟩ = some (.string g.t.name) := HS4.out.c2; have y43 : u4.cell? ⟨wr.heap.size, 3, none⟩ = some (.int .i64 g.t.n) := HS4.out.c3; have y44 : u4.cell? ⟨wr.heap.size, 4, none⟩ = some (.slice gt mt ct) := HS4.out.c4; have y45 : u4.cell? ⟨wr.heap.size, 5, none⟩ = some (.slice ga ma ca) := HS4.out.c5; have y46 : u4.cell? ⟨wr.heap.size, 6, none⟩ = some (.slice gb mb9 cb) := HS4.out.c6; have y47 : u4.cell? ⟨wr.heap.size, 7, none⟩ = some (.slice gc mc cc) := HS4.out.c7; have y4l := HS4.out.lt) | (go_at_call 21; (with_reducible refine (HB.out _ HS4.out).mono ?_); rintro e u5 ⟨rfl, hb⟩; have HS5 := Lib.hid (HS4.out.next hb); clear hb; have y50 : u5.cell? ⟨wr.heap.size, 0, none⟩ = some (.int .i64 g.kind) := HS5.out.c0; have y51 : u5.cell? ⟨wr.heap.size, 1, none⟩ = some (.int .i64 g.t.kind) := HS5.out.c1; have y52 : u5.cell? ⟨wr.heap.size, 2, none⟩ = some (.string g.t.name) := HS5.out.c2; have y53 : u5.cell? ⟨wr.heap.size, 3, none⟩ = some (.int .i64 g.t.n) := HS5.out.c3; have y54 : u5.cell? ⟨wr.heap.size, 4, none⟩ = some (.slice gt mt ct) := HS5.out.c4; have y55 : u5.cell? ⟨wr.heap.size, 5, none⟩ = some (.slice ga ma ca) := HS5.out.c5; have y56 : u5.cell? ⟨wr.heap.size, 6, none⟩ = some (.slice gb mb9 cb) := HS5.out.c6; have y57 : u5.cell? ⟨wr.heap.size, 7, none⟩ = some (.slice gc mc cc) := HS5.out.c7; have y5l := HS5.out.lt) | (go_at_call 21; (with_reducible refine (HC.out _ HS5.out).mono ?_); rintro e u6 ⟨rfl, hb⟩; have HS6 := Lib.hid (HS5.out.next hb); clear hb; have y60 : u6.cell? ⟨wr.heap.size, 0, none⟩ = some (.int .i64 g.kind) := HS6.out.c0; have y61 : u6.cell? ⟨wr.heap.size, 1, none⟩ = some (.int .i64 g.t.kind) := HS6.out.c1; have y62 : u6.cell? ⟨wr.heap.size, 2, none⟩ = some (.string g.t.name) := HS6.out.c2; have y63 : u6.cell? ⟨wr.heap.size, 3, none⟩ = some (.int .i64 g.t.n) := HS6.out.c3; have y64 : u6.cell? ⟨wr.heap.size, 4, none⟩ = some (.slice gt mt ct) := HS6.out.c4; have y65 : u6.cell? ⟨wr.heap.size, 5, none⟩ = some (.slice ga ma ca) := HS6.out.c5; have y66 : u6.cell? ⟨wr.heap.size, 6, none⟩ = some (.slice gb mb9 cb) := HS6.out.c6; have y67 : u6.cell? ⟨wr.heap.size, 7, none⟩ = some (.slice gc mc cc) := HS6.out.c7; have y6l := HS6.out.lt))
        go_roundw
        case rel => exact ⟨k + 1, by omega, by go_num, HYN, Lib.hid ⟨HS6.out.low, HS6.out.hs, HS6.out.ps⟩⟩
        case measure => simp [intOf]; omega
      have HX := Lib.hid (show thG p g = (xa && (xb && xc)) by rw [HX.out, decide_eq_true hk1, Bool.true_or, Bool.true_and])
      have e1 : (g.kind == 1) = false := by rw [beq_eq_false_iff_ne]; exact hk1
      clear hk1
      cases xa with
      | false =>
        have HF := Lib.hid (HBD.out (show thG p g = false by rw [HX.out]; rfl))
        go_wp2_with (go_at_call 21; (with_reducible refine (HA.out _ HS1.out).mono ?_); rintro e u2 ⟨rfl, hb⟩; have HS2 := Lib.hid (HS1.out.next hb); clear hb; have y20 : u2.cell? ⟨wr.heap.size, 0, none⟩ = some (.int .i64 g.kind) := HS2.out.c0; have y21 : u2.cell? ⟨wr.heap.size, 1, none⟩ = some (.int .i64 g.t.kind) := HS2.out.c1; have y22 : u2.cell? ⟨wr.heap.size, 2, none⟩ = some (.string g.t.name) := HS2.out.c2; have y23 : u2.cell? ⟨wr.heap.size, 3, none⟩ = some (.int .i64 g.t.n) := HS2.out.c3; have y24 : u2.cell? ⟨wr.heap.size, 4, none⟩ = some (.slice gt mt ct) := HS2.out.c4; have y25 : u2.cell? ⟨wr.heap.size, 5, none⟩ = some (.slice ga ma ca) := HS2.out.c5; have y26 : u2.cell? ⟨wr.heap.size, 6, none⟩ = some (.slice gb mb9 cb) := HS2.out.c6; have y27 : u2.cell? ⟨wr.heap.size, 7, none⟩ = some (.slice gc mc cc) := HS2.out.c7; have y2l := HS2.out.lt)
        go_ret
        exact ⟨by rw [HF.out]; rfl, HS2.out.low⟩
      | true =>
      cases xb with
      | false =>
        have HF := Lib.hid (HBD.out (show thG p g = false by rw [HX.out]; rfl))
        go_wp2_with (first | (go_at_call 21; (with_reducible refine (HA.out _ HS1.out).mono ?_); rintro e u2 ⟨rfl, hb⟩; have HS2 := Lib.hid (HS1.out.next hb); clear hb; have y20 : u2.cell? ⟨wr.heap.size, 0, none⟩ = some (.int .i64 g.kind) := HS2.out.c0; have y21 : u2.cell? ⟨wr.heap.size, 1, none⟩ = some (.int .i64 g.t.kind) := HS2.out.c1; have y22 : u2.cell? ⟨wr.heap.size, 2, none⟩ = some (.string g.t.name) := HS2.out.c2; have y23 : u2.cell? ⟨wr.heap.size, 3, none⟩ = some (.int .i64 g.t.n) := HS2.out.c3; have y24 : u2.cell? ⟨wr.heap.size, 4, none⟩ = some (.slice gt mt ct) := HS2.out.c4; have y25 : u2.cell? ⟨wr.heap.size, 5, none⟩ = some (.slice ga ma ca) := HS2.out.c5; have y26 : u2.cell? ⟨wr.heap.size, 6, none⟩ = some (.slice gb mb9 cb) := HS2.out.c6; have y27 : u2.cell? ⟨wr.heap.size, 7, none⟩ = some (.slice gc mc cc) := HS2.out.c7; have y2l := HS2.out.lt) | (go_at_call 21; (with_reducible refine (HB.out _ HS2.out).mono ?_); rintro e u3 ⟨rfl, hb⟩; have HS3 := Lib.hid (HS2.out.next hb); clear hb; have y30 : u3.cell? ⟨wr.heap.size, 0, none⟩ = some (.int .i64 g.kind) := HS3.out.c0; have y31 : u3.cell? ⟨wr.heap.size, 1, none⟩ = some (.int .i64 g.t.kind) := HS3.out.c1; have y32 : u3.cell? ⟨wr.heap.size, 2, none⟩ = some (.string g.t.name) := HS3.out.c2; have y33 : u3.cell? ⟨wr.heap.size, 3, none⟩ = some (.int .i64 g.t.n) := HS3.out.c3; have y34 : u3.cell? ⟨wr.heap.size, 4, none⟩ = some (.slice gt mt ct) := HS3.out.c4; have y35 : u3.cell? ⟨wr.heap.size, 5, none⟩ = some (.slice ga ma ca) := HS3.out.c5; have y36 : u3.cell? ⟨wr.heap.size, 6, none⟩ = some (.slice gb mb9 cb) := HS3.out.c6; have y37 : u3.cell? ⟨wr.heap.size, 7, none⟩ = some (.slice gc mc cc) := HS3.out.c7; have y3l := HS3.out.lt))
        go_ret
        exact ⟨by rw [HF.out]; rfl, HS3.out.low⟩
      | true =>
      cases xc with
      | false =>
        have HF := Lib.hid (HBD.out (show thG p g = false by rw [HX.out]; rfl))
        go_wp2_with (first | (go_at_call 21; (with_reducible refine (HA.out _ HS1.out).mono ?_); rintro e u2 ⟨rfl, hb⟩; have HS2 := Lib.hid (HS1.out.next hb); clear hb; have y20 : u2.cell? ⟨wr.heap.size, 0, none⟩ = some (.int .i64 g.kind) := HS2.out.c0; have y21 : u2.cell? ⟨wr.heap.size, 1, none⟩ = some (.int .i64 g.t.kind) := HS2.out.c1; have y22 : u2.cell? ⟨wr.heap.size, 2, none⟩ = some (.string g.t.name) := HS2.out.c2; have y23 : u2.cell? ⟨wr.heap.size, 3, none⟩ = some (.int .i64 g.t.n) := HS2.out.c3; have y24 : u2.cell? ⟨wr.heap.size, 4, none⟩ = some (.slice gt mt ct) := HS2.out.c4; have y25 : u2.cell? ⟨wr.heap.size, 5, none⟩ = some (.slice ga ma ca) := HS2.out.c5; have y26 : u2.cell? ⟨wr.heap.size, 6, none⟩ = some (.slice gb mb9 cb) := HS2.out.c6; have y27 : u2.cell? ⟨wr.heap.size, 7, none⟩ = some (.slice gc mc cc) := HS2.out.c7; have y2l := HS2.out.lt) | (go_at_call 21; (with_reducible refine (HB.out _ HS2.out).mono ?_); rintro e u3 ⟨rfl, hb⟩; have HS3 := Lib.hid (HS2.out.next hb); clear hb; have y30 : u3.cell? ⟨wr.heap.size, 0, none⟩ = some (.int .i64 g.kind) := HS3.out.c0; have y31 : u3.cell? ⟨wr.heap.size, 1, none⟩ = some (.int .i64 g.t.kind) := HS3.out.c1; have y32 : u3.cell? ⟨wr.heap.size, 2, none⟩ = some (.string g.t.name) := HS3.out.c2; have y33 : u3.cell? ⟨wr.heap.size, 3, none⟩ = some (.int .i64 g.t.n) := HS3.out.c3; have y34 : u3.cell? ⟨wr.heap.size, 4, none⟩ = some (.slice gt mt ct) := HS3.out.c4; have y35 : u3.cell? ⟨wr.heap.size, 5, none⟩ = some (.slice ga ma ca) := HS3.out.c5; have y36 : u3.cell? ⟨wr.heap.size, 6, none⟩ = some (.slice gb mb9 cb) := HS3.out.c6; have y37 : u3.cell? ⟨wr.heap.size, 7, none⟩ = some (.slice gc mc cc) := HS3.out.c7; have y3l := HS3.out.lt) | (go_at_call 21; (with_reducible refine (HC.out _ HS3.out).mono ?_); rintro e u4 ⟨rfl, hb⟩; have HS4 := Lib.hid (HS3.out.next hb); clear hb; have y40 : u4.cell? ⟨wr.heap.size, 0, none⟩ = some (.int .i64 g.kind) := HS4.out.c0; have y41 : u4.cell? ⟨wr.heap.size, 1, none⟩ = some (.int .i64 g.t.kind) := HS4.out.c1; have y42 : u4.cell? ⟨wr.heap.size, 2, none⟩ = some (.string g.t.name) := HS4.out.c2; have y43 : u4.cell? ⟨wr.heap.size, 3, none⟩ = some (.int .i64 g.t.n) := HS4.out.c3; have y44 : u4.cell? ⟨wr.heap.size, 4, none⟩ = some (.slice gt mt ct) := HS4.out.c4; have y45 : u4.cell? ⟨wr.heap.size, 5, none⟩ = some (.slice ga ma ca) := HS4.out.c5; have y46 : u4.cell? ⟨wr.heap.size, 6, none⟩ = some (.slice gb mb9 cb) := HS4.out.c6; have y47 : u4.cell? ⟨wr.heap.size, 7, none⟩ = some (.slice gc mc cc) := HS4.out.c7; have y4l := HS4.out.lt))
        go_ret
        exact ⟨by rw [HF.out]; rfl, HS4.out.low⟩
      | true =>
      have HYN := Lib.hid (show thL p (l.take (k + 1)) = true by rw [HST.out, HY.out, HX.out]; rfl)
      go_wp2_with (first | (go_at_call 21; (with_reducible refine (HA.out _ HS1.out).mono ?_); rintro e u2 ⟨rfl, hb⟩; have HS2 := Lib.hid (HS1.out.next hb); clear hb; have y20 : u2.cell? ⟨wr.heap.size, 0, none⟩ = some (.int .i64 g.kind) := HS2.out.c0; have y21 : u2.cell? ⟨wr.heap.size, 1, none⟩ = some (.int .i64 g.t.kind) := HS2.out.c1; have y22 : u2.cell? ⟨wr.heap.size, 2, none⟩ = some (.string g.t.name) := HS2.out.c2; have y23 : u2.cell? ⟨wr.heap.size, 3, none⟩ = some (.int .i64 g.t.n) := HS2.out.c3; have y24 : u2.cell? ⟨wr.heap.size, 4, none⟩ = some (.slice gt mt ct) := HS2.out.c4; have y25 : u2.cell? ⟨wr.heap.size, 5, none⟩ = some (.slice ga ma ca) := HS2.out.c5; have y26 : u2.cell? ⟨wr.heap.size, 6, none⟩ = some (.slice gb mb9 cb) := HS2.out.c6; have y27 : u2.cell? ⟨wr.heap.size, 7, none⟩ = some (.slice gc mc cc) := HS2.out.c7; have y2l := HS2.out.lt) | (go_at_call 21; (with_reducible refine (HB.out _ HS2.out).mono ?_); rintro e u3 ⟨rfl, hb⟩; have HS3 := Lib.hid (HS2.out.next hb); clear hb; have y30 : u3.cell? ⟨wr.heap.size, 0, none⟩ = some (.int .i64 g.kind) := HS3.out.c0; have y31 : u3.cell? ⟨wr.heap.size, 1, none⟩ = some (.int .i64 g.t.kind) := HS3.out.c1; have y32 : u3.cell? ⟨wr.heap.size, 2, none⟩ = some (.string g.t.name) := HS3.out.c2; have y33 : u3.cell? ⟨wr.heap.size, 3, none⟩ = some (.int .i64 g.t.n) := HS3.out.c3; have y34 : u3.cell? ⟨wr.heap.size, 4, none⟩ = some (.slice gt mt ct) := HS3.out.c4; have y35 : u3.cell? ⟨wr.heap.size, 5, none⟩ = some (.slice ga ma ca) := HS3.out.c5; have y36 : u3.cell? ⟨wr.heap.size, 6, none⟩ = some (.slice gb mb9 cb) := HS3.out.c6; have y37 : u3.cell? ⟨wr.heap.size, 7, none⟩ = some (.slice gc mc cc) := HS3.out.c7; have y3l := HS3.out.lt) | (go_at_call 21; (with_reducible refine (HC.out _ HS3.out).mono ?_); rintro e u4 ⟨rfl, hb⟩; have HS4 := Lib.hid (HS3.out.next hb); clear hb; have y40 : u4.cell? ⟨wr.heap.size, 0, none⟩ = some (.int .i64 g.kind) := HS4.out.c0; have y41 : u4.cell? ⟨wr.heap.size, 1, none⟩ = some (.int .i64 g.t.kind) := HS4.out.c1; have y42 : u4.cell? ⟨wr.heap.size, 2, none⟩ = some (.string g.t.name) := HS4.out.c2; have y43 : u4.cell? ⟨wr.heap.size, 3, none⟩ = some (.int .i64 g.t.n) := HS4.out.c3; have y44 : u4.cell? ⟨wr.heap.size, 4, none⟩ = some (.slice gt mt ct) := HS4.out.c4; have y45 : u4.cell? ⟨wr.heap.size, 5, none⟩ = some (.slice ga ma ca) := HS4.out.c5; have y46 : u4.cell? ⟨wr.heap.size, 6, none⟩ = some (.slice gb mb9 cb) := HS4.out.c6; have y47 : u4.cell? ⟨wr.heap.size, 7, none⟩ = some (.slice gc mc cc) := HS4.out.c7; have y4l := HS4.out.lt))
      go_roundw
      case rel => exact ⟨k + 1, by omega, by go_num, HYN, Lib.hid ⟨HS4.out.low, HS4.out.hs, HS4.out.ps⟩⟩
      case measure => simp [intOf]; omega
    · obtain rfl : m = k := by omega
      have HF := Lib.hid (show thL p l = true by have h9 := HY.out; rwa [← HM.out, List.take_length] at h9)
      go_wp2_with fail
      go_ret
      exact ⟨by rw [HF.out]; rfl, HS.out.1⟩

theorem phave_in (p : List Pc) (hpl : p.length ≤ 1599289640354) : ∀ g : Gl, HvL p g.a ∧ HvL p g.b ∧ HvL p g.c := Gl.ind fun _ _t a b c ha hb hc =>
  have key : ∀ l : List Gl, (∀ g ∈ l, HvL p g.a ∧ HvL p g.b ∧ HvL p g.c) → HvL p l := fun l hl => phave_of p l hpl hl
  ⟨key a ha, key b hb, key c hc⟩
theorem phave_any (p : List Pc) (hpl : p.length ≤ 1599289640354) (l : List Gl) : HvL p l := phave_of p l hpl fun g _ => phave_in p hpl g
end Go.Proofs.YtkjnjahmlobjiaaGreatDoor

namespace Go.Proofs.YtkjnjahmlobjiaaGreatDoor
open Go.RowKit

set_option maxRecDepth 100000 in
set_option maxHeartbeats 8000000 in
theorem pthere_any (l : List Gl) (p : List Pc) (w : World) (v u : Value) (hsl : Gl.sliceIn w w.heap.size l v) (hp : Pc.sliceIn w w.heap.size p u) :
    Calls Tryz.prog 12 #[v, .agg #[u]] w fun e w' => e = .returned (.bool (thL p l)) ∧ Below w.heap.size w w' := by
  obtain ⟨p0, pcap, rfl, -, hpm, -⟩ := id hp
  obtain ⟨g0, cap, rfl, -, hlm, -⟩ := id hsl
  have HD := Lib.hid (fun W (h : Pc.sliceIn W W.heap.size p (.slice p0 p.length pcap)) => pdefined_any p W _ h)
  have HV := Lib.hid (fun W mb (h : Gl.sliceIn W W.heap.size l (.slice g0 l.length cap)) (h2 : PSet W mb p) => phave_any p hpm l W _ mb h h2)
  have HK := Lib.hid (DPg.new hp)
  have HS := Lib.hid (Gl.sliceIn_next hsl ((Below.refl w.heap.size w).alloc (Nat.le_refl _) (.cells #[.slice p0 p.length pcap] 24)))
  obtain ⟨n, hn⟩ : ∃ n, p.length = n := ⟨_, rfl⟩
  obtain ⟨m, hm⟩ : ∃ m, l.length = m := ⟨_, rfl⟩
  rw [hn] at HD HK HS
  rw [hm] at HV HS
  rw [hn, hm]
  clear hn hm hp hsl hpm hlm
  generalize thL p l = x at HV ⊢
  go_enter Tryz.func12, Tryz.ntmps12
  go_upto_region 1 with fail
  have HK0 := Lib.hid (show DPg w p (.slice p0 n pcap) w.heap.size (w.alloc (.cells #[.slice p0 n pcap] 24)) from HK.out)
  have HS0 := Lib.hid (show Gl.sliceIn (w.alloc (.cells #[.slice p0 n pcap] 24)) (w.alloc (.cells #[.slice p0 n pcap] 24)).heap.size l (.slice g0 m cap) from HS.out)
  generalize w.alloc (.cells #[.slice p0 n pcap] 24) = u0 at HK0 HS0 ⊢
  clear HK HS
  have y0 : u0.cell? ⟨w.heap.size, 0, none⟩ = some (.slice p0 n pcap) := HK0.out.cell0
  go_wp2_with (first
    | (go_at_call 20; (with_reducible refine (HD.out _ HK0.out.hp).mono ?_); rintro e u1 ⟨⟨mb, rfl, hps⟩, hb⟩; have HPS := Lib.hid hps; have HS1 := Lib.hid (Gl.sliceIn_next HS0.out hb); have HK1 := Lib.hid (HK0.out.next hb); clear hb hps)
    | (go_at_call 21; (with_reducible refine (HV.out _ _ HS1.out HPS.out).mono ?_); rintro e u2 ⟨rfl, hb⟩; have HK2 := Lib.hid (HK1.out.next hb); clear hb))
  go_ret
  exact ⟨rfl, HK2.out.low⟩
set_option maxRecDepth 100000 in
set_option maxHeartbeats 16000000 in
theorem pcheck_any (p : List Pc) (w : World) (u : Value) (hp : Pc.sliceIn w w.heap.size p u) (ht : Tabs w) (hs : ∀ c ∈ p, c.h.size ≤ 999999 ∧ Gl.sizes c.b ≤ 999999) :
    Calls Tryz.prog 8 #[.agg #[u]] w fun e w' => e = .returned (.tuple #[.int .i64 ((checkB p).1 : Nat), .int .i64 ((checkB p).2 : Nat)]) ∧ Below w.heap.size w w' := by
  obtain ⟨p0, pcap, rfl, -, hpm, -⟩ := id hp
  have hpm2 : p.length ≤ 1599289640354 := hpm
  have hx : checkB p = if 200 < p.length then (200, 3) else match findNo clauseB p 0 with
    | some i => (i, 1)
    | none => match findNo (fun c => thL p c.b) p 0 with
      | some i => (i, 9)
      | none => (0, 0) := rfl
  have HX := Lib.hid hx
  have HSZ := Lib.hid hs
  have HDF := Lib.hid (fun W (h : Pc.sliceIn W W.heap.size p (.slice p0 p.length pcap)) => pdefined_any p W _ h)
  have HHV := Lib.hid (fun (l : List Gl) => phave_any p hpm2 l)
  obtain ⟨m, hm⟩ : ∃ m, p.length = m := ⟨_, rfl⟩
  rw [hm] at hp hpm2 HX HDF
  rw [hm]
  have HM := Lib.hid hm
  have HK := Lib.hid (DPg.new hp)
  have HT := Lib.hid (ht.next ((Below.refl _ w).alloc (Nat.le_refl _) (.cells #[.slice p0 m pcap] 24)))
  clear hm hpm hp hx hs ht
  go_enter Tryz.func8, Tryz.ntmps8
  go_upto_region 1 with fail
  have HK0 := Lib.hid (show DPg w p (.slice p0 m pcap) w.heap.size (w.alloc (.cells #[.slice p0 m pcap] 24)) from HK.out)
  have HT0 := Lib.hid (show Tabs (w.alloc (.cells #[.slice p0 m pcap] 24)) from HT.out)
  generalize w.alloc (.cells #[.slice p0 m pcap] 24) = u0 at HK0 HT0 ⊢
  clear HK HT
  have y0 : u0.cell? ⟨w.heap.size, 0, none⟩ = some (.slice p0 m pcap) := HK0.out.cell0
  by_cases hbig : 200 < m
  · have j1 : (200 : Int) < (m : Int) := by omega
    have HR := Lib.hid (show checkB p = (200, 3) by rw [HX.out, if_pos hbig])
    go_wp2_with fail
    refine bodyPost_ret (v := .tuple #[.int .i64 200, .int .i64 3]) (by simp [results, Tryz.results8, go_sem]) rfl ?_
    exact ⟨by rw [HR.out]; rfl, HK0.out.low⟩
  have j1 : ((200 : Int) < (m : Int)) = False := by simp only [eq_iff_iff, iff_false]; omega
  have HX := Lib.hid (show checkB p = match findNo clauseB p 0 with
    | some i => (i, 1)
    | none => match findNo (fun c => thL p c.b) p 0 with
      | some i => (i, 9)
      | none => (0, 0) by rw [HX.out, if_neg hbig])
  clear hbig
  go_wp2_with fail
  clear j1 y0
  go_loopw [16] (fun i wr => ∃ (k : Nat), k ≤ m ∧ i = .int .i64 k ∧ Hid (∀ (j : Nat) (hj : j < p.length), j < k → clauseB (p[j]'hj) = true) ∧ Hid (DPg w p (.slice p0 m pcap) w.heap.size wr) ∧ Hid (Tabs wr)) (fun i _ => m - (intOf i).toNat)
  case atStart => exact ⟨0, Nat.zero_le _, rfl, Lib.hid (fun j _ h => absurd h (Nat.not_lt_zero _)), Lib.hid HK0.out, Lib.hid HT0.out⟩
  case round =>
    obtain ⟨k, hk, rfl, hs, hd, ht⟩ := hrel
    have HS := Lib.hid hs.out
    have HD := Lib.hid hd.out
    have HT := Lib.hid ht.out
    clear hs hd ht
    by_cases hlt : k < m
    · have hlt' : k < p.length := by rw [HM.out]; exact hlt
      obtain ⟨b', o', cap', sv', v', e9, hga⟩ := PA6.of HD.out.hp k hlt'
      injection e9 with e91 e90 e92
      subst e91 e92
      clear e90
      have hmem := List.getElem_mem hlt'
      have hz := HSZ.out _ hmem
      have hHIT : clauseB p[k] = false → checkB p = (k, 1) := fun h => by
        rw [HX.out, findNo_hit (f := clauseB) 0 hlt' (fun j hj => HS.out j _ hj) h, Nat.zero_add]
      have hSTEP : clauseB p[k] = true → ∀ (j : Nat) (hj : j < p.length), j < k + 1 → clauseB (p[j]'hj) = true := fun h j hj hjk => by
        rcases Nat.lt_or_ge j k with h1 | h1
        · exact HS.out j hj h1
        · obtain rfl : j = k := by omega
          exact h
      obtain ⟨c, hc⟩ : ∃ c, p[k] = c := ⟨_, rfl⟩
      rw [hc] at hga hz hHIT hSTEP
      have HG := Lib.hid hga
      have HH := Lib.hid hHIT
      have HTT := Lib.hid hSTEP
      have HZ := Lib.hid hz
      have j0 : (0 : Int) ≤ (k : Int) := by omega
      have j1 : (k : Int) < (m : Int) := by omega
      have jz : (0 : Int) + (k : Int) = (k : Int) := by omega
      have jw : IntKind.i64.wrap (k : Int) = (k : Int) := by rw [IntKind.wrap_i64]; omega
      obtain ⟨gt, mt, ct, rfl⟩ : ∃ g m c, sv' = .slice g m c := by
        obtain ⟨_, g, c, e, _⟩ := Tm.inn_iff.1 hga.hi.2.1
        exact ⟨_, _, _, e⟩
      obtain ⟨gb, mb9, cb, rfl⟩ : ∃ g m c, v' = .slice g m c := by
        obtain ⟨g, c, e, _⟩ := hga.hi.2.2
        exact ⟨_, _, _, e⟩
      obtain ⟨x0, x1, x2, x3, x4, x5, _⟩ := id hga
      have hbl := hga.lt
      clear hga hc hmem hz hHIT hSTEP
      go_upto_region 6 with fail
      obtain ⟨u1, hu1⟩ : ∃ u1, wr.alloc (.cells #[.int .i64 c.h.kind, .string c.h.name, .int .i64 c.h.n, .slice gt mt ct, .slice gb mb9 cb, .int .i64 c.n] 37) = u1 := ⟨_, rfl⟩
      have hb1 : Below wr.heap.size wr u1 := hu1 ▸ (Below.refl _ wr).alloc (Nat.le_refl _) _
      have hn1 : u1.heap[wr.heap.size]? = some (.cells #[.int .i64 c.h.kind, .string c.h.name, .int .i64 c.h.n, .slice gt mt ct, .slice gb mb9 cb, .int .i64 c.n] 37 (0, 0)) := hu1 ▸ heap_alloc_new wr _
      rw [hu1]
      have y0 : u1.cell? ⟨wr.heap.size, 0, none⟩ = some (.int .i64 c.h.kind) := by simp [World.cell?, hn1]
      have y1 : u1.cell? ⟨wr.heap.size, 1, none⟩ = some (.string c.h.name) := by simp [World.cell?, hn1]
      have y2 : u1.cell? ⟨wr.heap.size, 2, none⟩ = some (.int .i64 c.h.n) := by simp [World.cell?, hn1]
      have y3 : u1.cell? ⟨wr.heap.size, 3, none⟩ = some (.slice gt mt ct) := by simp [World.cell?, hn1]
      have y4 : u1.cell? ⟨wr.heap.size, 4, none⟩ = some (.slice gb mb9 cb) := by simp [World.cell?, hn1]
      have y5 : u1.cell? ⟨wr.heap.size, 5, none⟩ = some (.int .i64 c.n) := by simp [World.cell?, hn1]
      have yl : wr.heap.size < u1.heap.size := (Array.getElem?_eq_some_iff.1 hn1).1
      have HD1 := Lib.hid (HD.out.next hb1)
      have HT1 := Lib.hid (HT.out.next hb1)
      have H1 := Lib.hid (pclause_any c u1 _ _ (HG.out.next hb1).hi HT1.out HZ.out.1 HZ.out.2)
      clear hu1 hb1 hn1 x0 x1 x2 x3 x4 x5
      cases hcl : clauseB c with
      | true =>
        have HF := Lib.hid (HTT.out hcl)
        rw [hcl] at H1
        clear hcl
        go_wp2_with (go_at_call 10; (with_reducible refine (H1.out.mono ?_)); rintro e u2 ⟨rfl, hb⟩; have D2 := Lib.hid (HD1.out.next hb); have T2 := Lib.hid (HT1.out.next hb); clear hb)
        go_roundw
        case rel => exact ⟨k + 1, by omega, by go_num, HF, Lib.hid D2.out, Lib.hid T2.out⟩
        case measure => simp [intOf]; omega
      | false =>
        have HF := Lib.hid (HH.out hcl)
        rw [hcl] at H1
        clear hcl
        go_wp2_with (go_at_call 10; (with_reducible refine (H1.out.mono ?_)); rintro e u2 ⟨rfl, hb⟩; have D2 := Lib.hid (HD1.out.next hb); clear hb)
        refine bodyPost_ret (v := .tuple #[.int .i64 (k : Nat), .int .i64 1]) (by simp [results, Tryz.results8, go_sem]) rfl ?_
        exact ⟨by rw [HF.out]; rfl, D2.out.low⟩
    · obtain rfl : m = k := by omega
      have jn : ((m : Int) < (m : Int)) = False := by simp only [eq_iff_iff, iff_false]; omega
      have HX2 := Lib.hid (show checkB p = match findNo (fun c => thL p c.b) p 0 with
        | some i => (i, 9)
        | none => (0, 0) by rw [HX.out, findNo_none (f := clauseB) 0 (fun j hj => HS.out j hj (by rw [← HM.out]; exact hj))])
      have y0 : wr.cell? ⟨w.heap.size, 0, none⟩ = some (.slice p0 m pcap) := HD.out.cell0
      have yl := HD.out.lt
      go_upto_region 10 with (go_at_call 20; (with_reducible refine (HDF.out _ HD.out.hp).mono ?_); rintro e u1 ⟨⟨mb, rfl, hps⟩, hb⟩; have HPS0 := Lib.hid hps; have HD0 := Lib.hid (HD.out.next hb); clear hb hps)
      clear y0 yl jn HT HD
      have y0 : u1.cell? ⟨w.heap.size, 0, none⟩ = some (.slice p0 m pcap) := HD0.out.cell0
      have yl := HD0.out.lt
      go_wp2_with fail
      clear y0 yl
      go_loopw [31] (fun i wr => ∃ (k : Nat), k ≤ m ∧ i = .int .i64 k ∧ Hid (∀ (j : Nat) (hj : j < p.length), j < k → thL p (p[j]'hj).b = true) ∧ Hid (DPg w p (.slice p0 m pcap) w.heap.size wr) ∧ Hid (PSet wr mb p)) (fun i _ => m - (intOf i).toNat)
      case atStart => exact ⟨0, Nat.zero_le _, rfl, Lib.hid (fun j _ h => absurd h (Nat.not_lt_zero _)), Lib.hid HD0.out, Lib.hid HPS0.out⟩
      case round =>
        obtain ⟨k, hk, rfl, hs, hd, hps⟩ := hrel
        have HS := Lib.hid hs.out
        have HD := Lib.hid hd.out
        have HPS := Lib.hid hps.out
        clear hs hd hps
        by_cases hlt : k < m
        · have hlt' : k < p.length := by rw [HM.out]; exact hlt
          obtain ⟨b', o', cap', sv', v', e9, hga⟩ := PA6.of HD.out.hp k hlt'
          injection e9 with e91 e90 e92
          subst e91 e92
          clear e90
          have hHIT : thL p p[k].b = false → checkB p = (k, 9) := fun h => by
            rw [HX2.out, findNo_hit (f := fun c => thL p c.b) 0 hlt' (fun j hj => HS.out j _ hj) h, Nat.zero_add]
          have hSTEP : thL p p[k].b = true → ∀ (j : Nat) (hj : j < p.length), j < k + 1 → thL p (p[j]'hj).b = true := fun h j hj hjk => by
            rcases Nat.lt_or_ge j k with h1 | h1
            · exact HS.out j hj h1
            · obtain rfl : j = k := by omega
              exact h
          obtain ⟨c, hc⟩ : ∃ c, p[k] = c := ⟨_, rfl⟩
          rw [hc] at hga hHIT hSTEP
          have HG := Lib.hid hga
          have HH := Lib.hid hHIT
          have HTT := Lib.hid hSTEP
          have j0 : (0 : Int) ≤ (k : Int) := by omega
          have j1 : (k : Int) < (m : Int) := by omega
          have jz : (0 : Int) + (k : Int) = (k : Int) := by omega
          have jw : IntKind.i64.wrap (k : Int) = (k : Int) := by rw [IntKind.wrap_i64]; omega
          obtain ⟨gt, mt, ct, rfl⟩ : ∃ g m c, sv' = .slice g m c := by
            obtain ⟨_, g, c, e, _⟩ := Tm.inn_iff.1 hga.hi.2.1
            exact ⟨_, _, _, e⟩
          obtain ⟨gb, mb9, cb, rfl⟩ : ∃ g m c, v' = .slice g m c := by
            obtain ⟨g, c, e, _⟩ := hga.hi.2.2
            exact ⟨_, _, _, e⟩
          obtain ⟨x0, x1, x2, x3, x4, x5, _⟩ := id hga
          have hbl := hga.lt
          clear hga hc hHIT hSTEP
          go_upto_region 13 with fail
          obtain ⟨u2, hu1⟩ : ∃ u2, wr.alloc (.cells #[.int .i64 c.h.kind, .string c.h.name, .int .i64 c.h.n, .slice gt mt ct, .slice gb mb9 cb, .int .i64 c.n] 37) = u2 := ⟨_, rfl⟩
          have hb1 : Below wr.heap.size wr u2 := hu1 ▸ (Below.refl _ wr).alloc (Nat.le_refl _) _
          have hn1 : u2.heap[wr.heap.size]? = some (.cells #[.int .i64 c.h.kind, .string c.h.name, .int .i64 c.h.n, .slice gt mt ct, .slice gb mb9 cb, .int .i64 c.n] 37 (0, 0)) := hu1 ▸ heap_alloc_new wr _
          rw [hu1]
          have y4 : u2.cell? ⟨wr.heap.size, 4, none⟩ = some (.slice gb mb9 cb) := by simp [World.cell?, hn1]
          have yl : wr.heap.size < u2.heap.size := (Array.getElem?_eq_some_iff.1 hn1).1
          have HD1 := Lib.hid (HD.out.next hb1)
          have HPS1 := Lib.hid (HPS.out.next hb1)
          have H1 := Lib.hid (HHV.out c.b u2 _ mb (HG.out.next hb1).hi.2.2 HPS1.out)
          clear hu1 hb1 hn1 x0 x1 x2 x3 x4 x5
          cases hcl : thL p c.b with
          | true =>
            have HF := Lib.hid (HTT.out hcl)
            rw [hcl] at H1
            clear hcl
            go_wp2_with (go_at_call 21; (with_reducible refine (H1.out.mono ?_)); rintro e u3 ⟨rfl, hb⟩; have D2 := Lib.hid (HD1.out.next hb); have P2 := Lib.hid (HPS1.out.next hb); clear hb)
            go_roundw
            case rel => exact ⟨k + 1, by omega, by go_num, HF, Lib.hid D2.out, Lib.hid P2.out⟩
            case measure => simp [intOf]; omega
          | false =>
            have HF := Lib.hid (HH.out hcl)
            rw [hcl] at H1
            clear hcl
            go_wp2_with (go_at_call 21; (with_reducible refine (H1.out.mono ?_)); rintro e u3 ⟨rfl, hb⟩; have D2 := Lib.hid (HD1.out.next hb); clear hb)
            refine bodyPost_ret (v := .tuple #[.int .i64 (k : Nat), .int .i64 9]) (by simp [results, Tryz.results8, go_sem]) rfl ?_
            exact ⟨by rw [HF.out]; rfl, D2.out.low⟩
        · obtain rfl : m = k := by omega
          have jn : ((m : Int) < (m : Int)) = False := by simp only [eq_iff_iff, iff_false]; omega
          have HF := Lib.hid (show checkB p = (0, 0) by rw [HX2.out, findNo_none (f := fun c => thL p c.b) 0 (fun j hj => HS.out j hj (by rw [← HM.out]; exact hj))])
          go_wp2_with fail
          refine bodyPost_ret (v := .tuple #[.int .i64 0, .int .i64 0]) (by simp [results, Tryz.results8, go_sem]) rfl ?_
          exact ⟨by rw [HF.out]; rfl, HD.out.low⟩
end Go.Proofs.YtkjnjahmlobjiaaGreatDoor
