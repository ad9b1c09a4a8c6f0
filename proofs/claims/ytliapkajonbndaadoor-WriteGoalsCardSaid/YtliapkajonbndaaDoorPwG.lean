/-
  The program's goal and goals; its Goals and Clause.
-/
import Derived.Test.YtliapkajonbndaaDoorPwF
namespace Go.Proofs.YtliapkajonbndaaDoor
open Go.RowKit

/-- What stands at each place of the walk over a goal. -/
structure PG (w0 : World) (b : Nat) (g : Gl) (sv av bv cv : Value) (bx : Nat) (x : List UInt8) (W : World) : Prop where
  ne : b < bx
  pr : Pr b x W
  fr : PFr b w0 W
  bk : W.heap[bx]? = some (.cells #[.int .i64 g.kind, .int .i64 g.t.kind, .string g.t.name, .int .i64 g.t.n, sv, av, bv, cv] 42 (0, 0))
  hi : Gl.inn W b g sv av bv cv
  pw : Pow W
  pg : 0 < b
theorem PG.next {w0 : World} {b : Nat} {g : Gl} {sv av bv cv : Value} {bx : Nat} {x y : List UInt8} {W W' : World} (h : PG w0 b g sv av bv cv bx x W) (hp : Pr b y W') (hf : PFr b W W') : PG w0 b g sv av bv cv bx y W' :=
  ⟨h.ne, hp, h.fr.trans hf, hf.block h.bk (by have := h.ne; omega) (fun c fz e => by injection e with _ e2 _; exact absurd e2 (by decide)), Gl.inn_below h.hi hf.low (Nat.le_refl _), h.pw.next hf.low h.pg, h.pg⟩
theorem PG.new {b : Nat} {g : Gl} {sv av bv cv : Value} {x : List UInt8} {w : World} (hp : Pr b x w) (hi : Gl.inn w b g sv av bv cv) (hw : Pow w) (hg : 0 < b) : PG w b g sv av bv cv w.heap.size x (w.alloc (.cells #[.int .i64 g.kind, .int .i64 g.t.kind, .string g.t.name, .int .i64 g.t.n, sv, av, bv, cv] 42)) := by
  have hb := (Below.refl w.heap.size w).alloc (Nat.le_refl _) (.cells #[.int .i64 g.kind, .int .i64 g.t.kind, .string g.t.name, .int .i64 g.t.n, sv, av, bv, cv] 42)
  exact ⟨hp.lt, hp.below hb, PFr.of (Nat.le_of_lt hp.lt) hb, heap_alloc_new w _, Gl.inn_below hi (hb.mono (Nat.le_of_lt hp.lt)) (Nat.le_refl _), hw.next (hb.mono (Nat.le_of_lt hp.lt)) hg, hg⟩
section
variable {w0 : World} {b : Nat} {g : Gl} {sv av bv cv : Value} {bx : Nat} {x : List UInt8} {W : World} (h : PG w0 b g sv av bv cv bx x W)
include h
theorem PG.bxlt : bx < W.heap.size := (Array.getElem?_eq_some_iff.1 h.bk).1
theorem PG.cell0 : W.cell? ⟨bx, 0, none⟩ = some (.int .i64 g.kind) := by rw [Lib.cell_of_heap h.bk]; rfl
theorem PG.cell1 : W.cell? ⟨bx, 1, none⟩ = some (.int .i64 g.t.kind) := by rw [Lib.cell_of_heap h.bk]; rfl
theorem PG.cell2 : W.cell? ⟨bx, 2, none⟩ = some (.string g.t.name) := by rw [Lib.cell_of_heap h.bk]; rfl
theorem PG.cell3 : W.cell? ⟨bx, 3, none⟩ = some (.int .i64 g.t.n) := by rw [Lib.cell_of_heap h.bk]; rfl
theorem PG.cell4 : W.cell? ⟨bx, 4, none⟩ = some sv := by rw [Lib.cell_of_heap h.bk]; rfl
theorem PG.cell5 : W.cell? ⟨bx, 5, none⟩ = some av := by rw [Lib.cell_of_heap h.bk]; rfl
theorem PG.cell6 : W.cell? ⟨bx, 6, none⟩ = some bv := by rw [Lib.cell_of_heap h.bk]; rfl
theorem PG.cell7 : W.cell? ⟨bx, 7, none⟩ = some cv := by rw [Lib.cell_of_heap h.bk]; rfl
end
def PGo (g : Gl) : Prop := ∀ (b : Nat) (x : List UInt8) (w : World) (sv av bv cv : Value), Pr b x w → Gl.inn w b g sv av bv cv → Pow w → 0 < b → (x ++ gx g).length ≤ 8000000000 →
  Calls Tryd.prog 40 #[.pointer (some ⟨b, 0, none⟩), .agg #[.int .i64 g.kind, .int .i64 g.t.kind, .string g.t.name, .int .i64 g.t.n, sv, av, bv, cv]] w fun e w' => e = .returned (.tuple #[]) ∧ Pr b (x ++ gx g) w' ∧ PFr b w w'
def PGs (l : List Gl) : Prop := ∀ (b : Nat) (x : List UInt8) (w : World) (v : Value), Pr b x w → Gl.sliceIn w b l v → Pow w → 0 < b → (x ++ glsX l).length ≤ 8000000000 →
  Calls Tryd.prog 28 #[.pointer (some ⟨b, 0, none⟩), v] w fun e w' => e = .returned (.tuple #[]) ∧ Pr b (x ++ glsX l) w' ∧ PFr b w w'
/-- A text that stands in the code, written. -/
theorem plit (b : Nat) (x y : List UInt8) (s : ByteArray) (hs : s = ⟨y.toArray⟩) (w : World) (h : Pr b x w) (hl : x.length + y.length ≤ 9000000000) :
    Calls Tryd.prog 30 #[.pointer (some ⟨b, 0, none⟩), .string s] w fun e w' => e = .returned (.tuple #[.int .i64 y.length, .nilIface]) ∧ Pr b (x ++ y) w' ∧ PFr b w w' := hs ▸ pstr_any b x y w h hl
/-! ### goals in a row -/
def gpf (l : List Gl) (k : Nat) : List UInt8 := match gxs (l.take k) with
  | [] => []
  | x :: r => x ++ joinX r
theorem gpf_succ (l : List Gl) (k : Nat) (h : k < l.length) : gpf l (k + 1) = gpf l k ++ ((if k = 0 then [] else [44, 32]) ++ gx l[k]) := by
  unfold gpf
  rw [gxs_map, gxs_map, List.take_succ_eq_append_getElem h, List.map_append]
  cases k with
  | zero => simp [joinX]
  | succ k =>
    cases l with
    | nil => simp at h
    | cons a q =>
      simp only [List.take_succ_cons, List.map_cons, List.cons_append, List.getElem_cons_succ]
      rw [joinX_app]
      simp [joinX]
theorem gpf_all (l : List Gl) (h : l ≠ []) : glsX l = gpf l l.length := by
  unfold gpf glsX
  rw [List.take_length]
  cases l with
  | nil => exact absurd rfl h
  | cons a q => simp [gxs, rowX]
theorem gpf_len (l : List Gl) (k : Nat) (h : l ≠ []) : (gpf l k).length ≤ (glsX l).length := by
  unfold gpf glsX
  cases l with
  | nil => exact absurd rfl h
  | cons a q =>
    cases k with
    | zero => simp [gxs]
    | succ k =>
      have : gxs q = gxs (q.take k) ++ gxs (q.drop k) := by rw [gxs_map, gxs_map, gxs_map, ← List.map_append, List.take_append_drop]
      simp only [List.take_succ_cons, gxs, rowX]
      rw [this, joinX_app]
      simp only [List.length_append]
      omega
structure PGR (w0 : World) (b : Nat) (l : List Gl) (v : Value) (x : List UInt8) (W : World) : Prop where
  pr : Pr b x W
  fr : PFr b w0 W
  hs : Gl.sliceIn W b l v
  pw : Pow W
theorem PGR.next {w0 : World} {b : Nat} {l : List Gl} {v : Value} {x y : List UInt8} {W W' : World} (h : PGR w0 b l v x W) (hg : 0 < b) (hp : Pr b y W') (hf : PFr b W W') : PGR w0 b l v y W' :=
  ⟨hp, h.fr.trans hf, Gl.sliceIn_below h.hs hf.low (Nat.le_refl _), h.pw.next hf.low hg⟩
set_option maxRecDepth 100000 in
set_option maxHeartbeats 8000000 in
theorem pgoals_of (l : List Gl) (hq : ∀ g ∈ l, PGo g) (hm : l.length ≤ 1000000) : PGs l := by
  intro b x w v hpr hsl hpw hpg hlx
  obtain ⟨g0, cap, rfl, -, -, -⟩ := id hsl
  have HPA := Lib.hid (show PGR w b l (.slice g0 l.length cap) x w from ⟨hpr, PFr.refl _ _, hsl, hpw⟩)
  have HQ := Lib.hid hq
  have hlx2 : x.length + (glsX l).length ≤ 8000000000 := by rw [List.length_append] at hlx; exact hlx
  clear hpr hsl hpw hlx hq
  obtain ⟨m, hm0⟩ : ∃ m, l.length = m := ⟨_, rfl⟩
  rw [hm0] at hm HPA ⊢
  have HM := Lib.hid hm0
  clear hm0
  by_cases hz : m = 0
  · subst hz
    obtain rfl : l = [] := List.eq_nil_of_length_eq_zero HM.out
    have hx : glsX [] = [116, 114, 117, 101] := rfl
    rw [hx] at hlx2
    simp only [List.length_cons, List.length_nil] at hlx2
    go_enter Tryd.func28, Tryd.ntmps28
    go_wp2_with (go_at_call 30; (with_reducible refine (plit b x [116, 114, 117, 101] _ rfl _ HPA.out.pr (by simp; omega)).mono ?_); rintro e u1 ⟨rfl, hp, hf⟩; have HP1 := Lib.hid (HPA.out.next hpg hp hf); clear hp hf)
    go_loopw [15] (fun i wr => i = .int .i64 0 ∧ Hid (PGR w b [] (.slice g0 0 cap) (x ++ glsX []) wr)) (fun i _ => 0)
    case atStart => exact ⟨rfl, HP1⟩
    case round =>
      obtain ⟨rfl, h⟩ := hrel
      have HE := Lib.hid h.out
      clear h
      go_wp2_with fail
      go_end0
      exact ⟨rfl, HE.out.pr, HE.out.fr⟩
  have hne : l ≠ [] := by rintro rfl; exact hz HM.out.symm
  have HAL := Lib.hid (gpf_all l hne)
  have HLE := Lib.hid (fun k => gpf_len l k hne)
  have k0 : ((m : Int) == 0) = false := by rw [beq_eq_false_iff_ne]; omega
  clear hz hne
  go_enter Tryd.func28, Tryd.ntmps28
  go_wp2_with fail
  go_loopw [15] (fun i wr => ∃ k : Nat, k ≤ m ∧ i = .int .i64 k ∧ Hid (PGR w b l (.slice g0 m cap) (x ++ gpf l k) wr)) (fun i _ => m - (intOf i).toNat)
  case atStart => exact ⟨0, Nat.zero_le _, rfl, Lib.hid (by have h := HPA.out; simpa [gpf, gxs] using h)⟩
  case round =>
    obtain ⟨k, hk, rfl, hpa⟩ := hrel
    have HP := Lib.hid hpa.out
    clear hpa
    have hXl := HLE.out k
    by_cases hlt : k < m
    · have hlt' : k < l.length := by rw [HM.out]; exact hlt
      have hsl : Gl.sliceIn wr b l (.slice g0 m cap) := HP.out.hs
      obtain ⟨ab, ao, cap2, sv, av, bv, cv, e9, hab, g0', g1, g2, g3, g4, g5, g6, g7, hia⟩ := Gl.sliceIn_get hsl k hlt'
      injection e9 with e91 e90 e92
      clear e90
      subst e91 e92
      have hsu := gpf_succ l k hlt'
      have htm := HQ.out _ (List.getElem_mem hlt')
      generalize l[k] = g at g0' g1 g2 g3 g4 g5 g6 g7 hia hsu htm
      obtain ⟨gt, mt, ct, rfl⟩ : ∃ g m c, sv = .slice g m c := by
        obtain ⟨_, g, c, e, _⟩ := Tm.inn_iff.1 (Gl.inn_iff.1 hia).2.1
        exact ⟨_, _, _, e⟩
      obtain ⟨ga, ma, ca, rfl⟩ : ∃ g m c, av = .slice g m c := by
        obtain ⟨g, c, e, _⟩ := (Gl.inn_iff.1 hia).2.2.1
        exact ⟨_, _, _, e⟩
      obtain ⟨gb, mb, cb, rfl⟩ : ∃ g m c, bv = .slice g m c := by
        obtain ⟨g, c, e, _⟩ := (Gl.inn_iff.1 hia).2.2.2.1
        exact ⟨_, _, _, e⟩
      obtain ⟨gc, mc, cc, rfl⟩ : ∃ g m c, cv = .slice g m c := by
        obtain ⟨g, c, e, _⟩ := (Gl.inn_iff.1 hia).2.2.2.2
        exact ⟨_, _, _, e⟩
      have hl9 := HLE.out (k + 1)
      have HSU := Lib.hid hsu
      have HTM := Lib.hid htm
      have HN := Lib.hid (PG.new HP.out.pr hia HP.out.pw hpg)
      have hbw2 : ab < wr.heap.size := Nat.lt_trans hab HP.out.pr.lt
      clear hsl hia htm
      have j0 : (0 : Int) ≤ (k : Int) := by omega
      have j1 : (k : Int) < (m : Int) := by omega
      have jz : (0 : Int) + (k : Int) = (k : Int) := by omega
      have jw : IntKind.i64.wrap (k : Int) = (k : Int) := by rw [IntKind.wrap_i64]; omega
      rw [hsu] at hl9
      have hl8 : x.length + (gpf l k).length + (if k = 0 then 0 else 2) + (gx g).length ≤ 8000000000 := by
        split
        · rename_i h0
          rw [if_pos h0] at hl9
          simp only [List.length_append, List.length_nil] at hl9
          omega
        · rename_i h0
          rw [if_neg h0] at hl9
          simp only [List.length_append, List.length_cons, List.length_nil] at hl9
          omega
      clear hl9 hsu
      go_upto_region 5 with fail
      have HN1 := Lib.hid HN.out
      have HPV := Lib.hid (HP.out.next hpg HN1.out.pr HN1.out.fr)
      generalize wr.alloc (.cells #[.int .i64 g.kind, .int .i64 g.t.kind, .string g.t.name, .int .i64 g.t.n, .slice gt mt ct, .slice ga ma ca, .slice gb mb cb, .slice gc mc cc] 42) = V at HN1 HPV ⊢
      clear g0' g1 g2 g3 g4 g5 g6 g7
      by_cases hk0 : k = 0
      · subst hk0
        have HSU2 := Lib.hid (show gpf l (0 + 1) = gpf l 0 ++ gx g by rw [HSU.out]; rfl)
        have kk : ((0 : Int) < (0 : Int)) = False := by simp
        rw [if_pos rfl] at hl8
        have d0 : V.cell? ⟨wr.heap.size, 0, none⟩ = some (.int .i64 g.kind) := HN1.out.cell0; have d1 : V.cell? ⟨wr.heap.size, 1, none⟩ = some (.int .i64 g.t.kind) := HN1.out.cell1; have d2 : V.cell? ⟨wr.heap.size, 2, none⟩ = some (.string g.t.name) := HN1.out.cell2; have d3 : V.cell? ⟨wr.heap.size, 3, none⟩ = some (.int .i64 g.t.n) := HN1.out.cell3; have d4 : V.cell? ⟨wr.heap.size, 4, none⟩ = some (.slice gt mt ct) := HN1.out.cell4; have d5 : V.cell? ⟨wr.heap.size, 5, none⟩ = some (.slice ga ma ca) := HN1.out.cell5; have d6 : V.cell? ⟨wr.heap.size, 6, none⟩ = some (.slice gb mb cb) := HN1.out.cell6; have d7 : V.cell? ⟨wr.heap.size, 7, none⟩ = some (.slice gc mc cc) := HN1.out.cell7; have dl := HN1.out.bxlt
        have HA := Lib.hid (HTM.out b (x ++ gpf l 0) V _ _ _ _ HN1.out.pr HN1.out.hi HN1.out.pw hpg (by simp only [List.length_append]; omega))
        go_wp2_with (go_at_call 40; (with_reducible refine (HA.out).mono ?_); rintro e u3 ⟨rfl, hp, hf⟩; have HP3 := Lib.hid (HPV.out.next hpg hp hf); clear hp hf)
        have e9 : x ++ gpf l 0 ++ gx g = x ++ gpf l (0 + 1) := by rw [HSU2.out]; simp
        rw [e9] at HP3
        have HP4 := Lib.hid HP3.out
        clear e9
        go_roundw
        case rel => exact ⟨0 + 1, by omega, by go_num, HP4⟩
        case measure => simp [intOf]; omega
      · have HSU2 := Lib.hid (show gpf l (k + 1) = gpf l k ++ ([44, 32] ++ gx g) by rw [HSU.out, if_neg hk0])
        have kk : (0 : Int) < (k : Int) := by omega
        rw [if_neg hk0] at hl8
        go_upto_region 7 with (go_at_call 30; (with_reducible refine (plit b (x ++ gpf l k) [44, 32] _ rfl _ HN1.out.pr (by simp only [List.length_append, List.length_cons, List.length_nil]; omega)).mono ?_); rintro e u2 ⟨rfl, hp, hf⟩; have HS2 := Lib.hid (HN1.out.next hp hf); have HP2 := Lib.hid (HPV.out.next hpg hp hf); have d0 : u2.cell? ⟨wr.heap.size, 0, none⟩ = some (.int .i64 g.kind) := HS2.out.cell0; have d1 : u2.cell? ⟨wr.heap.size, 1, none⟩ = some (.int .i64 g.t.kind) := HS2.out.cell1; have d2 : u2.cell? ⟨wr.heap.size, 2, none⟩ = some (.string g.t.name) := HS2.out.cell2; have d3 : u2.cell? ⟨wr.heap.size, 3, none⟩ = some (.int .i64 g.t.n) := HS2.out.cell3; have d4 : u2.cell? ⟨wr.heap.size, 4, none⟩ = some (.slice gt mt ct) := HS2.out.cell4; have d5 : u2.cell? ⟨wr.heap.size, 5, none⟩ = some (.slice ga ma ca) := HS2.out.cell5; have d6 : u2.cell? ⟨wr.heap.size, 6, none⟩ = some (.slice gb mb cb) := HS2.out.cell6; have d7 : u2.cell? ⟨wr.heap.size, 7, none⟩ = some (.slice gc mc cc) := HS2.out.cell7; have dl := HS2.out.bxlt; clear hp hf)
        have HA := Lib.hid (HTM.out b (x ++ gpf l k ++ [44, 32]) u2 _ _ _ _ HS2.out.pr HS2.out.hi HS2.out.pw hpg (by simp only [List.length_append, List.length_cons, List.length_nil]; omega))
        go_wp2_with (go_at_call 40; (with_reducible refine (HA.out).mono ?_); rintro e u3 ⟨rfl, hp, hf⟩; have HP3 := Lib.hid (HP2.out.next hpg hp hf); clear hp hf)
        have e9 : x ++ gpf l k ++ [44, 32] ++ gx g = x ++ gpf l (k + 1) := by rw [HSU2.out]; simp
        rw [e9] at HP3
        have HP4 := Lib.hid HP3.out
        clear e9
        go_roundw
        case rel => exact ⟨k + 1, by omega, by go_num, HP4⟩
        case measure => simp [intOf]; omega
    · obtain rfl : m = k := by omega
      go_wp2_with fail
      go_end0
      exact ⟨rfl, by have h9 := HP.out.pr; rw [show gpf l m = glsX l by rw [HAL.out, HM.out]] at h9; exact h9, HP.out.fr⟩
end Go.Proofs.YtliapkajonbndaaDoor
