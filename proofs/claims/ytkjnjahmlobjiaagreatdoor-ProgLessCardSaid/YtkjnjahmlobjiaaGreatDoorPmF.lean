/-
  The program's clause: the clause of a text's clause.
-/
import Derived.Test.YtkjnjahmlobjiaaGreatDoorG14
import Derived.Test.YtkjnjahmlobjiaaGreatDoorG28
namespace Go.Proofs.YtkjnjahmlobjiaaGreatDoor
open Go.RowKit

/-- A text's clause and the result in boxes of the call's own. -/
structure CB0 (w0 : World) (t : Tm) (sv nv : Value) (okx : Nat → Prop) (W : World) : Prop where
  low : Below w0.heap.size w0 W
  bx : W.heap[w0.heap.size]? = some (.cells #[.int .i64 t.kind, .string t.name, .int .i64 t.n, sv, nv] 67 (0, 0))
  bz : W.heap[w0.heap.size + 1]? = some (.cells #[.int .i64 0, .string ⟨#[]⟩, .int .i64 0, .slice none 0 0, .slice none 0 0, .int .i64 0] 37 (0, 0))
  hi : Tm.innP W okx t sv
  ok : ∀ b, okx b → b < w0.heap.size
  tb : TabsLo W w0.heap.size
section
variable {w0 : World} {t : Tm} {sv nv : Value} {okx : Nat → Prop} {W : World} (h : CB0 w0 t sv nv okx W)
include h
theorem CB0.lt : w0.heap.size + 1 < W.heap.size := (Array.getElem?_eq_some_iff.1 h.bz).1
theorem CB0.c0 : W.cell? ⟨w0.heap.size, 0, none⟩ = some (.int .i64 t.kind) := by simp [World.cell?, h.bx]
theorem CB0.c1 : W.cell? ⟨w0.heap.size, 1, none⟩ = some (.string t.name) := by simp [World.cell?, h.bx]
theorem CB0.c2 : W.cell? ⟨w0.heap.size, 2, none⟩ = some (.int .i64 t.n) := by simp [World.cell?, h.bx]
theorem CB0.c3 : W.cell? ⟨w0.heap.size, 3, none⟩ = some sv := by simp [World.cell?, h.bx]
theorem CB0.c4 : W.cell? ⟨w0.heap.size, 4, none⟩ = some nv := by simp [World.cell?, h.bx]
theorem CB0.next {W' : World} (hb : Below W.heap.size W W') : CB0 w0 t sv nv okx W' :=
  ⟨h.low.trans (hb.mono h.low.size), (hb.block _ (by have := h.lt; omega)).trans h.bx, (hb.block _ h.lt).trans h.bz, Tm.innP_same (fun _ h => h) (fun b o v hb9 hc => (hb.cell (p := ⟨b, o, none⟩) (by have := h.ok b hb9; have := h.low.size; show b < W.heap.size; omega)).trans hc) t sv h.hi, h.ok, h.tb.mv (FrP.of_below hb) (fun _ e => e.elim)⟩
end
theorem CB0.new {w : World} {t : Tm} {sv nv : Value} {okx : Nat → Prop} (hi : Tm.innP w okx t sv) (hok : ∀ b, okx b → b < w.heap.size) (ht : Tabs w) :
    CB0 w t sv nv okx ((w.alloc (.cells #[.int .i64 t.kind, .string t.name, .int .i64 t.n, sv, nv] 67)).alloc (.cells #[.int .i64 0, .string ⟨#[]⟩, .int .i64 0, .slice none 0 0, .slice none 0 0, .int .i64 0] 37)) := by
  have p1 := (Below.refl w.heap.size w).alloc (Nat.le_refl _) (.cells #[.int .i64 t.kind, .string t.name, .int .i64 t.n, sv, nv] 67)
  have n1 := heap_alloc_new w (.cells #[.int .i64 t.kind, .string t.name, .int .i64 t.n, sv, nv] 67)
  have z1 : (w.alloc (.cells #[.int .i64 t.kind, .string t.name, .int .i64 t.n, sv, nv] 67)).heap.size = w.heap.size + 1 := by simp
  generalize w.alloc (.cells #[.int .i64 t.kind, .string t.name, .int .i64 t.n, sv, nv] 67) = w1 at p1 n1 z1 ⊢
  have p2 := (Below.refl w1.heap.size w1).alloc (Nat.le_refl _) (.cells #[.int .i64 0, .string ⟨#[]⟩, .int .i64 0, .slice none 0 0, .slice none 0 0, .int .i64 0] 37)
  have n2 := heap_alloc_new w1 (.cells #[.int .i64 0, .string ⟨#[]⟩, .int .i64 0, .slice none 0 0, .slice none 0 0, .int .i64 0] 37)
  generalize w1.alloc (.cells #[.int .i64 0, .string ⟨#[]⟩, .int .i64 0, .slice none 0 0, .slice none 0 0, .int .i64 0] 37) = w2 at p2 n2 ⊢
  have hbl : Below w.heap.size w w2 := p1.trans (p2.mono p1.size)
  exact ⟨hbl, (p2.block _ (by omega)).trans n1, by rw [← z1]; exact n2, Tm.innP_same (fun _ h => h) (fun b o v hb9 hc => (hbl.cell (p := ⟨b, o, none⟩) (hok b hb9)).trans hc) t sv hi, hok, (TabsLo.of ht (Nat.le_refl _)).mv (FrP.of_below hbl) (fun _ e => e.elim)⟩
/-- Two terms in boxes besides. -/
structure CB2 (w0 : World) (t : Tm) (sv nv : Value) (okx : Nat → Prop) (G H : Nat) (a b : Tm) (sa sb : Value) (W : World) : Prop where
  k : CB0 w0 t sv nv okx W
  bG : W.heap[G]? = some (.cells #[.int .i64 a.kind, .string a.name, .int .i64 a.n, sa] 34 (0, 0))
  bH : W.heap[H]? = some (.cells #[.int .i64 b.kind, .string b.name, .int .i64 b.n, sb] 34 (0, 0))
  lG : w0.heap.size + 1 < G
  lH : w0.heap.size + 1 < H
  ne : G ≠ H
  ia : Tm.innP W okx a sa
  ib : Tm.innP W okx b sb
section
variable {w0 : World} {t : Tm} {sv nv : Value} {okx : Nat → Prop} {G H : Nat} {a b : Tm} {sa sb : Value} {W : World} (h : CB2 w0 t sv nv okx G H a b sa sb W)
include h
theorem CB2.next {W' : World} (hb : Below W.heap.size W W') : CB2 w0 t sv nv okx G H a b sa sb W' := by
  have hc : ∀ b o v, okx b → W.cell? ⟨b, o, none⟩ = some v → W'.cell? ⟨b, o, none⟩ = some v := fun b o v hb9 hc => (hb.cell (p := ⟨b, o, none⟩) (by have := h.k.ok b hb9; have := h.k.low.size; show b < W.heap.size; omega)).trans hc
  exact ⟨h.k.next hb, (hb.block _ (Array.getElem?_eq_some_iff.1 h.bG).1).trans h.bG, (hb.block _ (Array.getElem?_eq_some_iff.1 h.bH).1).trans h.bH, h.lG, h.lH, h.ne, Tm.innP_same (fun _ h => h) hc a sa h.ia, Tm.innP_same (fun _ h => h) hc b sb h.ib⟩
theorem CB2.inA : Tm.inn W W.heap.size a sa := Tm.inn_of_P (fun b hb => by have := h.k.ok b hb; have := h.k.low.size; omega) a sa h.ia
theorem CB2.inB : Tm.inn W W.heap.size b sb := Tm.inn_of_P (fun b hb => by have := h.k.ok b hb; have := h.k.low.size; omega) b sb h.ib
end
theorem trueT_innP (w : World) (ok : Nat → Prop) : Tm.innP w ok trueT (.slice none 0 0) := Tm.innP_mk.2 ⟨⟨by decide, by decide, by decide⟩, none, 0, rfl, Nat.le_refl _, by simp, .inl rfl⟩
theorem rowP_get {w : World} {ok : Nat → Prop} {b : Nat} : ∀ {l : List Tm} {off : Nat}, Tm.rowP w ok b off l → ∀ (i : Nat) (h : i < l.length), ∃ sv, w.cell? ⟨b, off + i * 4, none⟩ = some (.int .i64 l[i].kind) ∧ w.cell? ⟨b, off + i * 4 + 1, none⟩ = some (.string l[i].name) ∧ w.cell? ⟨b, off + i * 4 + 2, none⟩ = some (.int .i64 l[i].n) ∧ w.cell? ⟨b, off + i * 4 + 3, none⟩ = some sv ∧ Tm.innP w ok l[i] sv
  | [], _, _, i, h => absurd h (Nat.not_lt_zero _)
  | t :: r, off, hr, 0, h => by
    simp only [Tm.rowP] at hr
    obtain ⟨sv, h0, h1, h2, h3, h4⟩ := hr.1
    exact ⟨sv, by simpa using h0, by simpa using h1, by simpa using h2, by simpa using h3, h4⟩
  | t :: r, off, hr, i + 1, h => by
    simp only [Tm.rowP] at hr
    have h9 := rowP_get hr.2 i (by simpa using h)
    simpa [show off + 4 + i * 4 = off + (i + 1) * 4 by omega] using h9
/-- An Arg of a term, in blocks that a predicate names. -/
theorem argP_in {W : World} {ok : Nat → Prop} {t : Tm} {g : Option Addr} {c m : Nat} (h : Tm.innP W ok t (.slice g m c)) (i : Nat) (hi : i < t.args.length) : ∃ ab ao gs ms cs, g = some ⟨ab, ao, none⟩ ∧ ok ab ∧ W.cell? ⟨ab, ao + i * 4, none⟩ = some (.int .i64 (argN t i).kind) ∧ W.cell? ⟨ab, ao + i * 4 + 1, none⟩ = some (.string (argN t i).name) ∧ W.cell? ⟨ab, ao + i * 4 + 2, none⟩ = some (.int .i64 (argN t i).n) ∧ W.cell? ⟨ab, ao + i * 4 + 3, none⟩ = some (.slice gs ms cs) ∧ Tm.innP W ok (argN t i) (.slice gs ms cs) := by
  rw [argN_eq hi]
  obtain ⟨_, g9, c9, e9, _, _, h9⟩ := Tm.innP_iff.1 h
  injection e9 with e91 e92 e93
  subst e91
  rcases h9 with h9 | ⟨ab, ao, rfl, hok, hr⟩
  · rw [h9] at hi; exact absurd hi (Nat.not_lt_zero _)
  · obtain ⟨sv, g0, g1, g2, g3, hin⟩ := rowP_get hr i hi
    obtain ⟨_, gs, cs, rfl, _⟩ := Tm.innP_iff.1 hin
    exact ⟨ab, ao, gs, _, cs, rfl, hok, g0, g1, g2, g3, hin⟩
/-- What the program's clause hands on. -/
def ClausePost (w : World) (okx : Nat → Prop) (x : Cl) (e : Ending) (w' : World) : Prop :=
  Below w.heap.size w w' ∧ ∃ k nm n g m c gv mv cv q cd, e = .returned (.tuple #[.agg #[.int .i64 k, .string nm, .int .i64 n, .slice g m c, .slice gv mv cv, .int .i64 (q : Nat)], .int .i64 (cd : Nat)]) ∧
    (match clauseE x with
      | .error r => cd = r ∧ r ≠ 0
      | .ok y => cd = 0 ∧ k = y.h.kind ∧ nm = y.h.name ∧ n = y.h.n ∧ (q : Int) = y.n ∧ Tm.innP w' okx y.h (.slice g m c) ∧ GOwn w' w.heap.size y.b (.slice gv mv cv))
/-- A block of four cells, written whole. -/
def put4 (W : World) (b : Nat) (a0 a1 a2 a3 : Value) : World := (((W.setCell ⟨b, 0, none⟩ a0).setCell ⟨b, 1, none⟩ a1).setCell ⟨b, 2, none⟩ a2).setCell ⟨b, 3, none⟩ a3
theorem put4_blk {W : World} {b : Nat} {z0 z1 z2 z3 : Value} {t : TypeId} (h : W.heap[b]? = some (.cells #[z0, z1, z2, z3] t (0, 0))) (a0 a1 a2 a3 : Value) : (put4 W b a0 a1 a2 a3).heap[b]? = some (.cells #[a0, a1, a2, a3] t (0, 0)) := by
  simp [put4, World.setCell, Array.getElem?_modify, h]
theorem FrP.put4 (W : World) (b : Nat) (a0 a1 a2 a3 : Value) : FrP (fun x => x = b) W (put4 W b a0 a1 a2 a3) := by
  have tr : ∀ {X Y Z : World}, FrP (fun x => x = b) X Y → FrP (fun x => x = b) Y Z → FrP (fun x => x = b) X Z := fun h g => h.trans g (fun _ _ e => e) (fun _ _ e => e)
  exact tr (tr (tr (FrP.setC _ _ _ _) (FrP.setC _ _ _ _)) (FrP.setC _ _ _ _)) (FrP.setC _ _ _ _)
/-- .. a block beyond: the boxes stay. -/
theorem CB0.far {w0 : World} {t : Tm} {sv nv : Value} {okx : Nat → Prop} {W W' : World} (h : CB0 w0 t sv nv okx W) {b : Nat} (hf : FrP (fun x => x = b) W W') (hb : w0.heap.size + 1 < b) : CB0 w0 t sv nv okx W' := by
  have hl := h.lt
  have hls := h.low.size
  refine ⟨h.low.trans ((hf.mono (fun x _ e => by show w0.heap.size ≤ x; omega)).to_below hls), (hf.block _ (by omega) (by omega)).trans h.bx, (hf.block _ (by omega) (by omega)).trans h.bz, Tm.innP_same (fun _ h => h) (fun b9 o v hb9 hc => hf.cell hc (by have := h.ok b9 hb9; omega)) t sv h.hi, h.ok, h.tb.mv hf (fun x e => by omega)⟩
theorem CB2.put {w0 : World} {t : Tm} {sv nv : Value} {okx : Nat → Prop} {G H : Nat} {a b : Tm} {sa sb : Value} {W : World} (h : CB2 w0 t sv nv okx G H a b sa sb W) {a' b' : Tm} {sa' sb' : Value} (hia : Tm.innP W okx a' sa') (hib : Tm.innP W okx b' sb') :
    CB2 w0 t sv nv okx G H a' b' sa' sb' (put4 (put4 W G (.int .i64 a'.kind) (.string a'.name) (.int .i64 a'.n) sa') H (.int .i64 b'.kind) (.string b'.name) (.int .i64 b'.n) sb') := by
  have f1 := FrP.put4 W G (.int .i64 a'.kind) (.string a'.name) (.int .i64 a'.n) sa'
  have n1 := put4_blk h.bG (.int .i64 a'.kind) (.string a'.name) (.int .i64 a'.n) sa'
  have k1 := h.k.far f1 h.lG
  have hl := h.k.low.size
  have lG := h.lG
  have lH := h.lH
  have ne := h.ne
  have hlH := (Array.getElem?_eq_some_iff.1 h.bH).1
  have h1 := (f1.block _ hlH (by omega)).trans h.bH
  have m1 : ∀ b o v, okx b → W.cell? ⟨b, o, none⟩ = some v → (put4 W G (.int .i64 a'.kind) (.string a'.name) (.int .i64 a'.n) sa').cell? ⟨b, o, none⟩ = some v := fun b o v hb hc => f1.cell hc (by have := h.k.ok b hb; omega)
  have ia1 := Tm.innP_same (fun _ h => h) m1 a' sa' hia
  have ib1 := Tm.innP_same (fun _ h => h) m1 b' sb' hib
  generalize put4 W G (.int .i64 a'.kind) (.string a'.name) (.int .i64 a'.n) sa' = W1 at f1 n1 k1 h1 m1 ia1 ib1 ⊢
  have f2 := FrP.put4 W1 H (.int .i64 b'.kind) (.string b'.name) (.int .i64 b'.n) sb'
  have n2 := put4_blk h1 (.int .i64 b'.kind) (.string b'.name) (.int .i64 b'.n) sb'
  have k2 := k1.far f2 lH
  have m2 : ∀ b o v, okx b → W1.cell? ⟨b, o, none⟩ = some v → (put4 W1 H (.int .i64 b'.kind) (.string b'.name) (.int .i64 b'.n) sb').cell? ⟨b, o, none⟩ = some v := fun b o v hb hc => f2.cell hc (by have := h.k.ok b hb; omega)
  exact ⟨k2, (f2.block _ (Array.getElem?_eq_some_iff.1 n1).1 (by omega)).trans n1, n2, lG, lH, ne, Tm.innP_same (fun _ h => h) m2 a' sa' ia1, Tm.innP_same (fun _ h => h) m2 b' sb' ib1⟩
theorem shc1 {Goal : Prop} (F G : World → Prop) (main : (∀ W, F W → G W) → Goal) (tail : ∀ W, F W → G W) : Goal := main tail
theorem shc2 {Goal : Prop} (F G : Nat → World → Prop) (main : (∀ a W, F a W → G a W) → Goal) (tail : ∀ a W, F a W → G a W) : Goal := main tail
theorem shc3 {Goal : Prop} (F G : Nat → Nat → World → Prop) (main : (∀ a b W, F a b W → G a b W) → Goal) (tail : ∀ a b W, F a b W → G a b W) : Goal := main tail
set_option maxRecDepth 100000 in
set_option maxHeartbeats 32000000 in
theorem pmclause_any (x : Cl) (w : World) (sv nv : Value) (okx : Nat → Prop) (hi : Tm.innP w okx x.1 sv) (hok : ∀ b, okx b → b < w.heap.size) (ht : Tabs w) (hr : x.1.right = true) (gn : Option Addr) (cn : Nat) (hnv : nv = .slice gn x.2.length cn) :
    Calls Tryz.prog 29 #[.agg #[.int .i64 x.1.kind, .string x.1.name, .int .i64 x.1.n, sv, nv]] w fun e w' => ClausePost w okx x e w' := by
  subst hnv
  obtain ⟨t, ns⟩ := x
  dsimp only at hi hr ⊢
  obtain ⟨_, gt, ct, rfl, -, hmt, -⟩ := Tm.innP_iff.1 hi
  have HS := Lib.hid (CB0.new (nv := .slice gn ns.length cn) hi hok ht)
  have HXC := Lib.hid (show clauseE (t, ns) = if ownB (headOf t) = false then .error 5 else match goalsE (bodyOf t) with | .error q => .error q | .ok l => .ok ⟨headOf t, l, (ns.length : Nat)⟩ from rfl)
  have HZH := Lib.hid (head_small hr)
  have HZB := Lib.hid (body_small hr)
  clear hi hok ht hr
  obtain ⟨qn, hqn⟩ : ∃ q, ns.length = q := ⟨_, rfl⟩
  rw [hqn] at HS HXC ⊢
  clear hqn
  obtain ⟨mt, hmt9⟩ : ∃ m, t.args.length = m := ⟨_, rfl⟩
  rw [hmt9] at HS hmt ⊢
  have HMT := Lib.hid hmt9
  clear hmt9
  go_enter Tryz.func29, Tryz.ntmps29
  go_upto_region 1 with fail
  have HS0 := Lib.hid (show CB0 w t (.slice gt mt ct) (.slice gn qn cn) okx ((w.alloc (.cells #[.int .i64 t.kind, .string t.name, .int .i64 t.n, .slice gt mt ct, .slice gn qn cn] 67)).alloc (.cells #[.int .i64 0, .string ⟨#[]⟩, .int .i64 0, .slice none 0 0, .slice none 0 0, .int .i64 0] 37)) from HS.out)
  generalize (w.alloc (.cells #[.int .i64 t.kind, .string t.name, .int .i64 t.n, .slice gt mt ct, .slice gn qn cn] 67)).alloc (.cells #[.int .i64 0, .string ⟨#[]⟩, .int .i64 0, .slice none 0 0, .slice none 0 0, .int .i64 0] 37) = u0 at HS0 ⊢
  clear HS
  go_cut [4, 5] from 8 to 39 (fun t4 t5 wx => ∃ G H : Nat, t4 = .pointer (some ⟨G, 0, none⟩) ∧ t5 = .pointer (some ⟨H, 0, none⟩) ∧ Hid (CB2 w t (.slice gt mt ct) (.slice gn qn cn) okx G H t trueT (.slice gt mt ct) (.slice none 0 0) wx))
  case first =>
    have q0 := HS0.out.next ((Below.refl _ u0).drew)
    refine wp_region_held_drew (S := fun W' => CB0 w t (.slice gt mt ct) (.slice gn qn cn) okx W') (by kernel_rfl) q0 (fun hHeld => ?_)
    refine wpAnyH_take (i := 0) (oi := _) (v := ?_) rfl (by kernel_rfl) (by kernel_rfl) (by kernel_rfl) (fun _ _ _ h => h) (Or.inl ⟨by rfl, ?_⟩) hHeld ?_
    rotate_left
    · (intro W hSw; have k0 := hSw.c0; have k1 := hSw.c1; have k2 := hSw.c2; have k3 := hSw.c3; go_simp; try with_reducible rfl)
    try simp only [Act.put, List.setIfInBounds_toArray, List.set_cons_zero, List.set_cons_succ, List.getElem_toArray, List.getElem_cons_zero]
    refine wpAnyH_take (i := 1) (oi := _) (v := ?_) rfl (by kernel_rfl) (by kernel_rfl) (by kernel_rfl) (fun _ _ _ h => h) (Or.inl ⟨by rfl, ?_⟩) hHeld ?_
    rotate_left
    · (intro W hSw; have k0 := hSw.c0; have k1 := hSw.c1; have k2 := hSw.c2; have k3 := hSw.c3; go_simp; try with_reducible rfl)
    try simp only [Act.put, List.setIfInBounds_toArray, List.set_cons_zero, List.set_cons_succ, List.getElem_toArray, List.getElem_cons_zero, List.getElem_cons_succ]
    generalize u0.drew = X0 at q0 hHeld ⊢
    apply shc3 (fun G H X => (CB0 w t (.slice gt mt ct) (.slice gn qn cn) okx X) ∧ (X.heap[G]? = some (Obj.cells #[.int .i64 t.kind, .string t.name, .int .i64 t.n, .slice gt mt ct] 34 (0, 0))) ∧ (X.heap[H]? = some (Obj.cells #[.int .i64 3, .string ⟨#[116, 114, 117, 101]⟩, .int .i64 0, .slice none 0 0] 34 (0, 0))) ∧ (w.heap.size + 1 < G) ∧ (w.heap.size + 1 < H) ∧ (G ≠ H))
    case main =>
      intro HN212
      apply shc3 (fun G H X => (CB0 w t (.slice gt mt ct) (.slice gn qn cn) okx X) ∧ (X.heap[G]? = some (Obj.cells #[.int .i64 t.kind, .string t.name, .int .i64 t.n, .slice gt mt ct] 34 (0, 0))) ∧ (X.heap[H]? = some (Obj.cells #[.int .i64 0, .string ⟨#[]⟩, .int .i64 0, .slice none 0 0] 34 (0, 0))) ∧ (w.heap.size + 1 < G) ∧ (w.heap.size + 1 < H) ∧ (G ≠ H))
      case main =>
        intro HN211
        apply shc3 (fun G H X => (CB0 w t (.slice gt mt ct) (.slice gn qn cn) okx X) ∧ (X.heap[G]? = some (Obj.cells #[.int .i64 0, .string ⟨#[]⟩, .int .i64 0, .slice none 0 0] 34 (0, 0))) ∧ (X.heap[H]? = some (Obj.cells #[.int .i64 0, .string ⟨#[]⟩, .int .i64 0, .slice none 0 0] 34 (0, 0))) ∧ (w.heap.size + 1 < G) ∧ (w.heap.size + 1 < H) ∧ (G ≠ H))
        case main =>
          intro HN111
          apply shc2 (fun G X => (CB0 w t (.slice gt mt ct) (.slice gn qn cn) okx X) ∧ (X.heap[G]? = some (Obj.cells #[.int .i64 0, .string ⟨#[]⟩, .int .i64 0, .slice none 0 0] 34 (0, 0))) ∧ (w.heap.size + 1 < G))
          case main =>
            intro HN110
            apply shc3 (fun G H X => (CB0 w t (.slice gt mt ct) (.slice gn qn cn) okx X) ∧ (X.heap[G]? = some (Obj.cells #[.int .i64 0, .string ⟨#[]⟩, .int .i64 0, .slice none 0 0] 34 (0, 0))) ∧ (X.heap[H]? = some (Obj.cells #[.int .i64 0, .string ⟨#[]⟩, .int .i64 0, .slice none 0 0] 34 (0, 0))) ∧ (w.heap.size + 1 < G) ∧ (w.heap.size + 1 < H) ∧ (G ≠ H))
            case main =>
              intro HN101
              apply shc2 (fun H X => (CB0 w t (.slice gt mt ct) (.slice gn qn cn) okx X) ∧ (X.heap[H]? = some (Obj.cells #[.int .i64 0, .string ⟨#[]⟩, .int .i64 0, .slice none 0 0] 34 (0, 0))) ∧ (w.heap.size + 1 < H))
              case main =>
                intro HN011
                apply shc2 (fun G X => (CB0 w t (.slice gt mt ct) (.slice gn qn cn) okx X) ∧ (X.heap[G]? = some (Obj.cells #[.int .i64 0, .string ⟨#[]⟩, .int .i64 0, .slice none 0 0] 34 (0, 0))) ∧ (w.heap.size + 1 < G))
                case main =>
                  intro HN100
                  apply shc1 (fun X => (CB0 w t (.slice gt mt ct) (.slice gn qn cn) okx X))
                  case main =>
                    intro HN010
                    apply shc2 (fun H X => (CB0 w t (.slice gt mt ct) (.slice gn qn cn) okx X) ∧ (X.heap[H]? = some (Obj.cells #[.int .i64 0, .string ⟨#[]⟩, .int .i64 0, .slice none 0 0] 34 (0, 0))) ∧ (w.heap.size + 1 < H))
                    case main =>
                      intro HN001
                      have f0 := q0
                      obtain ⟨X, hX⟩ : ∃ X, X0 = X := ⟨_, rfl⟩
                      subst hX
                      refine wpAnyH_ready (rs := [2, 3, 4]) (by kernel_rfl) (by simp) ?_
                      refine AllReadyH.cons (o := _) rfl (fun K hK => ?_) (AllReadyH.cons (o := _) rfl (fun K hK => ?_) (AllReadyH.cons (o := _) rfl (fun K hK => ?_) (AllReadyH.nil)))
                      · skip
                        go_simp
                        refine (patom_any ⟨#[116, 114, 117, 101]⟩ _).mono ?_
                        rintro e Y ⟨rfl, hy⟩
                        have g0 := f0.next hy
                        dsimp only
                        refine hK.out _ _ (g0) (fun hHeld => ?_)
                        clear hK K
                        try simp only [Act.put, List.setIfInBounds_toArray, List.set_cons_zero, List.set_cons_succ, List.getElem_toArray, List.getElem_cons_zero, List.getElem_cons_succ]
                        exact HN010  Y (g0)
                      · skip
                        go_simp
                        have hy : Below X0.heap.size X0 (X0.alloc (Obj.cells #[.int .i64 0, .string ⟨#[]⟩, .int .i64 0, .slice none 0 0] 34 (0, 0))) := (Below.refl _ _).alloc (Nat.le_refl _) _
                        have hnew := heap_alloc_new X0 (Obj.cells #[.int .i64 0, .string ⟨#[]⟩, .int .i64 0, .slice none 0 0] 34 (0, 0))
                        have hlt := f0.lt
                        obtain ⟨G, hG⟩ : ∃ b, X0.heap.size = b := ⟨_, rfl⟩
                        obtain ⟨Y, hY⟩ : ∃ Y, (X0.alloc (Obj.cells #[.int .i64 0, .string ⟨#[]⟩, .int .i64 0, .slice none 0 0] 34 (0, 0))) = Y := ⟨_, rfl⟩
                        rw [hY] at hy hnew
                        rw [hG] at hnew
                        have g0 := f0.next hy
                        simp only [hY, hG]
                        refine hK.out _ _ (g0) (fun hHeld => ?_)
                        clear hK K
                        try simp only [Act.put, List.setIfInBounds_toArray, List.set_cons_zero, List.set_cons_succ, List.getElem_toArray, List.getElem_cons_zero, List.getElem_cons_succ]
                        exact HN100 G Y ⟨g0, hnew, (by omega)⟩
                      · skip
                        go_simp
                        have hy : Below X0.heap.size X0 (X0.alloc (Obj.cells #[.int .i64 0, .string ⟨#[]⟩, .int .i64 0, .slice none 0 0] 34 (0, 0))) := (Below.refl _ _).alloc (Nat.le_refl _) _
                        have hnew := heap_alloc_new X0 (Obj.cells #[.int .i64 0, .string ⟨#[]⟩, .int .i64 0, .slice none 0 0] 34 (0, 0))
                        have hlt := f0.lt
                        obtain ⟨H, hH⟩ : ∃ b, X0.heap.size = b := ⟨_, rfl⟩
                        obtain ⟨Y, hY⟩ : ∃ Y, (X0.alloc (Obj.cells #[.int .i64 0, .string ⟨#[]⟩, .int .i64 0, .slice none 0 0] 34 (0, 0))) = Y := ⟨_, rfl⟩
                        rw [hY] at hy hnew
                        rw [hH] at hnew
                        have g0 := f0.next hy
                        simp only [hY, hH]
                        refine hK.out _ _ (g0) (fun hHeld => ?_)
                        clear hK K
                        try simp only [Act.put, List.setIfInBounds_toArray, List.set_cons_zero, List.set_cons_succ, List.getElem_toArray, List.getElem_cons_zero, List.getElem_cons_succ]
                        exact HN001 H Y ⟨g0, hnew, (by omega)⟩
                    case tail =>
                      intro H X ⟨f0, f1, f2⟩
                      refine wpAnyH_ready (rs := [2, 3]) (by kernel_rfl) (by simp) ?_
                      refine AllReadyH.cons (o := _) rfl (fun K hK => ?_) (AllReadyH.cons (o := _) rfl (fun K hK => ?_) (AllReadyH.nil))
                      · skip
                        go_simp
                        refine (patom_any ⟨#[116, 114, 117, 101]⟩ _).mono ?_
                        rintro e Y ⟨rfl, hy⟩
                        have g0 := f0.next hy
                        dsimp only
                        refine hK.out _ _ (g0) (fun hHeld => ?_)
                        clear hK K
                        try simp only [Act.put, List.setIfInBounds_toArray, List.set_cons_zero, List.set_cons_succ, List.getElem_toArray, List.getElem_cons_zero, List.getElem_cons_succ]
                        exact HN011 H Y ⟨g0, (hy.block _ (Array.getElem?_eq_some_iff.1 f1).1).trans f1, f2⟩
                      · skip
                        go_simp
                        have hy : Below X.heap.size X (X.alloc (Obj.cells #[.int .i64 0, .string ⟨#[]⟩, .int .i64 0, .slice none 0 0] 34 (0, 0))) := (Below.refl _ _).alloc (Nat.le_refl _) _
                        have hnew := heap_alloc_new X (Obj.cells #[.int .i64 0, .string ⟨#[]⟩, .int .i64 0, .slice none 0 0] 34 (0, 0))
                        have hlt := f0.lt
                        have hlo := (Array.getElem?_eq_some_iff.1 f1).1
                        obtain ⟨G, hG⟩ : ∃ b, X.heap.size = b := ⟨_, rfl⟩
                        obtain ⟨Y, hY⟩ : ∃ Y, (X.alloc (Obj.cells #[.int .i64 0, .string ⟨#[]⟩, .int .i64 0, .slice none 0 0] 34 (0, 0))) = Y := ⟨_, rfl⟩
                        rw [hY] at hy hnew
                        rw [hG] at hnew
                        have g0 := f0.next hy
                        simp only [hY, hG]
                        refine hK.out _ _ (g0) (fun hHeld => ?_)
                        clear hK K
                        try simp only [Act.put, List.setIfInBounds_toArray, List.set_cons_zero, List.set_cons_succ, List.getElem_toArray, List.getElem_cons_zero, List.getElem_cons_succ]
                        exact HN101 G H Y ⟨g0, hnew, (hy.block _ (Array.getElem?_eq_some_iff.1 f1).1).trans f1, (by omega), f2, (by omega)⟩
                  case tail =>
                    intro  X f0
                    refine wpAnyH_ready (rs := [3, 4]) (by kernel_rfl) (by simp) ?_
                    refine AllReadyH.cons (o := _) rfl (fun K hK => ?_) (AllReadyH.cons (o := _) rfl (fun K hK => ?_) (AllReadyH.nil))
                    · skip
                      go_simp
                      have hy : Below X.heap.size X (X.alloc (Obj.cells #[.int .i64 0, .string ⟨#[]⟩, .int .i64 0, .slice none 0 0] 34 (0, 0))) := (Below.refl _ _).alloc (Nat.le_refl _) _
                      have hnew := heap_alloc_new X (Obj.cells #[.int .i64 0, .string ⟨#[]⟩, .int .i64 0, .slice none 0 0] 34 (0, 0))
                      have hlt := f0.lt
                      obtain ⟨G, hG⟩ : ∃ b, X.heap.size = b := ⟨_, rfl⟩
                      obtain ⟨Y, hY⟩ : ∃ Y, (X.alloc (Obj.cells #[.int .i64 0, .string ⟨#[]⟩, .int .i64 0, .slice none 0 0] 34 (0, 0))) = Y := ⟨_, rfl⟩
                      rw [hY] at hy hnew
                      rw [hG] at hnew
                      have g0 := f0.next hy
                      simp only [hY, hG]
                      refine hK.out _ _ (g0) (fun hHeld => ?_)
                      clear hK K
                      try simp only [Act.put, List.setIfInBounds_toArray, List.set_cons_zero, List.set_cons_succ, List.getElem_toArray, List.getElem_cons_zero, List.getElem_cons_succ]
                      exact HN110 G Y ⟨g0, hnew, (by omega)⟩
                    · skip
                      go_simp
                      have hy : Below X.heap.size X (X.alloc (Obj.cells #[.int .i64 0, .string ⟨#[]⟩, .int .i64 0, .slice none 0 0] 34 (0, 0))) := (Below.refl _ _).alloc (Nat.le_refl _) _
                      have hnew := heap_alloc_new X (Obj.cells #[.int .i64 0, .string ⟨#[]⟩, .int .i64 0, .slice none 0 0] 34 (0, 0))
                      have hlt := f0.lt
                      obtain ⟨H, hH⟩ : ∃ b, X.heap.size = b := ⟨_, rfl⟩
                      obtain ⟨Y, hY⟩ : ∃ Y, (X.alloc (Obj.cells #[.int .i64 0, .string ⟨#[]⟩, .int .i64 0, .slice none 0 0] 34 (0, 0))) = Y := ⟨_, rfl⟩
                      rw [hY] at hy hnew
                      rw [hH] at hnew
                      have g0 := f0.next hy
                      simp only [hY, hH]
                      refine hK.out _ _ (g0) (fun hHeld => ?_)
                      clear hK K
                      try simp only [Act.put, List.setIfInBounds_toArray, List.set_cons_zero, List.set_cons_succ, List.getElem_toArray, List.getElem_cons_zero, List.getElem_cons_succ]
                      exact HN011 H Y ⟨g0, hnew, (by omega)⟩
                case tail =>
                  intro G X ⟨f0, f1, f2⟩
                  refine wpAnyH_ready (rs := [2, 4]) (by kernel_rfl) (by simp) ?_
                  refine AllReadyH.cons (o := _) rfl (fun K hK => ?_) (AllReadyH.cons (o := _) rfl (fun K hK => ?_) (AllReadyH.nil))
                  · skip
                    go_simp
                    refine (patom_any ⟨#[116, 114, 117, 101]⟩ _).mono ?_
                    rintro e Y ⟨rfl, hy⟩
                    have g0 := f0.next hy
                    dsimp only
                    refine hK.out _ _ (g0) (fun hHeld => ?_)
                    clear hK K
                    try simp only [Act.put, List.setIfInBounds_toArray, List.set_cons_zero, List.set_cons_succ, List.getElem_toArray, List.getElem_cons_zero, List.getElem_cons_succ]
                    exact HN110 G Y ⟨g0, (hy.block _ (Array.getElem?_eq_some_iff.1 f1).1).trans f1, f2⟩
                  · skip
                    go_simp
                    have hy : Below X.heap.size X (X.alloc (Obj.cells #[.int .i64 0, .string ⟨#[]⟩, .int .i64 0, .slice none 0 0] 34 (0, 0))) := (Below.refl _ _).alloc (Nat.le_refl _) _
                    have hnew := heap_alloc_new X (Obj.cells #[.int .i64 0, .string ⟨#[]⟩, .int .i64 0, .slice none 0 0] 34 (0, 0))
                    have hlt := f0.lt
                    have hlo := (Array.getElem?_eq_some_iff.1 f1).1
                    obtain ⟨H, hH⟩ : ∃ b, X.heap.size = b := ⟨_, rfl⟩
                    obtain ⟨Y, hY⟩ : ∃ Y, (X.alloc (Obj.cells #[.int .i64 0, .string ⟨#[]⟩, .int .i64 0, .slice none 0 0] 34 (0, 0))) = Y := ⟨_, rfl⟩
                    rw [hY] at hy hnew
                    rw [hH] at hnew
                    have g0 := f0.next hy
                    simp only [hY, hH]
                    refine hK.out _ _ (g0) (fun hHeld => ?_)
                    clear hK K
                    try simp only [Act.put, List.setIfInBounds_toArray, List.set_cons_zero, List.set_cons_succ, List.getElem_toArray, List.getElem_cons_zero, List.getElem_cons_succ]
                    exact HN101 G H Y ⟨g0, (hy.block _ (Array.getElem?_eq_some_iff.1 f1).1).trans f1, hnew, f2, (by omega), (by omega)⟩
              case tail =>
                intro H X ⟨f0, f1, f2⟩
                refine wpAnyH_ready (rs := [3]) (by kernel_rfl) (by simp) ?_
                refine AllReadyH.cons (o := _) rfl (fun K hK => ?_) (AllReadyH.nil)
                go_simp
                have hy : Below X.heap.size X (X.alloc (Obj.cells #[.int .i64 0, .string ⟨#[]⟩, .int .i64 0, .slice none 0 0] 34 (0, 0))) := (Below.refl _ _).alloc (Nat.le_refl _) _
                have hnew := heap_alloc_new X (Obj.cells #[.int .i64 0, .string ⟨#[]⟩, .int .i64 0, .slice none 0 0] 34 (0, 0))
                have hlt := f0.lt
                have hlo := (Array.getElem?_eq_some_iff.1 f1).1
                obtain ⟨G, hG⟩ : ∃ b, X.heap.size = b := ⟨_, rfl⟩
                obtain ⟨Y, hY⟩ : ∃ Y, (X.alloc (Obj.cells #[.int .i64 0, .string ⟨#[]⟩, .int .i64 0, .slice none 0 0] 34 (0, 0))) = Y := ⟨_, rfl⟩
                rw [hY] at hy hnew
                rw [hG] at hnew
                have g0 := f0.next hy
                simp only [hY, hG]
                refine hK.out _ _ (g0) (fun hHeld => ?_)
                clear hK K
                try simp only [Act.put, List.setIfInBounds_toArray, List.set_cons_zero, List.set_cons_succ, List.getElem_toArray, List.getElem_cons_zero, List.getElem_cons_succ]
                exact HN111 G H Y ⟨g0, hnew, (hy.block _ (Array.getElem?_eq_some_iff.1 f1).1).trans f1, (by omega), f2, (by omega)⟩
            case tail =>
              intro G H X ⟨f0, f1, f2, f3, f4, f5⟩
              refine wpAnyH_ready (rs := [2]) (by kernel_rfl) (by simp) ?_
              refine AllReadyH.cons (o := _) rfl (fun K hK => ?_) (AllReadyH.nil)
              go_simp
              refine (patom_any ⟨#[116, 114, 117, 101]⟩ _).mono ?_
              rintro e Y ⟨rfl, hy⟩
              have g0 := f0.next hy
              dsimp only
              refine hK.out _ _ (g0) (fun hHeld => ?_)
              clear hK K
              try simp only [Act.put, List.setIfInBounds_toArray, List.set_cons_zero, List.set_cons_succ, List.getElem_toArray, List.getElem_cons_zero, List.getElem_cons_succ]
              exact HN111 G H Y ⟨g0, (hy.block _ (Array.getElem?_eq_some_iff.1 f1).1).trans f1, (hy.block _ (Array.getElem?_eq_some_iff.1 f2).1).trans f2, f3, f4, f5⟩
          case tail =>
            intro G X ⟨f0, f1, f2⟩
            refine wpAnyH_ready (rs := [4]) (by kernel_rfl) (by simp) ?_
            refine AllReadyH.cons (o := _) rfl (fun K hK => ?_) (AllReadyH.nil)
            go_simp
            have hy : Below X.heap.size X (X.alloc (Obj.cells #[.int .i64 0, .string ⟨#[]⟩, .int .i64 0, .slice none 0 0] 34 (0, 0))) := (Below.refl _ _).alloc (Nat.le_refl _) _
            have hnew := heap_alloc_new X (Obj.cells #[.int .i64 0, .string ⟨#[]⟩, .int .i64 0, .slice none 0 0] 34 (0, 0))
            have hlt := f0.lt
            have hlo := (Array.getElem?_eq_some_iff.1 f1).1
            obtain ⟨H, hH⟩ : ∃ b, X.heap.size = b := ⟨_, rfl⟩
            obtain ⟨Y, hY⟩ : ∃ Y, (X.alloc (Obj.cells #[.int .i64 0, .string ⟨#[]⟩, .int .i64 0, .slice none 0 0] 34 (0, 0))) = Y := ⟨_, rfl⟩
            rw [hY] at hy hnew
            rw [hH] at hnew
            have g0 := f0.next hy
            simp only [hY, hH]
            refine hK.out _ _ (g0) (fun hHeld => ?_)
            clear hK K
            try simp only [Act.put, List.setIfInBounds_toArray, List.set_cons_zero, List.set_cons_succ, List.getElem_toArray, List.getElem_cons_zero, List.getElem_cons_succ]
            exact HN111 G H Y ⟨g0, (hy.block _ (Array.getElem?_eq_some_iff.1 f1).1).trans f1, hnew, f2, (by omega), (by omega)⟩
        case tail =>
          intro G H X ⟨f0, f1, f2, f3, f4, f5⟩
          refine wpAnyH_ready (rs := [5]) (by kernel_rfl) (by simp) ?_
          refine AllReadyH.cons (o := _) rfl (fun K hK => ?_) (AllReadyH.nil)
          obtain ⟨⟨c0, c1, c2, c3⟩, d0, d1, d2, d3⟩ := row4 f1
          have hll := (Array.getElem?_eq_some_iff.1 f1).1
          go_simp
          have hnew := put4_blk f1 (.int .i64 t.kind) (.string t.name) (.int .i64 t.n) (.slice gt mt ct)
          have hfr := FrP.put4 X G (.int .i64 t.kind) (.string t.name) (.int .i64 t.n) (.slice gt mt ct)
          have hlg := f3
          have g0 := f0.far hfr hlg
          obtain ⟨Y, hY⟩ : ∃ Y, put4 X G (.int .i64 t.kind) (.string t.name) (.int .i64 t.n) (.slice gt mt ct) = Y := ⟨_, rfl⟩
          have hY2 := hY
          unfold put4 at hY2
          rw [hY] at hnew hfr g0
          simp only [hY2]
          refine hK.out _ _ (g0) (fun hHeld => ?_)
          clear hK K
          try simp only [Act.put, List.setIfInBounds_toArray, List.set_cons_zero, List.set_cons_succ, List.getElem_toArray, List.getElem_cons_zero, List.getElem_cons_succ]
          exact HN211 G H Y ⟨g0, hnew, (hfr.block _ (Array.getElem?_eq_some_iff.1 f2).1 (by have h9 := f5; omega)).trans f2, f3, f4, f5⟩
      case tail =>
        intro G H X ⟨f0, f1, f2, f3, f4, f5⟩
        refine wpAnyH_ready (rs := [6]) (by kernel_rfl) (by simp) ?_
        refine AllReadyH.cons (o := _) rfl (fun K hK => ?_) (AllReadyH.nil)
        obtain ⟨⟨c0, c1, c2, c3⟩, d0, d1, d2, d3⟩ := row4 f2
        have hll := (Array.getElem?_eq_some_iff.1 f2).1
        go_simp
        have hnew := put4_blk f2 (.int .i64 3) (.string ⟨#[116, 114, 117, 101]⟩) (.int .i64 0) (.slice none 0 0)
        have hfr := FrP.put4 X H (.int .i64 3) (.string ⟨#[116, 114, 117, 101]⟩) (.int .i64 0) (.slice none 0 0)
        have hlg := f4
        have g0 := f0.far hfr hlg
        obtain ⟨Y, hY⟩ : ∃ Y, put4 X H (.int .i64 3) (.string ⟨#[116, 114, 117, 101]⟩) (.int .i64 0) (.slice none 0 0) = Y := ⟨_, rfl⟩
        have hY2 := hY
        unfold put4 at hY2
        rw [hY] at hnew hfr g0
        simp only [hY2]
        refine hK.out _ _ (g0) (fun hHeld => ?_)
        clear hK K
        try simp only [Act.put, List.setIfInBounds_toArray, List.set_cons_zero, List.set_cons_succ, List.getElem_toArray, List.getElem_cons_zero, List.getElem_cons_succ]
        exact HN212 G H Y ⟨g0, (hfr.block _ (Array.getElem?_eq_some_iff.1 f1).1 (by have h9 := f5; omega)).trans f1, hnew, f3, f4, f5⟩
    case tail =>
      intro G H X ⟨f0, f1, f2, f3, f4, f5⟩
      refine wpAnyH_done (by kernel_rfl) ?_ _
      go_wp2_with fail
      go_meet
      exact ⟨G, H, rfl, rfl, Lib.hid ⟨f0, f1, f2, f3, f4, f5, f0.hi, trueT_innP _ _⟩⟩
  case rest =>
    obtain ⟨G, H, rfl, rfl, hcb⟩ := hcut
    have HC := Lib.hid hcb.out
    clear hcb HS0
    have HIS := Lib.hid (fun W (h : CB0 w t (.slice gt mt ct) (.slice gn qn cn) okx W) => show Calls Tryz.prog 48 #[.agg #[.int .i64 t.kind, .string t.name, .int .i64 t.n, .slice gt mt ct], .string ⟨#[58, 45]⟩, .int .i64 2] W fun e w' => e = .returned (.bool (isB t [58, 45] 2)) ∧ Below W.heap.size W w' from
      pis_any t ⟨#[58, 45]⟩ 2 W _ (Tm.inn_of_P (fun b hb => by have := h.ok b hb; have := h.low.size; omega) t _ h.hi))
    have x0 : wc.cell? ⟨w.heap.size, 0, none⟩ = some (.int .i64 t.kind) := HC.out.k.c0
    have x1 : wc.cell? ⟨w.heap.size, 1, none⟩ = some (.string t.name) := HC.out.k.c1
    have x2 : wc.cell? ⟨w.heap.size, 2, none⟩ = some (.int .i64 t.n) := HC.out.k.c2
    have x3 : wc.cell? ⟨w.heap.size, 3, none⟩ = some (.slice gt mt ct) := HC.out.k.c3
    have xl := HC.out.k.lt
    cases hb : isB t [58, 45] 2 with
    | true =>
      have hl2 : t.args.length = 2 := (isB_iff.1 hb).2
      have HHD := Lib.hid (show headOf t = argN t 0 by unfold headOf; rw [if_pos hb])
      have HBD := Lib.hid (show bodyOf t = argN t 1 by unfold bodyOf; rw [if_pos hb])
      rw [hb] at HIS
      have hm2 : mt = 2 := by rw [← hl2]; exact HMT.out.symm
      have jm0 : (0 : Int) < (mt : Int) := by omega
      have jm1 : (1 : Int) < (mt : Int) := by omega
      have jn0 : 0 < mt := by omega
      have jn1 : 1 < mt := by omega
      clear hb hm2
      go_upto_region 3 with (go_at_call 48; (with_reducible refine (HIS.out _ HC.out.k).mono ?_); rintro e u1 ⟨rfl, hb⟩; have HC1 := Lib.hid (HC.out.next hb); clear hb x0 x1 x2 x3 xl)
      obtain ⟨ab, ao, gs0, ms0, cs0, hga, hab, q0, q1, q2, q3, hin0⟩ := argP_in HC1.out.k.hi 0 (by omega)
      obtain ⟨ab', ao', gs1, ms1, cs1, hga', -, p0, p1, p2, p3, hin1⟩ := argP_in HC1.out.k.hi 1 (by omega)
      subst hga
      injection hga' with hga'
      injection hga' with hg1 hg2 _
      subst hg1 hg2
      simp only [Nat.zero_mul, Nat.add_zero] at q0 q1 q2 q3
      simp only [Nat.one_mul] at p0 p1 p2 p3
      have hab2 : ab < u1.heap.size := by have := HC1.out.k.ok ab hab; have := HC1.out.k.low.size; omega
      have x3 : u1.cell? ⟨w.heap.size, 3, none⟩ = some (.slice (some ⟨ab, ao, none⟩) mt ct) := HC1.out.k.c3
      have xl := HC1.out.k.lt
      have HCd := Lib.hid (HC1.out.next ((Below.refl _ u1).drew))
      have hd0 := Tm.innP_same (w := u1) (w' := u1.drew) (ok := okx) (ok' := okx) (fun _ h => h) (fun _ _ _ _ h => h) _ _ hin0
      have hd1 := Tm.innP_same (w := u1) (w' := u1.drew) (ok := okx) (ok' := okx) (fun _ h => h) (fun _ _ _ _ h => h) _ _ hin1
      have HCX := Lib.hid (HCd.out.put hd0 hd1)
      obtain ⟨⟨g0, g1, g2, g3⟩, e0, e1, e2, e3⟩ := row4 HCd.out.bG
      obtain ⟨⟨h0, h1, h2, h3⟩, i0, i1, i2, i3⟩ := row4 HCd.out.bH
      have gl := (Array.getElem?_eq_some_iff.1 HCd.out.bG).1
      have hl := (Array.getElem?_eq_some_iff.1 HCd.out.bH).1
      have hne := HCd.out.ne
      have hab9 := hab
      clear hin0 hin1 hd0 hd1 hab hl2
      have hxq : ab ≠ G := by have := HCd.out.k.ok ab hab9; have := HCd.out.lG; omega
      have hxw : w.heap.size ≠ G := by have := HCd.out.lG; omega
      have q9 : (fun W : World => W.cell? ⟨w.heap.size, 3, none⟩ = some (.slice (some ⟨ab, ao, none⟩) mt ct) ∧ W.cell? ⟨ab, ao, none⟩ = some (.int .i64 (argN t 0).kind) ∧ W.cell? ⟨ab, ao + 1, none⟩ = some (.string (argN t 0).name) ∧ W.cell? ⟨ab, ao + 2, none⟩ = some (.int .i64 (argN t 0).n) ∧ W.cell? ⟨ab, ao + 3, none⟩ = some (.slice gs0 ms0 cs0) ∧
        W.cell? ⟨ab, ao + 4, none⟩ = some (.int .i64 (argN t 1).kind) ∧ W.cell? ⟨ab, ao + 4 + 1, none⟩ = some (.string (argN t 1).name) ∧ W.cell? ⟨ab, ao + 4 + 2, none⟩ = some (.int .i64 (argN t 1).n) ∧ W.cell? ⟨ab, ao + 4 + 3, none⟩ = some (.slice gs1 ms1 cs1)) u1.drew := ⟨x3, q0, q1, q2, q3, p0, p1, p2, p3⟩
      have HQ9 := Lib.hid q9
      clear q0 q1 q2 q3 p0 p1 p2 p3 x3
      refine wp_region_held_drew (S := fun W => W.cell? ⟨w.heap.size, 3, none⟩ = some (.slice (some ⟨ab, ao, none⟩) mt ct) ∧ W.cell? ⟨ab, ao, none⟩ = some (.int .i64 (argN t 0).kind) ∧ W.cell? ⟨ab, ao + 1, none⟩ = some (.string (argN t 0).name) ∧ W.cell? ⟨ab, ao + 2, none⟩ = some (.int .i64 (argN t 0).n) ∧ W.cell? ⟨ab, ao + 3, none⟩ = some (.slice gs0 ms0 cs0) ∧
        W.cell? ⟨ab, ao + 4, none⟩ = some (.int .i64 (argN t 1).kind) ∧ W.cell? ⟨ab, ao + 4 + 1, none⟩ = some (.string (argN t 1).name) ∧ W.cell? ⟨ab, ao + 4 + 2, none⟩ = some (.int .i64 (argN t 1).n) ∧ W.cell? ⟨ab, ao + 4 + 3, none⟩ = some (.slice gs1 ms1 cs1)) (by kernel_rfl) q9 (fun hHeld => ?_)
      clear q9
      generalize u1.drew = X0 at HCd HCX HQ9 hHeld g0 g1 g2 g3 e0 e1 e2 e3 h0 h1 h2 h3 i0 i1 i2 i3 gl hl ⊢
    

      refine wpAnyH_take (i := 0) (oi := _) (v := ?_) rfl (by kernel_rfl) (by kernel_rfl) (by kernel_rfl) (fun _ _ _ h => h) (Or.inl ⟨by rfl, ?_⟩) hHeld ?_
      rotate_left
      · (intro W hSw; obtain ⟨k0, k1, k2, k3, k4, k5, k6, k7, k8⟩ := hSw; go_simp; try with_reducible rfl)
      try simp only [Act.put, List.setIfInBounds_toArray, List.set_cons_zero, List.set_cons_succ, List.getElem_toArray, List.getElem_cons_zero]
      refine wpAnyH_take (i := 1) (oi := _) (v := ?_) rfl (by kernel_rfl) (by kernel_rfl) (by kernel_rfl) (fun _ _ _ h => h) (Or.inl ⟨by rfl, ?_⟩) hHeld ?_
      rotate_left
      · (intro W hSw; obtain ⟨k0, k1, k2, k3, k4, k5, k6, k7, k8⟩ := hSw; go_simp; try with_reducible rfl)
      try simp only [Act.put, List.setIfInBounds_toArray, List.set_cons_zero, List.set_cons_succ, List.getElem_toArray, List.getElem_cons_zero, List.getElem_cons_succ]
      refine wpAnyH_take (i := 2) (oi := _) (v := ?_) rfl (by kernel_rfl) (by kernel_rfl) (by kernel_rfl) (fun _ _ _ h => h) (Or.inl ⟨by rfl, ?_⟩) hHeld ?_
      rotate_left
      · (intro W hSw; obtain ⟨k0, k1, k2, k3, k4, k5, k6, k7, k8⟩ := hSw; go_simp; try with_reducible rfl)
      try simp only [Act.put, List.setIfInBounds_toArray, List.set_cons_zero, List.set_cons_succ, List.getElem_toArray, List.getElem_cons_zero, List.getElem_cons_succ]
      refine wpAnyH_take (i := 3) (oi := _) (v := ?_) rfl (by kernel_rfl) (by kernel_rfl) (by kernel_rfl) (fun _ _ _ h => h) (Or.inl ⟨by rfl, ?_⟩) hHeld ?_
      rotate_left
      · (intro W hSw; obtain ⟨k0, k1, k2, k3, k4, k5, k6, k7, k8⟩ := hSw; go_simp; try with_reducible rfl)
      try simp only [Act.put, List.setIfInBounds_toArray, List.set_cons_zero, List.set_cons_succ, List.getElem_toArray, List.getElem_cons_zero, List.getElem_cons_succ]
      refine wpAnyH_take (i := 4) (oi := _) (v := ?_) rfl (by kernel_rfl) (by kernel_rfl) (by kernel_rfl) (fun _ _ _ h => h) (Or.inl ⟨by rfl, ?_⟩) hHeld ?_
      rotate_left
      · (intro W hSw; obtain ⟨k0, k1, k2, k3, k4, k5, k6, k7, k8⟩ := hSw; go_simp; try with_reducible rfl)
      try simp only [Act.put, List.setIfInBounds_toArray, List.set_cons_zero, List.set_cons_succ, List.getElem_toArray, List.getElem_cons_zero, List.getElem_cons_succ]
      refine wpAnyH_take (i := 5) (oi := _) (v := ?_) rfl (by kernel_rfl) (by kernel_rfl) (by kernel_rfl) (fun _ _ _ h => h) (Or.inl ⟨by rfl, ?_⟩) hHeld ?_
      rotate_left
      · (intro W hSw; obtain ⟨k0, k1, k2, k3, k4, k5, k6, k7, k8⟩ := hSw; go_simp; try with_reducible rfl)
      try simp only [Act.put, List.setIfInBounds_toArray, List.set_cons_zero, List.set_cons_succ, List.getElem_toArray, List.getElem_cons_zero, List.getElem_cons_succ]
      refine wpAnyH_take (i := 6) (oi := _) (v := ?_) rfl (by kernel_rfl) (by kernel_rfl) (by kernel_rfl) (fun _ _ _ h => h) (Or.inl ⟨by rfl, ?_⟩) hHeld ?_
      rotate_left
      · (intro W hSw; obtain ⟨k0, k1, k2, k3, k4, k5, k6, k7, k8⟩ := hSw; go_simp; try with_reducible rfl)
      try simp only [Act.put, List.setIfInBounds_toArray, List.set_cons_zero, List.set_cons_succ, List.getElem_toArray, List.getElem_cons_zero, List.getElem_cons_succ]
      refine wpAnyH_take (i := 7) (oi := _) (v := ?_) rfl (by kernel_rfl) (by kernel_rfl) (by kernel_rfl) (fun _ _ _ h => h) (Or.inl ⟨by rfl, ?_⟩) hHeld ?_
      rotate_left
      · (intro W hSw; obtain ⟨k0, k1, k2, k3, k4, k5, k6, k7, k8⟩ := hSw; go_simp; try with_reducible rfl)
      try simp only [Act.put, List.setIfInBounds_toArray, List.set_cons_zero, List.set_cons_succ, List.getElem_toArray, List.getElem_cons_zero, List.getElem_cons_succ]
      refine wpAnyH_take (i := 8) (oi := _) (v := ?_) rfl (by kernel_rfl) (by kernel_rfl) (by kernel_rfl) (fun _ _ _ h => h) (Or.inl ⟨by rfl, ?_⟩) hHeld ?_
      rotate_left
      · (intro W hSw; obtain ⟨k0, k1, k2, k3, k4, k5, k6, k7, k8⟩ := hSw; go_simp; try with_reducible rfl)
      try simp only [Act.put, List.setIfInBounds_toArray, List.set_cons_zero, List.set_cons_succ, List.getElem_toArray, List.getElem_cons_zero, List.getElem_cons_succ]
      refine wpAnyH_take (i := 9) (oi := _) (v := ?_) rfl (by kernel_rfl) (by kernel_rfl) (by kernel_rfl) (fun _ _ _ h => h) (Or.inl ⟨by rfl, ?_⟩) hHeld ?_
      rotate_left
      · (intro W hSw; obtain ⟨k0, k1, k2, k3, k4, k5, k6, k7, k8⟩ := hSw; go_simp; try with_reducible rfl)
      try simp only [Act.put, List.setIfInBounds_toArray, List.set_cons_zero, List.set_cons_succ, List.getElem_toArray, List.getElem_cons_zero, List.getElem_cons_succ]
      have hf1 := FrP.put4 X0 G (.int .i64 (argN t 0).kind) (.string (argN t 0).name) (.int .i64 (argN t 0).n) (.slice gs0 ms0 cs0)
      have hnH := (hf1.block _ hl (by omega)).trans HCd.out.bH
      obtain ⟨X1, hX1⟩ : ∃ X, put4 X0 G (.int .i64 (argN t 0).kind) (.string (argN t 0).name) (.int .i64 (argN t 0).n) (.slice gs0 ms0 cs0) = X := ⟨_, rfl⟩
      rw [hX1] at hf1 hnH HCX
      have hf2 := FrP.put4 X1 H (.int .i64 (argN t 1).kind) (.string (argN t 1).name) (.int .i64 (argN t 1).n) (.slice gs1 ms1 cs1)
      obtain ⟨X2, hX2⟩ : ∃ X, put4 X1 H (.int .i64 (argN t 1).kind) (.string (argN t 1).name) (.int .i64 (argN t 1).n) (.slice gs1 ms1 cs1) = X := ⟨_, rfl⟩
      rw [hX2] at hf2 HCX
      have hxq2 : ab ≠ H := by have := HCd.out.k.ok ab hab9; have := HCd.out.lH; omega
      have hxw2 : w.heap.size ≠ H := by have := HCd.out.lH; omega
      obtain ⟨k0, k1, k2, k3, k4, k5, k6, k7, k8⟩ := HQ9.out
      have hq1 := And.intro (hf1.cell k0 hxw) (And.intro (hf1.cell k1 hxq) (And.intro (hf1.cell k2 hxq) (And.intro (hf1.cell k3 hxq) (And.intro (hf1.cell k4 hxq) (And.intro (hf1.cell k5 hxq) (And.intro (hf1.cell k6 hxq) (And.intro (hf1.cell k7 hxq) (hf1.cell k8 hxq))))))))
      have hq2 := And.intro (hf2.cell hq1.1 hxw2) (And.intro (hf2.cell hq1.2.1 hxq2) (And.intro (hf2.cell hq1.2.2.1 hxq2) (And.intro (hf2.cell hq1.2.2.2.1 hxq2) (And.intro (hf2.cell hq1.2.2.2.2.1 hxq2) (And.intro (hf2.cell hq1.2.2.2.2.2.1 hxq2) (And.intro (hf2.cell hq1.2.2.2.2.2.2.1 hxq2) (And.intro (hf2.cell hq1.2.2.2.2.2.2.2.1 hxq2) (hf2.cell hq1.2.2.2.2.2.2.2.2 hxq2))))))))
      have HQ1 := Lib.hid hq1
      have HQ2 := Lib.hid hq2
      obtain ⟨⟨h0, h1, h2, h3⟩, i0, i1, i2, i3⟩ := row4 hnH
      have hlX := (Array.getElem?_eq_some_iff.1 hnH).1
      unfold put4 at hX1 hX2
      clear k0 k1 k2 k3 k4 k5 k6 k7 k8 hq1 hq2 hf1 hf2 hnH
      refine wpAnyH_ready (rs := [10]) (by kernel_rfl) (by simp) ?_
      refine AllReadyH.cons (o := _) rfl (fun K hK => ?_) AllReadyH.nil
      go_simp
      refine hK.out _ _ (HQ1.out) (fun hHeld => ?_)
      clear hK K
      try simp only [Act.put, List.setIfInBounds_toArray, List.set_cons_zero, List.set_cons_succ, List.getElem_toArray, List.getElem_cons_zero]
      refine wpAnyH_ready (rs := [11]) (by kernel_rfl) (by simp) ?_
      refine AllReadyH.cons (o := _) rfl (fun K hK => ?_) AllReadyH.nil
      go_simp
      refine hK.out _ _ (HQ2.out) (fun hHeld => ?_)
      clear hK K
      try simp only [Act.put, List.setIfInBounds_toArray, List.set_cons_zero, List.set_cons_succ, List.getElem_toArray, List.getElem_cons_zero]
      refine wpAnyH_done (by kernel_rfl) ?_ _
      clear h0 h1 h2 h3 i0 i1 i2 i3 hlX g0 g1 g2 g3 e0 e1 e2 e3 gl hl hne hxq hxw hxq2 hxw2 hX1 hX2 hHeld
      go_upto_region 4 with fail
    
      obtain ⟨⟨g0, g1, g2, g3⟩, -⟩ := row4 HCX.out.bG
      have gl := (Array.getElem?_eq_some_iff.1 HCX.out.bG).1
      have HPM := Lib.hid (pperm_any (headOf t) X2 (.slice gs0 ms0 cs0) (by rw [HHD.out]; exact HCX.out.inA) HCX.out.k.tb.tabs)
      rw [HHD.out] at HPM
      have HGL := Lib.hid (fun W (h : CB2 w t (.slice (some ⟨ab, ao, none⟩) mt ct) (.slice gn qn cn) okx G H (argN t 0) (argN t 1) (.slice gs0 ms0 cs0) (.slice gs1 ms1 cs1) W) => pgoals_any (argN t 1) W _ h.inB h.k.tb.tabs (by have := HZB.out; rw [HBD.out] at this; omega))
      rw [HHD.out, HBD.out] at HXC
      cases ho : ownB (argN t 0) with
      | false =>
        have HX := Lib.hid (show clauseE (t, ns) = .error 5 by rw [HXC.out, if_pos ho])
        rw [ho] at HPM
        clear ho
        go_wp2_with (go_at_call 22; (with_reducible refine (HPM.out).mono ?_); rintro e u8 ⟨rfl, hb⟩; have HC8 := Lib.hid (HCX.out.next hb); clear hb; obtain ⟨⟨z0, z1, z2, z3, z4, z5⟩, f0, f1, f2, f3, f4, f5⟩ := row6c HC8.out.k.bz; have zl := HC8.out.k.lt)
        have hz := set6_blk HC8.out.k.bz (.int .i64 0) (.string ⟨#[]⟩) (.int .i64 0) (.slice none 0 0) (.slice none 0 0) (.int .i64 0)
        have hfr := FrP.set6 u8 (w.heap.size + 1) (.int .i64 0) (.string ⟨#[]⟩) (.int .i64 0) (.slice none 0 0) (.slice none 0 0) (.int .i64 0)
        change bodyPost _ _ _ _ _ (set6 u8 (w.heap.size + 1) (.int .i64 0) (.string ⟨#[]⟩) (.int .i64 0) (.slice none 0 0) (.slice none 0 0) (.int .i64 0))
        obtain ⟨V, hV⟩ : ∃ V, set6 u8 (w.heap.size + 1) (.int .i64 0) (.string ⟨#[]⟩) (.int .i64 0) (.slice none 0 0) (.slice none 0 0) (.int .i64 0) = V := ⟨_, rfl⟩
        rw [hV] at hz hfr ⊢
        obtain ⟨⟨r0, r1, r2, r3, r4, r5⟩, -⟩ := row6c hz
        refine bodyPost_ret (v := .tuple #[.agg #[.int .i64 0, .string ⟨#[]⟩, .int .i64 0, .slice none 0 0, .slice none 0 0, .int .i64 ((0 : Nat) : Int)], .int .i64 ((5 : Nat) : Int)]) (by simp [results, Tryz.results29, go_sem, r0, r1, r2, r3, r4, r5]) rfl ?_
        exact ⟨HC8.out.k.low.trans ((hfr.mono (fun x _ e => by show w.heap.size ≤ x; omega)).to_below HC8.out.k.low.size), 0, ⟨#[]⟩, 0, none, 0, 0, none, 0, 0, 0, 5, rfl, by rw [HX.out]; exact ⟨rfl, by omega⟩⟩
      | true =>
      rw [ho] at HPM
      have HX := Lib.hid (show clauseE (t, ns) = match goalsE (argN t 1) with | .error q => .error q | .ok l => .ok ⟨argN t 0, l, (qn : Nat)⟩ by rw [HXC.out, if_neg (by rw [ho]; exact Bool.noConfusion)])
      clear ho
      go_upto_region 7 with (first | (go_at_call 22; (with_reducible refine (HPM.out).mono ?_); rintro e u8 ⟨rfl, hb⟩; have HC8 := Lib.hid (HCX.out.next hb); clear hb; obtain ⟨⟨z0, z1, z2, z3, z4, z5⟩, f0, f1, f2, f3, f4, f5⟩ := row6c HC8.out.k.bz; have zl := HC8.out.k.lt; obtain ⟨⟨h0, h1, h2, h3⟩, -⟩ := row4 HC8.out.bH; have hl := (Array.getElem?_eq_some_iff.1 HC8.out.bH).1) | (go_at_call 49; (with_reducible refine (HGL.out _ HC8.out).mono ?_); rintro e u9 ⟨hb, v9, c9, rfl, hm9⟩; have HC9 := Lib.hid (HC8.out.next hb); have HM9 := Lib.hid hm9; have hz89 := hb.size; clear hb hm9))
      clear z0 z1 z2 z3 z4 z5 f0 f1 f2 f3 f4 f5 zl h0 h1 h2 h3 hl g0 g1 g2 g3 gl
      obtain ⟨⟨g0, g1, g2, g3⟩, -⟩ := row4 HC9.out.bG
      have gl := (Array.getElem?_eq_some_iff.1 HC9.out.bG).1
      obtain ⟨⟨z0, z1, z2, z3, z4, z5⟩, f0, f1, f2, f3, f4, f5⟩ := row6c HC9.out.k.bz
      have zl := HC9.out.k.lt
      have n4 := HC9.out.k.c4
      obtain ⟨gv, mv, cv, hv9⟩ : ∃ g m c, v9 = .slice g m c := by
        have h9 := HM9.out
        split at h9
        · exact ⟨none, 0, 0, h9.2.2⟩
        · obtain ⟨g, c, e⟩ := h9.2.slice
          exact ⟨g, _, c, e⟩
      subst hv9
      go_wp2_with fail
      have hz := set6_blk HC9.out.k.bz (.int .i64 (argN t 0).kind) (.string (argN t 0).name) (.int .i64 (argN t 0).n) (.slice gs0 ms0 cs0) (.slice gv mv cv) (.int .i64 (qn : Nat))
      have hfr := FrP.set6 u9 (w.heap.size + 1) (.int .i64 (argN t 0).kind) (.string (argN t 0).name) (.int .i64 (argN t 0).n) (.slice gs0 ms0 cs0) (.slice gv mv cv) (.int .i64 (qn : Nat))
      change bodyPost _ _ _ _ _ (set6 u9 (w.heap.size + 1) (.int .i64 (argN t 0).kind) (.string (argN t 0).name) (.int .i64 (argN t 0).n) (.slice gs0 ms0 cs0) (.slice gv mv cv) (.int .i64 (qn : Nat)))
      obtain ⟨V, hV⟩ : ∃ V, set6 u9 (w.heap.size + 1) (.int .i64 (argN t 0).kind) (.string (argN t 0).name) (.int .i64 (argN t 0).n) (.slice gs0 ms0 cs0) (.slice gv mv cv) (.int .i64 (qn : Nat)) = V := ⟨_, rfl⟩
      rw [hV] at hz hfr ⊢
      obtain ⟨⟨r0, r1, r2, r3, r4, r5⟩, -⟩ := row6c hz
      refine bodyPost_ret (v := .tuple #[.agg #[.int .i64 (argN t 0).kind, .string (argN t 0).name, .int .i64 (argN t 0).n, .slice gs0 ms0 cs0, .slice gv mv cv, .int .i64 (qn : Nat)], .int .i64 (c9 : Nat)]) (by simp [results, Tryz.results29, go_sem, r0, r1, r2, r3, r4, r5]) rfl ?_
      refine ⟨HC9.out.k.low.trans ((hfr.mono (fun x _ e => by show w.heap.size ≤ x; omega)).to_below HC9.out.k.low.size), _, _, _, _, _, _, _, _, _, qn, c9, rfl, ?_⟩
      have h9 := HM9.out
      rw [HX.out]
      cases hg : goalsE (argN t 1) with
      | error r =>
        rw [hg] at h9
        exact ⟨h9.1, h9.2.1⟩
      | ok l =>
        rw [hg] at h9
        have hls := HC8.out.k.lt
        refine ⟨h9.1, rfl, rfl, rfl, rfl, Tm.innP_same (fun _ h => h) (fun b o v hb hc => hfr.cell hc (by have := HC9.out.k.ok b hb; omega)) _ _ HC9.out.ia, ?_⟩
        exact (h9.2.keep hfr.size (fun b h1 h2 => hfr.block b h2 (by omega))).low (by omega)
    | false =>
      have HHD := Lib.hid (show headOf t = t by unfold headOf; rw [if_neg (by rw [hb]; exact Bool.noConfusion)])
      have HBD := Lib.hid (show bodyOf t = trueT by unfold bodyOf; rw [if_neg (by rw [hb]; exact Bool.noConfusion)])
      rw [hb] at HIS
      clear hb
      go_upto_region 4 with (go_at_call 48; (with_reducible refine (HIS.out _ HC.out.k).mono ?_); rintro e u1 ⟨rfl, hb⟩; have HC1 := Lib.hid (HC.out.next hb); clear hb x0 x1 x2 x3 xl)
      obtain ⟨⟨g0, g1, g2, g3⟩, -⟩ := row4 HC1.out.bG
      have gl := (Array.getElem?_eq_some_iff.1 HC1.out.bG).1
      have HPM := Lib.hid (pperm_any (headOf t) u1 (.slice gt mt ct) (by rw [HHD.out]; exact HC1.out.inA) HC1.out.k.tb.tabs)
      rw [HHD.out] at HPM
      have HGL := Lib.hid (fun W (h : CB2 w t (.slice gt mt ct) (.slice gn qn cn) okx G H (t) (trueT) (.slice gt mt ct) (.slice none 0 0) W) => pgoals_any (trueT) W _ h.inB h.k.tb.tabs (by have := HZB.out; rw [HBD.out] at this; omega))
      rw [HHD.out, HBD.out] at HXC
      cases ho : ownB (t) with
      | false =>
        have HX := Lib.hid (show clauseE (t, ns) = .error 5 by rw [HXC.out, if_pos ho])
        rw [ho] at HPM
        clear ho
        go_wp2_with (go_at_call 22; (with_reducible refine (HPM.out).mono ?_); rintro e u8 ⟨rfl, hb⟩; have HC8 := Lib.hid (HC1.out.next hb); clear hb; obtain ⟨⟨z0, z1, z2, z3, z4, z5⟩, f0, f1, f2, f3, f4, f5⟩ := row6c HC8.out.k.bz; have zl := HC8.out.k.lt)
        have hz := set6_blk HC8.out.k.bz (.int .i64 0) (.string ⟨#[]⟩) (.int .i64 0) (.slice none 0 0) (.slice none 0 0) (.int .i64 0)
        have hfr := FrP.set6 u8 (w.heap.size + 1) (.int .i64 0) (.string ⟨#[]⟩) (.int .i64 0) (.slice none 0 0) (.slice none 0 0) (.int .i64 0)
        change bodyPost _ _ _ _ _ (set6 u8 (w.heap.size + 1) (.int .i64 0) (.string ⟨#[]⟩) (.int .i64 0) (.slice none 0 0) (.slice none 0 0) (.int .i64 0))
        obtain ⟨V, hV⟩ : ∃ V, set6 u8 (w.heap.size + 1) (.int .i64 0) (.string ⟨#[]⟩) (.int .i64 0) (.slice none 0 0) (.slice none 0 0) (.int .i64 0) = V := ⟨_, rfl⟩
        rw [hV] at hz hfr ⊢
        obtain ⟨⟨r0, r1, r2, r3, r4, r5⟩, -⟩ := row6c hz
        refine bodyPost_ret (v := .tuple #[.agg #[.int .i64 0, .string ⟨#[]⟩, .int .i64 0, .slice none 0 0, .slice none 0 0, .int .i64 ((0 : Nat) : Int)], .int .i64 ((5 : Nat) : Int)]) (by simp [results, Tryz.results29, go_sem, r0, r1, r2, r3, r4, r5]) rfl ?_
        exact ⟨HC8.out.k.low.trans ((hfr.mono (fun x _ e => by show w.heap.size ≤ x; omega)).to_below HC8.out.k.low.size), 0, ⟨#[]⟩, 0, none, 0, 0, none, 0, 0, 0, 5, rfl, by rw [HX.out]; exact ⟨rfl, by omega⟩⟩
      | true =>
      rw [ho] at HPM
      have HX := Lib.hid (show clauseE (t, ns) = match goalsE (trueT) with | .error q => .error q | .ok l => .ok ⟨t, l, (qn : Nat)⟩ by rw [HXC.out, if_neg (by rw [ho]; exact Bool.noConfusion)])
      clear ho
      go_upto_region 7 with (first | (go_at_call 22; (with_reducible refine (HPM.out).mono ?_); rintro e u8 ⟨rfl, hb⟩; have HC8 := Lib.hid (HC1.out.next hb); clear hb; obtain ⟨⟨z0, z1, z2, z3, z4, z5⟩, f0, f1, f2, f3, f4, f5⟩ := row6c HC8.out.k.bz; have zl := HC8.out.k.lt; obtain ⟨⟨h0, h1, h2, h3⟩, -⟩ := row4 HC8.out.bH; have hl := (Array.getElem?_eq_some_iff.1 HC8.out.bH).1) | (go_at_call 49; (with_reducible refine (HGL.out _ HC8.out).mono ?_); rintro e u9 ⟨hb, v9, c9, rfl, hm9⟩; have HC9 := Lib.hid (HC8.out.next hb); have HM9 := Lib.hid hm9; have hz89 := hb.size; clear hb hm9))
      clear z0 z1 z2 z3 z4 z5 f0 f1 f2 f3 f4 f5 zl h0 h1 h2 h3 hl g0 g1 g2 g3 gl
      obtain ⟨⟨g0, g1, g2, g3⟩, -⟩ := row4 HC9.out.bG
      have gl := (Array.getElem?_eq_some_iff.1 HC9.out.bG).1
      obtain ⟨⟨z0, z1, z2, z3, z4, z5⟩, f0, f1, f2, f3, f4, f5⟩ := row6c HC9.out.k.bz
      have zl := HC9.out.k.lt
      have n4 := HC9.out.k.c4
      obtain ⟨gv, mv, cv, hv9⟩ : ∃ g m c, v9 = .slice g m c := by
        have h9 := HM9.out
        split at h9
        · exact ⟨none, 0, 0, h9.2.2⟩
        · obtain ⟨g, c, e⟩ := h9.2.slice
          exact ⟨g, _, c, e⟩
      subst hv9
      go_wp2_with fail
      have hz := set6_blk HC9.out.k.bz (.int .i64 (t).kind) (.string (t).name) (.int .i64 (t).n) (.slice gt mt ct) (.slice gv mv cv) (.int .i64 (qn : Nat))
      have hfr := FrP.set6 u9 (w.heap.size + 1) (.int .i64 (t).kind) (.string (t).name) (.int .i64 (t).n) (.slice gt mt ct) (.slice gv mv cv) (.int .i64 (qn : Nat))
      change bodyPost _ _ _ _ _ (set6 u9 (w.heap.size + 1) (.int .i64 (t).kind) (.string (t).name) (.int .i64 (t).n) (.slice gt mt ct) (.slice gv mv cv) (.int .i64 (qn : Nat)))
      obtain ⟨V, hV⟩ : ∃ V, set6 u9 (w.heap.size + 1) (.int .i64 (t).kind) (.string (t).name) (.int .i64 (t).n) (.slice gt mt ct) (.slice gv mv cv) (.int .i64 (qn : Nat)) = V := ⟨_, rfl⟩
      rw [hV] at hz hfr ⊢
      obtain ⟨⟨r0, r1, r2, r3, r4, r5⟩, -⟩ := row6c hz
      refine bodyPost_ret (v := .tuple #[.agg #[.int .i64 (t).kind, .string (t).name, .int .i64 (t).n, .slice gt mt ct, .slice gv mv cv, .int .i64 (qn : Nat)], .int .i64 (c9 : Nat)]) (by simp [results, Tryz.results29, go_sem, r0, r1, r2, r3, r4, r5]) rfl ?_
      refine ⟨HC9.out.k.low.trans ((hfr.mono (fun x _ e => by show w.heap.size ≤ x; omega)).to_below HC9.out.k.low.size), _, _, _, _, _, _, _, _, _, qn, c9, rfl, ?_⟩
      have h9 := HM9.out
      rw [HX.out]
      cases hg : goalsE (trueT) with
      | error r =>
        rw [hg] at h9
        exact ⟨h9.1, h9.2.1⟩
      | ok l =>
        rw [hg] at h9
        have hls := HC8.out.k.lt
        refine ⟨h9.1, rfl, rfl, rfl, rfl, Tm.innP_same (fun _ h => h) (fun b o v hb hc => hfr.cell hc (by have := HC9.out.k.ok b hb; omega)) _ _ HC9.out.ia, ?_⟩
        exact (h9.2.keep hfr.size (fun b h1 h2 => hfr.block b h2 (by omega))).low (by omega)
end Go.Proofs.YtkjnjahmlobjiaaGreatDoor
