/-
  The program's checker: a goal.
-/
import Derived.Test.YtkjnjahmlobjiaaGreatDoorG08
import Derived.Test.YtkjnjahmlobjiaaGreatDoorG09
namespace Go.Proofs.YtkjnjahmlobjiaaGreatDoor
open Go.RowKit

/-- The tables lie below B and are left alone. -/
def TabsLo (w : World) (B : Nat) : Prop := ∃ w0, Tabs w0 ∧ w0.heap.size ≤ B ∧ w0.heap.size ≤ w.heap.size ∧ ∀ b, b < w0.heap.size → w.heap[b]? = w0.heap[b]?
theorem TabAt.of_eq {w0 w : World} {g : Nat} {l : PTab} (h : TabAt w0 g l) (hs : w0.heap.size ≤ w.heap.size) (he : ∀ b, b < w0.heap.size → w.heap[b]? = w0.heap[b]?) : TabAt w g l := by
  obtain ⟨R, off, cap, h1, h2, h3, h4⟩ := h
  have hc : ∀ (b o : Nat) (v : Value), w0.cell? ⟨b, o, none⟩ = some v → w.cell? ⟨b, o, none⟩ = some v := fun b o v hv => (World.cell?_of_block (a := ⟨b, o, none⟩) (he b (World.block_lt_of_cell? w0 _ hv))).trans hv
  exact ⟨R, off, cap, hc _ _ _ h1, Nat.lt_of_lt_of_le h2 hs, h3, fun i hi => ⟨hc _ _ _ (h4 i hi).1, hc _ _ _ (h4 i hi).2⟩⟩
theorem TabsLo.tabs {w : World} {B : Nat} (h : TabsLo w B) : Tabs w := by
  obtain ⟨w0, h1, _, h3, h4⟩ := h
  exact ⟨h1.blt.of_eq h3 h4, h1.ctl.of_eq h3 h4⟩
theorem TabsLo.of {w : World} {B : Nat} (h : Tabs w) (hB : w.heap.size ≤ B) : TabsLo w B := ⟨w, h, hB, Nat.le_refl _, fun _ _ => rfl⟩
theorem TabsLo.mv {P : Nat → Prop} {w w' : World} {B : Nat} (h : TabsLo w B) (hf : FrP P w w') (hP : ∀ b, P b → B ≤ b) : TabsLo w' B := by
  obtain ⟨w0, h1, h2, h3, h4⟩ := h
  exact ⟨w0, h1, h2, Nat.le_trans h3 hf.size, fun b hb => (hf.block b (by omega) (fun hp => by have := hP b hp; omega)).trans (h4 b hb)⟩
theorem fr_cell {P : Nat → Prop} {w w' : World} {B : Nat} (hf : FrP P w w') (hP : ∀ b, P b → B ≤ b) : ∀ bk o v, bk < B → w.cell? ⟨bk, o, none⟩ = some v → w'.cell? ⟨bk, o, none⟩ = some v :=
  fun bk _ _ hb hc => hf.cell hc (fun hp => by have := hP bk hp; omega)
theorem Gl.sliceIn_fr {P : Nat → Prop} {w w' : World} {B : Nat} {l : List Gl} {v : Value} (h : Gl.sliceIn w B l v) (hf : FrP P w w') (hP : ∀ b, P b → B ≤ b) : Gl.sliceIn w' B l v :=
  Gl.sliceIn_same (fun g _ => Gl.inn_same (Nat.le_refl _) (fr_cell hf hP) g) (Nat.le_refl _) (fr_cell hf hP) h
theorem Gl.inn_fr {P : Nat → Prop} {w w' : World} {B : Nat} {g : Gl} {sv av bv cv : Value} (h : Gl.inn w B g sv av bv cv) (hf : FrP P w w') (hP : ∀ b, P b → B ≤ b) : Gl.inn w' B g sv av bv cv :=
  Gl.inn_same (Nat.le_refl _) (fr_cell hf hP) g _ _ _ _ h
/-- A checker, and a goal in a box of the call's own. -/
structure CS (w0 : World) (g : Gl) (sv av bv cv : Value) (gx bx B : Nat) (b n : Int) (W : World) : Prop where
  fr : FrP (fun x => x = bx) w0 W
  ck : Ck W bx b n
  bk : W.heap[gx]? = some (.cells #[.int .i64 g.kind, .int .i64 g.t.kind, .string g.t.name, .int .i64 g.t.n, sv, av, bv, cv] 49 (0, 0))
  ne : gx ≠ bx
  le : B ≤ bx
  hi : Gl.inn W B g sv av bv cv
  tb : TabsLo W B
section
variable {w0 : World} {g : Gl} {sv av bv cv : Value} {gx bx B : Nat} {b n : Int} {W : World} (h : CS w0 g sv av bv cv gx bx B b n W)
include h
theorem CS.lt : gx < W.heap.size := (Array.getElem?_eq_some_iff.1 h.bk).1
theorem CS.c0 : W.cell? ⟨gx, 0, none⟩ = some (.int .i64 g.kind) := by simp [World.cell?, h.bk]
theorem CS.c1 : W.cell? ⟨gx, 1, none⟩ = some (.int .i64 g.t.kind) := by simp [World.cell?, h.bk]
theorem CS.c2 : W.cell? ⟨gx, 2, none⟩ = some (.string g.t.name) := by simp [World.cell?, h.bk]
theorem CS.c3 : W.cell? ⟨gx, 3, none⟩ = some (.int .i64 g.t.n) := by simp [World.cell?, h.bk]
theorem CS.c4 : W.cell? ⟨gx, 4, none⟩ = some sv := by simp [World.cell?, h.bk]
theorem CS.c5 : W.cell? ⟨gx, 5, none⟩ = some av := by simp [World.cell?, h.bk]
theorem CS.c6 : W.cell? ⟨gx, 6, none⟩ = some bv := by simp [World.cell?, h.bk]
theorem CS.c7 : W.cell? ⟨gx, 7, none⟩ = some cv := by simp [World.cell?, h.bk]
theorem CS.mv {W' : World} {b' : Int} (hf : FrP (fun x => x = bx) W W') (hk : Ck W' bx b' n) : CS w0 g sv av bv cv gx bx B b' n W' :=
  ⟨h.fr.trans hf (fun _ _ e => e) (fun _ _ e => e), hk, (hf.block _ h.lt h.ne).trans h.bk, h.ne, h.le, Gl.inn_fr h.hi hf (fun x e => by have := h.le; omega), h.tb.mv hf (fun x e => by have := h.le; omega)⟩
theorem CS.quiet {W' : World} (hb : Below W.heap.size W W') : CS w0 g sv av bv cv gx bx B b n W' := h.mv ((FrP.of_below hb).mono (fun _ _ e => e.elim)) (h.ck.next hb)
theorem CS.B_le : B ≤ W.heap.size := Nat.le_trans h.le (Nat.le_of_lt h.ck.lt)
theorem CS.it : Tm.inn W W.heap.size g.t sv := Tm.inn_mono (Gl.inn_iff.1 h.hi).2.1 h.B_le
theorem CS.ia : Gl.sliceIn W B g.a av := (Gl.inn_iff.1 h.hi).2.2.1
theorem CS.ib : Gl.sliceIn W B g.b bv := (Gl.inn_iff.1 h.hi).2.2.2.1
theorem CS.ic : Gl.sliceIn W B g.c cv := (Gl.inn_iff.1 h.hi).2.2.2.2
end
theorem CS.new {w : World} {g : Gl} {sv av bv cv : Value} {bx B : Nat} {b n : Int} (hi : Gl.inn w B g sv av bv cv) (hle : B ≤ bx) (hk : Ck w bx b n) (ht : TabsLo w B) :
    CS w g sv av bv cv w.heap.size bx B b n (w.alloc (.cells #[.int .i64 g.kind, .int .i64 g.t.kind, .string g.t.name, .int .i64 g.t.n, sv, av, bv, cv] 49)) := by
  have hb := (Below.refl w.heap.size w).alloc (Nat.le_refl _) (.cells #[.int .i64 g.kind, .int .i64 g.t.kind, .string g.t.name, .int .i64 g.t.n, sv, av, bv, cv] 49)
  have hf : FrP (fun x => x = bx) w _ := (FrP.of_below hb).mono (fun _ _ e => e.elim)
  have hlt := hk.lt
  exact ⟨hf, hk.next hb, heap_alloc_new w _, by omega, hle, Gl.inn_fr hi hf (fun x e => by omega), ht.mv hf (fun x e => by omega)⟩
def CkL (l : List Gl) : Prop := ∀ (w : World) (v : Value) (bx B : Nat) (b n ins : Int) (cut : Bool), Gl.sliceIn w B l v → B ≤ bx → Ck w bx b n → TabsLo w B → 0 ≤ b → b ≤ 20 → 0 ≤ ins → ins ≤ 100 →
  Calls Tryz.prog 24 #[.pointer (some ⟨bx, 0, none⟩), v, .int .i64 ins, .bool cut] w fun e w' => ∃ b', e = .returned (.bool (okC (cntL l n (ins + 1) cut) b)) ∧ Ck w' bx b' n ∧ (okC (cntL l n (ins + 1) cut) b = true → b' = b + cntL l n (ins + 1) cut) ∧ FrP (fun x => x = bx) w w'
def CkG (g : Gl) : Prop := ∀ (w : World) (sv av bv cv : Value) (bx B : Nat) (b n ins : Int) (cut : Bool), Gl.inn w B g sv av bv cv → B ≤ bx → Ck w bx (b + 1) n → TabsLo w B → 0 ≤ b → b + 1 ≤ 20 → 0 ≤ ins → ins ≤ 9 →
  Calls Tryz.prog 38 #[.pointer (some ⟨bx, 0, none⟩), .agg #[.int .i64 g.kind, .int .i64 g.t.kind, .string g.t.name, .int .i64 g.t.n, sv, av, bv, cv], .int .i64 ins, .bool cut] w fun e w' => ∃ b', e = .returned (.bool (okC (cntG g n (ins + 1) cut) b)) ∧ Ck w' bx b' n ∧ (okC (cntG g n (ins + 1) cut) b = true → b' = b + cntG g n (ins + 1) cut) ∧ FrP (fun x => x = bx) w w'
theorem pempty3 (a b c : Nat) (ga gb gc : Option Addr) (ca cb cc : Nat) (h1 : a ≤ 1034834473200) (h2 : b ≤ 1034834473200) (h3 : c ≤ 1034834473200) (W : World) :
    Calls Tryz.prog 52 #[.slice (some ⟨W.heap.size, 0, none⟩) 3 3] (W.alloc (.cells #[.slice ga a ca, .slice gb b cb, .slice gc c cc] 35)) fun e w' => e = .returned (.bool ([a, b, c].all (fun x => decide (x = 0)))) ∧ Below W.heap.size W w' := by
  have hb := (Below.refl W.heap.size W).alloc (Nat.le_refl _) (.cells #[.slice ga a ca, .slice gb b cb, .slice gc c cc] 35)
  have hn := heap_alloc_new W (.cells #[.slice ga a ca, .slice gb b cb, .slice gc c cc] 35)
  generalize W.alloc (.cells #[.slice ga a ca, .slice gb b cb, .slice gc c cc] 35) = V at hb hn ⊢
  refine (pempty_any [a, b, c] _ W.heap.size (Array.getElem?_eq_some_iff.1 hn).1 (by simp) (by simp; omega) ?_).mono fun e w' ⟨h4, h5⟩ => ⟨h4, hb.trans (h5.mono hb.size)⟩
  intro i hi
  match i, hi with
  | 0, _ => exact ⟨ga, ca, by simp [World.cell?, hn]⟩
  | 1, _ => exact ⟨gb, cb, by simp [World.cell?, hn]⟩
  | 2, _ => exact ⟨gc, cc, by simp [World.cell?, hn]⟩
  | i + 3, h => exact absurd h (by simp)
theorem pempty2 (b c : Nat) (gb gc : Option Addr) (cb cc : Nat) (h2 : b ≤ 1034834473200) (h3 : c ≤ 1034834473200) (W : World) :
    Calls Tryz.prog 52 #[.slice (some ⟨W.heap.size, 0, none⟩) 2 2] (W.alloc (.cells #[.slice gb b cb, .slice gc c cc] 35)) fun e w' => e = .returned (.bool ([b, c].all (fun x => decide (x = 0)))) ∧ Below W.heap.size W w' := by
  have hb := (Below.refl W.heap.size W).alloc (Nat.le_refl _) (.cells #[.slice gb b cb, .slice gc c cc] 35)
  have hn := heap_alloc_new W (.cells #[.slice gb b cb, .slice gc c cc] 35)
  generalize W.alloc (.cells #[.slice gb b cb, .slice gc c cc] 35) = V at hb hn ⊢
  refine (pempty_any [b, c] _ W.heap.size (Array.getElem?_eq_some_iff.1 hn).1 (by simp) (by simp; omega) ?_).mono fun e w' ⟨h4, h5⟩ => ⟨h4, hb.trans (h5.mono hb.size)⟩
  intro i hi
  match i, hi with
  | 0, _ => exact ⟨gb, cb, by simp [World.cell?, hn]⟩
  | 1, _ => exact ⟨gc, cc, by simp [World.cell?, hn]⟩
  | i + 2, h => exact absurd h (by simp)
set_option maxRecDepth 100000 in
set_option maxHeartbeats 32000000 in
theorem ckg_of (g : Gl) (ha : CkL g.a) (hb : CkL g.b) (hc : CkL g.c) (hsz : g.t.size ≤ 999999) : CkG g := by
  intro w sv av bv cv bx B b n ins cut hin hle hk ht hb0 hb1 hi0 hi1
  obtain ⟨_, gt, ct, rfl, -, hmt, -⟩ := Tm.inn_iff.1 (Gl.inn_iff.1 hin).2.1
  obtain ⟨ga, ca, rfl, -, hma, -⟩ := id (Gl.inn_iff.1 hin).2.2.1
  obtain ⟨gb, cb, rfl, -, hmb, -⟩ := id (Gl.inn_iff.1 hin).2.2.2.1
  obtain ⟨gc, cc, rfl, -, hmc, -⟩ := id (Gl.inn_iff.1 hin).2.2.2.2
  have hma : g.a.length ≤ 1034834473200 := hma
  have hmb : g.b.length ≤ 1034834473200 := hmb
  have hmc : g.c.length ≤ 1034834473200 := hmc
  have HS := Lib.hid (CS.new hin hle hk ht)
  have HKA := Lib.hid ha
  have HKB := Lib.hid hb
  have HKC := Lib.hid hc
  have HL3 := Lib.hid (pempty3 g.a.length g.b.length g.c.length ga gb gc ca cb cc hma hmb hmc)
  have HL2 := Lib.hid (pempty2 g.b.length g.c.length gb gc cb cc hmb hmc)
  have hng : [g.a.length, g.b.length, g.c.length].all (fun x => decide (x = 0)) = noneG g := rfl
  have hnb : [g.b.length, g.c.length].all (fun x => decide (x = 0)) = noneB g := rfl
  rw [hng] at HL3
  rw [hnb] at HL2
  have HPM := Lib.hid (fun (b9 : Int) W (h : CS w g (.slice gt g.t.args.length ct) (.slice ga g.a.length ca) (.slice gb g.b.length cb) (.slice gc g.c.length cc) w.heap.size bx B b9 n W) => pperm_any g.t W _ h.it h.tb.tabs)
  have HPV := Lib.hid (fun (b9 : Int) W (h : CS w g (.slice gt g.t.args.length ct) (.slice ga g.a.length ca) (.slice gb g.b.length cb) (.slice gc g.c.length cc) w.heap.size bx B b9 n W) => pterm_ck g.t W _ bx b9 n h.it h.ck hsz)
  have HPP := Lib.hid (fun (b9 : Int) W (h : CS w g (.slice gt g.t.args.length ct) (.slice ga g.a.length ca) (.slice gb g.b.length cb) (.slice gc g.c.length cc) w.heap.size bx B b9 n W) => ppred_any g.t W _ h.it)
  have HPB := Lib.hid (fun (b9 : Int) W (h : CS w g (.slice gt g.t.args.length ct) (.slice ga g.a.length ca) (.slice gb g.b.length cb) (.slice gc g.c.length cc) w.heap.size bx B b9 n W) => pblt_any g.t.name g.t.args.length W h.tb.tabs.blt)
  have HPN := Lib.hid (fun (b9 : Int) W (h : CS w g (.slice gt g.t.args.length ct) (.slice ga g.a.length ca) (.slice gb g.b.length cb) (.slice gc g.c.length cc) w.heap.size bx B b9 n W) => pnone_any g.t W _ h.it)
  clear hin hk ht ha hb hc hle hng hnb
  have hgb := @okG_does g n (ins + 1) b cut
  obtain ⟨mt, hmt9⟩ : ∃ m, g.t.args.length = m := ⟨_, rfl⟩
  obtain ⟨ma, hma9⟩ : ∃ m, g.a.length = m := ⟨_, rfl⟩
  obtain ⟨mb, hmb9⟩ : ∃ m, g.b.length = m := ⟨_, rfl⟩
  obtain ⟨mc, hmc9⟩ : ∃ m, g.c.length = m := ⟨_, rfl⟩
  rw [hmt9] at HPM HPV HPP HPB HPN HS hmt hgb
  rw [hma9] at HL3 HPM HPV HPP HPB HPN HS hma
  rw [hmb9] at HL3 HL2 HPM HPV HPP HPB HPN HS hmb
  rw [hmc9] at HL3 HL2 HPM HPV HPP HPB HPN HS hmc
  rw [hmt9, hma9, hmb9, hmc9]
  clear hmt9 hma9 hmb9 hmc9
  have HGB := Lib.hid hgb
  clear hgb
  have hw1 : IntKind.i64.wrap (ins + 1) = ins + 1 := by rw [IntKind.wrap_i64]; omega
  go_enter Tryz.func38, Tryz.ntmps38
  go_upto_region 1 with fail
  have HS0 := Lib.hid (show CS w g (.slice gt mt ct) (.slice ga ma ca) (.slice gb mb cb) (.slice gc mc cc) w.heap.size bx B (b + 1) n (w.alloc (.cells #[.int .i64 g.kind, .int .i64 g.t.kind, .string g.t.name, .int .i64 g.t.n, .slice gt mt ct, .slice ga ma ca, .slice gb mb cb, .slice gc mc cc] 49)) from HS.out)
  generalize w.alloc (.cells #[.int .i64 g.kind, .int .i64 g.t.kind, .string g.t.name, .int .i64 g.t.n, .slice gt mt ct, .slice ga ma ca, .slice gb mb cb, .slice gc mc cc] 49) = u0 at HS0 ⊢
  clear HS
  have x0 : u0.cell? ⟨w.heap.size, 0, none⟩ = some (.int .i64 g.kind) := HS0.out.c0; have x1 : u0.cell? ⟨w.heap.size, 1, none⟩ = some (.int .i64 g.t.kind) := HS0.out.c1; have x2 : u0.cell? ⟨w.heap.size, 2, none⟩ = some (.string g.t.name) := HS0.out.c2; have x3 : u0.cell? ⟨w.heap.size, 3, none⟩ = some (.int .i64 g.t.n) := HS0.out.c3; have x4 : u0.cell? ⟨w.heap.size, 4, none⟩ = some (.slice gt mt ct) := HS0.out.c4; have x5 : u0.cell? ⟨w.heap.size, 5, none⟩ = some (.slice ga ma ca) := HS0.out.c5; have x6 : u0.cell? ⟨w.heap.size, 6, none⟩ = some (.slice gb mb cb) := HS0.out.c6; have x7 : u0.cell? ⟨w.heap.size, 7, none⟩ = some (.slice gc mc cc) := HS0.out.c7; have xl := HS0.out.lt
  by_cases hk1 : g.kind = 1
  · rw [hk1] at x0
    obtain ⟨hx, hy⟩ := @okG_call g n (ins + 1) b cut hk1 hb1
    have HX := Lib.hid hx
    have HY := Lib.hid hy
    clear hx hy hk1 HGB HKA HKB HKC HPP HPB HPN HL2
    generalize ownB g.t = xo at HPM HX
    generalize varsB g.t n = xv at HPV HX
    generalize noneG g = xe at HL3 HX
    cases xo with
    | false =>
      have HF := Lib.hid (show okC (cntG g n (ins + 1) cut) b = false by rw [HX.out]; rfl)
      go_wp2_with (go_at_call 22; (with_reducible refine (HPM.out _ _ HS0.out).mono ?_); rintro e u1 ⟨rfl, hb⟩; have HS1 := Lib.hid (HS0.out.quiet hb); clear hb; have y10 : u1.cell? ⟨w.heap.size, 0, none⟩ = some (.int .i64 g.kind) := HS1.out.c0; have y11 : u1.cell? ⟨w.heap.size, 1, none⟩ = some (.int .i64 g.t.kind) := HS1.out.c1; have y12 : u1.cell? ⟨w.heap.size, 2, none⟩ = some (.string g.t.name) := HS1.out.c2; have y13 : u1.cell? ⟨w.heap.size, 3, none⟩ = some (.int .i64 g.t.n) := HS1.out.c3; have y14 : u1.cell? ⟨w.heap.size, 4, none⟩ = some (.slice gt mt ct) := HS1.out.c4; have y15 : u1.cell? ⟨w.heap.size, 5, none⟩ = some (.slice ga ma ca) := HS1.out.c5; have y16 : u1.cell? ⟨w.heap.size, 6, none⟩ = some (.slice gb mb cb) := HS1.out.c6; have y17 : u1.cell? ⟨w.heap.size, 7, none⟩ = some (.slice gc mc cc) := HS1.out.c7; have y1l := HS1.out.lt)
      go_ret
      exact ⟨_, by rw [HF.out]; rfl, HS1.out.ck, fun h => by (rw [HF.out] at h; exact absurd h Bool.false_ne_true), HS1.out.fr⟩
    | true =>
    cases xv with
    | false =>
      have HF := Lib.hid (show okC (cntG g n (ins + 1) cut) b = false by rw [HX.out]; rfl)
      go_wp2_with (first | (go_at_call 22; (with_reducible refine (HPM.out _ _ HS0.out).mono ?_); rintro e u1 ⟨rfl, hb⟩; have HS1 := Lib.hid (HS0.out.quiet hb); clear hb; have y10 : u1.cell? ⟨w.heap.size, 0, none⟩ = some (.int .i64 g.kind) := HS1.out.c0; have y11 : u1.cell? ⟨w.heap.size, 1, none⟩ = some (.int .i64 g.t.kind) := HS1.out.c1; have y12 : u1.cell? ⟨w.heap.size, 2, none⟩ = some (.string g.t.name) := HS1.out.c2; have y13 : u1.cell? ⟨w.heap.size, 3, none⟩ = some (.int .i64 g.t.n) := HS1.out.c3; have y14 : u1.cell? ⟨w.heap.size, 4, none⟩ = some (.slice gt mt ct) := HS1.out.c4; have y15 : u1.cell? ⟨w.heap.size, 5, none⟩ = some (.slice ga ma ca) := HS1.out.c5; have y16 : u1.cell? ⟨w.heap.size, 6, none⟩ = some (.slice gb mb cb) := HS1.out.c6; have y17 : u1.cell? ⟨w.heap.size, 7, none⟩ = some (.slice gc mc cc) := HS1.out.c7; have y1l := HS1.out.lt) | (go_at_call 23; (with_reducible refine (HPV.out _ _ HS1.out).mono ?_); rintro e u2 ⟨rfl, hb⟩; have HS2 := Lib.hid (HS1.out.quiet hb); clear hb; have y20 : u2.cell? ⟨w.heap.size, 0, none⟩ = some (.int .i64 g.kind) := HS2.out.c0; have y21 : u2.cell? ⟨w.heap.size, 1, none⟩ = some (.int .i64 g.t.kind) := HS2.out.c1; have y22 : u2.cell? ⟨w.heap.size, 2, none⟩ = some (.string g.t.name) := HS2.out.c2; have y23 : u2.cell? ⟨w.heap.size, 3, none⟩ = some (.int .i64 g.t.n) := HS2.out.c3; have y24 : u2.cell? ⟨w.heap.size, 4, none⟩ = some (.slice gt mt ct) := HS2.out.c4; have y25 : u2.cell? ⟨w.heap.size, 5, none⟩ = some (.slice ga ma ca) := HS2.out.c5; have y26 : u2.cell? ⟨w.heap.size, 6, none⟩ = some (.slice gb mb cb) := HS2.out.c6; have y27 : u2.cell? ⟨w.heap.size, 7, none⟩ = some (.slice gc mc cc) := HS2.out.c7; have y2l := HS2.out.lt))
      go_ret
      exact ⟨_, by rw [HF.out]; rfl, HS2.out.ck, fun h => by (rw [HF.out] at h; exact absurd h Bool.false_ne_true), HS2.out.fr⟩
    | true =>
    have HF := Lib.hid (show okC (cntG g n (ins + 1) cut) b = xe by rw [HX.out]; rfl)
    go_wp2_with (first | (go_at_call 22; (with_reducible refine (HPM.out _ _ HS0.out).mono ?_); rintro e u1 ⟨rfl, hb⟩; have HS1 := Lib.hid (HS0.out.quiet hb); clear hb; have y10 : u1.cell? ⟨w.heap.size, 0, none⟩ = some (.int .i64 g.kind) := HS1.out.c0; have y11 : u1.cell? ⟨w.heap.size, 1, none⟩ = some (.int .i64 g.t.kind) := HS1.out.c1; have y12 : u1.cell? ⟨w.heap.size, 2, none⟩ = some (.string g.t.name) := HS1.out.c2; have y13 : u1.cell? ⟨w.heap.size, 3, none⟩ = some (.int .i64 g.t.n) := HS1.out.c3; have y14 : u1.cell? ⟨w.heap.size, 4, none⟩ = some (.slice gt mt ct) := HS1.out.c4; have y15 : u1.cell? ⟨w.heap.size, 5, none⟩ = some (.slice ga ma ca) := HS1.out.c5; have y16 : u1.cell? ⟨w.heap.size, 6, none⟩ = some (.slice gb mb cb) := HS1.out.c6; have y17 : u1.cell? ⟨w.heap.size, 7, none⟩ = some (.slice gc mc cc) := HS1.out.c7; have y1l := HS1.out.lt) | (go_at_call 23; (with_reducible refine (HPV.out _ _ HS1.out).mono ?_); rintro e u2 ⟨rfl, hb⟩; have HS2 := Lib.hid (HS1.out.quiet hb); clear hb; have y20 : u2.cell? ⟨w.heap.size, 0, none⟩ = some (.int .i64 g.kind) := HS2.out.c0; have y21 : u2.cell? ⟨w.heap.size, 1, none⟩ = some (.int .i64 g.t.kind) := HS2.out.c1; have y22 : u2.cell? ⟨w.heap.size, 2, none⟩ = some (.string g.t.name) := HS2.out.c2; have y23 : u2.cell? ⟨w.heap.size, 3, none⟩ = some (.int .i64 g.t.n) := HS2.out.c3; have y24 : u2.cell? ⟨w.heap.size, 4, none⟩ = some (.slice gt mt ct) := HS2.out.c4; have y25 : u2.cell? ⟨w.heap.size, 5, none⟩ = some (.slice ga ma ca) := HS2.out.c5; have y26 : u2.cell? ⟨w.heap.size, 6, none⟩ = some (.slice gb mb cb) := HS2.out.c6; have y27 : u2.cell? ⟨w.heap.size, 7, none⟩ = some (.slice gc mc cc) := HS2.out.c7; have y2l := HS2.out.lt) | (go_at_call 52; (with_reducible refine (HL3.out _).mono ?_); rintro e u3 ⟨rfl, hb⟩; have HS3 := Lib.hid (HS2.out.quiet hb); clear hb; have y30 : u3.cell? ⟨w.heap.size, 0, none⟩ = some (.int .i64 g.kind) := HS3.out.c0; have y31 : u3.cell? ⟨w.heap.size, 1, none⟩ = some (.int .i64 g.t.kind) := HS3.out.c1; have y32 : u3.cell? ⟨w.heap.size, 2, none⟩ = some (.string g.t.name) := HS3.out.c2; have y33 : u3.cell? ⟨w.heap.size, 3, none⟩ = some (.int .i64 g.t.n) := HS3.out.c3; have y34 : u3.cell? ⟨w.heap.size, 4, none⟩ = some (.slice gt mt ct) := HS3.out.c4; have y35 : u3.cell? ⟨w.heap.size, 5, none⟩ = some (.slice ga ma ca) := HS3.out.c5; have y36 : u3.cell? ⟨w.heap.size, 6, none⟩ = some (.slice gb mb cb) := HS3.out.c6; have y37 : u3.cell? ⟨w.heap.size, 7, none⟩ = some (.slice gc mc cc) := HS3.out.c7; have y3l := HS3.out.lt))
    go_ret
    exact ⟨_, by rw [HF.out]; rfl, HS3.out.ck, fun h => by (have h9 := HY.out h; omega), HS3.out.fr⟩
  by_cases hk2 : g.kind = 2
  · rw [hk2] at x0
    obtain ⟨hx, hy⟩ := HGB.out hk2 hb1
    have HX := Lib.hid hx
    have HY := Lib.hid hy
    clear hx hy hk1 hk2 HGB HKA HKB HKC HPM HPN HL2
    generalize bltn (bsN g.t.name) mt = xo at HPB HX
    generalize varsB g.t n = xv at HPV HX
    generalize noneG g = xe at HL3 HX
    cases xo with
    | false =>
      have HF := Lib.hid (show okC (cntG g n (ins + 1) cut) b = false by rw [HX.out]; rfl)
      go_wp2_with (first | (go_at_call 34; (with_reducible refine (HPP.out _ _ HS0.out).mono ?_); rintro e u1 ⟨rfl, hb⟩; have HS1 := Lib.hid (HS0.out.quiet hb); clear hb; have y10 : u1.cell? ⟨w.heap.size, 0, none⟩ = some (.int .i64 g.kind) := HS1.out.c0; have y11 : u1.cell? ⟨w.heap.size, 1, none⟩ = some (.int .i64 g.t.kind) := HS1.out.c1; have y12 : u1.cell? ⟨w.heap.size, 2, none⟩ = some (.string g.t.name) := HS1.out.c2; have y13 : u1.cell? ⟨w.heap.size, 3, none⟩ = some (.int .i64 g.t.n) := HS1.out.c3; have y14 : u1.cell? ⟨w.heap.size, 4, none⟩ = some (.slice gt mt ct) := HS1.out.c4; have y15 : u1.cell? ⟨w.heap.size, 5, none⟩ = some (.slice ga ma ca) := HS1.out.c5; have y16 : u1.cell? ⟨w.heap.size, 6, none⟩ = some (.slice gb mb cb) := HS1.out.c6; have y17 : u1.cell? ⟨w.heap.size, 7, none⟩ = some (.slice gc mc cc) := HS1.out.c7; have y1l := HS1.out.lt) | (go_at_call 32; (with_reducible refine (HPB.out _ _ HS1.out).mono ?_); rintro e u2 ⟨rfl, hb⟩; have HS2 := Lib.hid (HS1.out.quiet hb); clear hb; have y20 : u2.cell? ⟨w.heap.size, 0, none⟩ = some (.int .i64 g.kind) := HS2.out.c0; have y21 : u2.cell? ⟨w.heap.size, 1, none⟩ = some (.int .i64 g.t.kind) := HS2.out.c1; have y22 : u2.cell? ⟨w.heap.size, 2, none⟩ = some (.string g.t.name) := HS2.out.c2; have y23 : u2.cell? ⟨w.heap.size, 3, none⟩ = some (.int .i64 g.t.n) := HS2.out.c3; have y24 : u2.cell? ⟨w.heap.size, 4, none⟩ = some (.slice gt mt ct) := HS2.out.c4; have y25 : u2.cell? ⟨w.heap.size, 5, none⟩ = some (.slice ga ma ca) := HS2.out.c5; have y26 : u2.cell? ⟨w.heap.size, 6, none⟩ = some (.slice gb mb cb) := HS2.out.c6; have y27 : u2.cell? ⟨w.heap.size, 7, none⟩ = some (.slice gc mc cc) := HS2.out.c7; have y2l := HS2.out.lt))
      go_ret
      exact ⟨_, by rw [HF.out]; rfl, HS2.out.ck, fun h => by (rw [HF.out] at h; exact absurd h Bool.false_ne_true), HS2.out.fr⟩
    | true =>
    cases xv with
    | false =>
      have HF := Lib.hid (show okC (cntG g n (ins + 1) cut) b = false by rw [HX.out]; rfl)
      go_wp2_with (first | (go_at_call 34; (with_reducible refine (HPP.out _ _ HS0.out).mono ?_); rintro e u1 ⟨rfl, hb⟩; have HS1 := Lib.hid (HS0.out.quiet hb); clear hb; have y10 : u1.cell? ⟨w.heap.size, 0, none⟩ = some (.int .i64 g.kind) := HS1.out.c0; have y11 : u1.cell? ⟨w.heap.size, 1, none⟩ = some (.int .i64 g.t.kind) := HS1.out.c1; have y12 : u1.cell? ⟨w.heap.size, 2, none⟩ = some (.string g.t.name) := HS1.out.c2; have y13 : u1.cell? ⟨w.heap.size, 3, none⟩ = some (.int .i64 g.t.n) := HS1.out.c3; have y14 : u1.cell? ⟨w.heap.size, 4, none⟩ = some (.slice gt mt ct) := HS1.out.c4; have y15 : u1.cell? ⟨w.heap.size, 5, none⟩ = some (.slice ga ma ca) := HS1.out.c5; have y16 : u1.cell? ⟨w.heap.size, 6, none⟩ = some (.slice gb mb cb) := HS1.out.c6; have y17 : u1.cell? ⟨w.heap.size, 7, none⟩ = some (.slice gc mc cc) := HS1.out.c7; have y1l := HS1.out.lt) | (go_at_call 32; (with_reducible refine (HPB.out _ _ HS1.out).mono ?_); rintro e u2 ⟨rfl, hb⟩; have HS2 := Lib.hid (HS1.out.quiet hb); clear hb; have y20 : u2.cell? ⟨w.heap.size, 0, none⟩ = some (.int .i64 g.kind) := HS2.out.c0; have y21 : u2.cell? ⟨w.heap.size, 1, none⟩ = some (.int .i64 g.t.kind) := HS2.out.c1; have y22 : u2.cell? ⟨w.heap.size, 2, none⟩ = some (.string g.t.name) := HS2.out.c2; have y23 : u2.cell? ⟨w.heap.size, 3, none⟩ = some (.int .i64 g.t.n) := HS2.out.c3; have y24 : u2.cell? ⟨w.heap.size, 4, none⟩ = some (.slice gt mt ct) := HS2.out.c4; have y25 : u2.cell? ⟨w.heap.size, 5, none⟩ = some (.slice ga ma ca) := HS2.out.c5; have y26 : u2.cell? ⟨w.heap.size, 6, none⟩ = some (.slice gb mb cb) := HS2.out.c6; have y27 : u2.cell? ⟨w.heap.size, 7, none⟩ = some (.slice gc mc cc) := HS2.out.c7; have y2l := HS2.out.lt) | (go_at_call 23; (with_reducible refine (HPV.out _ _ HS2.out).mono ?_); rintro e u3 ⟨rfl, hb⟩; have HS3 := Lib.hid (HS2.out.quiet hb); clear hb; have y30 : u3.cell? ⟨w.heap.size, 0, none⟩ = some (.int .i64 g.kind) := HS3.out.c0; have y31 : u3.cell? ⟨w.heap.size, 1, none⟩ = some (.int .i64 g.t.kind) := HS3.out.c1; have y32 : u3.cell? ⟨w.heap.size, 2, none⟩ = some (.string g.t.name) := HS3.out.c2; have y33 : u3.cell? ⟨w.heap.size, 3, none⟩ = some (.int .i64 g.t.n) := HS3.out.c3; have y34 : u3.cell? ⟨w.heap.size, 4, none⟩ = some (.slice gt mt ct) := HS3.out.c4; have y35 : u3.cell? ⟨w.heap.size, 5, none⟩ = some (.slice ga ma ca) := HS3.out.c5; have y36 : u3.cell? ⟨w.heap.size, 6, none⟩ = some (.slice gb mb cb) := HS3.out.c6; have y37 : u3.cell? ⟨w.heap.size, 7, none⟩ = some (.slice gc mc cc) := HS3.out.c7; have y3l := HS3.out.lt))
      go_ret
      exact ⟨_, by rw [HF.out]; rfl, HS3.out.ck, fun h => by (rw [HF.out] at h; exact absurd h Bool.false_ne_true), HS3.out.fr⟩
    | true =>
    have HF := Lib.hid (show okC (cntG g n (ins + 1) cut) b = xe by rw [HX.out]; rfl)
    go_wp2_with (first | (go_at_call 34; (with_reducible refine (HPP.out _ _ HS0.out).mono ?_); rintro e u1 ⟨rfl, hb⟩; have HS1 := Lib.hid (HS0.out.quiet hb); clear hb; have y10 : u1.cell? ⟨w.heap.size, 0, none⟩ = some (.int .i64 g.kind) := HS1.out.c0; have y11 : u1.cell? ⟨w.heap.size, 1, none⟩ = some (.int .i64 g.t.kind) := HS1.out.c1; have y12 : u1.cell? ⟨w.heap.size, 2, none⟩ = some (.string g.t.name) := HS1.out.c2; have y13 : u1.cell? ⟨w.heap.size, 3, none⟩ = some (.int .i64 g.t.n) := HS1.out.c3; have y14 : u1.cell? ⟨w.heap.size, 4, none⟩ = some (.slice gt mt ct) := HS1.out.c4; have y15 : u1.cell? ⟨w.heap.size, 5, none⟩ = some (.slice ga ma ca) := HS1.out.c5; have y16 : u1.cell? ⟨w.heap.size, 6, none⟩ = some (.slice gb mb cb) := HS1.out.c6; have y17 : u1.cell? ⟨w.heap.size, 7, none⟩ = some (.slice gc mc cc) := HS1.out.c7; have y1l := HS1.out.lt) | (go_at_call 32; (with_reducible refine (HPB.out _ _ HS1.out).mono ?_); rintro e u2 ⟨rfl, hb⟩; have HS2 := Lib.hid (HS1.out.quiet hb); clear hb; have y20 : u2.cell? ⟨w.heap.size, 0, none⟩ = some (.int .i64 g.kind) := HS2.out.c0; have y21 : u2.cell? ⟨w.heap.size, 1, none⟩ = some (.int .i64 g.t.kind) := HS2.out.c1; have y22 : u2.cell? ⟨w.heap.size, 2, none⟩ = some (.string g.t.name) := HS2.out.c2; have y23 : u2.cell? ⟨w.heap.size, 3, none⟩ = some (.int .i64 g.t.n) := HS2.out.c3; have y24 : u2.cell? ⟨w.heap.size, 4, none⟩ = some (.slice gt mt ct) := HS2.out.c4; have y25 : u2.cell? ⟨w.heap.size, 5, none⟩ = some (.slice ga ma ca) := HS2.out.c5; have y26 : u2.cell? ⟨w.heap.size, 6, none⟩ = some (.slice gb mb cb) := HS2.out.c6; have y27 : u2.cell? ⟨w.heap.size, 7, none⟩ = some (.slice gc mc cc) := HS2.out.c7; have y2l := HS2.out.lt) | (go_at_call 23; (with_reducible refine (HPV.out _ _ HS2.out).mono ?_); rintro e u3 ⟨rfl, hb⟩; have HS3 := Lib.hid (HS2.out.quiet hb); clear hb; have y30 : u3.cell? ⟨w.heap.size, 0, none⟩ = some (.int .i64 g.kind) := HS3.out.c0; have y31 : u3.cell? ⟨w.heap.size, 1, none⟩ = some (.int .i64 g.t.kind) := HS3.out.c1; have y32 : u3.cell? ⟨w.heap.size, 2, none⟩ = some (.string g.t.name) := HS3.out.c2; have y33 : u3.cell? ⟨w.heap.size, 3, none⟩ = some (.int .i64 g.t.n) := HS3.out.c3; have y34 : u3.cell? ⟨w.heap.size, 4, none⟩ = some (.slice gt mt ct) := HS3.out.c4; have y35 : u3.cell? ⟨w.heap.size, 5, none⟩ = some (.slice ga ma ca) := HS3.out.c5; have y36 : u3.cell? ⟨w.heap.size, 6, none⟩ = some (.slice gb mb cb) := HS3.out.c6; have y37 : u3.cell? ⟨w.heap.size, 7, none⟩ = some (.slice gc mc cc) := HS3.out.c7; have y3l := HS3.out.lt) | (go_at_call 52; (with_reducible refine (HL3.out _).mono ?_); rintro e u4 ⟨rfl, hb⟩; have HS4 := Lib.hid (HS3.out.quiet hb); clear hb; have y40 : u4.cell? ⟨w.heap.size, 0, none⟩ = some (.int .i64 g.kind) := HS4.out.c0; have y41 : u4.cell? ⟨w.heap.size, 1, none⟩ = some (.int .i64 g.t.kind) := HS4.out.c1; have y42 : u4.cell? ⟨w.heap.size, 2, none⟩ = some (.string g.t.name) := HS4.out.c2; have y43 : u4.cell? ⟨w.heap.size, 3, none⟩ = some (.int .i64 g.t.n) := HS4.out.c3; have y44 : u4.cell? ⟨w.heap.size, 4, none⟩ = some (.slice gt mt ct) := HS4.out.c4; have y45 : u4.cell? ⟨w.heap.size, 5, none⟩ = some (.slice ga ma ca) := HS4.out.c5; have y46 : u4.cell? ⟨w.heap.size, 6, none⟩ = some (.slice gb mb cb) := HS4.out.c6; have y47 : u4.cell? ⟨w.heap.size, 7, none⟩ = some (.slice gc mc cc) := HS4.out.c7; have y4l := HS4.out.lt))
    go_ret
    exact ⟨_, by rw [HF.out]; rfl, HS4.out.ck, fun h => by (have h9 := HY.out h; omega), HS4.out.fr⟩
  clear HGB
  by_cases hk3 : g.kind = 3
  · rw [hk3] at x0
    obtain ⟨hx, hy⟩ := @okG_cut g n (ins + 1) b cut hk3 hb1
    have HX := Lib.hid hx
    have HY := Lib.hid hy
    clear hx hy hk1 hk2 hk3 HKA HKB HKC HPM HPP HPB HPV HL2
    generalize g.t.same zT = xs at HPN HX
    generalize noneG g = xe at HL3 HX
    cases cut with
    | false =>
      have HF := Lib.hid (show okC (cntG g n (ins + 1) false) b = false by rw [HX.out]; rfl)
      go_wp2_with fail
      go_ret
      exact ⟨_, by rw [HF.out]; rfl, HS0.out.ck, fun h => by (rw [HF.out] at h; exact absurd h Bool.false_ne_true), HS0.out.fr⟩
    | true =>
    cases xs with
    | false =>
      have HF := Lib.hid (show okC (cntG g n (ins + 1) true) b = false by rw [HX.out]; rfl)
      go_wp2_with (go_at_call 53; (with_reducible refine (HPN.out _ _ HS0.out).mono ?_); rintro e u1 ⟨rfl, hb⟩; have HS1 := Lib.hid (HS0.out.quiet hb); clear hb; have y10 : u1.cell? ⟨w.heap.size, 0, none⟩ = some (.int .i64 g.kind) := HS1.out.c0; have y11 : u1.cell? ⟨w.heap.size, 1, none⟩ = some (.int .i64 g.t.kind) := HS1.out.c1; have y12 : u1.cell? ⟨w.heap.size, 2, none⟩ = some (.string g.t.name) := HS1.out.c2; have y13 : u1.cell? ⟨w.heap.size, 3, none⟩ = some (.int .i64 g.t.n) := HS1.out.c3; have y14 : u1.cell? ⟨w.heap.size, 4, none⟩ = some (.slice gt mt ct) := HS1.out.c4; have y15 : u1.cell? ⟨w.heap.size, 5, none⟩ = some (.slice ga ma ca) := HS1.out.c5; have y16 : u1.cell? ⟨w.heap.size, 6, none⟩ = some (.slice gb mb cb) := HS1.out.c6; have y17 : u1.cell? ⟨w.heap.size, 7, none⟩ = some (.slice gc mc cc) := HS1.out.c7; have y1l := HS1.out.lt)
      go_ret
      exact ⟨_, by rw [HF.out]; rfl, HS1.out.ck, fun h => by (rw [HF.out] at h; exact absurd h Bool.false_ne_true), HS1.out.fr⟩
    | true =>
    have HF := Lib.hid (show okC (cntG g n (ins + 1) true) b = xe by rw [HX.out]; rfl)
    go_wp2_with (first | (go_at_call 53; (with_reducible refine (HPN.out _ _ HS0.out).mono ?_); rintro e u1 ⟨rfl, hb⟩; have HS1 := Lib.hid (HS0.out.quiet hb); clear hb; have y10 : u1.cell? ⟨w.heap.size, 0, none⟩ = some (.int .i64 g.kind) := HS1.out.c0; have y11 : u1.cell? ⟨w.heap.size, 1, none⟩ = some (.int .i64 g.t.kind) := HS1.out.c1; have y12 : u1.cell? ⟨w.heap.size, 2, none⟩ = some (.string g.t.name) := HS1.out.c2; have y13 : u1.cell? ⟨w.heap.size, 3, none⟩ = some (.int .i64 g.t.n) := HS1.out.c3; have y14 : u1.cell? ⟨w.heap.size, 4, none⟩ = some (.slice gt mt ct) := HS1.out.c4; have y15 : u1.cell? ⟨w.heap.size, 5, none⟩ = some (.slice ga ma ca) := HS1.out.c5; have y16 : u1.cell? ⟨w.heap.size, 6, none⟩ = some (.slice gb mb cb) := HS1.out.c6; have y17 : u1.cell? ⟨w.heap.size, 7, none⟩ = some (.slice gc mc cc) := HS1.out.c7; have y1l := HS1.out.lt) | (go_at_call 52; (with_reducible refine (HL3.out _).mono ?_); rintro e u2 ⟨rfl, hb⟩; have HS2 := Lib.hid (HS1.out.quiet hb); clear hb; have y20 : u2.cell? ⟨w.heap.size, 0, none⟩ = some (.int .i64 g.kind) := HS2.out.c0; have y21 : u2.cell? ⟨w.heap.size, 1, none⟩ = some (.int .i64 g.t.kind) := HS2.out.c1; have y22 : u2.cell? ⟨w.heap.size, 2, none⟩ = some (.string g.t.name) := HS2.out.c2; have y23 : u2.cell? ⟨w.heap.size, 3, none⟩ = some (.int .i64 g.t.n) := HS2.out.c3; have y24 : u2.cell? ⟨w.heap.size, 4, none⟩ = some (.slice gt mt ct) := HS2.out.c4; have y25 : u2.cell? ⟨w.heap.size, 5, none⟩ = some (.slice ga ma ca) := HS2.out.c5; have y26 : u2.cell? ⟨w.heap.size, 6, none⟩ = some (.slice gb mb cb) := HS2.out.c6; have y27 : u2.cell? ⟨w.heap.size, 7, none⟩ = some (.slice gc mc cc) := HS2.out.c7; have y2l := HS2.out.lt))
    go_ret
    exact ⟨_, by rw [HF.out]; rfl, HS2.out.ck, fun h => by (have h9 := HY.out h; omega), HS2.out.fr⟩
  clear HL3 HPM HPP HPB HPV
  by_cases hk4 : g.kind = 4
  · rw [hk4] at x0
    obtain ⟨h1, h2, h3, h4⟩ := @okG_if g n (ins + 1) b cut hk4
    have H1 := Lib.hid h1
    have H2 := Lib.hid h2
    have H3 := Lib.hid h3
    have H4 := Lib.hid h4
    clear h1 h2 h3 h4 hk1 hk2 hk3 hk4 HL2
    have HA := Lib.hid (fun W (h : CS w g (.slice gt mt ct) (.slice ga ma ca) (.slice gb mb cb) (.slice gc mc cc) w.heap.size bx B (b + 1) n W) => HKA.out W _ bx B (b + 1) n (ins + 1) false h.ia h.le h.ck h.tb (by omega) hb1 (by omega) (by omega))
    generalize g.t.same zT = xs at HPN H1 H4
    generalize cntL g.a n (ins + 1 + 1) false = A at HA H2 H3 H4
    obtain ⟨qa, hqa⟩ : ∃ q, okC A (b + 1) = q := ⟨_, rfl⟩
    have HA := Lib.hid (fun W h => by have h9 := HA.out W h; rw [hqa] at h9; exact h9)
    have HQA := Lib.hid hqa
    clear HKA hqa
    cases xs with
    | false =>
      have HF := Lib.hid (H1.out rfl)
      go_wp2_with (go_at_call 53; (with_reducible refine (HPN.out _ _ HS0.out).mono ?_); rintro e u1 ⟨rfl, hb⟩; have HS1 := Lib.hid (HS0.out.quiet hb); clear hb; have y10 : u1.cell? ⟨w.heap.size, 0, none⟩ = some (.int .i64 g.kind) := HS1.out.c0; have y11 : u1.cell? ⟨w.heap.size, 1, none⟩ = some (.int .i64 g.t.kind) := HS1.out.c1; have y12 : u1.cell? ⟨w.heap.size, 2, none⟩ = some (.string g.t.name) := HS1.out.c2; have y13 : u1.cell? ⟨w.heap.size, 3, none⟩ = some (.int .i64 g.t.n) := HS1.out.c3; have y14 : u1.cell? ⟨w.heap.size, 4, none⟩ = some (.slice gt mt ct) := HS1.out.c4; have y15 : u1.cell? ⟨w.heap.size, 5, none⟩ = some (.slice ga ma ca) := HS1.out.c5; have y16 : u1.cell? ⟨w.heap.size, 6, none⟩ = some (.slice gb mb cb) := HS1.out.c6; have y17 : u1.cell? ⟨w.heap.size, 7, none⟩ = some (.slice gc mc cc) := HS1.out.c7; have y1l := HS1.out.lt)
      go_ret
      exact ⟨_, by rw [HF.out]; rfl, HS1.out.ck, fun h => by (rw [HF.out] at h; exact absurd h Bool.false_ne_true), HS1.out.fr⟩
    | true =>
    cases qa with
    | false =>
      have HF := Lib.hid (H2.out HQA.out)
      go_wp2_with (first | (go_at_call 53; (with_reducible refine (HPN.out _ _ HS0.out).mono ?_); rintro e u1 ⟨rfl, hb⟩; have HS1 := Lib.hid (HS0.out.quiet hb); clear hb; have y10 : u1.cell? ⟨w.heap.size, 0, none⟩ = some (.int .i64 g.kind) := HS1.out.c0; have y11 : u1.cell? ⟨w.heap.size, 1, none⟩ = some (.int .i64 g.t.kind) := HS1.out.c1; have y12 : u1.cell? ⟨w.heap.size, 2, none⟩ = some (.string g.t.name) := HS1.out.c2; have y13 : u1.cell? ⟨w.heap.size, 3, none⟩ = some (.int .i64 g.t.n) := HS1.out.c3; have y14 : u1.cell? ⟨w.heap.size, 4, none⟩ = some (.slice gt mt ct) := HS1.out.c4; have y15 : u1.cell? ⟨w.heap.size, 5, none⟩ = some (.slice ga ma ca) := HS1.out.c5; have y16 : u1.cell? ⟨w.heap.size, 6, none⟩ = some (.slice gb mb cb) := HS1.out.c6; have y17 : u1.cell? ⟨w.heap.size, 7, none⟩ = some (.slice gc mc cc) := HS1.out.c7; have y1l := HS1.out.lt) | (go_at_call 24; (with_reducible refine (HA.out _ HS1.out).mono ?_); rintro e u2 ⟨b2, rfl, hk2, he2, hf2⟩; have HS2 := Lib.hid (HS1.out.mv hf2 hk2); have HE2 := Lib.hid he2; clear hk2 he2 hf2; have y20 : u2.cell? ⟨w.heap.size, 0, none⟩ = some (.int .i64 g.kind) := HS2.out.c0; have y21 : u2.cell? ⟨w.heap.size, 1, none⟩ = some (.int .i64 g.t.kind) := HS2.out.c1; have y22 : u2.cell? ⟨w.heap.size, 2, none⟩ = some (.string g.t.name) := HS2.out.c2; have y23 : u2.cell? ⟨w.heap.size, 3, none⟩ = some (.int .i64 g.t.n) := HS2.out.c3; have y24 : u2.cell? ⟨w.heap.size, 4, none⟩ = some (.slice gt mt ct) := HS2.out.c4; have y25 : u2.cell? ⟨w.heap.size, 5, none⟩ = some (.slice ga ma ca) := HS2.out.c5; have y26 : u2.cell? ⟨w.heap.size, 6, none⟩ = some (.slice gb mb cb) := HS2.out.c6; have y27 : u2.cell? ⟨w.heap.size, 7, none⟩ = some (.slice gc mc cc) := HS2.out.c7; have y2l := HS2.out.lt))
      go_ret
      exact ⟨_, by rw [HF.out]; rfl, HS2.out.ck, fun h => by (rw [HF.out] at h; exact absurd h Bool.false_ne_true), HS2.out.fr⟩
    | true =>
    obtain ⟨hA0, hA1⟩ := okC_true.1 HQA.out
    have HB := Lib.hid (fun W (h : CS w g (.slice gt mt ct) (.slice ga ma ca) (.slice gb mb cb) (.slice gc mc cc) w.heap.size bx B (b + 1 + A) n W) => HKB.out W _ bx B (b + 1 + A) n (ins + 1) cut h.ib h.le h.ck h.tb (by omega) hA1 (by omega) (by omega))
    generalize cntL g.b n (ins + 1 + 1) cut = E at HB H3 H4
    obtain ⟨qb, hqb⟩ : ∃ q, okC E (b + 1 + A) = q := ⟨_, rfl⟩
    have HB := Lib.hid (fun W h => by have h9 := HB.out W h; rw [hqb] at h9; exact h9)
    have HQB := Lib.hid hqb
    clear HKB hqb
    cases qb with
    | false =>
      have HF := Lib.hid (H3.out HQB.out hA0)
      go_wp2_with (first | (go_at_call 53; (with_reducible refine (HPN.out _ _ HS0.out).mono ?_); rintro e u1 ⟨rfl, hb⟩; have HS1 := Lib.hid (HS0.out.quiet hb); clear hb; have y10 : u1.cell? ⟨w.heap.size, 0, none⟩ = some (.int .i64 g.kind) := HS1.out.c0; have y11 : u1.cell? ⟨w.heap.size, 1, none⟩ = some (.int .i64 g.t.kind) := HS1.out.c1; have y12 : u1.cell? ⟨w.heap.size, 2, none⟩ = some (.string g.t.name) := HS1.out.c2; have y13 : u1.cell? ⟨w.heap.size, 3, none⟩ = some (.int .i64 g.t.n) := HS1.out.c3; have y14 : u1.cell? ⟨w.heap.size, 4, none⟩ = some (.slice gt mt ct) := HS1.out.c4; have y15 : u1.cell? ⟨w.heap.size, 5, none⟩ = some (.slice ga ma ca) := HS1.out.c5; have y16 : u1.cell? ⟨w.heap.size, 6, none⟩ = some (.slice gb mb cb) := HS1.out.c6; have y17 : u1.cell? ⟨w.heap.size, 7, none⟩ = some (.slice gc mc cc) := HS1.out.c7; have y1l := HS1.out.lt) | (go_at_call 24; (with_reducible refine (HA.out _ HS1.out).mono ?_); rintro e u2 ⟨b2, rfl, hk2, he2, hf2⟩; have HS2 := Lib.hid (HS1.out.mv hf2 hk2); have HE2 := Lib.hid he2; clear hk2 he2 hf2; have y20 : u2.cell? ⟨w.heap.size, 0, none⟩ = some (.int .i64 g.kind) := HS2.out.c0; have y21 : u2.cell? ⟨w.heap.size, 1, none⟩ = some (.int .i64 g.t.kind) := HS2.out.c1; have y22 : u2.cell? ⟨w.heap.size, 2, none⟩ = some (.string g.t.name) := HS2.out.c2; have y23 : u2.cell? ⟨w.heap.size, 3, none⟩ = some (.int .i64 g.t.n) := HS2.out.c3; have y24 : u2.cell? ⟨w.heap.size, 4, none⟩ = some (.slice gt mt ct) := HS2.out.c4; have y25 : u2.cell? ⟨w.heap.size, 5, none⟩ = some (.slice ga ma ca) := HS2.out.c5; have y26 : u2.cell? ⟨w.heap.size, 6, none⟩ = some (.slice gb mb cb) := HS2.out.c6; have y27 : u2.cell? ⟨w.heap.size, 7, none⟩ = some (.slice gc mc cc) := HS2.out.c7; have y2l := HS2.out.lt; obtain rfl : b + 1 + A = b2 := (HE2.out trivial).symm) | (go_at_call 24; (with_reducible refine (HB.out _ HS2.out).mono ?_); rintro e u3 ⟨b3, rfl, hk3, he3, hf3⟩; have HS3 := Lib.hid (HS2.out.mv hf3 hk3); have HE3 := Lib.hid he3; clear hk3 he3 hf3; have y30 : u3.cell? ⟨w.heap.size, 0, none⟩ = some (.int .i64 g.kind) := HS3.out.c0; have y31 : u3.cell? ⟨w.heap.size, 1, none⟩ = some (.int .i64 g.t.kind) := HS3.out.c1; have y32 : u3.cell? ⟨w.heap.size, 2, none⟩ = some (.string g.t.name) := HS3.out.c2; have y33 : u3.cell? ⟨w.heap.size, 3, none⟩ = some (.int .i64 g.t.n) := HS3.out.c3; have y34 : u3.cell? ⟨w.heap.size, 4, none⟩ = some (.slice gt mt ct) := HS3.out.c4; have y35 : u3.cell? ⟨w.heap.size, 5, none⟩ = some (.slice ga ma ca) := HS3.out.c5; have y36 : u3.cell? ⟨w.heap.size, 6, none⟩ = some (.slice gb mb cb) := HS3.out.c6; have y37 : u3.cell? ⟨w.heap.size, 7, none⟩ = some (.slice gc mc cc) := HS3.out.c7; have y3l := HS3.out.lt))
      go_ret
      exact ⟨_, by rw [HF.out]; rfl, HS3.out.ck, fun h => by (rw [HF.out] at h; exact absurd h Bool.false_ne_true), HS3.out.fr⟩
    | true =>
    obtain ⟨hB0, hB1⟩ := okC_true.1 HQB.out
    have HC := Lib.hid (fun W (h : CS w g (.slice gt mt ct) (.slice ga ma ca) (.slice gb mb cb) (.slice gc mc cc) w.heap.size bx B (b + 1 + A + E) n W) => HKC.out W _ bx B (b + 1 + A + E) n (ins + 1) cut h.ic h.le h.ck h.tb (by omega) hB1 (by omega) (by omega))
    have HZ := Lib.hid (H4.out rfl hA0 hB0)
    generalize cntL g.c n (ins + 1 + 1) cut = F at HC HZ
    obtain ⟨qc, hqc⟩ : ∃ q, okC F (b + 1 + A + E) = q := ⟨_, rfl⟩
    have HC := Lib.hid (fun W h => by have h9 := HC.out W h; rw [hqc] at h9; exact h9)
    have HQC := Lib.hid hqc
    have HF := Lib.hid (show okC (cntG g n (ins + 1) cut) b = qc by rw [HZ.out.1]; exact hqc)
    clear HKC hqc
    go_wp2_with (first | (go_at_call 53; (with_reducible refine (HPN.out _ _ HS0.out).mono ?_); rintro e u1 ⟨rfl, hb⟩; have HS1 := Lib.hid (HS0.out.quiet hb); clear hb; have y10 : u1.cell? ⟨w.heap.size, 0, none⟩ = some (.int .i64 g.kind) := HS1.out.c0; have y11 : u1.cell? ⟨w.heap.size, 1, none⟩ = some (.int .i64 g.t.kind) := HS1.out.c1; have y12 : u1.cell? ⟨w.heap.size, 2, none⟩ = some (.string g.t.name) := HS1.out.c2; have y13 : u1.cell? ⟨w.heap.size, 3, none⟩ = some (.int .i64 g.t.n) := HS1.out.c3; have y14 : u1.cell? ⟨w.heap.size, 4, none⟩ = some (.slice gt mt ct) := HS1.out.c4; have y15 : u1.cell? ⟨w.heap.size, 5, none⟩ = some (.slice ga ma ca) := HS1.out.c5; have y16 : u1.cell? ⟨w.heap.size, 6, none⟩ = some (.slice gb mb cb) := HS1.out.c6; have y17 : u1.cell? ⟨w.heap.size, 7, none⟩ = some (.slice gc mc cc) := HS1.out.c7; have y1l := HS1.out.lt) | (go_at_call 24; (with_reducible refine (HA.out _ HS1.out).mono ?_); rintro e u2 ⟨b2, rfl, hk2, he2, hf2⟩; have HS2 := Lib.hid (HS1.out.mv hf2 hk2); have HE2 := Lib.hid he2; clear hk2 he2 hf2; have y20 : u2.cell? ⟨w.heap.size, 0, none⟩ = some (.int .i64 g.kind) := HS2.out.c0; have y21 : u2.cell? ⟨w.heap.size, 1, none⟩ = some (.int .i64 g.t.kind) := HS2.out.c1; have y22 : u2.cell? ⟨w.heap.size, 2, none⟩ = some (.string g.t.name) := HS2.out.c2; have y23 : u2.cell? ⟨w.heap.size, 3, none⟩ = some (.int .i64 g.t.n) := HS2.out.c3; have y24 : u2.cell? ⟨w.heap.size, 4, none⟩ = some (.slice gt mt ct) := HS2.out.c4; have y25 : u2.cell? ⟨w.heap.size, 5, none⟩ = some (.slice ga ma ca) := HS2.out.c5; have y26 : u2.cell? ⟨w.heap.size, 6, none⟩ = some (.slice gb mb cb) := HS2.out.c6; have y27 : u2.cell? ⟨w.heap.size, 7, none⟩ = some (.slice gc mc cc) := HS2.out.c7; have y2l := HS2.out.lt; obtain rfl : b + 1 + A = b2 := (HE2.out trivial).symm) | (go_at_call 24; (with_reducible refine (HB.out _ HS2.out).mono ?_); rintro e u3 ⟨b3, rfl, hk3, he3, hf3⟩; have HS3 := Lib.hid (HS2.out.mv hf3 hk3); have HE3 := Lib.hid he3; clear hk3 he3 hf3; have y30 : u3.cell? ⟨w.heap.size, 0, none⟩ = some (.int .i64 g.kind) := HS3.out.c0; have y31 : u3.cell? ⟨w.heap.size, 1, none⟩ = some (.int .i64 g.t.kind) := HS3.out.c1; have y32 : u3.cell? ⟨w.heap.size, 2, none⟩ = some (.string g.t.name) := HS3.out.c2; have y33 : u3.cell? ⟨w.heap.size, 3, none⟩ = some (.int .i64 g.t.n) := HS3.out.c3; have y34 : u3.cell? ⟨w.heap.size, 4, none⟩ = some (.slice gt mt ct) := HS3.out.c4; have y35 : u3.cell? ⟨w.heap.size, 5, none⟩ = some (.slice ga ma ca) := HS3.out.c5; have y36 : u3.cell? ⟨w.heap.size, 6, none⟩ = some (.slice gb mb cb) := HS3.out.c6; have y37 : u3.cell? ⟨w.heap.size, 7, none⟩ = some (.slice gc mc cc) := HS3.out.c7; have y3l := HS3.out.lt; obtain rfl : b + 1 + A + E = b3 := (HE3.out trivial).symm) | (go_at_call 24; (with_reducible refine (HC.out _ HS3.out).mono ?_); rintro e u4 ⟨b4, rfl, hk4, he4, hf4⟩; have HS4 := Lib.hid (HS3.out.mv hf4 hk4); have HE4 := Lib.hid he4; clear hk4 he4 hf4; have y40 : u4.cell? ⟨w.heap.size, 0, none⟩ = some (.int .i64 g.kind) := HS4.out.c0; have y41 : u4.cell? ⟨w.heap.size, 1, none⟩ = some (.int .i64 g.t.kind) := HS4.out.c1; have y42 : u4.cell? ⟨w.heap.size, 2, none⟩ = some (.string g.t.name) := HS4.out.c2; have y43 : u4.cell? ⟨w.heap.size, 3, none⟩ = some (.int .i64 g.t.n) := HS4.out.c3; have y44 : u4.cell? ⟨w.heap.size, 4, none⟩ = some (.slice gt mt ct) := HS4.out.c4; have y45 : u4.cell? ⟨w.heap.size, 5, none⟩ = some (.slice ga ma ca) := HS4.out.c5; have y46 : u4.cell? ⟨w.heap.size, 6, none⟩ = some (.slice gb mb cb) := HS4.out.c6; have y47 : u4.cell? ⟨w.heap.size, 7, none⟩ = some (.slice gc mc cc) := HS4.out.c7; have y4l := HS4.out.lt))
    go_ret
    exact ⟨_, by rw [HF.out]; rfl, HS4.out.ck, fun h => by (rw [HF.out] at h; subst h; have h8 := HE4.out rfl; have h9 := HZ.out.2 (okC_true.1 HQC.out).1; omega), HS4.out.fr⟩
  clear HKB HKC
  by_cases hk5 : g.kind = 5
  · rw [hk5] at x0
    obtain ⟨h1, h2, h3⟩ := @okG_not g n (ins + 1) b cut hk5
    have H1 := Lib.hid h1
    have H2 := Lib.hid h2
    have H3 := Lib.hid h3
    clear h1 h2 h3 hk1 hk2 hk3 hk4 hk5
    have HA := Lib.hid (fun W (h : CS w g (.slice gt mt ct) (.slice ga ma ca) (.slice gb mb cb) (.slice gc mc cc) w.heap.size bx B (b + 1) n W) => HKA.out W _ bx B (b + 1) n (ins + 1) false h.ia h.le h.ck h.tb (by omega) hb1 (by omega) (by omega))
    generalize g.t.same zT = xs at HPN H1 H3
    generalize noneB g = xe at HL2 H3
    generalize cntL g.a n (ins + 1 + 1) false = A at HA H2 H3
    obtain ⟨qa, hqa⟩ : ∃ q, okC A (b + 1) = q := ⟨_, rfl⟩
    have HA := Lib.hid (fun W h => by have h9 := HA.out W h; rw [hqa] at h9; exact h9)
    have HQA := Lib.hid hqa
    clear HKA hqa
    cases xs with
    | false =>
      have HF := Lib.hid (H1.out rfl)
      go_wp2_with (go_at_call 53; (with_reducible refine (HPN.out _ _ HS0.out).mono ?_); rintro e u1 ⟨rfl, hb⟩; have HS1 := Lib.hid (HS0.out.quiet hb); clear hb; have y10 : u1.cell? ⟨w.heap.size, 0, none⟩ = some (.int .i64 g.kind) := HS1.out.c0; have y11 : u1.cell? ⟨w.heap.size, 1, none⟩ = some (.int .i64 g.t.kind) := HS1.out.c1; have y12 : u1.cell? ⟨w.heap.size, 2, none⟩ = some (.string g.t.name) := HS1.out.c2; have y13 : u1.cell? ⟨w.heap.size, 3, none⟩ = some (.int .i64 g.t.n) := HS1.out.c3; have y14 : u1.cell? ⟨w.heap.size, 4, none⟩ = some (.slice gt mt ct) := HS1.out.c4; have y15 : u1.cell? ⟨w.heap.size, 5, none⟩ = some (.slice ga ma ca) := HS1.out.c5; have y16 : u1.cell? ⟨w.heap.size, 6, none⟩ = some (.slice gb mb cb) := HS1.out.c6; have y17 : u1.cell? ⟨w.heap.size, 7, none⟩ = some (.slice gc mc cc) := HS1.out.c7; have y1l := HS1.out.lt)
      go_ret
      exact ⟨_, by rw [HF.out]; rfl, HS1.out.ck, fun h => by (rw [HF.out] at h; exact absurd h Bool.false_ne_true), HS1.out.fr⟩
    | true =>
    cases qa with
    | false =>
      have HF := Lib.hid (H2.out HQA.out)
      go_wp2_with (first | (go_at_call 53; (with_reducible refine (HPN.out _ _ HS0.out).mono ?_); rintro e u1 ⟨rfl, hb⟩; have HS1 := Lib.hid (HS0.out.quiet hb); clear hb; have y10 : u1.cell? ⟨w.heap.size, 0, none⟩ = some (.int .i64 g.kind) := HS1.out.c0; have y11 : u1.cell? ⟨w.heap.size, 1, none⟩ = some (.int .i64 g.t.kind) := HS1.out.c1; have y12 : u1.cell? ⟨w.heap.size, 2, none⟩ = some (.string g.t.name) := HS1.out.c2; have y13 : u1.cell? ⟨w.heap.size, 3, none⟩ = some (.int .i64 g.t.n) := HS1.out.c3; have y14 : u1.cell? ⟨w.heap.size, 4, none⟩ = some (.slice gt mt ct) := HS1.out.c4; have y15 : u1.cell? ⟨w.heap.size, 5, none⟩ = some (.slice ga ma ca) := HS1.out.c5; have y16 : u1.cell? ⟨w.heap.size, 6, none⟩ = some (.slice gb mb cb) := HS1.out.c6; have y17 : u1.cell? ⟨w.heap.size, 7, none⟩ = some (.slice gc mc cc) := HS1.out.c7; have y1l := HS1.out.lt) | (go_at_call 24; (with_reducible refine (HA.out _ HS1.out).mono ?_); rintro e u2 ⟨b2, rfl, hk2, he2, hf2⟩; have HS2 := Lib.hid (HS1.out.mv hf2 hk2); have HE2 := Lib.hid he2; clear hk2 he2 hf2; have y20 : u2.cell? ⟨w.heap.size, 0, none⟩ = some (.int .i64 g.kind) := HS2.out.c0; have y21 : u2.cell? ⟨w.heap.size, 1, none⟩ = some (.int .i64 g.t.kind) := HS2.out.c1; have y22 : u2.cell? ⟨w.heap.size, 2, none⟩ = some (.string g.t.name) := HS2.out.c2; have y23 : u2.cell? ⟨w.heap.size, 3, none⟩ = some (.int .i64 g.t.n) := HS2.out.c3; have y24 : u2.cell? ⟨w.heap.size, 4, none⟩ = some (.slice gt mt ct) := HS2.out.c4; have y25 : u2.cell? ⟨w.heap.size, 5, none⟩ = some (.slice ga ma ca) := HS2.out.c5; have y26 : u2.cell? ⟨w.heap.size, 6, none⟩ = some (.slice gb mb cb) := HS2.out.c6; have y27 : u2.cell? ⟨w.heap.size, 7, none⟩ = some (.slice gc mc cc) := HS2.out.c7; have y2l := HS2.out.lt))
      go_ret
      exact ⟨_, by rw [HF.out]; rfl, HS2.out.ck, fun h => by (rw [HF.out] at h; exact absurd h Bool.false_ne_true), HS2.out.fr⟩
    | true =>
    have HZ := Lib.hid (H3.out rfl HQA.out)
    have HF := Lib.hid (show okC (cntG g n (ins + 1) cut) b = xe from HZ.out.1)
    go_wp2_with (first | (go_at_call 53; (with_reducible refine (HPN.out _ _ HS0.out).mono ?_); rintro e u1 ⟨rfl, hb⟩; have HS1 := Lib.hid (HS0.out.quiet hb); clear hb; have y10 : u1.cell? ⟨w.heap.size, 0, none⟩ = some (.int .i64 g.kind) := HS1.out.c0; have y11 : u1.cell? ⟨w.heap.size, 1, none⟩ = some (.int .i64 g.t.kind) := HS1.out.c1; have y12 : u1.cell? ⟨w.heap.size, 2, none⟩ = some (.string g.t.name) := HS1.out.c2; have y13 : u1.cell? ⟨w.heap.size, 3, none⟩ = some (.int .i64 g.t.n) := HS1.out.c3; have y14 : u1.cell? ⟨w.heap.size, 4, none⟩ = some (.slice gt mt ct) := HS1.out.c4; have y15 : u1.cell? ⟨w.heap.size, 5, none⟩ = some (.slice ga ma ca) := HS1.out.c5; have y16 : u1.cell? ⟨w.heap.size, 6, none⟩ = some (.slice gb mb cb) := HS1.out.c6; have y17 : u1.cell? ⟨w.heap.size, 7, none⟩ = some (.slice gc mc cc) := HS1.out.c7; have y1l := HS1.out.lt) | (go_at_call 24; (with_reducible refine (HA.out _ HS1.out).mono ?_); rintro e u2 ⟨b2, rfl, hk2, he2, hf2⟩; have HS2 := Lib.hid (HS1.out.mv hf2 hk2); have HE2 := Lib.hid he2; clear hk2 he2 hf2; have y20 : u2.cell? ⟨w.heap.size, 0, none⟩ = some (.int .i64 g.kind) := HS2.out.c0; have y21 : u2.cell? ⟨w.heap.size, 1, none⟩ = some (.int .i64 g.t.kind) := HS2.out.c1; have y22 : u2.cell? ⟨w.heap.size, 2, none⟩ = some (.string g.t.name) := HS2.out.c2; have y23 : u2.cell? ⟨w.heap.size, 3, none⟩ = some (.int .i64 g.t.n) := HS2.out.c3; have y24 : u2.cell? ⟨w.heap.size, 4, none⟩ = some (.slice gt mt ct) := HS2.out.c4; have y25 : u2.cell? ⟨w.heap.size, 5, none⟩ = some (.slice ga ma ca) := HS2.out.c5; have y26 : u2.cell? ⟨w.heap.size, 6, none⟩ = some (.slice gb mb cb) := HS2.out.c6; have y27 : u2.cell? ⟨w.heap.size, 7, none⟩ = some (.slice gc mc cc) := HS2.out.c7; have y2l := HS2.out.lt) | (go_at_call 52; (with_reducible refine (HL2.out _).mono ?_); rintro e u3 ⟨rfl, hb⟩; have HS3 := Lib.hid (HS2.out.quiet hb); clear hb; have y30 : u3.cell? ⟨w.heap.size, 0, none⟩ = some (.int .i64 g.kind) := HS3.out.c0; have y31 : u3.cell? ⟨w.heap.size, 1, none⟩ = some (.int .i64 g.t.kind) := HS3.out.c1; have y32 : u3.cell? ⟨w.heap.size, 2, none⟩ = some (.string g.t.name) := HS3.out.c2; have y33 : u3.cell? ⟨w.heap.size, 3, none⟩ = some (.int .i64 g.t.n) := HS3.out.c3; have y34 : u3.cell? ⟨w.heap.size, 4, none⟩ = some (.slice gt mt ct) := HS3.out.c4; have y35 : u3.cell? ⟨w.heap.size, 5, none⟩ = some (.slice ga ma ca) := HS3.out.c5; have y36 : u3.cell? ⟨w.heap.size, 6, none⟩ = some (.slice gb mb cb) := HS3.out.c6; have y37 : u3.cell? ⟨w.heap.size, 7, none⟩ = some (.slice gc mc cc) := HS3.out.c7; have y3l := HS3.out.lt))
    go_ret
    exact ⟨_, by rw [HF.out]; rfl, HS3.out.ck, fun h => by (rw [HF.out] at h; have h8 := HE2.out trivial; have h9 := HZ.out.2 h; omega), HS3.out.fr⟩
  have HF := Lib.hid (@okG_other g n (ins + 1) b cut hk1 hk2 hk3 hk4 hk5)
  have e1 : (g.kind == 1) = false := by rw [beq_eq_false_iff_ne]; exact hk1
  have e2 : (g.kind == 2) = false := by rw [beq_eq_false_iff_ne]; exact hk2
  have e3 : (g.kind == 3) = false := by rw [beq_eq_false_iff_ne]; exact hk3
  have e4 : (g.kind == 4) = false := by rw [beq_eq_false_iff_ne]; exact hk4
  have e5 : (g.kind == 5) = false := by rw [beq_eq_false_iff_ne]; exact hk5
  clear hk1 hk2 hk3 hk4 hk5
  go_wp2_with fail
  go_ret
  exact ⟨_, by rw [HF.out]; rfl, HS0.out.ck, fun h => by (rw [HF.out] at h; exact absurd h Bool.false_ne_true), HS0.out.fr⟩
end Go.Proofs.YtkjnjahmlobjiaaGreatDoor
