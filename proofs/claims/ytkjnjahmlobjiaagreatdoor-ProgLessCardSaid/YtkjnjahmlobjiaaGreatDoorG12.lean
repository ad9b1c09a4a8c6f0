/-
  A block of eight cells, written whole.
  The program's maker: what its calls promise; an If.
-/
import Derived.Test.YtkjnjahmlobjiaaGreatDoorG09
import Derived.Test.YtkjnjahmlobjiaaGreatDoorG11
namespace Go.Proofs.YtkjnjahmlobjiaaGreatDoor
open Go.RowKit

def set8 (W : World) (b : Nat) (a0 a1 a2 a3 a4 a5 a6 a7 : Value) : World :=
  (((((((W.setCell ⟨b, 0, none⟩ a0).setCell ⟨b, 1, none⟩ a1).setCell ⟨b, 2, none⟩ a2).setCell ⟨b, 3, none⟩ a3).setCell ⟨b, 4, none⟩ a4).setCell ⟨b, 5, none⟩ a5).setCell ⟨b, 6, none⟩ a6).setCell ⟨b, 7, none⟩ a7
theorem set8_blk {W : World} {b : Nat} {z0 z1 z2 z3 z4 z5 z6 z7 : Value} {t : TypeId} (h : W.heap[b]? = some (.cells #[z0, z1, z2, z3, z4, z5, z6, z7] t (0, 0))) (a0 a1 a2 a3 a4 a5 a6 a7 : Value) :
    (set8 W b a0 a1 a2 a3 a4 a5 a6 a7).heap[b]? = some (.cells #[a0, a1, a2, a3, a4, a5, a6, a7] t (0, 0)) := by
  simp [set8, World.setCell, Array.getElem?_modify, h]
theorem FrP.set8 (W : World) (b : Nat) (a0 a1 a2 a3 a4 a5 a6 a7 : Value) : FrP (fun x => x = b) W (set8 W b a0 a1 a2 a3 a4 a5 a6 a7) := by
  have tr : ∀ {X Y Z : World}, FrP (fun x => x = b) X Y → FrP (fun x => x = b) Y Z → FrP (fun x => x = b) X Z := fun h g => h.trans g (fun _ _ e => e) (fun _ _ e => e)
  exact tr (tr (tr (tr (tr (tr (tr (FrP.setC _ _ _ _) (FrP.setC _ _ _ _)) (FrP.setC _ _ _ _)) (FrP.setC _ _ _ _)) (FrP.setC _ _ _ _)) (FrP.setC _ _ _ _)) (FrP.setC _ _ _ _)) (FrP.setC _ _ _ _)
/-- Its cells. -/
theorem row8 {W : World} {b : Nat} {a0 a1 a2 a3 a4 a5 a6 a7 : Value} {t : TypeId} (h : W.heap[b]? = some (.cells #[a0, a1, a2, a3, a4, a5, a6, a7] t (0, 0))) :
    (W.cell? ⟨b, 0, none⟩ = some a0 ∧ W.cell? ⟨b, 1, none⟩ = some a1 ∧ W.cell? ⟨b, 2, none⟩ = some a2 ∧ W.cell? ⟨b, 3, none⟩ = some a3 ∧ W.cell? ⟨b, 4, none⟩ = some a4 ∧ W.cell? ⟨b, 5, none⟩ = some a5 ∧ W.cell? ⟨b, 6, none⟩ = some a6 ∧ W.cell? ⟨b, 7, none⟩ = some a7) ∧
      (W.frozen? ⟨b, 0, none⟩ = false ∧ W.frozen? ⟨b, 1, none⟩ = false ∧ W.frozen? ⟨b, 2, none⟩ = false ∧ W.frozen? ⟨b, 3, none⟩ = false ∧ W.frozen? ⟨b, 4, none⟩ = false ∧ W.frozen? ⟨b, 5, none⟩ = false ∧ W.frozen? ⟨b, 6, none⟩ = false ∧ W.frozen? ⟨b, 7, none⟩ = false) := by
  simp [World.cell?, World.frozen?, h]
def set6 (W : World) (b : Nat) (a0 a1 a2 a3 a4 a5 : Value) : World := (((((W.setCell ⟨b, 0, none⟩ a0).setCell ⟨b, 1, none⟩ a1).setCell ⟨b, 2, none⟩ a2).setCell ⟨b, 3, none⟩ a3).setCell ⟨b, 4, none⟩ a4).setCell ⟨b, 5, none⟩ a5
theorem set6_blk {W : World} {b : Nat} {z0 z1 z2 z3 z4 z5 : Value} {t : TypeId} (h : W.heap[b]? = some (.cells #[z0, z1, z2, z3, z4, z5] t (0, 0))) (a0 a1 a2 a3 a4 a5 : Value) : (set6 W b a0 a1 a2 a3 a4 a5).heap[b]? = some (.cells #[a0, a1, a2, a3, a4, a5] t (0, 0)) := by
  simp [set6, World.setCell, Array.getElem?_modify, h]
theorem FrP.set6 (W : World) (b : Nat) (a0 a1 a2 a3 a4 a5 : Value) : FrP (fun x => x = b) W (set6 W b a0 a1 a2 a3 a4 a5) := by
  have tr : ∀ {X Y Z : World}, FrP (fun x => x = b) X Y → FrP (fun x => x = b) Y Z → FrP (fun x => x = b) X Z := fun h g => h.trans g (fun _ _ e => e) (fun _ _ e => e)
  exact tr (tr (tr (tr (tr (FrP.setC _ _ _ _) (FrP.setC _ _ _ _)) (FrP.setC _ _ _ _)) (FrP.setC _ _ _ _)) (FrP.setC _ _ _ _)) (FrP.setC _ _ _ _)
theorem row6c {W : World} {b : Nat} {a0 a1 a2 a3 a4 a5 : Value} {t : TypeId} (h : W.heap[b]? = some (.cells #[a0, a1, a2, a3, a4, a5] t (0, 0))) :
    (W.cell? ⟨b, 0, none⟩ = some a0 ∧ W.cell? ⟨b, 1, none⟩ = some a1 ∧ W.cell? ⟨b, 2, none⟩ = some a2 ∧ W.cell? ⟨b, 3, none⟩ = some a3 ∧ W.cell? ⟨b, 4, none⟩ = some a4 ∧ W.cell? ⟨b, 5, none⟩ = some a5) ∧ (W.frozen? ⟨b, 0, none⟩ = false ∧ W.frozen? ⟨b, 1, none⟩ = false ∧ W.frozen? ⟨b, 2, none⟩ = false ∧ W.frozen? ⟨b, 3, none⟩ = false ∧ W.frozen? ⟨b, 4, none⟩ = false ∧ W.frozen? ⟨b, 5, none⟩ = false) := by
  simp [World.cell?, World.frozen?, h]
end Go.Proofs.YtkjnjahmlobjiaaGreatDoor

namespace Go.Proofs.YtkjnjahmlobjiaaGreatDoor
open Go.RowKit

def MkLp (f : Nat) : Prop := ∀ (t : Tm), t.size ≤ f → ∀ (w : World) (sv : Value) (mx B : Nat) (st : MSt) (ins : Nat) (cut : Bool), Tm.inn w B t sv → B ≤ mx → Mkr w mx st → TabsLo w B → okSt st → ins ≤ 10 →
  Calls Tryz.prog 63 #[.pointer (some ⟨mx, 0, none⟩), .agg #[.int .i64 t.kind, .string t.name, .int .i64 t.n, sv], .int .i64 (ins : Nat), .bool cut] w fun e w' => ∃ v, e = .returned v ∧ GOwn w' w.heap.size (mkL f t ins cut st).1 v ∧ Mkr w' mx (mkL f t ins cut st).2 ∧ FrP (fun x => x = mx) w w'
/-- What a call that makes one goal hands on. -/
def GoalP (w : World) (mx : Nat) (x : Gl × MSt) (e : Ending) (w' : World) : Prop :=
  ∃ sv av bv cv, e = .returned (.agg #[.int .i64 x.1.kind, .int .i64 x.1.t.kind, .string x.1.t.name, .int .i64 x.1.t.n, sv, av, bv, cv]) ∧ Gl.innP w' (fun b => w.heap.size ≤ b ∧ b < w'.heap.size) x.1 sv av bv cv ∧ Mkr w' mx x.2 ∧ FrP (fun x => x = mx) w w'
def BrP (f : Nat) : Prop := ∀ (th el : Tm), th.args.length = 2 → (argN th 0).size ≤ f → (argN th 1).size ≤ f → el.size ≤ f → ∀ (w : World) (sv sv' : Value) (mx B : Nat) (st : MSt) (ins : Nat) (cut : Bool), Tm.inn w B th sv → Tm.inn w B el sv' → B ≤ mx → Mkr w mx st → TabsLo w B → okSt st → ins ≤ 9 →
  Calls Tryz.prog 100 #[.pointer (some ⟨mx, 0, none⟩), .agg #[.int .i64 th.kind, .string th.name, .int .i64 th.n, sv], .agg #[.int .i64 el.kind, .string el.name, .int .i64 el.n, sv'], .int .i64 (ins : Nat), .bool cut] w fun e w' => GoalP w mx (brE (mkL f) th el ins cut st) e w'
theorem zT_innP (w : World) (ok : Nat → Prop) : Tm.innP w ok zT (.slice none 0 0) := Tm.innP_mk.2 ⟨⟨by decide, by decide, by decide⟩, none, 0, rfl, Nat.le_refl _, by simp, .inl rfl⟩
/-- What stands while an If is made. -/
structure BSt (w0 : World) (th el : Tm) (svt sve : Value) (mx B : Nat) (st : MSt) (a b c : Value) (W : World) : Prop where
  fr : FrP (fun x => x = mx) w0 W
  mr : Mkr W mx st
  bt : W.heap[w0.heap.size]? = some (.cells #[.int .i64 th.kind, .string th.name, .int .i64 th.n, svt] 34 (0, 0))
  be : W.heap[w0.heap.size + 1]? = some (.cells #[.int .i64 el.kind, .string el.name, .int .i64 el.n, sve] 34 (0, 0))
  bz : W.heap[w0.heap.size + 2]? = some (.cells #[.int .i64 0, .int .i64 0, .string ⟨#[]⟩, .int .i64 0, .slice none 0 0, .slice none 0 0, .slice none 0 0, .slice none 0 0] 49 (0, 0))
  bg : W.heap[w0.heap.size + 3]? = some (.cells #[.int .i64 4, .int .i64 0, .string ⟨#[]⟩, .int .i64 0, .slice none 0 0, a, b, c] 49 (0, 0))
  ne : mx < w0.heap.size
  le : B ≤ mx
  ht : Tm.inn W B th svt
  he : Tm.inn W B el sve
  tb : TabsLo W B
section
variable {w0 : World} {th el : Tm} {svt sve : Value} {mx B : Nat} {st : MSt} {a b c : Value} {W : World} (h : BSt w0 th el svt sve mx B st a b c W)
include h
theorem BSt.lt : w0.heap.size + 3 < W.heap.size := (Array.getElem?_eq_some_iff.1 h.bg).1
theorem BSt.mv {W' : World} {st' : MSt} (hf : FrP (fun x => x = mx) W W') (hk : Mkr W' mx st') : BSt w0 th el svt sve mx B st' a b c W' := by
  have hl := h.lt
  have hn := h.ne
  have hle := h.le
  exact ⟨h.fr.trans hf (fun _ _ e => e) (fun _ _ e => e), hk, (hf.block _ (by omega) (by omega)).trans h.bt, (hf.block _ (by omega) (by omega)).trans h.be, (hf.block _ (by omega) (by omega)).trans h.bz, (hf.block _ (by omega) (by omega)).trans h.bg, hn, hle,
    Tm.inn_fr h.ht hf (fun x e => by omega), Tm.inn_fr h.he hf (fun x e => by omega), h.tb.mv hf (fun x e => by omega)⟩
theorem BSt.quiet {W' : World} (hb : Below W.heap.size W W') : BSt w0 th el svt sve mx B st a b c W' := h.mv ((FrP.of_below hb).mono (fun _ _ e => e.elim)) (h.mr.next hb)
theorem BSt.put {W' : World} {a' b' c' : Value} (hf : FrP (fun x => x = w0.heap.size + 3) W W') (hg : W'.heap[w0.heap.size + 3]? = some (.cells #[.int .i64 4, .int .i64 0, .string ⟨#[]⟩, .int .i64 0, .slice none 0 0, a', b', c'] 49 (0, 0))) : BSt w0 th el svt sve mx B st a' b' c' W' := by
  have hl := h.lt
  have hn := h.ne
  have hle := h.le
  exact ⟨h.fr.trans hf (fun _ _ e => e) (fun x hx e => by omega), ⟨(hf.block _ (by omega) (by omega)).trans h.mr.bk⟩, (hf.block _ (by omega) (by omega)).trans h.bt, (hf.block _ (by omega) (by omega)).trans h.be, (hf.block _ (by omega) (by omega)).trans h.bz, hg, hn, hle,
    Tm.inn_fr h.ht hf (fun x e => by omega), Tm.inn_fr h.he hf (fun x e => by omega), h.tb.mv hf (fun x e => by omega)⟩
theorem BSt.set5 (v : Value) : BSt w0 th el svt sve mx B st v b c (W.setCell ⟨w0.heap.size + 3, 5, none⟩ v) := by
  have h9 := h.bg
  exact h.put (FrP.setC _ _ _ _) (by simp [World.setCell, Array.getElem?_modify, h9])
theorem BSt.set6 (v : Value) : BSt w0 th el svt sve mx B st a v c (W.setCell ⟨w0.heap.size + 3, 6, none⟩ v) := by
  have h9 := h.bg
  exact h.put (FrP.setC _ _ _ _) (by simp [World.setCell, Array.getElem?_modify, h9])
theorem BSt.set7 (v : Value) : BSt w0 th el svt sve mx B st a b v (W.setCell ⟨w0.heap.size + 3, 7, none⟩ v) := by
  have h9 := h.bg
  exact h.put (FrP.setC _ _ _ _) (by simp [World.setCell, Array.getElem?_modify, h9])
theorem BSt.frozen (o : Nat) : W.frozen? ⟨w0.heap.size + 3, o, none⟩ = false := by simp [World.frozen?, h.bg]
end
theorem BSt.new {w : World} {th el : Tm} {svt sve : Value} {mx B : Nat} {st : MSt} (ht : Tm.inn w B th svt) (he : Tm.inn w B el sve) (hle : B ≤ mx) (hk : Mkr w mx st) (hb : TabsLo w B) :
    BSt w th el svt sve mx B st (.slice none 0 0) (.slice none 0 0) (.slice none 0 0) ((((w.alloc (.cells #[.int .i64 th.kind, .string th.name, .int .i64 th.n, svt] 34)).alloc (.cells #[.int .i64 el.kind, .string el.name, .int .i64 el.n, sve] 34)).alloc (.cells #[.int .i64 0, .int .i64 0, .string ⟨#[]⟩, .int .i64 0, .slice none 0 0, .slice none 0 0, .slice none 0 0, .slice none 0 0] 49)).alloc (.cells #[.int .i64 4, .int .i64 0, .string ⟨#[]⟩, .int .i64 0, .slice none 0 0, .slice none 0 0, .slice none 0 0, .slice none 0 0] 49)) := by
  have hlt := hk.lt
  have p1 := (Below.refl w.heap.size w).alloc (Nat.le_refl _) (.cells #[.int .i64 th.kind, .string th.name, .int .i64 th.n, svt] 34)
  have n1 := heap_alloc_new w (.cells #[.int .i64 th.kind, .string th.name, .int .i64 th.n, svt] 34)
  have z1 : (w.alloc (.cells #[.int .i64 th.kind, .string th.name, .int .i64 th.n, svt] 34)).heap.size = w.heap.size + 1 := by simp
  generalize w.alloc (.cells #[.int .i64 th.kind, .string th.name, .int .i64 th.n, svt] 34) = w1 at p1 n1 z1 ⊢
  have p2 := (Below.refl w1.heap.size w1).alloc (Nat.le_refl _) (.cells #[.int .i64 el.kind, .string el.name, .int .i64 el.n, sve] 34)
  have n2 := heap_alloc_new w1 (.cells #[.int .i64 el.kind, .string el.name, .int .i64 el.n, sve] 34)
  have z2 : (w1.alloc (.cells #[.int .i64 el.kind, .string el.name, .int .i64 el.n, sve] 34)).heap.size = w1.heap.size + 1 := by simp
  generalize w1.alloc (.cells #[.int .i64 el.kind, .string el.name, .int .i64 el.n, sve] 34) = w2 at p2 n2 z2 ⊢
  have p3 := (Below.refl w2.heap.size w2).alloc (Nat.le_refl _) (.cells #[.int .i64 0, .int .i64 0, .string ⟨#[]⟩, .int .i64 0, .slice none 0 0, .slice none 0 0, .slice none 0 0, .slice none 0 0] 49)
  have n3 := heap_alloc_new w2 (.cells #[.int .i64 0, .int .i64 0, .string ⟨#[]⟩, .int .i64 0, .slice none 0 0, .slice none 0 0, .slice none 0 0, .slice none 0 0] 49)
  have z3 : (w2.alloc (.cells #[.int .i64 0, .int .i64 0, .string ⟨#[]⟩, .int .i64 0, .slice none 0 0, .slice none 0 0, .slice none 0 0, .slice none 0 0] 49)).heap.size = w2.heap.size + 1 := by simp
  generalize w2.alloc (.cells #[.int .i64 0, .int .i64 0, .string ⟨#[]⟩, .int .i64 0, .slice none 0 0, .slice none 0 0, .slice none 0 0, .slice none 0 0] 49) = w3 at p3 n3 z3 ⊢
  have p4 := (Below.refl w3.heap.size w3).alloc (Nat.le_refl _) (.cells #[.int .i64 4, .int .i64 0, .string ⟨#[]⟩, .int .i64 0, .slice none 0 0, .slice none 0 0, .slice none 0 0, .slice none 0 0] 49)
  have n4 := heap_alloc_new w3 (.cells #[.int .i64 4, .int .i64 0, .string ⟨#[]⟩, .int .i64 0, .slice none 0 0, .slice none 0 0, .slice none 0 0, .slice none 0 0] 49)
  generalize w3.alloc (.cells #[.int .i64 4, .int .i64 0, .string ⟨#[]⟩, .int .i64 0, .slice none 0 0, .slice none 0 0, .slice none 0 0, .slice none 0 0] 49) = w4 at p4 n4 ⊢
  have hbl : Below w.heap.size w w4 := ((p1.trans (p2.mono p1.size)).trans (p3.mono (by omega))).trans (p4.mono (by omega))
  have hf : FrP (fun _ => False) w w4 := FrP.of_below hbl
  exact ⟨hf.mono (fun _ _ e => e.elim), hk.next hbl, (p4.block _ (by omega)).trans ((p3.block _ (by omega)).trans ((p2.block _ (by omega)).trans n1)), by rw [← z1]; exact (p4.block _ (by omega)).trans ((p3.block _ (by omega)).trans n2),
    by rw [show w.heap.size + 2 = w2.heap.size by omega]; exact (p4.block _ (by omega)).trans n3, by rw [show w.heap.size + 3 = w3.heap.size by omega]; exact n4, hlt, hle, Tm.inn_fr ht hf (fun _ e => e.elim), Tm.inn_fr he hf (fun _ e => e.elim), hb.mv hf (fun _ e => e.elim)⟩
set_option maxRecDepth 100000 in
set_option maxHeartbeats 16000000 in
theorem mbranch_of (f : Nat) (hf : MkLp f) : BrP f := by
  intro th el hth h0 h1 h2 w sv sv' mx B st ins cut hit hie hle hk htb hst hins
  obtain ⟨_, gt, ct, rfl, -, hmt, -⟩ := Tm.inn_iff.1 hit
  obtain ⟨_, ge, ce, rfl, -, hme, -⟩ := Tm.inn_iff.1 hie
  have hRA := mkL_ok f (argN th 0) (ins + 1) false st hst
  have hRB := mkL_ok f (argN th 1) (ins + 1) cut _ hRA.1
  have hRC := mkL_ok f el (ins + 1) cut _ hRB.1
  have HS := Lib.hid (BSt.new hit hie hle hk htb)
  have HX := Lib.hid (show brE (mkL f) th el ins cut st = (.mk 4 zT (mkL f (argN th 0) (ins + 1) false st).1 (mkL f (argN th 1) (ins + 1) cut (mkL f (argN th 0) (ins + 1) false st).2).1 (mkL f el (ins + 1) cut (mkL f (argN th 1) (ins + 1) cut (mkL f (argN th 0) (ins + 1) false st).2).2).1,
    (mkL f el (ins + 1) cut (mkL f (argN th 1) (ins + 1) cut (mkL f (argN th 0) (ins + 1) false st).2).2).2) from rfl)
  have HA := Lib.hid (fun (w9 : World) sv9 h9 h8 h7 h6 => hf (argN th 0) h0 w9 sv9 mx B st (ins + 1) false h9 h8 h7 h6 hst (by omega))
  have HB := Lib.hid (fun (w9 : World) sv9 h9 h8 h7 h6 => hf (argN th 1) h1 w9 sv9 mx B _ (ins + 1) cut h9 h8 h7 h6 hRA.1 (by omega))
  have HC := Lib.hid (fun (w9 : World) sv9 h9 h8 h7 h6 => hf el h2 w9 sv9 mx B _ (ins + 1) cut h9 h8 h7 h6 hRB.1 (by omega))
  have HLA := Lib.hid (show (mkL f (argN th 0) (ins + 1) false st).1.length ≤ 1000000 by have := hRA.1.1; omega)
  have HLB := Lib.hid (show (mkL f (argN th 1) (ins + 1) cut (mkL f (argN th 0) (ins + 1) false st).2).1.length ≤ 1000000 by have := hRB.1.1; omega)
  have HLC := Lib.hid (show (mkL f el (ins + 1) cut (mkL f (argN th 1) (ins + 1) cut (mkL f (argN th 0) (ins + 1) false st).2).2).1.length ≤ 1000000 by have := hRC.1.1; omega)
  clear hRA hRB hRC hit hie hk htb hst h0 h1 h2 hf
  rw [hth] at HS ⊢
  have HTH := Lib.hid hth
  obtain ⟨me, hme9⟩ : ∃ m, el.args.length = m := ⟨_, rfl⟩
  rw [hme9] at HS hme ⊢
  clear hme9 hth hmt
  generalize mkL f (argN th 0) (ins + 1) false st = RA at HX HA HB HC HLA HLB HLC
  generalize mkL f (argN th 1) (ins + 1) cut RA.2 = RB at HX HB HC HLB HLC
  generalize mkL f el (ins + 1) cut RB.2 = RC at HX HC HLC
  have hw1 : IntKind.i64.wrap ((ins : Int) + 1) = (ins : Int) + 1 := by rw [IntKind.wrap_i64]; omega
  have hcast : ((ins + 1 : Nat) : Int) = (ins : Int) + 1 := by omega
  rw [hcast] at HA HB HC
  clear hcast
  go_enter Tryz.func100, Tryz.ntmps100
  go_upto_region 2 with fail
  have HS0 := Lib.hid (show BSt w th el (.slice gt 2 ct) (.slice ge me ce) mx B st (.slice none 0 0) (.slice none 0 0) (.slice none 0 0) ((((w.alloc (.cells #[.int .i64 th.kind, .string th.name, .int .i64 th.n, .slice gt 2 ct] 34)).alloc (.cells #[.int .i64 el.kind, .string el.name, .int .i64 el.n, .slice ge me ce] 34)).alloc (.cells #[.int .i64 0, .int .i64 0, .string ⟨#[]⟩, .int .i64 0, .slice none 0 0, .slice none 0 0, .slice none 0 0, .slice none 0 0] 49)).alloc (.cells #[.int .i64 4, .int .i64 0, .string ⟨#[]⟩, .int .i64 0, .slice none 0 0, .slice none 0 0, .slice none 0 0, .slice none 0 0] 49)) from HS.out)
  generalize (((w.alloc (.cells #[.int .i64 th.kind, .string th.name, .int .i64 th.n, .slice gt 2 ct] 34)).alloc (.cells #[.int .i64 el.kind, .string el.name, .int .i64 el.n, .slice ge me ce] 34)).alloc (.cells #[.int .i64 0, .int .i64 0, .string ⟨#[]⟩, .int .i64 0, .slice none 0 0, .slice none 0 0, .slice none 0 0, .slice none 0 0] 49)).alloc (.cells #[.int .i64 4, .int .i64 0, .string ⟨#[]⟩, .int .i64 0, .slice none 0 0, .slice none 0 0, .slice none 0 0, .slice none 0 0] 49) = u0 at HS0 ⊢
  clear HS
  have t3 : u0.cell? ⟨w.heap.size, 3, none⟩ = some (.slice gt 2 ct) := by simp [World.cell?, HS0.out.bt]
  have hlt := HS0.out.lt
  obtain ⟨ab, ao, gs, ms, cs, hga, -, hab, q0, q1, q2, q3, hin0⟩ := arg_in HS0.out.ht 0 (by rw [HTH.out]; omega)
  subst hga
  have hab2 : ab < u0.heap.size := by have := HS0.out.le; have := HS0.out.ne; omega
  have HA := Lib.hid (HA.out u0 _ hin0 HS0.out.le HS0.out.mr HS0.out.tb)
  simp only [Nat.zero_mul, Nat.add_zero] at q0 q1 q2 q3
  rw [show w.heap.size + 1 + 1 + 1 = w.heap.size + 3 from rfl, show w.heap.size + 1 + 1 = w.heap.size + 2 from rfl]
  go_upto_region 3 with (go_at_call 63; (with_reducible refine (HA.out).mono ?_); rintro e u1 ⟨va, rfl, hg1, hm1, hf1⟩; obtain ⟨g1, c1, rfl⟩ := hg1.slice; have HS1 := Lib.hid (HS0.out.mv hf1 hm1); have HG1 := Lib.hid (hg1.low (lo' := w.heap.size + 4) (by omega)); have hz1 := HS1.out.frozen 5; have hx1 : u1.cell? ⟨w.heap.size + 3, 5, none⟩ = some (.slice none 0 0) := (by simp [World.cell?, HS1.out.bg]); have hl1 := HS1.out.lt; clear hg1 hm1 hf1)
  clear q0 q1 q2 q3 t3 hin0 hz1 hx1
  have HS2 := Lib.hid (HS1.out.set5 (.slice g1 RA.1.length c1))
  have HG2 := Lib.hid (HG1.out.keep (W' := u1.setCell ⟨w.heap.size + 3, 5, none⟩ (.slice g1 RA.1.length c1)) (FrP.setC _ _ _ _).size (fun b h1 h2 => (FrP.setC u1 (w.heap.size + 3) 5 _).block b h2 (by omega)))
  generalize u1.setCell ⟨w.heap.size + 3, 5, none⟩ (.slice g1 RA.1.length c1) = u2 at HS2 HG2 ⊢
  have t3 : u2.cell? ⟨w.heap.size, 3, none⟩ = some (.slice (some ⟨ab, ao, none⟩) 2 ct) := by simp [World.cell?, HS2.out.bt]
  have hlt2 := HS2.out.lt
  obtain ⟨ab', ao', gs', ms', cs', hga, -, hab', q0, q1, q2, q3, hin0⟩ := arg_in HS2.out.ht 1 (by rw [HTH.out]; omega)
  injection hga with hga
  injection hga with hg1 hg2 _
  subst hg1 hg2
  simp only [Nat.one_mul] at q0 q1 q2 q3
  have hab3 : ab < u2.heap.size := by have := HS2.out.le; have := HS2.out.ne; omega
  have HB := Lib.hid (HB.out u2 _ hin0 HS2.out.le HS2.out.mr HS2.out.tb)
  clear hin0
  go_upto_region 4 with (go_at_call 63; (with_reducible refine (HB.out).mono ?_); rintro e u3 ⟨vb, rfl, hg1, hm1, hf1⟩; obtain ⟨g2, c2, rfl⟩ := hg1.slice; have HS3 := Lib.hid (HS2.out.mv hf1 hm1); have HG3 := Lib.hid (HG2.out.keep hf1.size (fun b h1 h2 => hf1.block b h2 (by have := HS2.out.ne; omega))); have HH3 := Lib.hid (hg1.low (lo' := w.heap.size + 4) (by omega)); have hz1 := HS3.out.frozen 6; have hx1 : u3.cell? ⟨w.heap.size + 3, 6, none⟩ = some (.slice none 0 0) := (by simp [World.cell?, HS3.out.bg]); have hl3 := HS3.out.lt; clear hg1 hm1 hf1)
  clear q0 q1 q2 q3 t3 hz1 hx1
  have HS4 := Lib.hid (HS3.out.set6 (.slice g2 RB.1.length c2))
  have HG4 := Lib.hid (HG3.out.keep (W' := u3.setCell ⟨w.heap.size + 3, 6, none⟩ (.slice g2 RB.1.length c2)) (FrP.setC _ _ _ _).size (fun b h1 h2 => (FrP.setC u3 (w.heap.size + 3) 6 _).block b h2 (by omega)))
  have HH4 := Lib.hid (HH3.out.keep (W' := u3.setCell ⟨w.heap.size + 3, 6, none⟩ (.slice g2 RB.1.length c2)) (FrP.setC _ _ _ _).size (fun b h1 h2 => (FrP.setC u3 (w.heap.size + 3) 6 _).block b h2 (by omega)))
  generalize u3.setCell ⟨w.heap.size + 3, 6, none⟩ (.slice g2 RB.1.length c2) = u4 at HS4 HG4 HH4 ⊢
  have e0 : u4.cell? ⟨w.heap.size + 1, 0, none⟩ = some (.int .i64 el.kind) := by simp [World.cell?, HS4.out.be]
  have e1 : u4.cell? ⟨w.heap.size + 1, 1, none⟩ = some (.string el.name) := by simp [World.cell?, HS4.out.be]
  have e2 : u4.cell? ⟨w.heap.size + 1, 2, none⟩ = some (.int .i64 el.n) := by simp [World.cell?, HS4.out.be]
  have e3 : u4.cell? ⟨w.heap.size + 1, 3, none⟩ = some (.slice ge me ce) := by simp [World.cell?, HS4.out.be]
  have hlt4 := HS4.out.lt
  have HC := Lib.hid (HC.out u4 _ HS4.out.he HS4.out.le HS4.out.mr HS4.out.tb)
  go_upto_region 5 with (go_at_call 63; (with_reducible refine (HC.out).mono ?_); rintro e u5 ⟨vc, rfl, hg1, hm1, hf1⟩; obtain ⟨g3, c3, rfl⟩ := hg1.slice; have HS5 := Lib.hid (HS4.out.mv hf1 hm1); have HG5 := Lib.hid (HG4.out.keep hf1.size (fun b h1 h2 => hf1.block b h2 (by have := HS4.out.ne; omega))); have HH5 := Lib.hid (HH4.out.keep hf1.size (fun b h1 h2 => hf1.block b h2 (by have := HS4.out.ne; omega))); have HI5 := Lib.hid (hg1.low (lo' := w.heap.size + 4) (by omega)); have hz1 := HS5.out.frozen 7; have hx1 : u5.cell? ⟨w.heap.size + 3, 7, none⟩ = some (.slice none 0 0) := (by simp [World.cell?, HS5.out.bg]); have hl5 := HS5.out.lt; clear hg1 hm1 hf1)
  clear e0 e1 e2 e3 hz1 hx1
  have HS6 := Lib.hid (HS5.out.set7 (.slice g3 RC.1.length c3))
  have HG6 := Lib.hid (HG5.out.keep (W' := u5.setCell ⟨w.heap.size + 3, 7, none⟩ (.slice g3 RC.1.length c3)) (FrP.setC _ _ _ _).size (fun b h1 h2 => (FrP.setC u5 (w.heap.size + 3) 7 _).block b h2 (by omega)))
  have HH6 := Lib.hid (HH5.out.keep (W' := u5.setCell ⟨w.heap.size + 3, 7, none⟩ (.slice g3 RC.1.length c3)) (FrP.setC _ _ _ _).size (fun b h1 h2 => (FrP.setC u5 (w.heap.size + 3) 7 _).block b h2 (by omega)))
  have HI6 := Lib.hid (HI5.out.keep (W' := u5.setCell ⟨w.heap.size + 3, 7, none⟩ (.slice g3 RC.1.length c3)) (FrP.setC _ _ _ _).size (fun b h1 h2 => (FrP.setC u5 (w.heap.size + 3) 7 _).block b h2 (by omega)))
  generalize u5.setCell ⟨w.heap.size + 3, 7, none⟩ (.slice g3 RC.1.length c3) = u6 at HS6 HG6 HH6 HI6 ⊢
  have hbg := HS6.out.bg
  have hbz := HS6.out.bz
  have y0 : u6.cell? ⟨w.heap.size + 3, 0, none⟩ = some (.int .i64 4) := by simp [World.cell?, hbg]
  have y1 : u6.cell? ⟨w.heap.size + 3, 1, none⟩ = some (.int .i64 0) := by simp [World.cell?, hbg]
  have y2 : u6.cell? ⟨w.heap.size + 3, 2, none⟩ = some (.string ⟨#[]⟩) := by simp [World.cell?, hbg]
  have y3 : u6.cell? ⟨w.heap.size + 3, 3, none⟩ = some (.int .i64 0) := by simp [World.cell?, hbg]
  have y4 : u6.cell? ⟨w.heap.size + 3, 4, none⟩ = some (.slice none 0 0) := by simp [World.cell?, hbg]
  have y5 : u6.cell? ⟨w.heap.size + 3, 5, none⟩ = some (.slice g1 RA.1.length c1) := by simp [World.cell?, hbg]
  have y6 : u6.cell? ⟨w.heap.size + 3, 6, none⟩ = some (.slice g2 RB.1.length c2) := by simp [World.cell?, hbg]
  have y7 : u6.cell? ⟨w.heap.size + 3, 7, none⟩ = some (.slice g3 RC.1.length c3) := by simp [World.cell?, hbg]
  have z0 : u6.cell? ⟨w.heap.size + 2, 0, none⟩ = some (.int .i64 0) := by simp [World.cell?, hbz]
  have z1 : u6.cell? ⟨w.heap.size + 2, 1, none⟩ = some (.int .i64 0) := by simp [World.cell?, hbz]
  have z2 : u6.cell? ⟨w.heap.size + 2, 2, none⟩ = some (.string ⟨#[]⟩) := by simp [World.cell?, hbz]
  have z3 : u6.cell? ⟨w.heap.size + 2, 3, none⟩ = some (.int .i64 0) := by simp [World.cell?, hbz]
  have z4 : u6.cell? ⟨w.heap.size + 2, 4, none⟩ = some (.slice none 0 0) := by simp [World.cell?, hbz]
  have z5 : u6.cell? ⟨w.heap.size + 2, 5, none⟩ = some (.slice none 0 0) := by simp [World.cell?, hbz]
  have z6 : u6.cell? ⟨w.heap.size + 2, 6, none⟩ = some (.slice none 0 0) := by simp [World.cell?, hbz]
  have z7 : u6.cell? ⟨w.heap.size + 2, 7, none⟩ = some (.slice none 0 0) := by simp [World.cell?, hbz]
  have f0 : u6.frozen? ⟨w.heap.size + 2, 0, none⟩ = false := by simp [World.frozen?, hbz]
  have f1 : u6.frozen? ⟨w.heap.size + 2, 1, none⟩ = false := by simp [World.frozen?, hbz]
  have f2 : u6.frozen? ⟨w.heap.size + 2, 2, none⟩ = false := by simp [World.frozen?, hbz]
  have f3 : u6.frozen? ⟨w.heap.size + 2, 3, none⟩ = false := by simp [World.frozen?, hbz]
  have f4 : u6.frozen? ⟨w.heap.size + 2, 4, none⟩ = false := by simp [World.frozen?, hbz]
  have f5 : u6.frozen? ⟨w.heap.size + 2, 5, none⟩ = false := by simp [World.frozen?, hbz]
  have f6 : u6.frozen? ⟨w.heap.size + 2, 6, none⟩ = false := by simp [World.frozen?, hbz]
  have f7 : u6.frozen? ⟨w.heap.size + 2, 7, none⟩ = false := by simp [World.frozen?, hbz]
  have hlt6 := HS6.out.lt
  clear hbg hbz
  go_wp2_with fail
  have hz := set8_blk HS6.out.bz (.int .i64 4) (.int .i64 0) (.string ⟨#[]⟩) (.int .i64 0) (.slice none 0 0) (.slice g1 RA.1.length c1) (.slice g2 RB.1.length c2) (.slice g3 RC.1.length c3)
  have hfr := FrP.set8 u6 (w.heap.size + 2) (.int .i64 4) (.int .i64 0) (.string ⟨#[]⟩) (.int .i64 0) (.slice none 0 0) (.slice g1 RA.1.length c1) (.slice g2 RB.1.length c2) (.slice g3 RC.1.length c3)
  change bodyPost _ _ _ _ _ (set8 u6 (w.heap.size + 2) (.int .i64 4) (.int .i64 0) (.string ⟨#[]⟩) (.int .i64 0) (.slice none 0 0) (.slice g1 RA.1.length c1) (.slice g2 RB.1.length c2) (.slice g3 RC.1.length c3))
  obtain ⟨V, hV⟩ : ∃ V, set8 u6 (w.heap.size + 2) (.int .i64 4) (.int .i64 0) (.string ⟨#[]⟩) (.int .i64 0) (.slice none 0 0) (.slice g1 RA.1.length c1) (.slice g2 RB.1.length c2) (.slice g3 RC.1.length c3) = V := ⟨_, rfl⟩
  rw [hV] at hz hfr ⊢
  clear hV y0 y1 y2 y3 y4 y5 y6 y7 z0 z1 z2 z3 z4 z5 z6 z7 f0 f1 f2 f3 f4 f5 f6 f7
  obtain ⟨⟨r0, r1, r2, r3, r4, r5, r6, r7⟩, -⟩ := row8 hz
  refine bodyPost_ret (v := .agg #[.int .i64 4, .int .i64 0, .string ⟨#[]⟩, .int .i64 0, .slice none 0 0, .slice g1 RA.1.length c1, .slice g2 RB.1.length c2, .slice g3 RC.1.length c3]) (by simp [results, Tryz.results100, go_sem, r0, r1, r2, r3, r4, r5, r6, r7]) rfl ?_
  have hkp : ∀ b, w.heap.size + 4 ≤ b → b < u6.heap.size → V.heap[b]? = u6.heap[b]? := fun b h1 h2 => hfr.block b h2 (by omega)
  have hne := HS6.out.ne
  rw [HX.out]
  exact ⟨_, _, _, _, rfl, Gl.innP_mk.2 ⟨by decide, zT_innP _ _, ((HG6.out.keep hfr.size hkp).low (by omega)).reads HLA.out, ((HH6.out.keep hfr.size hkp).low (by omega)).reads HLB.out, ((HI6.out.keep hfr.size hkp).low (by omega)).reads HLC.out⟩,
    ⟨(hfr.block _ HS6.out.mr.lt (by omega)).trans HS6.out.mr.bk⟩, HS6.out.fr.trans hfr (fun _ _ e => e) (fun x h1 e => by omega)⟩
end Go.Proofs.YtkjnjahmlobjiaaGreatDoor
