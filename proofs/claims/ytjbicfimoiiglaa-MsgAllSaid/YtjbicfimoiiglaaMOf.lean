/-
  The program's least, Of, Apart and All: least generalisations in new memory.
-/
import Derived.Test.YtjbicfimoiiglaaMGen
import Derived.Laws.EntriesVeiled
namespace Go.Proofs.Ytjbicfimoiiglaa
open Go.RowKit Go.Shelf Go.Maps

def LeastPost (w : World) (a b : Tm) (e : Ending) (w' : World) : Prop :=
  ∃ g c, e = .returned (.tuple #[.agg #[.int .i64 (msgT a b).kind, .string (msgT a b).name, .int .i64 (msgT a b).n, .slice g (msgT a b).args.length c], .int .i64 ((prsT [] a b).length : Nat)]) ∧ Tm.innP w' (fun q => w.heap.size ≤ q ∧ q < w'.heap.size) (msgT a b) (.slice g (msgT a b).args.length c) ∧ Below w.heap.size w w'
theorem GCtx.start {w W : World} (_hb : Below w.heap.size w W) (hs : W.heap.size = w.heap.size + 5) (hp : Boxed W (w.heap.size + 3) 91 (.slice none 0 0)) (hg : Boxed W (w.heap.size + 4) 34 (.func (.func 66) #[] #[.pointer (some ⟨w.heap.size + 3, 0, none⟩), .pointer (some ⟨w.heap.size + 4, 0, none⟩)])) :
    GCtx W w.heap.size (w.heap.size + 5) (w.heap.size + 3) (w.heap.size + 4) [] (.slice none 0 0) [] :=
  ⟨hp, hg, PRow.zero _ _ _ _, by omega, by omega, by omega, by omega, by omega, by omega⟩
theorem set4_row {W : World} {B : Nat} {a0 a1 a2 a3 : Value} {t : TypeId} (h : W.heap[B]? = some (Obj.cells #[a0, a1, a2, a3] t (0, 0))) (a b c d : Value) : ((((W.setCell ⟨B, 0, none⟩ a).setCell ⟨B, 1, none⟩ b).setCell ⟨B, 2, none⟩ c).setCell ⟨B, 3, none⟩ d).heap[B]? = some (Obj.cells #[a, b, c, d] t (0, 0)) :=
  set1_same (set1_same (set1_same (set1_same h a) b) c) d
/-- A whole term is stored, and one more is made. -/
theorem set4_end {w w1 wf : World} {n r : Nat} {a0 a1 a2 a3 a b c d : Value} {t : TypeId} {tmp : Obj} (hb : Below n w w1) (hn : n ≤ r) (hs : n ≤ w1.heap.size) (hr : w1.heap[r]? = some (Obj.cells #[a0, a1, a2, a3] t (0, 0)))
    (hwf : (((((w1.setCell ⟨r, 0, none⟩ a).setCell ⟨r, 1, none⟩ b).setCell ⟨r, 2, none⟩ c).setCell ⟨r, 3, none⟩ d).alloc tmp).drew = wf) : Below n w wf ∧ wf.heap[r]? = some (Obj.cells #[a, b, c, d] t (0, 0)) ∧ (∀ q, q < w1.heap.size → q ≠ r → wf.heap[q]? = w1.heap[q]?) ∧ w1.heap.size ≤ wf.heap.size := by
  subst hwf
  have hlt := (Array.getElem?_eq_some_iff.1 hr).1
  have hbs := (((hb.setCell (p := ⟨r, 0, none⟩) hn a).setCell (p := ⟨r, 1, none⟩) hn b).setCell (p := ⟨r, 2, none⟩) hn c).setCell (p := ⟨r, 3, none⟩) hn d
  refine ⟨(hbs.alloc (by simp; omega) tmp).drew, ?_, fun q hq hne => ?_, by simp⟩
  · exact (Below.heap_alloc _ tmp _ (by simp; omega)).trans (set4_row hr a b c d)
  · exact (Below.heap_alloc _ tmp _ (by simp; omega)).trans (set4_other _ _ _ _ _ _ q hne)
set_option maxRecDepth 100000 in
set_option maxHeartbeats 4000000 in
theorem least_any (a b : Tm) (w : World) (sa sb : Value) (ha : Tm.inn w w.heap.size a sa) (hb : Tm.inn w w.heap.size b sb) (hmax : a.size ≤ 1000000) :
    Calls Try.prog 45 #[.agg #[.int .i64 a.kind, .string a.name, .int .i64 a.n, sa], .agg #[.int .i64 b.kind, .string b.name, .int .i64 b.n, sb]] w fun e w' => LeastPost w a b e w' := by
  obtain ⟨ga, ca, rfl⟩ := inn_sl6 ha
  obtain ⟨gb, cb, rfl⟩ := inn_sl6 hb
  obtain ⟨W0, hW0⟩ : ∃ W0, (((((w.alloc (Obj.cells #[.int .i64 a.kind, .string a.name, .int .i64 a.n, (.slice ga a.args.length ca)] 24 (0, 0))).alloc (Obj.cells #[.int .i64 b.kind, .string b.name, .int .i64 b.n, (.slice gb b.args.length cb)] 24 (0, 0))).alloc (Obj.cells #[.int .i64 0, .string ⟨#[]⟩, .int .i64 0, .slice none 0 0] 24 (0, 0))).alloc (Obj.cells #[.slice none 0 0] 91 (0, 0))).alloc (Obj.cells #[(.func (.func 66) #[] #[.pointer (some ⟨w.heap.size + 3, 0, none⟩), .pointer (some ⟨w.heap.size + 4, 0, none⟩)])] 34 (0, 0))) = W0 := ⟨_, rfl⟩
  have hb0 : Below w.heap.size w W0 := by rw [← hW0]; exact (al3b w _ _ _).trans (((Below.refl _ _).alloc (by simp; omega) _).alloc (by simp; omega) _)
  have hs0 : W0.heap.size = w.heap.size + 5 := by rw [← hW0]; simp
  have hp0 : Boxed W0 (w.heap.size + 3) 91 (.slice none 0 0) := by rw [← hW0]; exact (Below.heap_alloc _ _ _ (by simp)).trans (newBlk _ _ _ (by simp))
  have hg0 : Boxed W0 (w.heap.size + 4) 34 (.func (.func 66) #[] #[.pointer (some ⟨w.heap.size + 3, 0, none⟩), .pointer (some ⟨w.heap.size + 4, 0, none⟩)]) := by rw [← hW0]; exact newBlk _ _ _ (by simp)
  have hr0 : W0.heap[w.heap.size + 2]? = some (Obj.cells #[.int .i64 0, .string ⟨#[]⟩, .int .i64 0, .slice none 0 0] 24 (0, 0)) := by rw [← hW0]; exact (Below.heap_alloc _ _ _ (by simp)).trans ((Below.heap_alloc _ _ _ (by simp)).trans (newBlk _ _ _ (by simp)))
  have hc0 := GCtx.start hb0 hs0 hp0 hg0
  have hcall := mgen_any a b [] W0 w.heap.size (w.heap.size + 5) (w.heap.size + 3) (w.heap.size + 4) _ _ _ _ hc0 (Tm.inn_below ha hb0 (Nat.le_refl _)) (Tm.inn_below hb hb0 (Nat.le_refl _)) (by simpa using hmax)
  have HCALL := Lib.hid hcall
  have HB0 := Lib.hid hb0
  have HR0 := Lib.hid hr0
  have HS0 := Lib.hid hs0
  have HW := Lib.hid hW0
  have HMAX := Lib.hid hmax
  clear ha hb hW0 hb0 hs0 hp0 hg0 hr0 hc0 hcall hmax
  go_enter Try.func45, Try.ntmps45
  go_wp2_with fail
  rw [HW.out]
  refine HCALL.out.mono ?_
  rintro e w1 ⟨v1, xs1, g1, c1, rfl, hC, hF, hP⟩
  obtain ⟨X, hX⟩ : ∃ X, msgT a b = X := ⟨_, rfl⟩
  obtain ⟨L, hL⟩ : ∃ L, prsT [] a b = L := ⟨_, rfl⟩
  have hX' : a.gen (prsT [] a b) b = X := hX
  rw [hX'] at hP ⊢
  rw [hL] at hC
  obtain ⟨gp, cp, rfl⟩ := hC.row.slice
  have cp0 := hC.kp.cell
  have lp0 := hC.kp.lt
  have hs1 := hF.size
  have hs0 := HS0.out
  have hr1 := (hF.block (w.heap.size + 2) (by omega) (by omega) (fun e => by cases e)).trans HR0.out
  obtain ⟨⟨r0, r1, r2, r3⟩, f0, f1, f2, f3⟩ := row4 hr1
  have lr1 : w.heap.size + 2 < w1.heap.size := by omega
  have hb1 : Below w.heap.size w w1 := HB0.out.trans (hF.below (lo := w.heap.size) (by omega) (fun q e => by cases e) (by omega))
  have HB1 := Lib.hid hb1
  have HR1 := Lib.hid hr1
  have HP := Lib.hid hP
  have HX := Lib.hid hX
  have HL := Lib.hid hL
  have HLL := Lib.hid (prs_length [] a b)
  clear hP hX hX' hL hC hF hr1 hb1 HCALL HW
  go_wp2_with fail
  go_region
  go_wp2_with fail
  generalize hwf : World.drew _ = wf
  obtain ⟨hbf, hrf, hsame, hsz⟩ := set4_end HB1.out (by omega) (by omega) HR1.out hwf
  obtain ⟨⟨x0, x1, x2, x3⟩, _⟩ := row4 hrf
  refine bodyPost_ret (v := .tuple #[.agg #[.int .i64 X.kind, .string X.name, .int .i64 X.n, .slice g1 X.args.length c1], .int .i64 (L.length : Nat)]) (by simp [results, Try.results45, go_sem, x0, x1, x2, x3]) rfl ?_
  refine ⟨g1, c1, by rw [HX.out, HL.out], ?_, hbf⟩
  rw [HX.out]
  exact Tm.innP_same (fun q hq => ⟨by omega, by have := hq.2.1; omega⟩) (fun q o' u hq hc => (World.cell?_of_block (a := ⟨q, o', none⟩) (hsame q hq.2.1 (by have := hq.1; omega))).trans hc) X _ HP.out

def OfPost (w : World) (a b : Tm) (e : Ending) (w' : World) : Prop :=
  ∃ X E g c, e = .returned (.tuple #[.agg #[.int .i64 X.kind, .string X.name, .int .i64 X.n, .slice g X.args.length c], .int .i64 E]) ∧ Tm.innP w' (fun q => w.heap.size ≤ q ∧ q < w'.heap.size) X (.slice g X.args.length c) ∧ Below w.heap.size w w' ∧ (((a.right && b.right) = true ∧ X = msgT a b ∧ E = 0) ∨ ((a.right && b.right) = false ∧ X = kZ ∧ E = 1))
def ApartPost (w : World) (a b : Tm) (e : Ending) (w' : World) : Prop :=
  ∃ N E, e = .returned (.tuple #[.int .i64 N, .int .i64 E]) ∧ Below w.heap.size w w' ∧ (((a.right && b.right) = true ∧ N = ((prsT [] a b).length : Nat) ∧ E = 0) ∨ ((a.right && b.right) = false ∧ N = 0 ∧ E = 1))
theorem innP_kZ6 (w : World) (ok : Nat → Prop) : Tm.innP w ok kZ (.slice none 0 0) := Tm.innP_mk.2 ⟨⟨by decide, Nat.zero_le _, by decide⟩, none, 0, rfl, Nat.le_refl _, Nat.zero_le _, .inl rfl⟩
theorem set4_alc {w w1 wf : World} {n r : Nat} {a0 a1 a2 a3 a b c d : Value} {t : TypeId} {tmp : Obj} (hb : Below n w w1) (hn : n ≤ r) (hs : n ≤ w1.heap.size) (hr : w1.heap[r]? = some (Obj.cells #[a0, a1, a2, a3] t (0, 0)))
    (hwf : (((((w1.setCell ⟨r, 0, none⟩ a).setCell ⟨r, 1, none⟩ b).setCell ⟨r, 2, none⟩ c).setCell ⟨r, 3, none⟩ d).alloc tmp) = wf) : Below n w wf ∧ wf.heap[r]? = some (Obj.cells #[a, b, c, d] t (0, 0)) ∧ (∀ q, q < w1.heap.size → q ≠ r → wf.heap[q]? = w1.heap[q]?) ∧ w1.heap.size ≤ wf.heap.size := by
  obtain ⟨h1, h2, h3, h4⟩ := set4_end hb hn hs hr (congrArg World.drew hwf)
  exact ⟨⟨h1.os, h1.tape, h1.output, h1.size, h1.block⟩, h2, h3, h4⟩
/-- A whole term is stored. -/
theorem set4_fin {w w1 wf : World} {n r : Nat} {a0 a1 a2 a3 a b c d : Value} {t : TypeId} (hb : Below n w w1) (hn : n ≤ r) (hr : w1.heap[r]? = some (Obj.cells #[a0, a1, a2, a3] t (0, 0)))
    (hwf : ((((w1.setCell ⟨r, 0, none⟩ a).setCell ⟨r, 1, none⟩ b).setCell ⟨r, 2, none⟩ c).setCell ⟨r, 3, none⟩ d) = wf) : Below n w wf ∧ wf.heap[r]? = some (Obj.cells #[a, b, c, d] t (0, 0)) ∧ (∀ q, q ≠ r → wf.heap[q]? = w1.heap[q]?) ∧ w1.heap.size = wf.heap.size := by
  subst hwf
  have hbs := (((hb.setCell (p := ⟨r, 0, none⟩) hn a).setCell (p := ⟨r, 1, none⟩) hn b).setCell (p := ⟨r, 2, none⟩) hn c).setCell (p := ⟨r, 3, none⟩) hn d
  exact ⟨hbs, set4_row hr a b c d, fun q hne => set4_other _ _ _ _ _ _ q hne, by simp⟩

set_option maxRecDepth 100000 in
set_option maxHeartbeats 4000000 in
theorem mof_any (a b : Tm) (w : World) (sa sb : Value) (ha : Tm.inn w w.heap.size a sa) (hb : Tm.inn w w.heap.size b sb) (hsa : a.size ≤ 1000000) (hsb : b.size ≤ 1000000) :
    Calls Try.prog 15 #[.agg #[.int .i64 a.kind, .string a.name, .int .i64 a.n, sa], .agg #[.int .i64 b.kind, .string b.name, .int .i64 b.n, sb]] w fun e w' => OfPost w a b e w' := by
  have hst0 := TSt.start ha hb
  obtain ⟨ga, ca, rfl⟩ := inn_sl6 ha
  obtain ⟨gb, cb, rfl⟩ := inn_sl6 hb
  obtain ⟨W0, hW⟩ : ∃ W0, (((w.alloc (Obj.cells #[.int .i64 a.kind, .string a.name, .int .i64 a.n, (.slice ga a.args.length ca)] 24 (0, 0))).alloc (Obj.cells #[.int .i64 b.kind, .string b.name, .int .i64 b.n, (.slice gb b.args.length cb)] 24 (0, 0))).alloc (Obj.cells #[.int .i64 0, .string ⟨#[]⟩, .int .i64 0, .slice none 0 0] 24 (0, 0))) = W0 := ⟨_, rfl⟩
  have hst1 := hst0.next ((Below.refl _ _).alloc (Nat.le_refl _) (Obj.cells #[.int .i64 0, .string ⟨#[]⟩, .int .i64 0, .slice none 0 0] 24 (0, 0)))
  rw [hW] at hst1
  have hr0 : W0.heap[w.heap.size + 2]? = some (Obj.cells #[.int .i64 0, .string ⟨#[]⟩, .int .i64 0, .slice none 0 0] 24 (0, 0)) := by rw [← hW]; exact newBlk _ _ _ (by simp)
  have HW := Lib.hid hW
  have A0 := Lib.hid hst1
  have HR0 := Lib.hid hr0
  clear ha hb hW hst0 hst1 hr0
  go_enter Try.func15, Try.ntmps15
  go_wp2_with fail
  rw [HW.out]
  refine (tright_any a W0 _ A0.out.ia hsa).mono ?_
  rintro e W1 ⟨rfl, hb1⟩
  have A1 := Lib.hid (A0.out.next hb1)
  have HR1 := Lib.hid ((hb1.block _ (Array.getElem?_eq_some_iff.1 HR0.out).1).trans HR0.out)
  have lr := (Array.getElem?_eq_some_iff.1 HR1.out).1
  clear hb1 A0 HR0
  cases hp : a.right with
  | false =>
    have HP := Lib.hid hp
    clear hp
    obtain ⟨⟨r0, r1, r2, r3⟩, f0, f1, f2, f3⟩ := row4 HR1.out
    go_wp2_with fail
    generalize hwf : World.setCell _ _ _ = wf
    obtain ⟨hbf, hrf, _, _⟩ := set4_fin A1.out.below (by omega) HR1.out hwf
    obtain ⟨⟨x0, x1, x2, x3⟩, _⟩ := row4 hrf
    refine bodyPost_ret (v := .tuple #[.agg #[.int .i64 0, .string ⟨#[]⟩, .int .i64 0, .slice none 0 0], .int .i64 1]) (by simp [results, Try.results15, go_sem, x0, x1, x2, x3]) rfl ?_
    exact ⟨kZ, 1, none, 0, rfl, innP_kZ6 _ _, hbf, .inr ⟨by rw [HP.out]; rfl, rfl, rfl⟩⟩
  | true =>
    obtain ⟨a0, a1, a2, a3, b0, b1, b2, b3, _⟩ := A1.out.cells
    have HP := Lib.hid hp
    clear hp
    go_wp2_with fail
    refine (tright_any b W1 _ A1.out.ib hsb).mono ?_
    rintro e W2 ⟨rfl, hb2⟩
    have A2 := Lib.hid (A1.out.next hb2)
    have HR2 := Lib.hid ((hb2.block _ (Array.getElem?_eq_some_iff.1 HR1.out).1).trans HR1.out)
    have lr2 := (Array.getElem?_eq_some_iff.1 HR2.out).1
    clear hb2 A1 a0 a1 a2 a3 b0 b1 b2 b3 HR1 lr
    cases hq : b.right with
    | false =>
      have HQ := Lib.hid hq
      clear hq
      obtain ⟨⟨r0, r1, r2, r3⟩, f0, f1, f2, f3⟩ := row4 HR2.out
      go_wp2_with fail
      generalize hwf : World.setCell _ _ _ = wf
      obtain ⟨hbf, hrf, _, _⟩ := set4_fin A2.out.below (by omega) HR2.out hwf
      obtain ⟨⟨x0, x1, x2, x3⟩, _⟩ := row4 hrf
      refine bodyPost_ret (v := .tuple #[.agg #[.int .i64 0, .string ⟨#[]⟩, .int .i64 0, .slice none 0 0], .int .i64 1]) (by simp [results, Try.results15, go_sem, x0, x1, x2, x3]) rfl ?_
      exact ⟨kZ, 1, none, 0, rfl, innP_kZ6 _ _, hbf, .inr ⟨by rw [HP.out, HQ.out]; rfl, rfl, rfl⟩⟩
    | true =>
      obtain ⟨a0, a1, a2, a3, b0, b1, b2, b3, _⟩ := A2.out.cells
      have HQ := Lib.hid hq
      clear hq
      go_wp2_with fail
      refine (least_any a b W2 _ _ A2.out.ia A2.out.ib hsa).mono ?_
      rintro e W3 ⟨g3, c3, rfl, hP3, hb3⟩
      have A3 := Lib.hid (A2.out.next hb3)
      have HP3 := Lib.hid hP3
      have hs3 := hb3.size
      have HR3 := Lib.hid ((hb3.block _ (Array.getElem?_eq_some_iff.1 HR2.out).1).trans HR2.out)
      have lr3 := (Array.getElem?_eq_some_iff.1 HR3.out).1
      have hlow := A2.out.below.size
      clear hP3 hb3 A2 a0 a1 a2 a3 b0 b1 b2 b3 HR2
      obtain ⟨X, hX⟩ : ∃ X, msgT a b = X := ⟨_, rfl⟩
      rw [hX] at HP3 ⊢
      have HX := Lib.hid hX
      clear hX
      obtain ⟨⟨r0, r1, r2, r3⟩, f0, f1, f2, f3⟩ := row4 HR3.out
      go_wp2_with fail
      generalize hwf : World.alloc _ _ = wf
      obtain ⟨hbf, hrf, hsame, hsz⟩ := set4_alc A3.out.below (by omega) A3.out.below.size HR3.out hwf
      obtain ⟨⟨x0, x1, x2, x3⟩, _⟩ := row4 hrf
      refine bodyPost_ret (v := .tuple #[.agg #[.int .i64 X.kind, .string X.name, .int .i64 X.n, .slice g3 X.args.length c3], .int .i64 0]) (by simp [results, Try.results15, go_sem, x0, x1, x2, x3]) rfl ?_
      refine ⟨X, 0, g3, c3, rfl, ?_, hbf, .inl ⟨by rw [HP.out, HQ.out]; rfl, HX.out.symm, rfl⟩⟩
      have hlw := A3.out.below.size
      exact Tm.innP_same (fun q hq => ⟨by omega, by have := hq.2; omega⟩) (fun q o' u hq hc => (World.cell?_of_block (a := ⟨q, o', none⟩) (hsame q hq.2 (by have := hq.1; omega))).trans hc) X _ HP3.out

set_option maxRecDepth 100000 in
set_option maxHeartbeats 4000000 in
theorem mapart_any (a b : Tm) (w : World) (sa sb : Value) (ha : Tm.inn w w.heap.size a sa) (hb : Tm.inn w w.heap.size b sb) (hsa : a.size ≤ 1000000) (hsb : b.size ≤ 1000000) :
    Calls Try.prog 16 #[.agg #[.int .i64 a.kind, .string a.name, .int .i64 a.n, sa], .agg #[.int .i64 b.kind, .string b.name, .int .i64 b.n, sb]] w fun e w' => ApartPost w a b e w' := by
  have hst0 := TSt.start ha hb
  obtain ⟨ga, ca, rfl⟩ := inn_sl6 ha
  obtain ⟨gb, cb, rfl⟩ := inn_sl6 hb
  obtain ⟨W0, hW⟩ : ∃ W0, ((w.alloc (Obj.cells #[.int .i64 a.kind, .string a.name, .int .i64 a.n, (.slice ga a.args.length ca)] 24 (0, 0))).alloc (Obj.cells #[.int .i64 b.kind, .string b.name, .int .i64 b.n, (.slice gb b.args.length cb)] 24 (0, 0))) = W0 := ⟨_, rfl⟩
  have hst1 := hst0
  rw [hW] at hst1
  have HW := Lib.hid hW
  have A0 := Lib.hid hst1
  clear ha hb hW hst0 hst1
  go_enter Try.func16, Try.ntmps16
  go_wp2_with fail
  rw [HW.out]
  refine (tright_any a W0 _ A0.out.ia hsa).mono ?_
  rintro e W1 ⟨rfl, hb1⟩
  have A1 := Lib.hid (A0.out.next hb1)
  clear hb1 A0
  cases hp : a.right with
  | false =>
    have HP := Lib.hid hp
    clear hp
    go_wp2_with fail
    go_ret2
    exact ⟨0, 1, rfl, A1.out.below, .inr ⟨by rw [HP.out]; rfl, rfl, rfl⟩⟩
  | true =>
    obtain ⟨a0, a1, a2, a3, b0, b1, b2, b3, _⟩ := A1.out.cells
    have HP := Lib.hid hp
    clear hp
    go_wp2_with fail
    refine (tright_any b W1 _ A1.out.ib hsb).mono ?_
    rintro e W2 ⟨rfl, hb2⟩
    have A2 := Lib.hid (A1.out.next hb2)
    clear hb2 A1 a0 a1 a2 a3 b0 b1 b2 b3
    cases hq : b.right with
    | false =>
      have HQ := Lib.hid hq
      clear hq
      go_wp2_with fail
      go_ret2
      exact ⟨0, 1, rfl, A2.out.below, .inr ⟨by rw [HP.out, HQ.out]; rfl, rfl, rfl⟩⟩
    | true =>
      obtain ⟨a0, a1, a2, a3, b0, b1, b2, b3, _⟩ := A2.out.cells
      have HQ := Lib.hid hq
      clear hq
      go_wp2_with fail
      refine (least_any a b W2 _ _ A2.out.ia A2.out.ib hsa).mono ?_
      rintro e W3 ⟨g3, c3, rfl, hP3, hb3⟩
      have A3 := Lib.hid (A2.out.next hb3)
      have HP3 := Lib.hid hP3
      have hs3 := hb3.size
      have hlow := A2.out.below.size
      clear hP3 hb3 A2 a0 a1 a2 a3 b0 b1 b2 b3
      go_wp2_with fail
      go_ret2
      exact ⟨_, 0, rfl, A3.out.below.alloc (A3.out.below).size _, .inl ⟨by rw [HP.out, HQ.out]; rfl, rfl, rfl⟩⟩
end Go.Proofs.Ytjbicfimoiiglaa
