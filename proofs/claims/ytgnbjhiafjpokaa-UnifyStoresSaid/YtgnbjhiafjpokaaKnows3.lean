/-
  The document's examples of substitutions.
-/
import Derived.Test.YtgnbjhiafjpokaaFlat
namespace Go.Proofs.Ytgnbjhiafjpokaa
open Go.RowKit Go.Shelf Go.Maps

/-- What stays between the calls: what lay ahead, the term's box, the binds. -/
structure ASt (w : World) (l : List Bd) (svl : Value) (t : Tm) (svt : Value) (W : World) : Prop where
  hb : Below w.heap.size w W
  bt : TmBox W w.heap.size t svt
  bl : bdsIn W W.heap.size l svl
theorem ASt.next {w : World} {l : List Bd} {svl : Value} {t : Tm} {svt : Value} {W W' : World} (h : ASt w l svl t svt W) (hb : Below W.heap.size W W') : ASt w l svl t svt W' :=
  ⟨h.hb.trans (hb.mono h.hb.size), h.bt.next hb, bdsIn_held h.bl hb⟩
theorem ASt.alloc {w : World} {l : List Bd} {svl : Value} {t : Tm} {svt : Value} {W : World} (h : ASt w l svl t svt W) (o : Obj) : ASt w l svl t svt (W.alloc o) := h.next ((Below.refl _ _).alloc (Nat.le_refl _) _)
theorem ASt.start {w : World} {l : List Bd} {svl : Value} {t : Tm} {svt : Value} (hl : bdsIn w w.heap.size l svl) (ht : Tm.inn w w.heap.size t svt) : ASt w l svl t svt (w.alloc (.cells #[.int .i64 t.kind, .string t.name, .int .i64 t.n, svt] 27)) :=
  ⟨(Below.refl _ _).alloc (Nat.le_refl _) _, TmBox.new ht, bdsIn_held hl ((Below.refl _ _).alloc (Nat.le_refl _) _)⟩

def sF : ByteArray := ⟨#[102]⟩
def sA : ByteArray := ⟨#[97]⟩
def sG : ByteArray := ⟨#[103]⟩
def exF : Tm := .mk 3 ⟨#[102]⟩ 0 [.mk 1 ⟨#[]⟩ 1 []]
def exA : Tm := .mk 3 ⟨#[97]⟩ 0 []
def exL : List Bd := [⟨0, exF⟩, ⟨1, exA⟩]
def exG : Tm := .mk 3 ⟨#[103]⟩ 0 [.mk 1 ⟨#[]⟩ 0 [], .mk 1 ⟨#[]⟩ 2 []]
def exR : Tm := .mk 3 ⟨#[103]⟩ 0 [.mk 3 ⟨#[102]⟩ 0 [.mk 3 ⟨#[97]⟩ 0 []], .mk 1 ⟨#[]⟩ 2 []]
def exN : List Bd := [⟨0, .mk 1 ⟨#[]⟩ 0 []⟩]
theorem exL0 : place exL 0 = some 0 := by kernel_rfl
theorem exL1 : place exL 1 = some 1 := by kernel_rfl
theorem exL_right : RightL exL := by
  refine ⟨fun i hi => ?_, fun i => 2 - i, fun i hi q hq => ?_⟩
  · have : i = 0 ∨ i = 1 := by simp [exL] at hi; omega
    rcases this with rfl | rfl
    · exact ⟨show (0 : Int) ≤ 0 by decide, show (0 : Int) < 1000000 by decide, exL0, by kernel_rfl⟩
    · exact ⟨show (0 : Int) ≤ 1 by decide, show (1 : Int) < 1000000 by decide, exL1, by kernel_rfl⟩
  · have : i = 0 ∨ i = 1 := by simp [exL] at hi; omega
    obtain ⟨v, hv, hp⟩ := deps_mem.1 hq
    rcases this with rfl | rfl
    · have hv' : v ∈ ([1] : List Int) := hv
      simp at hv'
      subst hv'
      rw [exL1] at hp
      simp at hp
      subst hp
      decide
    · have hv' : v ∈ ([] : List Int) := hv
      cases hv'
theorem exN_not : ¬ RightL exN := by
  rintro ⟨_, r, hr⟩
  have := hr 0 (by decide) 0 (deps_mem.2 ⟨0, by show (0 : Int) ∈ ([0] : List Int); simp, by kernel_rfl⟩)
  omega
theorem exG_right : exG.right = true := by kernel_rfl
theorem ex_bnd {σ : Int → Tm} (h : Sol exL σ) : exG.bnd σ = exR := by
  have h2 : σ 2 = vTm 2 := h.free 2 (by kernel_rfl)
  have h1 : σ 1 = exA := by rw [h.bound 1 1 exL1]; rfl
  have h0 : σ 0 = .mk 3 ⟨#[102]⟩ 0 [exA] := by
    rw [h.bound 0 0 exL0]
    show Tm.bnd σ exF = _
    simp [exF, Tm.bnd, Tm.bnds, h1]
  simp [exG, exR, Tm.bnd, Tm.bnds, h0, h2, exA, vTm]
theorem exR_right : exR.right = true := by kernel_rfl
def KnowsPost (w : World) (e : Ending) (w' : World) : Prop := e = .returned (.bool true) ∧ Below w.heap.size w w'

theorem al6 (w : World) (a0 a1 a2 a3 a4 a5 : Obj) : Below w.heap.size w ((((((w.alloc a0).alloc a1).alloc a2).alloc a3).alloc a4).alloc a5) ∧ ((((((w.alloc a0).alloc a1).alloc a2).alloc a3).alloc a4).alloc a5).heap[w.heap.size]? = some a0 ∧
    ((((((w.alloc a0).alloc a1).alloc a2).alloc a3).alloc a4).alloc a5).heap[w.heap.size + 1 + 1 + 1]? = some a3 ∧ ((((((w.alloc a0).alloc a1).alloc a2).alloc a3).alloc a4).alloc a5).heap[w.heap.size + 1 + 1 + 1 + 1]? = some a4 ∧
    ((((((w.alloc a0).alloc a1).alloc a2).alloc a3).alloc a4).alloc a5).heap[w.heap.size + 1 + 1 + 1 + 1 + 1]? = some a5 ∧ ((((((w.alloc a0).alloc a1).alloc a2).alloc a3).alloc a4).alloc a5).heap.size = w.heap.size + 6 := by
  obtain ⟨h1, h2, h3, h4, h5, h6⟩ := al5 w a0 a1 a2 a3 a4
  refine ⟨h1.alloc h1.size _, ?_, ?_, ?_, ?_, by simp⟩
  · rw [Below.heap_alloc _ _ _ (by rw [h6]; omega)]; exact h2
  · rw [Below.heap_alloc _ _ _ (by rw [h6]; omega)]; exact h4
  · rw [Below.heap_alloc _ _ _ (by rw [h6]; omega)]; exact h5
  · exact newBlk _ _ _ (by rw [h6])
theorem ex_bds {W : World} {b3 b4 : Nat} (h3 : W.heap[b3]? = some (Obj.cells #[.int .i64 1, .string ⟨#[]⟩, .int .i64 1, .slice none 0 0] 27 (0, 0)))
    (h4 : W.heap[b4]? = some (Obj.cells #[.int .i64 0, .int .i64 3, .string ⟨#[102]⟩, .int .i64 0, .slice (some ⟨b3, 0, none⟩) 1 1, .int .i64 1, .int .i64 3, .string ⟨#[97]⟩, .int .i64 0, .slice none 0 0] 33 (0, 0))) : bdsIn W W.heap.size exL (.slice (some ⟨b4, 0, none⟩) 2 2) := by
  refine ⟨_, 2, rfl, Nat.le_refl _, by simp [exL], fun x hx => ?_, .inr ⟨b4, 0, rfl, (Array.getElem?_eq_some_iff.1 h4).1, fun i hi => ?_⟩⟩
  · simp [exL] at hx
    rcases hx with rfl | rfl <;> decide
  · have : i = 0 ∨ i = 1 := by simp [exL] at hi; omega
    rcases this with rfl | rfl
    · refine ⟨.slice (some ⟨b3, 0, none⟩) 1 1, ?_, ?_, ?_, ?_, ?_, ?_⟩
      · simp [World.cell?, h4, exL]
      · simp [World.cell?, h4, exL, exF, Tm.kind]
      · simp [World.cell?, h4, exL, exF, Tm.name]
      · simp [World.cell?, h4, exL, exF, Tm.n]
      · simp [World.cell?, h4]
      · exact Tm.inn_mk.2 ⟨⟨by decide, by decide, by decide⟩, one_slice (t := .mk 1 ⟨#[]⟩ 1 []) h3 (inn_leaf (by decide))⟩
    · refine ⟨.slice none 0 0, ?_, ?_, ?_, ?_, ?_, ?_⟩
      · simp [World.cell?, h4, exL]
      · simp [World.cell?, h4, exL, exA, Tm.kind]
      · simp [World.cell?, h4, exL, exA, Tm.name]
      · simp [World.cell?, h4, exL, exA, Tm.n]
      · simp [World.cell?, h4]
      · exact Tm.inn_mk.2 ⟨⟨by decide, by decide, by decide⟩, none, 0, rfl, Nat.le_refl _, Nat.zero_le _, .inl rfl⟩
theorem ex_one {W : World} {b : Nat} (h : W.heap[b]? = some (Obj.cells #[.int .i64 0, .int .i64 1, .string ⟨#[]⟩, .int .i64 0, .slice none 0 0] 33 (0, 0))) : bdsIn W W.heap.size exN (.slice (some ⟨b, 0, none⟩) 1 1) := by
  refine ⟨_, 1, rfl, Nat.le_refl _, by simp [exN], fun x hx => ?_, .inr ⟨b, 0, rfl, (Array.getElem?_eq_some_iff.1 h).1, fun i hi => ?_⟩⟩
  · simp [exN] at hx
    subst hx; decide
  · obtain rfl : i = 0 := by simp [exN] at hi; omega
    refine ⟨.slice none 0 0, ?_, ?_, ?_, ?_, ?_, inn_leaf (by decide)⟩
    · simp [World.cell?, h, exN]
    · simp [World.cell?, h, exN, Tm.kind]
    · simp [World.cell?, h, exN, Tm.name]
    · simp [World.cell?, h, exN, Tm.n]
    · simp [World.cell?, h]

theorem ex_cells {W : World} {B : Nat} {g : Option Addr} {c : Nat} (h : Tm.inn W B exR (.slice g 2 c)) : ∃ b o b2 o2 c2, g = some ⟨b, o, none⟩ ∧ W.cell? ⟨b, o + 3, none⟩ = some (.slice (some ⟨b2, o2, none⟩) 1 c2) ∧ W.cell? ⟨b2, o2 + 1, none⟩ = some (.string ⟨#[97]⟩) ∧ W.cell? ⟨b, o + 6, none⟩ = some (.int .i64 2) := by
  have hs := (Tm.inn_iff.1 h).2
  obtain ⟨b, o, sv, rfl, _, _, _, _, g3, h0⟩ := Tm.sliceIn_get hs 0 (by decide)
  obtain ⟨b', o', sv', e, _, _, _, g2, _, _⟩ := Tm.sliceIn_get hs 1 (by decide)
  cases e
  obtain ⟨_, gi, ci, rfl, hci, _, _⟩ := Tm.inn_iff.1 h0
  obtain ⟨b2, o2, sv2, rfl, _, _, q1, _, _, _⟩ := Tm.sliceIn_get (Tm.inn_iff.1 h0).2 0 (by decide)
  refine ⟨b, o, b2, o2, ci, rfl, ?_, ?_, ?_⟩
  · simp only [Nat.zero_mul, Nat.add_zero] at g3
    exact g3
  · simp only [Nat.zero_mul, Nat.add_zero] at q1
    exact q1
  · simp only [Nat.one_mul, Nat.add_assoc, Nat.reduceAdd] at g2
    exact g2

set_option maxRecDepth 100000 in
set_option maxHeartbeats 4000000 in
theorem knows3_any (w : World) : Calls Try.prog 16 #[] w fun e w' => KnowsPost w e w' := by
  obtain ⟨σ, hσ⟩ := sol_of exL_right
  have HS := Lib.hid hσ
  clear hσ
  go_enter Try.func16, Try.ntmps16
  go_wp2_with fail
  obtain ⟨hb0, k0, k3, k4, k5, hsz⟩ := al6 w (.cells #[.int .i64 1, .string ⟨#[]⟩, .int .i64 0, .slice none 0 0] 27) (.cells #[.int .i64 1, .string ⟨#[]⟩, .int .i64 1, .slice none 0 0] 27) (.cells #[.int .i64 1, .string ⟨#[]⟩, .int .i64 2, .slice none 0 0] 27)
    (.cells #[.int .i64 1, .string ⟨#[]⟩, .int .i64 1, .slice none 0 0] 27) (.cells #[.int .i64 0, .int .i64 3, .string ⟨#[102]⟩, .int .i64 0, .slice (some ⟨w.heap.size + 1 + 1 + 1, 0, none⟩) 1 1, .int .i64 1, .int .i64 3, .string ⟨#[97]⟩, .int .i64 0, .slice none 0 0] 33)
    (.cells #[.int .i64 1, .string ⟨#[]⟩, .int .i64 0, .slice none 0 0, .int .i64 1, .string ⟨#[]⟩, .int .i64 2, .slice none 0 0] 27)
  have hbl := ex_bds k3 k4
  have hing := Tm.inn_mk.2 (⟨⟨by decide, by decide, by decide⟩, two_slice (a := .mk 1 ⟨#[]⟩ 0 []) (b := .mk 1 ⟨#[]⟩ 2 []) k5 (inn_leaf (by decide)) (inn_leaf (by decide))⟩ : ((Lit.int .i64 3).wf = true ∧ (⟨#[103]⟩ : ByteArray).size ≤ maxLen ∧ (Lit.int .i64 0).wf = true) ∧ _)
  refine (apply_any exL σ (fun _ => HS.out) exG _ _ _ hbl hing (by decide) (by decide) (by decide)).mono ?_
  rintro e w1 ⟨X, E, gx, cx, rfl, hinx, hb1, hspec⟩
  have hXE : X = exR ∧ E = 0 := by
    rcases hspec with ⟨h, _⟩ | ⟨_, ⟨h, _⟩ | ⟨_, h1, h2⟩⟩
    · exact absurd ⟨exL_right, exG_right⟩ h
    · rw [ex_bnd HS.out, exR_right] at h; cases h
    · rw [ex_bnd HS.out] at h1; exact ⟨h1, h2⟩
  obtain ⟨rfl, rfl⟩ := hXE
  have hbl1 := bdsIn_held hbl hb1
  have k01 := (hb1.block _ (by omega)).trans k0
  have hB1 := hb0.trans (hb1.mono (by omega))
  have HIN := Lib.hid hinx
  have HBL := Lib.hid hbl1
  have HB := Lib.hid hB1
  have HK := Lib.hid k01
  have hs1 : w.heap.size + 6 ≤ w1.heap.size := by have := hb1.size; omega
  simp only [show exR.kind = 3 from rfl, show exR.name = ⟨#[103]⟩ from rfl, show exR.n = 0 from rfl, show exR.args.length = 2 from rfl] at HIN ⊢
  clear hb0 k0 k3 k4 k5 hsz hbl hing hinx hb1 hspec hbl1 k01 hB1
  go_wp2_with fail
  have hal : Below w1.heap.size w1 (w1.alloc (.cells #[.int .i64 3, .string ⟨#[103]⟩, .int .i64 0, .slice gx 2 cx] 27)) := (Below.refl _ _).alloc (Nat.le_refl _) _
  refine (sright_any exL _ _ (bdsIn_held HBL.out hal) (by decide) (by decide)).mono ?_
  rintro e w2 ⟨q, rfl, hq, hb2⟩
  obtain rfl : q = true := hq.2 exL_right
  have hs2 : w1.heap.size + 1 ≤ w2.heap.size := by have := hb2.size; simpa using this
  have hx2 : w2.heap[w1.heap.size]? = some (Obj.cells #[.int .i64 3, .string ⟨#[103]⟩, .int .i64 0, .slice gx 2 cx] 27 (0, 0)) := (hb2.block _ (by simp)).trans (newBlk _ _ _ rfl)
  have hk2 : w2.heap[w.heap.size]? = some (Obj.cells #[.int .i64 1, .string ⟨#[]⟩, .int .i64 0, .slice none 0 0] 27 (0, 0)) := (hb2.block _ (by simp; omega)).trans ((Below.heap_alloc _ _ _ (by omega)).trans HK.out)
  have hb12 : Below w1.heap.size w1 w2 := hal.trans (hb2.mono (by simp))
  have HB2 := Lib.hid (HB.out.trans (hb12.mono (by omega)))
  have HIN2 := Lib.hid (Tm.inn_mono (Tm.inn_below HIN.out hb12 (Nat.le_refl _)) hb12.size)
  have HX2 := Lib.hid hx2
  obtain ⟨⟨a0, a1, a2, a3⟩, _⟩ := row4 hk2
  obtain ⟨⟨x0, x1, x2, x3⟩, _⟩ := row4 hx2
  clear hal hq hb2 hx2 hk2 hb12 HIN HBL HB HK
  go_wp2_with fail
  refine (sright_any exN _ _ (ex_one (newBlk w2 _ _ rfl)) (by decide) (by decide)).mono ?_
  rintro e w3 ⟨q, rfl, hq, hb3⟩
  obtain rfl : q = false := by
    cases q with
    | false => rfl
    | true => exact absurd (hq.1 rfl) exN_not
  have hb23 : Below w2.heap.size w2 w3 := ((Below.refl _ _).alloc (Nat.le_refl _) _).trans (hb3.mono (by simp))
  have hx3 := (hb23.block _ (by omega)).trans HX2.out
  have hin3 := Tm.inn_below HIN2.out hb23 (Nat.le_refl _)
  obtain ⟨b, o, b2, o2, c2, rfl, y1, y2, y3⟩ := ex_cells hin3
  obtain ⟨⟨z0, z1, z2, z3⟩, _⟩ := row4 hx3
  have HB3 := Lib.hid (HB2.out.trans (hb23.mono (by omega)))
  clear hq hb3 hb23 hx3 hin3 a0 a1 a2 a3 x0 x1 x2 x3 HX2 HIN2
  go_wp2_with fail
  go_ret
  exact ⟨rfl, HB3.out⟩
end Go.Proofs.Ytgnbjhiafjpokaa
