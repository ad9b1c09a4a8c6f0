/-
  The rows of the document's examples, which each statement asks at its end.
-/
import Derived.Test.YtkmaaaednbjjkaaNumber
import Derived.Test.YtkmaaaednbjjkaaNums
import Derived.Test.YtkmaaaednbjjkaaTermA
import Derived.Test.YtkmaaaednbjjkaaTermD
namespace Go.Proofs.Ytkmaaaednbjjkaa
open Go.RowKit

def kX : Tm := .mk 1 ⟨#[]⟩ 3 []
def kY : Tm := .mk 1 ⟨#[]⟩ 1 []
def kG : Tm := .mk 3 ⟨#[103]⟩ 0 [kY, kX]
def kT : Tm := .mk 3 ⟨#[102]⟩ 0 [kX, kG]
def kZ : Tm := .mk 0 ⟨#[]⟩ 0 []

theorem kT_right : [kT].all Tm.right = true := by kernel_rfl
theorem kT_right1 : kT.right = true := by kernel_rfl
theorem kZ_right : kZ.right = false := by kernel_rfl
theorem kT_size : kT.size = 5 := by kernel_rfl
theorem kZ_size : kZ.size = 1 := by kernel_rfl
theorem kT_sizes : Tm.sizes [kT] = 5 := by kernel_rfl
theorem kT_vars : varsOf [kT] = [3, 1] := by decide +kernel
theorem kT_ground : kT.ground = false := by kernel_rfl
theorem kT_rens : Tm.rens (posOf [3, 1]) [kT] = [.mk 3 ⟨#[102]⟩ 0 [.mk 1 ⟨#[]⟩ 0 [], .mk 3 ⟨#[103]⟩ 0 [.mk 1 ⟨#[]⟩ 1 [], .mk 1 ⟨#[]⟩ 0 []]]] := by
  have h3 : posOf [3, 1] 3 = 0 := by decide +kernel
  have h1 : posOf [3, 1] 1 = 1 := by decide +kernel
  simp [Tm.rens, Tm.ren, kT, kX, kG, kY, h3, h1]

theorem inn_leaf {w : World} {B : Nat} {n : Int} (hn : (Lit.int .i64 n).wf = true) : Tm.inn w B (.mk 1 ⟨#[]⟩ n []) (.slice none 0 0) :=
  Tm.inn_mk.2 ⟨⟨by decide, Nat.zero_le _, hn⟩, none, 0, rfl, Nat.le_refl _, Nat.zero_le _, .inl rfl⟩
theorem kT_inn {W : World} {b2 b3 : Nat} (h2 : W.heap[b2]? = some (Obj.cells #[.int .i64 1, .string ⟨#[]⟩, .int .i64 1, .slice none 0 0, .int .i64 1, .string ⟨#[]⟩, .int .i64 3, .slice none 0 0] 24 (0, 0)))
    (h3 : W.heap[b3]? = some (Obj.cells #[.int .i64 1, .string ⟨#[]⟩, .int .i64 3, .slice none 0 0, .int .i64 3, .string ⟨#[103]⟩, .int .i64 0, .slice (some ⟨b2, 0, none⟩) 2 2] 24 (0, 0))) :
    Tm.inn W W.heap.size kT (.slice (some ⟨b3, 0, none⟩) 2 2) := by
  have l2 := (Array.getElem?_eq_some_iff.1 h2).1
  have l3 := (Array.getElem?_eq_some_iff.1 h3).1
  have hG : Tm.inn W W.heap.size kG (.slice (some ⟨b2, 0, none⟩) 2 2) := by
    refine Tm.inn_mk.2 ⟨⟨by decide, by decide +kernel, by decide⟩, _, 2, rfl, Nat.le_refl _, by simp, .inr ⟨b2, 0, rfl, l2, ?_⟩⟩
    simp only [Tm.rowIn]
    refine ⟨⟨.slice none 0 0, ?_, ?_, ?_, ?_, inn_leaf (by decide)⟩, ⟨.slice none 0 0, ?_, ?_, ?_, ?_, inn_leaf (by decide)⟩, trivial⟩ <;> simp [World.cell?, h2, kX, kY, Tm.kind, Tm.name, Tm.n]
  refine Tm.inn_mk.2 ⟨⟨by decide, by decide +kernel, by decide⟩, _, 2, rfl, Nat.le_refl _, by simp, .inr ⟨b3, 0, rfl, l3, ?_⟩⟩
  simp only [Tm.rowIn]
  refine ⟨⟨.slice none 0 0, ?_, ?_, ?_, ?_, inn_leaf (by decide)⟩, ⟨.slice (some ⟨b2, 0, none⟩) 2 2, ?_, ?_, ?_, ?_, hG⟩, trivial⟩ <;> simp [World.cell?, h3, kX, kG, Tm.kind, Tm.name, Tm.n]
/-- One term in a row of its own. -/
theorem one_slice {W : World} {t : Tm} {sv : Value} {b : Nat} (hb : W.heap[b]? = some (Obj.cells #[.int .i64 t.kind, .string t.name, .int .i64 t.n, sv] 24 (0, 0))) (ht : Tm.inn W W.heap.size t sv) : Tm.sliceIn W W.heap.size [t] (.slice (some ⟨b, 0, none⟩) 1 1) := by
  refine ⟨_, 1, rfl, Nat.le_refl _, by simp, .inr ⟨b, 0, rfl, (Array.getElem?_eq_some_iff.1 hb).1, ?_⟩⟩
  simp only [Tm.rowIn]
  refine ⟨⟨sv, ?_, ?_, ?_, ?_, ht⟩, trivial⟩ <;> simp [World.cell?, hb]

/-- What lies in memory between the calls: the example's term, and what its numbering gave. -/
structure KSt (w : World) (b1 o1 b2 o2 cq2 : Nat) (W : World) : Prop where
  k4 : W.heap[w.heap.size + 1 + 1 + 1 + 1]? = some (Obj.cells #[.int .i64 3, .string ⟨#[102]⟩, .int .i64 0, .slice (some ⟨w.heap.size + 1 + 1 + 1, 0, none⟩) 2 2] 24 (0, 0))
  hin : Tm.inn W W.heap.size kT (.slice (some ⟨w.heap.size + 1 + 1 + 1, 0, none⟩) 2 2)
  below : Below w.heap.size w W
  e3 : W.cell? ⟨b1, o1 + 3, none⟩ = some (.slice (some ⟨b2, o2, none⟩) 2 cq2)
  d2 : W.cell? ⟨b2, o2 + 2, none⟩ = some (.int .i64 0)
theorem KSt.next {w : World} {b1 o1 b2 o2 cq2 : Nat} {W W' : World} (h : KSt w b1 o1 b2 o2 cq2 W) (hb : Below W.heap.size W W') : KSt w b1 o1 b2 o2 cq2 W' where
  k4 := (hb.block _ (Array.getElem?_eq_some_iff.1 h.k4).1).trans h.k4
  hin := Tm.inn_mono (Tm.inn_below h.hin hb (Nat.le_refl _)) hb.size
  below := h.below.trans (hb.mono h.below.size)
  e3 := (hb.cell (p := ⟨b1, o1 + 3, none⟩) (World.block_lt_of_cell? _ _ h.e3)).trans h.e3
  d2 := (hb.cell (p := ⟨b2, o2 + 2, none⟩) (World.block_lt_of_cell? _ _ h.d2)).trans h.d2

set_option maxRecDepth 100000 in
set_option maxHeartbeats 8000000 in
theorem knows_any (w : World) : Calls Try.prog 8 #[] w fun e w' => e = .returned (.bool true) ∧ Below w.heap.size w w' := by
  go_enter Try.func8, Try.ntmps8
  go_wp2_with fail
  obtain ⟨x0, hx0⟩ : ∃ o, Obj.cells #[.int .i64 1, .string ⟨#[]⟩, .int .i64 3, .slice none 0 0] 24 (0, 0) = o := ⟨_, rfl⟩
  obtain ⟨y0, hy0⟩ : ∃ o, Obj.cells #[.int .i64 1, .string ⟨#[]⟩, .int .i64 1, .slice none 0 0] 24 (0, 0) = o := ⟨_, rfl⟩
  obtain ⟨a0, ha0⟩ : ∃ o, Obj.cells #[.int .i64 1, .string ⟨#[]⟩, .int .i64 1, .slice none 0 0, .int .i64 1, .string ⟨#[]⟩, .int .i64 3, .slice none 0 0] 24 (0, 0) = o := ⟨_, rfl⟩
  obtain ⟨b0, hb0⟩ : ∃ o, Obj.cells #[.int .i64 1, .string ⟨#[]⟩, .int .i64 3, .slice none 0 0, .int .i64 3, .string ⟨#[103]⟩, .int .i64 0, .slice (some ⟨w.heap.size + 1 + 1, 0, none⟩) 2 2] 24 (0, 0) = o := ⟨_, rfl⟩
  obtain ⟨t0, ht0⟩ : ∃ o, Obj.cells #[.int .i64 3, .string ⟨#[102]⟩, .int .i64 0, .slice (some ⟨w.heap.size + 1 + 1 + 1, 0, none⟩) 2 2] 24 (0, 0) = o := ⟨_, rfl⟩
  rw [hx0, hy0, ha0, hb0, ht0]
  have hB0 : Below w.heap.size w ((((((w.alloc x0).alloc y0).alloc a0).alloc b0).alloc t0).alloc t0) := ((((((Below.refl _ w).alloc (Nat.le_refl _) _).alloc (by simp) _).alloc (by simp; omega) _).alloc (by simp; omega) _).alloc (by simp; omega) _).alloc (by simp; omega) _
  have hsz0 : ((((((w.alloc x0).alloc y0).alloc a0).alloc b0).alloc t0).alloc t0).heap.size = w.heap.size + 6 := by simp
  have k2 : ((((((w.alloc x0).alloc y0).alloc a0).alloc b0).alloc t0).alloc t0).heap[w.heap.size + 1 + 1]? = some a0 := by
    rw [Below.heap_alloc _ _ _ (by simp), Below.heap_alloc _ _ _ (by simp), Below.heap_alloc _ _ _ (by simp)]; exact newBlk _ _ _ (by simp)
  have k3 : ((((((w.alloc x0).alloc y0).alloc a0).alloc b0).alloc t0).alloc t0).heap[w.heap.size + 1 + 1 + 1]? = some b0 := by
    rw [Below.heap_alloc _ _ _ (by simp), Below.heap_alloc _ _ _ (by simp)]; exact newBlk _ _ _ (by simp)
  have k4 : ((((((w.alloc x0).alloc y0).alloc a0).alloc b0).alloc t0).alloc t0).heap[w.heap.size + 1 + 1 + 1 + 1]? = some t0 := by
    rw [Below.heap_alloc _ _ _ (by simp)]; exact newBlk _ _ _ (by simp)
  have k5 : ((((((w.alloc x0).alloc y0).alloc a0).alloc b0).alloc t0).alloc t0).heap[w.heap.size + 1 + 1 + 1 + 1 + 1]? = some t0 := newBlk _ _ _ (by simp)
  obtain ⟨W0, hW0⟩ : ∃ W0, ((((((w.alloc x0).alloc y0).alloc a0).alloc b0).alloc t0).alloc t0) = W0 := ⟨_, rfl⟩
  rw [hW0] at hB0 hsz0 k2 k3 k4 k5 ⊢
  clear hW0
  subst hx0 hy0 ha0 hb0 ht0
  have hin := kT_inn k2 k3
  have hsl := one_slice (t := kT) k5 hin
  refine (tnumber_any [kT] W0 _ hsl (by rw [kT_sizes]; omega)).mono ?_
  rintro e W1 ⟨hb1, ⟨h, _⟩ | ⟨_, sv', rfl, hp⟩⟩
  · rw [kT_right] at h; cases h
  rw [kT_vars, kT_rens] at *
  have hsl1 := Tm.sliceIn_of_P (B := W1.heap.size) (fun b hb => hb.2) hp
  obtain ⟨gq, cq, rfl, _, _, _⟩ := id hsl1
  obtain ⟨b1, o1, sv1, rfl, hb1lt, e0, e1, e2, e3, hin1⟩ := Tm.sliceIn_get hsl1 0 (by simp)
  obtain ⟨_, hsl2⟩ := Tm.inn_iff.1 hin1
  obtain ⟨gq2, cq2, rfl, _, _, _⟩ := id hsl2
  obtain ⟨b2, o2, sv2, rfl, hb2lt, d0, d1, d2, d3, _⟩ := Tm.sliceIn_get hsl2 0 (by simp [Tm.args])
  simp only [Nat.zero_mul, Nat.add_zero, List.getElem_cons_zero, Tm.args, Tm.n, List.length_cons, List.length_nil] at e3 d2
  have hst : KSt w b1 o1 b2 o2 cq2 W1 := ⟨(hb1.block _ (by omega)).trans k4, Tm.inn_mono (Tm.inn_below hin hb1 (Nat.le_refl _)) hb1.size, hB0.trans (hb1.mono (by omega)), e3, d2⟩
  clear hp hsl1 hin1 hsl2 e0 e1 e2 d0 d1 d3 hb1 k2 k3 k4 k5 hsl hB0 hin e3 d2
  obtain ⟨⟨c0, c1, c2, c3⟩, _⟩ := row4 hst.k4
  go_wp2_with fail
  refine (tright_any kT W1 _ hst.hin (by rw [kT_size]; omega)).mono ?_
  rintro e W2 ⟨rfl, hb2⟩
  rw [kT_right1]
  have hst2 := hst.next hb2
  clear hst hb2 c0 c1 c2 c3
  obtain ⟨⟨c0, c1, c2, c3⟩, _⟩ := row4 hst2.k4
  go_wp2_with fail
  refine (tright_any kZ W2 (.slice none 0 0) (Tm.inn_mk.2 ⟨⟨by decide, Nat.zero_le _, by decide⟩, none, 0, rfl, Nat.le_refl _, Nat.zero_le _, .inl rfl⟩) (by rw [kZ_size]; omega)).mono ?_
  rintro e W3 ⟨rfl, hb3⟩
  rw [kZ_right]
  have hst3 := hst2.next hb3
  clear hst2 hb3 c0 c1 c2 c3
  obtain ⟨⟨c0, c1, c2, c3⟩, _⟩ := row4 hst3.k4
  go_wp2_with fail
  refine (callsIn_wide.1 (tsize_in Fence.wide rfl (fun _ => trivial) rfl 9 (by omega) kT W3 _ hst3.hin (by rw [kT_size]; omega))).mono ?_
  rintro e W4 ⟨rfl, hb4⟩
  rw [kT_size]
  have hst4 := hst3.next hb4
  clear hst3 hb4 c0 c1 c2 c3
  obtain ⟨⟨c0, c1, c2, c3⟩, _⟩ := row4 hst4.k4
  go_wp2_with fail
  have hst4' := hst4.next ((Below.refl W4.heap.size W4).alloc (Nat.le_refl _) (.cells #[.int .i64 3, .string ⟨#[102]⟩, .int .i64 0, .slice (some ⟨w.heap.size + 1 + 1 + 1, 0, none⟩) 2 2] 24))
  refine (tvars_any [kT] _ _ (one_slice (t := kT) (newBlk W4 (.cells #[.int .i64 3, .string ⟨#[102]⟩, .int .i64 0, .slice (some ⟨w.heap.size + 1 + 1 + 1, 0, none⟩) 2 2] 24) _ rfl) hst4'.hin) (by rw [kT_sizes]; omega)).mono ?_
  rintro e W5 ⟨v, rfl, hvs, hb5, _⟩
  rw [kT_vars] at hvs
  have hst5 := hst4'.next hb5
  clear hst4 hst4' hb5 c0 c1 c2 c3
  have HVS := Lib.hid hvs
  clear hvs
  go_wp2_with fail
  have hst5' := hst5.next ((Below.refl W5.heap.size W5).alloc (Nat.le_refl _) (.cells #[.int .i64 3, .int .i64 1] 3))
  refine (numbers_any [3, 1] [3, 1] _ (W5.heap.size + 1) v _ (by simp) (intsIn_same HVS.out (by omega) (fun b o u hlt hc => (World.cell?_alloc_lt _ _ _ (by exact hlt)).trans hc)) ⟨_, 2, rfl, Nat.le_refl _, by simp, .inr ⟨W5.heap.size, 0, rfl, by omega, fun i hi => ?_⟩⟩).mono ?_
  · match i, hi with
    | 0, _ => simp
    | 1, _ => simp
  rintro e W6 ⟨rfl, hb6⟩
  rw [decide_eq_true (rfl : ([3, 1] : List Int) = [3, 1])]
  have hst6 := hst5'.next hb6
  clear hst5 hst5' hb6 HVS
  obtain ⟨⟨c0, c1, c2, c3⟩, _⟩ := row4 hst6.k4
  have e3 := hst6.e3
  have d2 := hst6.d2
  go_wp2_with fail
  refine (tground_any kT W6 _ hst6.hin (by rw [kT_size]; omega)).mono ?_
  rintro e W7 ⟨rfl, hb7⟩
  rw [kT_ground]
  have hst7 := hst6.next hb7
  clear hst6 hb7 c0 c1 c2 c3 e3 d2
  go_wp2_with fail
  go_ret
  exact ⟨rfl, hst7.below⟩
end Go.Proofs.Ytkmaaaednbjjkaa
