/-
  The rows of the document's examples for compare, which each statement asks at its end.
-/
import Derived.Test.YtpiflkgjmncijaaCSort
import Derived.Test.YtpiflkgjmncijaaCp
namespace Go.Proofs.Ytpiflkgjmncijaa
open Go.RowKit

def qA : Tm := .mk 3 ⟨#[97]⟩ 0 []
def qF : Tm := .mk 3 ⟨#[102]⟩ 0 [qA]
def qN : Tm := .mk 2 ⟨#[]⟩ 5 []
def qV : Tm := .mk 1 ⟨#[]⟩ 1 []
def qZ : Tm := .mk 2 ⟨#[]⟩ 0 []
def qW : Tm := .mk 1 ⟨#[]⟩ 7 []
def qL : List Tm := [qF, qA, qN, qV, qA]

theorem qL_sorted : srtTms qL = [qV, qN, qA, qF] := by decide +kernel
theorem qL_err : srtErr qL = 0 := by decide +kernel
theorem qL_sizes : Tm.sizes qL = 6 := by decide +kernel
theorem qA_cmp : ccN qA qZ = 1 := by decide +kernel
theorem qA_err : ccE qA qZ = 0 := by decide +kernel
theorem q_var : isVar qV qW = true := by decide +kernel

theorem inn_none {w : World} {B : Nat} {k n : Int} {s : ByteArray} (hk : (Lit.int .i64 k).wf = true) (hs : s.size ≤ maxLen) (hn : (Lit.int .i64 n).wf = true) : Tm.inn w B (.mk k s n []) (.slice none 0 0) :=
  Tm.inn_mk.2 ⟨⟨hk, hs, hn⟩, none, 0, rfl, Nat.le_refl _, Nat.zero_le _, .inl rfl⟩
theorem qA_inn {w : World} {B : Nat} : Tm.inn w B qA (.slice none 0 0) := inn_none (by decide) (by decide +kernel) (by decide)

set_option maxRecDepth 100000 in
set_option maxHeartbeats 8000000 in
theorem knows2_any (w : World) : Calls Try.prog 12 #[] w fun e w' => e = .returned (.bool true) ∧ Below w.heap.size w w' := by
  go_enter Try.func12, Try.ntmps12
  go_wp2_with fail
  obtain ⟨a0, ha0⟩ : ∃ o, Obj.cells #[.int .i64 3, .string ⟨#[97]⟩, .int .i64 0, .slice none 0 0] 24 (0, 0) = o := ⟨_, rfl⟩
  obtain ⟨r0, hr0⟩ : ∃ o, Obj.cells #[.int .i64 3, .string ⟨#[102]⟩, .int .i64 0, .slice (some ⟨w.heap.size + 1, 0, none⟩) 1 1, .int .i64 3, .string ⟨#[97]⟩, .int .i64 0, .slice none 0 0, .int .i64 2, .string ⟨#[]⟩, .int .i64 5, .slice none 0 0, .int .i64 1, .string ⟨#[]⟩, .int .i64 1, .slice none 0 0, .int .i64 3, .string ⟨#[97]⟩, .int .i64 0, .slice none 0 0] 24 (0, 0) = o := ⟨_, rfl⟩
  rw [ha0, hr0]
  have hB0 : Below w.heap.size w (((w.alloc a0).alloc a0).alloc r0) := (((Below.refl _ w).alloc (Nat.le_refl _) _).alloc (by simp) _).alloc (by simp; omega) _
  have k0 : (((w.alloc a0).alloc a0).alloc r0).heap[w.heap.size]? = some a0 := by
    rw [Below.heap_alloc _ _ _ (by simp; omega), Below.heap_alloc _ _ _ (by simp)]; exact newBlk _ _ _ rfl
  have k1 : (((w.alloc a0).alloc a0).alloc r0).heap[w.heap.size + 1]? = some a0 := by
    rw [Below.heap_alloc _ _ _ (by simp)]; exact newBlk _ _ _ (by simp)
  have k2 : (((w.alloc a0).alloc a0).alloc r0).heap[w.heap.size + 1 + 1]? = some r0 := newBlk _ _ _ (by simp)
  obtain ⟨W0, hW0⟩ : ∃ W0, ((w.alloc a0).alloc a0).alloc r0 = W0 := ⟨_, rfl⟩
  rw [hW0] at hB0 k0 k1 k2 ⊢
  clear hW0
  subst ha0 hr0
  have hbox : TmBox W0 w.heap.size qA (.slice none 0 0) := ⟨k0, qA_inn⟩
  have hF : Tm.inn W0 W0.heap.size qF (.slice (some ⟨w.heap.size + 1, 0, none⟩) 1 1) :=
    Tm.inn_mk.2 ⟨⟨by decide, by decide +kernel, by decide⟩, one_slice (t := qA) k1 qA_inn⟩
  have hsl : Tm.sliceIn W0 W0.heap.size qL (.slice (some ⟨w.heap.size + 1 + 1, 0, none⟩) 5 5) := by
    refine ⟨_, 5, rfl, Nat.le_refl _, by decide, .inr ⟨_, 0, rfl, (Array.getElem?_eq_some_iff.1 k2).1, ?_⟩⟩
    simp only [qL, Tm.rowIn]
    refine ⟨⟨_, ?_, ?_, ?_, ?_, hF⟩, ⟨_, ?_, ?_, ?_, ?_, qA_inn⟩, ⟨_, ?_, ?_, ?_, ?_, inn_none (by decide) (by decide) (by decide)⟩, ⟨_, ?_, ?_, ?_, ?_, inn_none (by decide) (by decide) (by decide)⟩, ⟨_, ?_, ?_, ?_, ?_, qA_inn⟩, trivial⟩ <;> simp [World.cell?, k2, qF, qA, qN, qV, Tm.kind, Tm.name, Tm.n]
  clear k0 k1 k2 hF
  refine (csort_any qL W0 _ hsl (by decide) (by rw [qL_sizes]; omega)).mono ?_
  rintro e W1 ⟨⟨g, c, rfl, hs⟩, hb1⟩
  rw [qL_sorted] at hs ⊢
  rw [qL_err]
  obtain ⟨b, o, sv0, rfl, t0⟩ := TmAt.of hs 0 (by simp)
  obtain ⟨b', o', sv1, e1, t1⟩ := TmAt.of hs 1 (by simp)
  cases e1
  obtain ⟨b', o', sv2, e2, t2⟩ := TmAt.of hs 2 (by simp)
  cases e2
  obtain ⟨b', o', sv3, e3, t3⟩ := TmAt.of hs 3 (by simp)
  cases e3
  have hbox1 := hbox.next hb1
  have hB1 := hB0.trans (hb1.mono hB0.size)
  clear hbox hB0 hb1 hs hsl
  obtain ⟨c0, c1, c2, c3⟩ := hbox1.cells
  simp only [qA, Tm.kind, Tm.name, Tm.n] at c0 c1 c2 c3
  have HB1 := Lib.hid hB1
  have HBOX := Lib.hid hbox1
  have T0 := Lib.hid t0
  have T1 := Lib.hid t1
  have T2 := Lib.hid t2
  have T3 := Lib.hid t3
  clear hB1 hbox1 t0 t1 t2 t3
  go_wp2_with fail
  have hc := ccompare_any qA qZ W1 (.slice none 0 0) (.slice none 0 0) qA_inn (inn_none (by decide) (by decide) (by decide)) (by decide) (by decide)
  rw [qA_cmp, qA_err] at hc
  refine hc.mono ?_
  rintro e W2 ⟨rfl, hb2⟩
  have t0 := T0.out.next hb2
  have t1 := T1.out.next hb2
  have t2 := T2.out.next hb2
  have t3 := T3.out.next hb2
  have hB2 := HB1.out.trans (hb2.mono HB1.out.size)
  have HT := Lib.hid t0.inn
  have HB2 := Lib.hid hB2
  obtain ⟨a0, a1, a2, a3, _⟩ := t0
  have b2 := t1.c2
  have d1 := t2.c1
  have e1 := t3.c1
  simp only [List.getElem_cons_zero, List.getElem_cons_succ, qV, qN, qA, qF, Tm.kind, Tm.name, Tm.n, Nat.zero_mul, Nat.add_zero, Nat.one_mul] at a0 a1 a2 a3 b2 d1 e1
  clear t1 t2 t3 T0 T1 T2 T3 hb2 HB1 HBOX c0 c1 c2 c3 hc hB2
  go_wp2_with fail
  have hv := cvariant_any qV qW W2 sv0 (.slice none 0 0) HT.out (inn_none (by decide) (by decide) (by decide)) (by decide) (by decide)
  rw [q_var] at hv
  refine hv.mono ?_
  rintro e W3 ⟨rfl, hb3⟩
  have HB3 := Lib.hid (HB2.out.trans (hb3.mono HB2.out.size))
  clear hv hb3 a0 a1 a2 a3 b2 d1 e1
  go_wp2_with fail
  go_ret
  exact ⟨rfl, HB3.out⟩
end Go.Proofs.Ytpiflkgjmncijaa
