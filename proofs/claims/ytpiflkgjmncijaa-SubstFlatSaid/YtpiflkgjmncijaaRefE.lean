/-
  The document's own answers: whether a term is right, whole; whether Vars have no Args; rows of terms and of numbers that are alike.
-/
import Derived.Test.YtpiflkgjmncijaaRefC
import Derived.Test.YtpiflkgjmncijaaRefD
import Derived.Lib.Hide
namespace Go.Proofs.Ytpiflkgjmncijaa
open Go.RowKit

set_option maxHeartbeats 400000 in
theorem rright_any (t : Tm) (w : World) (B : Nat) (sv : Value) (hB : B ≤ w.heap.size) (hin : Tm.inn w B t sv) (hsz : t.size ≤ 1000000) :
    Calls Try.prog 16 #[.agg #[.int .i64 t.kind, .string t.name, .int .i64 t.n, sv]] w fun e w' => e = .returned (.bool t.right) ∧ Below w.heap.size w w' := by
  have hin2 := Lib.hid hin
  clear hin
  go_enter Try.func16, Try.ntmps16
  go_wp2_with fail
  refine (rfair_any t _ B sv (by simp; omega) (Tm.inn_below hin2.out ((Below.refl w.heap.size w).alloc (Nat.le_refl _) _) hB)).mono ?_
  rintro e w1 ⟨rfl, hb1⟩
  have hb1' : Below w.heap.size w w1 := ((Below.refl w.heap.size w).alloc (Nat.le_refl _) _).trans (hb1.mono (by simp))
  have hs1 : w.heap.size < w1.heap.size := by have := hb1.size; simp at this; omega
  have c0 : w1.cell? ⟨w.heap.size, 0, none⟩ = some (.int .i64 t.kind) := (hb1.cell (p := ⟨w.heap.size, 0, none⟩) (by simp)).trans (by simp)
  have c1 : w1.cell? ⟨w.heap.size, 1, none⟩ = some (.string t.name) := (hb1.cell (p := ⟨w.heap.size, 1, none⟩) (by simp)).trans (by simp)
  have c2 : w1.cell? ⟨w.heap.size, 2, none⟩ = some (.int .i64 t.n) := (hb1.cell (p := ⟨w.heap.size, 2, none⟩) (by simp)).trans (by simp)
  have c3 : w1.cell? ⟨w.heap.size, 3, none⟩ = some sv := (hb1.cell (p := ⟨w.heap.size, 3, none⟩) (by simp)).trans (by simp)
  clear hb1
  cases hq : t.fair with
  | false =>
    have hf : t.right = false := by simp [Tm.right, hq]
    have HF := Lib.hid hf
    clear hf hq
    go_wp2_with fail
    go_ret
    exact ⟨by rw [HF.out]; rfl, hb1'⟩
  | true =>
    have HQ := Lib.hid hq
    clear hq
    go_wp2_with fail
    refine (rsize_any t _ B sv (by omega) (Tm.inn_below hin2.out hb1' hB) hsz).mono ?_
    rintro e w2 ⟨rfl, hb2⟩
    have hb2' : Below w.heap.size w w2 := hb1'.trans (hb2.mono (by omega))
    have hs2 : w.heap.size < w2.heap.size := by have := hb2.size; omega
    have d0 := (hb2.cell (p := ⟨w.heap.size, 0, none⟩) hs1).trans c0
    have d1 := (hb2.cell (p := ⟨w.heap.size, 1, none⟩) hs1).trans c1
    have d2 := (hb2.cell (p := ⟨w.heap.size, 2, none⟩) hs1).trans c2
    have d3 := (hb2.cell (p := ⟨w.heap.size, 3, none⟩) hs1).trans c3
    clear hb1' hb2 c0 c1 c2 c3
    by_cases h3 : t.size ≤ 3000
    · go_wp2_with fail
      refine (rdeep_any t _ B sv (by omega) (Tm.inn_below hin2.out hb2' hB) hsz).mono ?_
      rintro e w3 ⟨rfl, hb3⟩
      have hb3' : Below w.heap.size w w3 := hb2'.trans (hb3.mono (by omega))
      have hf : t.right = decide ((t.deep : Int) ≤ 100) := by simp only [Tm.right, HQ.out, h3, decide_true, Bool.true_and]; rw [Bool.eq_iff_iff]; simp; omega
      have HF := Lib.hid hf
      clear hf
      go_wp2_with fail
      go_ret
      exact ⟨by rw [HF.out]; rfl, hb3'⟩
    · have hf : t.right = false := by simp [Tm.right]; intro _ h; omega
      have HF := Lib.hid hf
      clear hf
      go_wp2_with fail
      go_ret
      exact ⟨by rw [HF.out]; rfl, hb2'⟩


end Go.Proofs.Ytpiflkgjmncijaa
