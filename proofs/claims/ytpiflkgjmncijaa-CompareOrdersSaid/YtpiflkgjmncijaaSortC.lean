/-
  The library's SortFunc, SortedFunc of a row of places; rows of at most twelve are sorted by insertion.
-/
import Derived.Test.YtpiflkgjmncijaaSortB
import Derived.Test.YtpiflkgjmncijaaSeq
import Derived.Test.YtpiflkgjmncijaaPureShift
import Derived.Sort.AssemblyPlain
namespace Go.Proofs.Ytpiflkgjmncijaa
open Go.RowKit Go.Sort

theorem byte_wrap (x : UInt8) : wrap64 (wrap64 (x.toNat : Int)) = (x.toNat : Int) := by
  have := UInt8.toNat_lt x
  have h : wrap64 (x.toNat : Int) = x.toNat := wrap_in (by omega)
  rw [h, h]

set_option maxRecDepth 100000 in
theorem len64_any (n : Nat) (hn : n < 256) (w : World) : Calls Try.prog 91 #[.int .u64 n] w fun e w' => (∃ k : Nat, k < 256 ∧ e = .returned (.int .i64 k)) ∧ w = w' := by
  have h1 : ¬ (4294967296 : Int) ≤ n := by omega
  have h2 : ¬ (65536 : Int) ≤ n := by omega
  have h3 : ¬ (256 : Int) ≤ n := by omega
  go_enter Try.func91, Try.ntmps91
  go_wp2_with fail
  go_ret
  exact ⟨⟨_, UInt8.toNat_lt _, ret_int (byte_wrap _)⟩, rfl⟩
set_option maxRecDepth 100000 in
theorem len_any (n : Nat) (hn : n < 256) (w : World) : Calls Try.prog 81 #[.int .u64 n] w fun e w' => (∃ k : Nat, k < 256 ∧ e = .returned (.int .i64 k)) ∧ w = w' := by
  have h3 : (n : Int) < 256 := by omega
  go_enter Try.func81, Try.ntmps81
  go_wp2_with fail
  refine (len64_any n hn w).mono ?_
  rintro e w' ⟨⟨k, hk, rfl⟩, rfl⟩
  go_wp2_with fail
  go_ret
  exact ⟨⟨k, hk, rfl⟩, rfl⟩

/-- The places are sorted. -/
def SortedPost (l : List Tm) (d : Array Int) (w : World) (b : Nat) (e : Ending) (W' : World) : Prop :=
  e = .returned (.tuple #[]) ∧ ∃ d' : Array Int, PermIn 0 d.size d d' ∧ SortedIn (tlt l) 0 d.size d' ∧ RowSt w b l.length d' W'

theorem tlt_iff (l : List Tm) (x y : Int) : tlt l x y = true ↔ (keyAt l x).cmp (keyAt l y) = -1 := by
  have := cmp_rng (keyAt l x) (keyAt l y)
  unfold Rng at this
  simp only [tlt, decide_eq_true_eq]
  omega
theorem tlt_swo (l : List Tm) : SWO (tlt l) where
  irrefl x := by
    rw [Bool.eq_false_iff, ne_eq, tlt_iff, (cmp_eq0 _ _).2 rfl]; omega
  trans x y z h1 h2 := by
    rw [tlt_iff] at h1 h2 ⊢
    have := (cmp_tri (keyAt l x) (keyAt l y) (keyAt l z)).2.2 (by rw [h1, h2])
    omega
  ntrans x y z h1 h2 := by
    rw [tlt, decide_eq_false_iff_not] at h1 h2 ⊢
    have e1 := cmp_neg (keyAt l x) (keyAt l y)
    have e2 := cmp_neg (keyAt l y) (keyAt l z)
    have e3 := cmp_neg (keyAt l x) (keyAt l z)
    have := cmp_le_trans (t := keyAt l z) (u := keyAt l y) (v := keyAt l x) (by omega) (by omega)
    omega
set_option maxRecDepth 100000 in
set_option maxHeartbeats 1000000 in
theorem small_any (l : List Tm) (sv : Value) (d : Array Int) (g : Option Addr) (b cap limit : Nat) (w W : World) (hg : d.size = 0 ∨ g = some ⟨b, 0, none⟩) (hS : RowSt w b l.length d W) (hsl : Tm.sliceIn w w.heap.size l sv) (h12 : d.size ≤ 12) :
    Calls Try.prog 80 #[.slice g d.size cap, .int .i64 0, .int .i64 d.size, .int .i64 limit, .func (.func 45) #[sv] #[]] W fun e W' => SortedPost l d w b e W' := by
  have HS := Lib.hid hS
  have HSL := Lib.hid hsl
  have HG := Lib.hid hg
  clear hg
  have hd0 : ((d.size : Int) - 0 ≤ 12) := by omega
  have hd1 : ((d.size : Int) ≤ 12) := by omega
  clear hS hsl
  go_enter Try.func80, Try.ntmps80
  go_wp2_with fail
  refine wp_loop_rounds 1 ?_
  rw [rounds_succ]
  go_wp2_with fail
  refine (insertion_any l sv d g 0 d.size b cap w W HG.out HS.out HSL.out (Nat.zero_le _) (Nat.le_refl _) (by omega)).mono ?_
  rintro e W1 ⟨rfl, hr⟩
  have HR := Lib.hid hr
  clear hr
  go_wp2_with fail
  (try simp only [Exit.inBlock, Exit.then]); refine bodyPost_ret (results_none rfl _ _ _) rfl ?_
  obtain ⟨h1, h2⟩ := insertionSort_holds (tlt_swo l) d 0 d.size (Nat.zero_le _) (Nat.le_refl _)
  exact ⟨rfl, _, h1, h2, HR.out⟩
end Go.Proofs.Ytpiflkgjmncijaa
