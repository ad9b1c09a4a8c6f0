/-
  The program's rows of bits: has, add, addAll.
-/
import Derived.Test.YtomdccejgmhfoaaEPt
import Derived.Laws.ShiftsVar
import Derived.Laws.Bits64b
import Derived.Deep.OwnRows
import Derived.Deep.RegionHeld3
namespace Go.Proofs.Ytomdccejgmhfoaa
open Go.RowKit Go.Shelf Go.Maps

theorem below_dn {B : Nat} {a w : World} (h : Below B a w) (n : Nat) : Below B a (w.drewN n) := ⟨h.os, h.tape, h.output, h.size, h.block⟩
/-- What a store into the table of rows leaves. -/
structure Stored (w w' : World) (tb o : Nat) (v : Value) : Prop where
  row : ∀ T m f, w.rowIs tb T m f → w'.rowIs tb T m (fun j => if j = o then v else f j)
  below : Below tb w w'
  other : ∀ b, b ≠ tb → w'.heap[b]? = w.heap[b]?
  size : w'.heap.size = w.heap.size
theorem Stored.drew_set (w : World) (tb o : Nat) (v : Value) (_hlt : tb < w.heap.size) : Stored w (w.setCell ⟨tb, o, none⟩ v).drew tb o v :=
  ⟨fun T m f h => (h.set o v).drew, ((Below.refl tb w).setCell (p := ⟨tb, o, none⟩) (Nat.le_refl _) v).drew, fun b hb => Below.heap_setCell _ _ _ _ hb, by simp⟩
theorem or_bit (x k : Nat) (hx : x < 18446744073709551616) (hk : k < 64) : bits .or .u64 (x : Int) (IntKind.u64.wrap (2 ^ k)) = ((x ||| 2 ^ k : Nat) : Int) := by
  have h1 : (2 : Nat) ^ k < 18446744073709551616 := by
    have := Nat.pow_lt_pow_of_lt (a := 2) (by decide) hk
    simpa using this
  have h2 : IntKind.u64.wrap ((2 : Int) ^ k) = ((2 ^ k : Nat) : Int) := by
    rw [IntKind.wrap_u64, show ((2 : Int) ^ k) = ((2 ^ k : Nat) : Int) by simp]
    generalize 2 ^ k = y at h1
    omega
  rw [h2, bits_or_u64_nat _ _ hx h1]
theorem bit_test (x k : Nat) (hx : x < 18446744073709551616) : (bits .and .u64 ((x : Int) / 2 ^ k) 1 == 1) = x.testBit k := by
  have h1 : ((x : Int) / 2 ^ k) = ((x / 2 ^ k : Nat) : Int) := by simp
  have h2 : x / 2 ^ k < 18446744073709551616 := Nat.lt_of_le_of_lt (Nat.div_le_self _ _) hx
  rw [h1, show (1 : Int) = ((1 : Nat) : Int) from rfl, bits_and_u64_nat _ _ h2 (by decide), Nat.and_one_is_mod, Nat.testBit_eq_decide_div_mod_eq, Bool.eq_iff_iff]
  simp only [beq_iff_eq, decide_eq_true_eq]
  omega
set_option maxHeartbeats 1000000 in
theorem has_any (tb off i x : Nat) (w : World) (hi : i < 3008) (hx : x < 18446744073709551616) (hc : w.cell? ⟨tb, off + i / 64, none⟩ = some (.int .u64 (x : Nat))) :
    Calls Try.prog 77 #[.pointer (some ⟨tb, off, none⟩), .int .i64 (i : Nat)] w fun e w' => e = .returned (.bool (x.testBit (i % 64))) ∧ w = w' := by
  have HX := Lib.hid hx
  clear hx
  go_enter Try.func77, Try.ntmps77
  go_wp2_with fail
  go_ret
  exact ⟨ret_bool (bit_test x _ HX.out), rfl⟩
set_option maxHeartbeats 1000000 in
theorem add_row_any (tb off i x : Nat) (w : World) (hi : i < 3008) (hx : x < 18446744073709551616) (hc : w.cell? ⟨tb, off + i / 64, none⟩ = some (.int .u64 (x : Nat))) (hf : w.frozen? ⟨tb, off + i / 64, none⟩ = false) (hlt : tb < w.heap.size) :
    Calls Try.prog 76 #[.pointer (some ⟨tb, off, none⟩), .int .i64 (i : Nat)] w fun e w' => e = .returned (.tuple #[]) ∧ Stored w w' tb (off + i / 64) (.int .u64 (x ||| 2 ^ (i % 64) : Nat)) := by
  have HX := Lib.hid hx
  have HO := Lib.hid (or_bit x (i % 64) hx (Nat.mod_lt _ (by decide)))
  clear hx
  go_enter Try.func76, Try.ntmps76
  go_wp2_with fail
  go_region
  rw [HO.out]
  have hst := Stored.drew_set w tb (off + i / 64) (.int .u64 (x ||| 2 ^ (i % 64) : Nat)) hlt
  have HST := Lib.hid hst
  clear hst
  generalize (w.setCell ⟨tb, off + i / 64, none⟩ (.int .u64 (x ||| 2 ^ (i % 64) : Nat))).drew = wf at HST ⊢
  go_wp2_with fail
  refine bodyPost_end (results_none rfl _ _ _) rfl ?_
  exact ⟨rfl, HST.out⟩

/-- The table: its words. -/
def BTab (w : World) (tb m : Nat) (bt : Nat → Nat) : Prop := w.rowIs tb 102 m (fun o => .int .u64 (bt o : Nat)) ∧ ∀ o, bt o < 18446744073709551616
/-- What calls leave that write only the table. -/
structure TFr (w w' : World) (tb : Nat) : Prop where
  below : Below tb w w'
  other : ∀ b, b ≠ tb → w'.heap[b]? = w.heap[b]?
  size : w'.heap.size = w.heap.size
theorem TFr.refl (w : World) (tb : Nat) : TFr w w tb := ⟨Below.refl _ _, fun _ _ => rfl, rfl⟩
theorem TFr.trans {w w' w'' : World} {tb : Nat} (h : TFr w w' tb) (g : TFr w' w'' tb) : TFr w w'' tb := ⟨h.below.trans g.below, fun b hb => (g.other b hb).trans (h.other b hb), g.size.trans h.size⟩
theorem Stored.fr {w w' : World} {tb o : Nat} {v : Value} (h : Stored w w' tb o v) : TFr w w' tb := ⟨h.below, h.other, h.size⟩
theorem BTab.set {w w' : World} {tb m o x : Nat} {bt : Nat → Nat} (h : BTab w tb m bt) (g : Stored w w' tb o (.int .u64 (x : Nat))) (hx : x < 18446744073709551616) : BTab w' tb m (fun j => if j = o then x else bt j) :=
  ⟨(g.row _ _ _ h.1).congr fun j _ => by by_cases e : j = o <;> simp [e], fun j => by by_cases e : j = o <;> simp [e, hx, h.2 j]⟩
theorem BTab.cell {w : World} {tb m o : Nat} {bt : Nat → Nat} (h : BTab w tb m bt) (ho : o < m) : w.cell? ⟨tb, o, none⟩ = some (.int .u64 (bt o : Nat)) := h.1.cell ho
theorem BTab.frozen {w : World} {tb m : Nat} {bt : Nat → Nat} (h : BTab w tb m bt) (o : Nat) : w.frozen? ⟨tb, o, none⟩ = false := h.1.frozen o
theorem BTab.lt {w : World} {tb m : Nat} {bt : Nat → Nat} (h : BTab w tb m bt) : tb < w.heap.size := h.1.lt
theorem BTab.congr {w : World} {tb m : Nat} {bt bt' : Nat → Nat} (h : BTab w tb m bt) (e : ∀ o, bt o = bt' o) : BTab w tb m bt' := by
  have : bt = bt' := funext e
  rw [← this]; exact h
theorem or_lt (x y : Nat) (hx : x < 18446744073709551616) (hy : y < 18446744073709551616) : x ||| y < 18446744073709551616 := by
  have := Nat.or_lt_two_pow (n := 64) (x := x) (y := y) (by simpa using hx) (by simpa using hy)
  simpa using this
/-- The words behind the first k steps of addAll. -/
def orTo (bt : Nat → Nat) (o1 o2 k o : Nat) : Nat := if o1 ≤ o ∧ o < o1 + k then bt o ||| bt (o - o1 + o2) else bt o
theorem orTo_lt {bt : Nat → Nat} (h : ∀ o, bt o < 18446744073709551616) (o1 o2 k o : Nat) : orTo bt o1 o2 k o < 18446744073709551616 := by
  unfold orTo
  split
  · exact or_lt _ _ (h _) (h _)
  · exact h _
set_option maxRecDepth 100000 in
set_option maxHeartbeats 2000000 in
theorem addAll_any (tb o1 o2 m : Nat) (bt : Nat → Nat) (w : World) (hb : BTab w tb m bt) (h1 : o1 + 47 ≤ m) (h2 : o2 + 47 ≤ m) (hap : o1 + 47 ≤ o2 ∨ o2 + 47 ≤ o1) :
    Calls Try.prog 74 #[.pointer (some ⟨tb, o1, none⟩), .pointer (some ⟨tb, o2, none⟩)] w fun e w' => e = .returned (.tuple #[]) ∧ BTab w' tb m (orTo bt o1 o2 47) ∧ TFr w w' tb := by
  have h0 : BTab w tb m (orTo bt o1 o2 0) := hb.congr fun o => by unfold orTo; rw [if_neg (by omega)]
  have HB := Lib.hid hb
  have H0 := Lib.hid h0
  clear hb h0
  go_enter Try.func74, Try.ntmps74
  go_wp2_with fail
  go_loopw [4, 5, 7] (fun _ _ i wr => ∃ k : Nat, k ≤ 47 ∧ i = .int .i64 k ∧ Hid (BTab wr tb m (orTo bt o1 o2 k) ∧ TFr w wr tb)) (fun _ _ i _ => 47 - (intOf i).toNat)
  case atStart => exact ⟨0, Nat.zero_le _, rfl, Lib.hid ⟨H0.out, TFr.refl _ _⟩⟩
  case round =>
    obtain ⟨wz, rfl⟩ : ∃ x, x = wr := ⟨_, rfl⟩
    obtain ⟨k, hk, rfl, hbl⟩ := hrel
    have HBL := Lib.hid hbl.out
    clear hbl
    by_cases hlt : k < 47
    · have c1 := HBL.out.1.cell (o := o1 + k) (by omega)
      have c2 := HBL.out.1.cell (o := o2 + k) (by omega)
      have f1 := HBL.out.1.frozen (o1 + k)
      have hl := HBL.out.1.lt
      have e1 : orTo bt o1 o2 k (o1 + k) = bt (o1 + k) := by unfold orTo; rw [if_neg (by omega)]
      have e2 : orTo bt o1 o2 k (o2 + k) = bt (o2 + k) := by unfold orTo; rw [if_neg (by omega)]
      rw [e1] at c1
      rw [e2] at c2
      have hx := HB.out.2 (o1 + k)
      have hy := HB.out.2 (o2 + k)
      have hor := bits_or_u64_nat _ _ hx hy
      obtain ⟨x, ex⟩ : ∃ x, bt (o1 + k) = x := ⟨_, rfl⟩
      obtain ⟨y, ey⟩ : ∃ y, bt (o2 + k) = y := ⟨_, rfl⟩
      rw [ex] at c1 hor hx
      rw [ey] at c2 hor hy
      have HO := Lib.hid hor
      have HE := Lib.hid ex
      have HY := Lib.hid ey
      have HXL := Lib.hid hx
      have HYL := Lib.hid hy
      clear e1 e2 hx hy hor ex ey
      go_wp2_with fail
      go_region
      go_wp2_with fail
      go_region
      rw [HO.out]
      have hst := Stored.drew_set wz tb (o1 + k) (.int .u64 (x ||| y : Nat)) hl
      obtain ⟨wf, hwf⟩ : ∃ wf, (wz.setCell ⟨tb, o1 + k, none⟩ (.int .u64 (x ||| y : Nat))).drew.drew = wf := ⟨_, rfl⟩
      have hst2 : Stored wz wf tb (o1 + k) (.int .u64 (x ||| y : Nat)) := by rw [← hwf]; exact ⟨hst.row, hst.below.drew, hst.other, hst.size⟩
      have HST := Lib.hid hst2
      rw [hwf]
      clear hst hst2 hwf
      go_wp2_with fail
      go_roundw
      case rel =>
        refine ⟨k + 1, by omega, by go_num, Lib.hid ⟨?_, HBL.out.2.trans HST.out.fr⟩⟩
        refine (HBL.out.1.set HST.out (or_lt _ _ HXL.out HYL.out)).congr fun o => ?_
        by_cases e : o = o1 + k
        · subst e
          rw [if_pos rfl]
          unfold orTo
          rw [if_pos (by omega), HE.out, show o1 + k - o1 + o2 = o2 + k by omega, HY.out]
        · rw [if_neg e]
          unfold orTo
          by_cases h : o1 ≤ o ∧ o < o1 + k
          · rw [if_pos h, if_pos (by omega)]
          · rw [if_neg h, if_neg (by omega)]
      case measure => simp [intOf]; omega
    · obtain rfl : 47 = k := by omega
      go_wp2_with fail
      refine bodyPost_end (results_none rfl _ _ _) rfl ?_
      exact ⟨rfl, HBL.out.1, HBL.out.2⟩
end Go.Proofs.Ytomdccejgmhfoaa
