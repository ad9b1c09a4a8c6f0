/-
  The document's own answers on one term (size, depth, whether its fields may be, whether two are alike): what their calls give.
-/
import Derived.Test.YtpiflkgjmncijaaTm
import Derived.Test.YtpiflkgjmncijaaChecked
import Derived.Lib.Hide
namespace Go.Proofs.Ytpiflkgjmncijaa
open Go.RowKit

set_option maxHeartbeats 400000 in
theorem rsize_any : ∀ (t : Tm) (w : World) (B : Nat) (sv : Value), B ≤ w.heap.size → Tm.inn w B t sv → t.size ≤ 1000000 →
    Calls Try.prog 42 #[.agg #[.int .i64 t.kind, .string t.name, .int .i64 t.n, sv]] w fun e w' => e = .returned (.int .i64 t.size) ∧ Below w.heap.size w w' := by
  refine Tm.ind fun k s n l ih w B sv hB hin hsz => ?_
  obtain ⟨_, hsl⟩ := Tm.inn_mk.1 hin
  have hsl0 := hsl
  obtain ⟨g, cap, rfl, hcap, hlen, _⟩ := hsl0
  simp only [Tm.kind, Tm.name, Tm.n]
  simp only [Tm.size] at hsz
  go_enter Try.func42, Try.ntmps42
  go_wp2_with fail
  go_loopw [3, 4] (fun m i wr => ∃ k : Nat, k ≤ l.length ∧ i = .int .i64 k ∧ m = .int .i64 ((Tm.sizes (l.take k) + 1 : Nat) : Int) ∧ Below w.heap.size w wr ∧ w.heap.size < wr.heap.size ∧ wr.cell? ⟨w.heap.size, 3, none⟩ = some (.slice g l.length cap)) (fun _ i _ => l.length - (intOf i).toNat)
  case atStart => exact ⟨0, Nat.zero_le _, rfl, by simp [Tm.sizes], (Below.refl _ _).alloc (Nat.le_refl _) _, by simp, by simp⟩
  case round =>
    obtain ⟨k, hk, rfl, rfl, hb, hs, hcc⟩ := hrel
    by_cases hlt : k < l.length
    · obtain ⟨b, off, sv, rfl, hbB, g0, g1, g2, g3, hin'⟩ := Tm.sliceIn_get (Tm.sliceIn_below hsl hb hB) k hlt
      have hm := Tm.sizes_take_succ l k hlt
      have hm2 := Tm.sizes_take_le l (k + 1)
      have hih := ih l[k] (List.getElem_mem hlt) wr B sv (by omega) hin' (by omega)
      have hm3 : Tm.sizes (l.take k) + l[k].size ≤ 999999 := by omega
      have HM := Lib.hid hm
      clear hm hin hsl ih hin'
      go_wp2_with fail
      refine hih.mono ?_
      rintro e w1 ⟨rfl, hb1⟩
      have hcc1 := (hb1.cell (p := ⟨w.heap.size, 3, none⟩) hs).trans hcc
      go_wp2_with fail
      go_roundw
      case rel => 
        refine ⟨k + 1, by omega, by go_num, ?_, hb.trans (hb1.mono (by omega)), by have := hb1.size; omega, hcc1⟩
        rw [HM.out]; go_num
      case measure => simp [intOf]; omega
    · go_wp2_with fail
      go_ret
      have : k = l.length := by omega
      subst this
      exact ⟨by simp [Tm.size], hb⟩

set_option maxHeartbeats 400000 in
theorem rdeep_any : ∀ (t : Tm) (w : World) (B : Nat) (sv : Value), B ≤ w.heap.size → Tm.inn w B t sv → t.size ≤ 1000000 →
    Calls Try.prog 43 #[.agg #[.int .i64 t.kind, .string t.name, .int .i64 t.n, sv]] w fun e w' => e = .returned (.int .i64 t.deep) ∧ Below w.heap.size w w' := by
  refine Tm.ind fun k s n l ih w B sv hB hin hsz => ?_
  obtain ⟨_, hsl⟩ := Tm.inn_mk.1 hin
  have hsl0 := hsl
  obtain ⟨g, cap, rfl, hcap, hlen, _⟩ := hsl0
  simp only [Tm.kind, Tm.name, Tm.n]
  have hdp := Tm.deep_le_size (.mk k s n l)
  simp only [Tm.size, Tm.deep] at hsz hdp
  go_enter Try.func43, Try.ntmps43
  go_wp2_with fail
  go_loopw [3, 4, 5] (fun m i _ wr => ∃ k : Nat, k ≤ l.length ∧ i = .int .i64 k ∧ m = .int .i64 ((Tm.deeps (l.take k) : Nat) : Int) ∧ Below w.heap.size w wr ∧ w.heap.size < wr.heap.size ∧ wr.cell? ⟨w.heap.size, 3, none⟩ = some (.slice g l.length cap)) (fun _ i _ _ => l.length - (intOf i).toNat)
  case atStart => exact ⟨0, Nat.zero_le _, rfl, by simp [Tm.deeps], (Below.refl _ _).alloc (Nat.le_refl _) _, by simp, by simp⟩
  case round =>
    obtain ⟨k, hk, rfl, rfl, hb, hs, hcc⟩ := hrel
    by_cases hlt : k < l.length
    · obtain ⟨b, off, sv, rfl, hbB, g0, g1, g2, g3, hin'⟩ := Tm.sliceIn_get (Tm.sliceIn_below hsl hb hB) k hlt
      have hm := Tm.deeps_take_succ l k hlt
      have hm2 := Tm.deeps_take_le l (k + 1)
      have hsz2 := Tm.size_mem_le (List.getElem_mem hlt)
      have hih := ih l[k] (List.getElem_mem hlt) wr B sv (by omega) hin' (by omega)
      have HM := Lib.hid hm
      clear hm hin hsl ih hin'
      go_wp2_with fail
      refine hih.mono ?_
      rintro e w1 ⟨rfl, hb1⟩
      have hcc1 := (hb1.cell (p := ⟨w.heap.size, 3, none⟩) hs).trans hcc
      go_wp2_with fail
      all_goals go_roundw
      case rel =>
        refine ⟨k + 1, by omega, by go_num, ?_, hb.trans (hb1.mono (by omega)), by have := hb1.size; omega, hcc1⟩
        rw [HM.out, Nat.max_eq_right (by omega)]
      case measure => simp [intOf]; omega
      case rel =>
        refine ⟨k + 1, by omega, by go_num, ?_, hb.trans (hb1.mono (by omega)), by have := hb1.size; omega, hcc1⟩
        rw [HM.out, Nat.max_eq_left (by omega)]
      case measure => simp [intOf]; omega
    · have : k = l.length := by omega
      subst this
      rw [List.take_length]
      go_wp2_with fail
      go_ret
      exact ⟨by simp [Tm.deep], hb⟩

end Go.Proofs.Ytpiflkgjmncijaa
