/-
  The library's insertion sort of a row of places.
-/
import Derived.Test.YtpiflkgjmncijaaSortA
import Derived.StillTailTactics
namespace Go.Proofs.Ytpiflkgjmncijaa
open Go.RowKit Go.Sort

set_option maxRecDepth 100000 in
set_option maxHeartbeats 4000000 in
theorem insertion_any (l : List Tm) (sv : Value) (d : Array Int) (g : Option Addr) (a z b cap : Nat) (w W : World) (hg : d.size = 0 ∨ g = some ⟨b, 0, none⟩) (hS : RowSt w b l.length d W) (hsl : Tm.sliceIn w w.heap.size l sv) (haz : a ≤ z) (hz : z ≤ d.size) (hsz : d.size ≤ 1000000) :
    Calls Try.prog 82 #[.slice g d.size cap, .int .i64 a, .int .i64 z, .func (.func 45) #[sv] #[]] W
      fun e W' => e = .returned (.tuple #[]) ∧ RowSt w b l.length (insertionSort (tlt l) d a z) W' := by
  have HS := Lib.hid hS
  have HSL := Lib.hid hsl
  clear hS hsl
  rcases hg with h0 | rfl
  · obtain rfl : z = 0 := by omega
    obtain rfl : a = 0 := by omega
    have hn := Lib.hid (insOuter_stop (lt := tlt l) 0 0 1 d (by omega))
    clear h0
    go_enter Try.func82, Try.ntmps82
    go_wp2_with fail
    refine wp_loop_rounds 1 ?_
    rw [rounds_succ]
    go_wp2_with fail
    go_end0
    refine ⟨rfl, ?_⟩
    show RowSt w b l.length (insOuter (tlt l) 0 0 1 d) W
    rw [hn.out]
    exact HS.out
  go_enter Try.func82, Try.ntmps82
  go_wp2_with fail
  go_loopw [8, 9] (fun vi _ wr => ∃ (i : Nat) (dk : Array Int), vi = .int .i64 i ∧ a < i ∧ i ≤ z + 1 ∧ dk.size = d.size ∧ Hid (RowSt w b l.length dk wr) ∧ Hid (insOuter (tlt l) a z i dk = insOuter (tlt l) a z (a + 1) d)) (fun vi _ _ => z + 1 - (intOf vi).toNat)
  case atStart => exact ⟨a + 1, d, by go_num, by omega, by omega, rfl, HS, rfl⟩
  case round =>
    obtain ⟨i, dk, rfl, hai, hiz, hdk, HD, HO⟩ := hrel
    have HDK := Lib.hid hdk
    have hdk1 : dk.size ≤ d.size := by omega
    have hdk2 : d.size ≤ dk.size := by omega
    clear hdk
    by_cases hlt : i < z
    · have hO2 := Lib.hid ((insOuter_go (lt := tlt l) a z i dk hlt).symm.trans HO.out)
      clear HO
      go_wp2_with fail
      obtain ⟨wo, hwo⟩ : ∃ wo : World, wo = wr := ⟨_, rfl⟩
      rw [← hwo] at HD ⊢
      clear hwo
      go_loopw [9] (fun vj wr => ∃ (j : Nat) (dj : Array Int), vj = .int .i64 j ∧ a ≤ j ∧ j ≤ i ∧ dj.size = d.size ∧ Hid (RowSt w b l.length dj wr) ∧ Hid (insInner (tlt l) a j dj = insInner (tlt l) a i dk)) (fun vj _ => (intOf vj).toNat)
      case atStart => exact ⟨i, dk, rfl, by omega, Nat.le_refl _, HDK.out, HD, rfl⟩
      case round =>
        obtain ⟨j, dj, rfl, haj, hji, hdj, HJ, HI⟩ := hrel
        have HDJ := Lib.hid hdj
        clear hdj
        by_cases hja : a < j
        · obtain ⟨p, rfl⟩ : ∃ p, j = p + 1 := ⟨j - 1, by omega⟩
          have hp1 : p + 1 < dj.size := by rw [HDJ.out]; omega
          have hp0 : p < dj.size := by omega
          have hless := Lib.hid (HJ.out.drew.less HSL.out hp1 hp0)
          have c1 := HJ.out.cell (p + 1) hp1
          have c0 := HJ.out.cell p hp0
          have f1 := HJ.out.free (p + 1) hp1
          have f0 := HJ.out.free p hp0
          obtain ⟨x, hx⟩ : ∃ x, x = dj[p + 1]! := ⟨_, rfl⟩
          obtain ⟨y, hy⟩ : ∃ y, y = dj[p]! := ⟨_, rfl⟩
          have hdsz : p + 1 < d.size := by rw [← HDJ.out]; exact hp1
          rw [← hx, ← hy] at hless
          rw [← hx] at c1
          rw [← hy] at c0
          have hjad : decide ((p : Int) + 1 > (a : Int)) = true := decide_eq_true (by omega)
          have hjaz : (a : Int) < (p : Int) + 1 := by omega
          have hw : IntKind.i64.wrap (p : Int) = p := by rw [IntKind.wrap_i64]; omega
          have ht : ((p : Int) + 1).toNat = p + 1 := by omega
          have pa : (0 : Int) ≤ (p : Int) + 1 := by omega
          have ba : (p : Int) + 1 < (d.size : Int) := by omega
          have pc : (0 : Int) ≤ (p : Int) := by omega
          have bc : (p : Int) < (d.size : Int) := by omega
          have HX := Lib.hid hx
          have HY := Lib.hid hy
          clear hx hy
          go_wp2_with fail
          go_still_tail 14, (by kernel_rfl)
          go_wp2_with fail
          refine hless.out.mono ?_
          rintro e w1 ⟨rfl, hb1⟩
          have HJ1 := Lib.hid (HJ.out.drew.next hb1)
          clear hb1 hless c1 c0 f1 f0 HJ HD HS
          by_cases hcmp : (keyAt l x).cmp (keyAt l y) < 0
          · have hlt2 : tlt l dj[p + 1]! dj[p]! = true := by rw [← HX.out, ← HY.out]; exact decide_eq_true hcmp
            have HN := Lib.hid ((insInner_go (lt := tlt l) a (p + 1) dj hja hlt2).symm.trans HI.out)
            have HS1 := Lib.hid (HJ1.out.swap hp1 hp0)
            have c1 := HJ1.out.cell (p + 1) hp1
            have c0 := HJ1.out.cell p hp0
            have f1 := HJ1.out.free (p + 1) hp1
            have f0 := HJ1.out.free p hp0
            obtain ⟨u, c2⟩ := HJ1.out.second hp1 hp0 (.int .i64 y)
            rw [← HX.out] at c1
            rw [← HY.out] at c0
            rw [← HX.out, ← HY.out] at HS1
            clear hlt2 HI HJ1
            go_wp2_with fail

            go_big_region
            clear c1 c0 f1 f0 c2
            revert HS1
            generalize ((w1.setCell ⟨b, p + 1, none⟩ (.int .i64 y)).setCell ⟨b, p, none⟩ (.int .i64 x)).drew = w2
            intro HS1
            go_wp2_with fail
            go_roundw
            case rel => exact ⟨p, swp dj (p + 1) p, by go_num, by omega, by omega, by rw [swp_size]; exact HDJ.out, HS1, HN⟩
            case measure => simp [intOf]
          · have hlt2 : tlt l dj[p + 1]! dj[p]! = false := by rw [← HX.out, ← HY.out]; exact decide_eq_false hcmp
            have hI2 := HI.out
            rw [insInner_stop (lt := tlt l) a (p + 1) dj (.inr hlt2)] at hI2
            have hO3 := hO2.out
            rw [← hI2] at hO3
            have HO3 := Lib.hid hO3
            clear hlt2 HI hI2 hO2 hO3
            go_wp2_with fail
            go_roundw
            case rel => exact ⟨i + 1, dj, by go_num, by omega, by omega, HDJ.out, HJ1, HO3⟩
            case measure => simp [intOf]; omega
        · obtain rfl : j = a := by omega
          have hja0 : ¬ ((j : Int) < (j : Int)) := by omega
          have hjd : decide ((j : Int) > (j : Int)) = false := by simp
          have hI2 := HI.out
          rw [insInner_stop (lt := tlt l) j j dj (.inl (Nat.le_refl _))] at hI2
          have hO3 := hO2.out
          rw [← hI2] at hO3
          have HO3 := Lib.hid hO3
          clear HI hI2 hO2 hO3 HS HD
          go_wp2_with fail
          go_quiet (fail)
          have HJ1 := Lib.hid (HJ.out.drewN nq)
          clear HJ
          revert HJ1
          generalize wr.drewN nq = w1
          intro HJ1
          go_wp2_with fail
          go_roundw
          case rel => exact ⟨i + 1, dj, by go_num, by omega, by omega, HDJ.out, HJ1, HO3⟩
          case measure => simp [intOf]; omega
    · have hO2 := HO.out
      rw [insOuter_stop (lt := tlt l) a z i dk hlt] at hO2
      have HO2 := Lib.hid hO2
      clear hO2 HO HS
      go_wp2_with fail
      go_end0
      refine ⟨rfl, ?_⟩
      have h := HD.out
      rw [HO2.out] at h
      exact h
end Go.Proofs.Ytpiflkgjmncijaa
