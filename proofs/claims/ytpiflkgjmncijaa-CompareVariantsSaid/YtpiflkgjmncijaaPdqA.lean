/-
  The library's sorting of a row of places: heap sort.
-/
import Derived.Test.YtpiflkgjmncijaaSortB
import Derived.Sort.WalkB2
namespace Go.Proofs.Ytpiflkgjmncijaa
open Go.RowKit Go.Sort

set_option maxRecDepth 100000 in
set_option maxHeartbeats 4000000 in
theorem sift_any (l : List Tm) (sv : Value) (d : Array Int) (b cap lo hi first : Nat) (w W : World) (hS : RowSt w b l.length d W) (hsl : Tm.sliceIn w w.heap.size l sv) (hlo : lo ≤ 1000000) (hb : first + hi ≤ d.size) (hsz : d.size ≤ 1000000) :
    Calls Try.prog 92 #[.slice (some ⟨b, 0, none⟩) d.size cap, .int .i64 lo, .int .i64 hi, .int .i64 first, .func (.func 45) #[sv] #[]] W
      fun e W' => e = .returned (.tuple #[]) ∧ RowSt w b l.length (siftDown (tlt l) hi first lo d) W' := by
  have HS := Lib.hid hS
  have HSL := Lib.hid hsl
  clear hS hsl
  obtain ⟨n, hn⟩ : ∃ n, n = d.size := ⟨_, rfl⟩
  have HN := Lib.hid hn
  rw [← hn] at hb hsz ⊢
  clear hn
  go_enter Try.func92, Try.ntmps92
  go_wp2_with fail
  go_loopw [10] (fun vr wr => ∃ (r : Nat) (dk : Array Int), vr = .int .i64 r ∧ r ≤ 1000000 ∧ Hid (dk.size = n) ∧ Hid (RowSt w b l.length dk wr) ∧ Hid (siftDown (tlt l) hi first r dk = siftDown (tlt l) hi first lo d)) (fun vr _ => 1000000 - (intOf vr).toNat)
  case atStart => exact ⟨lo, d, rfl, hlo, Lib.hid HN.out.symm, HS, Lib.hid rfl⟩
  case round =>
    obtain ⟨r, dk, rfl, hr, HDK, HD, HQ⟩ := hrel
    by_cases h0 : hi ≤ 2 * r + 1
    · have h0z : (hi : Int) ≤ 2 * (r : Int) + 1 := by omega
      go_wp2_with fail
      go_end0
      refine ⟨rfl, ?_⟩
      rw [← HQ.out, sd_end (tlt l) dk h0]
      exact HD.out
    · have h0z : ¬ ((hi : Int) ≤ 2 * (r : Int) + 1) := by omega
      have h1w : IntKind.i64.wrap (2 * (r : Int) + 1 + 1) = 2 * (r : Int) + 1 + 1 := by rw [IntKind.wrap_i64]; omega
      have HSZ := Lib.hid hsz
      by_cases h1 : 2 * r + 2 < hi
      · have h1z : 2 * (r : Int) + 1 + 1 < (hi : Int) := by omega
        have h1d : decide (2 * (r : Int) + 1 + 1 < (hi : Int)) = true := decide_eq_true h1z
        go_wp2_with fail
        have ha1 : (0 : Int) ≤ (first : Int) + (2 * (r : Int) + 1) := by omega
        have hz1 : (first : Int) + (2 * (r : Int) + 1) < (n : Int) := by omega
        have ht1 : ((first : Int) + (2 * (r : Int) + 1)).toNat = first + (2 * r + 1) := by omega
        have hw1 : IntKind.i64.wrap ((first : Int) + (2 * (r : Int) + 1)) = (first : Int) + (2 * (r : Int) + 1) := by rw [IntKind.wrap_i64]; omega

        have ha0 : (0 : Int) ≤ (first : Int) + (2 * (r : Int) + 1) + 1 := by omega
        have hz0 : (first : Int) + (2 * (r : Int) + 1) + 1 < (n : Int) := by omega
        have ht0 : ((first : Int) + (2 * (r : Int) + 1) + 1).toNat = first + (2 * r + 2) := by omega
        have hw0 : IntKind.i64.wrap ((first : Int) + (2 * (r : Int) + 1) + 1) = (first : Int) + (2 * (r : Int) + 1) + 1 := by rw [IntKind.wrap_i64]; omega

        have hp1 : first + (2 * r + 1) < dk.size := by rw [HDK.out]; omega
        have hp0 : first + (2 * r + 2) < dk.size := by rw [HDK.out]; omega
        have hless := Lib.hid (HD.out.drew.less HSL.out hp1 hp0)
        have c1 := HD.out.cell (first + (2 * r + 1)) hp1
        have c0 := HD.out.cell (first + (2 * r + 2)) hp0
        have f1 := HD.out.free (first + (2 * r + 1)) hp1
        have f0 := HD.out.free (first + (2 * r + 2)) hp0
        obtain ⟨x, hx⟩ : ∃ x, x = dk[first + (2 * r + 1)]! := ⟨_, rfl⟩
        obtain ⟨y, hy⟩ : ∃ y, y = dk[first + (2 * r + 2)]! := ⟨_, rfl⟩
        rw [← hx, ← hy] at hless
        rw [← hx] at c1
        rw [← hy] at c0
        have HX := Lib.hid hx
        have HY := Lib.hid hy
        clear hx hy
        go_still_tail 19, (by kernel_rfl)
        go_wp2_with fail
        refine hless.out.mono ?_
        rintro e w1 ⟨rfl, hb1⟩
        have HD1 := Lib.hid (HD.out.drew.next hb1)
        clear hb1 hless c1 c0 f1 f0

        by_cases hcmp : (keyAt l x).cmp (keyAt l y) < 0
        · have HL1 := Lib.hid (show tlt l dk[first + (2 * r + 1)]! dk[first + (2 * r + 2)]! = true by rw [← HX.out, ← HY.out]; exact decide_eq_true hcmp)
          have HL := HL1
          go_wp2_with fail
          clear hcmp HX HY ha0 hz0 ht0 hw0 ha1 hz1 ht1 hw1 hp0 hp1 h1d h1z
          revert HD1
          generalize w1 = w0
          intro HD0
          have ha1 : (0 : Int) ≤ (first : Int) + (r : Int) := by omega
          have hz1 : (first : Int) + (r : Int) < (n : Int) := by omega
          have ht1 : ((first : Int) + (r : Int)).toNat = first + r := by omega
          have hw1 : IntKind.i64.wrap ((first : Int) + (r : Int)) = (first : Int) + (r : Int) := by rw [IntKind.wrap_i64]; omega

          have ha0 : (0 : Int) ≤ (first : Int) + (2 * (r : Int) + 1 + 1) := by omega
          have hz0 : (first : Int) + (2 * (r : Int) + 1 + 1) < (n : Int) := by omega
          have ht0 : ((first : Int) + (2 * (r : Int) + 1 + 1)).toNat = first + (2 * r + 2) := by omega
          have hw0 : IntKind.i64.wrap ((first : Int) + (2 * (r : Int) + 1 + 1)) = (first : Int) + (2 * (r : Int) + 1 + 1) := by rw [IntKind.wrap_i64]; omega

          have hp1 : first + r < dk.size := by rw [HDK.out]; omega
          have hp0 : first + (2 * r + 2) < dk.size := by rw [HDK.out]; omega
          have hless := Lib.hid (HD0.out.drew.less HSL.out hp1 hp0)
          have c1 := HD0.out.cell (first + r) hp1
          have c0 := HD0.out.cell (first + (2 * r + 2)) hp0
          have f1 := HD0.out.free (first + r) hp1
          have f0 := HD0.out.free (first + (2 * r + 2)) hp0
          obtain ⟨x, hx⟩ : ∃ x, x = dk[first + r]! := ⟨_, rfl⟩
          obtain ⟨y, hy⟩ : ∃ y, y = dk[first + (2 * r + 2)]! := ⟨_, rfl⟩
          rw [← hx, ← hy] at hless
          rw [← hx] at c1
          rw [← hy] at c0
          have HX := Lib.hid hx
          have HY := Lib.hid hy
          clear hx hy
          go_still_tail 13, (by kernel_rfl)
          go_wp2_with fail
          refine hless.out.mono ?_
          rintro e w1 ⟨rfl, hb1⟩
          have HD1 := Lib.hid (HD0.out.drew.next hb1)
          clear hb1 hless c1 c0 f1 f0

          clear HL
          by_cases hcmp : (keyAt l x).cmp (keyAt l y) < 0
          · have HF := Lib.hid (show tlt l dk[first + r]! dk[first + (2 * r + 2)]! = true by rw [← HX.out, ← HY.out]; exact decide_eq_true hcmp)
            have HQ2 := Lib.hid ((sd_right_go (tlt l) dk (by omega) HL1.out HF.out).symm.trans HQ.out)
            have HS1 := Lib.hid (HD1.out.swap hp1 hp0)
            have c1 := HD1.out.cell (first + r) hp1
            have c0 := HD1.out.cell (first + (2 * r + 2)) hp0
            have f1 := HD1.out.free (first + r) hp1
            have f0 := HD1.out.free (first + (2 * r + 2)) hp0
            obtain ⟨u, c2⟩ := HD1.out.second hp1 hp0 (.int .i64 y)
            rw [← HX.out] at c1
            rw [← HY.out] at c0
            rw [← HX.out, ← HY.out] at HS1
            go_wp2_with fail

            go_big_region
            clear c1 c0 f1 f0 c2
            revert HS1
            generalize ((w1.setCell ⟨b, first + r, none⟩ (.int .i64 y)).setCell ⟨b, first + (2 * r + 2), none⟩ (.int .i64 x)).drew = w2
            intro HS1
            go_wp2_with fail
            go_roundw
            case rel => exact ⟨(2 * r + 2), swp dk (first + r) (first + (2 * r + 2)), by go_num, by omega, Lib.hid (by rw [swp_size]; exact HDK.out), HS1, HQ2⟩
            case measure => simp [intOf]; omega
          · have HF := Lib.hid (show tlt l dk[first + r]! dk[first + (2 * r + 2)]! = false by rw [← HX.out, ← HY.out]; exact decide_eq_false hcmp)
            have HQ2 := Lib.hid ((sd_right_stop (tlt l) dk (by omega) HL1.out HF.out).symm.trans HQ.out)
            have hcd : decide ((keyAt l x).cmp (keyAt l y) < 0) = false := decide_eq_false hcmp
            go_wp2_with fail
            (try simp only [Exit.inBlock, Exit.then]); refine bodyPost_ret (results_none rfl _ _ _) rfl ?_
            refine ⟨rfl, ?_⟩
            rw [← HQ2.out]
            exact HD1.out

        · have HL := Lib.hid (show tlt l dk[first + (2 * r + 1)]! dk[first + (2 * r + 2)]! = false by rw [← HX.out, ← HY.out]; exact decide_eq_false hcmp)
          have HL1 := Lib.hid (fun (_ : 2 * r + 2 < hi) => HL.out)
          have hcd : decide ((keyAt l x).cmp (keyAt l y) < 0) = false := decide_eq_false hcmp
          go_wp2_with fail
          clear hcd hcmp HX HY ha0 hz0 ht0 hw0 ha1 hz1 ht1 hw1 hp0 hp1 h1d h1z
          revert HD1
          generalize w1 = w0
          intro HD0
          have ha1 : (0 : Int) ≤ (first : Int) + (r : Int) := by omega
          have hz1 : (first : Int) + (r : Int) < (n : Int) := by omega
          have ht1 : ((first : Int) + (r : Int)).toNat = first + r := by omega
          have hw1 : IntKind.i64.wrap ((first : Int) + (r : Int)) = (first : Int) + (r : Int) := by rw [IntKind.wrap_i64]; omega

          have ha0 : (0 : Int) ≤ (first : Int) + (2 * (r : Int) + 1) := by omega
          have hz0 : (first : Int) + (2 * (r : Int) + 1) < (n : Int) := by omega
          have ht0 : ((first : Int) + (2 * (r : Int) + 1)).toNat = first + (2 * r + 1) := by omega
          have hw0 : IntKind.i64.wrap ((first : Int) + (2 * (r : Int) + 1)) = (first : Int) + (2 * (r : Int) + 1) := by rw [IntKind.wrap_i64]; omega

          have hp1 : first + r < dk.size := by rw [HDK.out]; omega
          have hp0 : first + (2 * r + 1) < dk.size := by rw [HDK.out]; omega
          have hless := Lib.hid (HD0.out.drew.less HSL.out hp1 hp0)
          have c1 := HD0.out.cell (first + r) hp1
          have c0 := HD0.out.cell (first + (2 * r + 1)) hp0
          have f1 := HD0.out.free (first + r) hp1
          have f0 := HD0.out.free (first + (2 * r + 1)) hp0
          obtain ⟨x, hx⟩ : ∃ x, x = dk[first + r]! := ⟨_, rfl⟩
          obtain ⟨y, hy⟩ : ∃ y, y = dk[first + (2 * r + 1)]! := ⟨_, rfl⟩
          rw [← hx, ← hy] at hless
          rw [← hx] at c1
          rw [← hy] at c0
          have HX := Lib.hid hx
          have HY := Lib.hid hy
          clear hx hy
          go_still_tail 13, (by kernel_rfl)
          go_wp2_with fail
          refine hless.out.mono ?_
          rintro e w1 ⟨rfl, hb1⟩
          have HD1 := Lib.hid (HD0.out.drew.next hb1)
          clear hb1 hless c1 c0 f1 f0

          clear HL
          by_cases hcmp : (keyAt l x).cmp (keyAt l y) < 0
          · have HF := Lib.hid (show tlt l dk[first + r]! dk[first + (2 * r + 1)]! = true by rw [← HX.out, ← HY.out]; exact decide_eq_true hcmp)
            have HQ2 := Lib.hid ((sd_left_go (tlt l) dk (by omega) HL1.out HF.out).symm.trans HQ.out)
            have HS1 := Lib.hid (HD1.out.swap hp1 hp0)
            have c1 := HD1.out.cell (first + r) hp1
            have c0 := HD1.out.cell (first + (2 * r + 1)) hp0
            have f1 := HD1.out.free (first + r) hp1
            have f0 := HD1.out.free (first + (2 * r + 1)) hp0
            obtain ⟨u, c2⟩ := HD1.out.second hp1 hp0 (.int .i64 y)
            rw [← HX.out] at c1
            rw [← HY.out] at c0
            rw [← HX.out, ← HY.out] at HS1
            go_wp2_with fail

            go_big_region
            clear c1 c0 f1 f0 c2
            revert HS1
            generalize ((w1.setCell ⟨b, first + r, none⟩ (.int .i64 y)).setCell ⟨b, first + (2 * r + 1), none⟩ (.int .i64 x)).drew = w2
            intro HS1
            go_wp2_with fail
            go_roundw
            case rel => exact ⟨(2 * r + 1), swp dk (first + r) (first + (2 * r + 1)), by go_num, by omega, Lib.hid (by rw [swp_size]; exact HDK.out), HS1, HQ2⟩
            case measure => simp [intOf]; omega
          · have HF := Lib.hid (show tlt l dk[first + r]! dk[first + (2 * r + 1)]! = false by rw [← HX.out, ← HY.out]; exact decide_eq_false hcmp)
            have HQ2 := Lib.hid ((sd_left_stop (tlt l) dk (by omega) HL1.out HF.out).symm.trans HQ.out)
            have hcd : decide ((keyAt l x).cmp (keyAt l y) < 0) = false := decide_eq_false hcmp
            go_wp2_with fail
            (try simp only [Exit.inBlock, Exit.then]); refine bodyPost_ret (results_none rfl _ _ _) rfl ?_
            refine ⟨rfl, ?_⟩
            rw [← HQ2.out]
            exact HD1.out
      · have h1z : ¬ 2 * (r : Int) + 1 + 1 < (hi : Int) := by omega
        have h1d : decide (2 * (r : Int) + 1 + 1 < (hi : Int)) = false := decide_eq_false h1z
        have HL1 := Lib.hid (show 2 * r + 2 < hi → tlt l dk[first + (2 * r + 1)]! dk[first + (2 * r + 2)]! = false from fun h => absurd h h1)
        have HL := HL1
        go_wp2_with fail
        go_quiet (fail)
        have HD0 := Lib.hid (HD.out.drewN nq)
        revert HD0
        generalize wr.drewN nq = w0
        intro HD0
        go_wp2_with fail
        have ha1 : (0 : Int) ≤ (first : Int) + (r : Int) := by omega
        have hz1 : (first : Int) + (r : Int) < (n : Int) := by omega
        have ht1 : ((first : Int) + (r : Int)).toNat = first + r := by omega
        have hw1 : IntKind.i64.wrap ((first : Int) + (r : Int)) = (first : Int) + (r : Int) := by rw [IntKind.wrap_i64]; omega

        have ha0 : (0 : Int) ≤ (first : Int) + (2 * (r : Int) + 1) := by omega
        have hz0 : (first : Int) + (2 * (r : Int) + 1) < (n : Int) := by omega
        have ht0 : ((first : Int) + (2 * (r : Int) + 1)).toNat = first + (2 * r + 1) := by omega
        have hw0 : IntKind.i64.wrap ((first : Int) + (2 * (r : Int) + 1)) = (first : Int) + (2 * (r : Int) + 1) := by rw [IntKind.wrap_i64]; omega

        have hp1 : first + r < dk.size := by rw [HDK.out]; omega
        have hp0 : first + (2 * r + 1) < dk.size := by rw [HDK.out]; omega
        have hless := Lib.hid (HD0.out.drew.less HSL.out hp1 hp0)
        have c1 := HD0.out.cell (first + r) hp1
        have c0 := HD0.out.cell (first + (2 * r + 1)) hp0
        have f1 := HD0.out.free (first + r) hp1
        have f0 := HD0.out.free (first + (2 * r + 1)) hp0
        obtain ⟨x, hx⟩ : ∃ x, x = dk[first + r]! := ⟨_, rfl⟩
        obtain ⟨y, hy⟩ : ∃ y, y = dk[first + (2 * r + 1)]! := ⟨_, rfl⟩
        rw [← hx, ← hy] at hless
        rw [← hx] at c1
        rw [← hy] at c0
        have HX := Lib.hid hx
        have HY := Lib.hid hy
        clear hx hy
        go_still_tail 13, (by kernel_rfl)
        go_wp2_with fail
        refine hless.out.mono ?_
        rintro e w1 ⟨rfl, hb1⟩
        have HD1 := Lib.hid (HD0.out.drew.next hb1)
        clear hb1 hless c1 c0 f1 f0

        clear HL
        by_cases hcmp : (keyAt l x).cmp (keyAt l y) < 0
        · have HF := Lib.hid (show tlt l dk[first + r]! dk[first + (2 * r + 1)]! = true by rw [← HX.out, ← HY.out]; exact decide_eq_true hcmp)
          have HQ2 := Lib.hid ((sd_left_go (tlt l) dk (by omega) HL1.out HF.out).symm.trans HQ.out)
          have HS1 := Lib.hid (HD1.out.swap hp1 hp0)
          have c1 := HD1.out.cell (first + r) hp1
          have c0 := HD1.out.cell (first + (2 * r + 1)) hp0
          have f1 := HD1.out.free (first + r) hp1
          have f0 := HD1.out.free (first + (2 * r + 1)) hp0
          obtain ⟨u, c2⟩ := HD1.out.second hp1 hp0 (.int .i64 y)
          rw [← HX.out] at c1
          rw [← HY.out] at c0
          rw [← HX.out, ← HY.out] at HS1
          go_wp2_with fail

          go_big_region
          clear c1 c0 f1 f0 c2
          revert HS1
          generalize ((w1.setCell ⟨b, first + r, none⟩ (.int .i64 y)).setCell ⟨b, first + (2 * r + 1), none⟩ (.int .i64 x)).drew = w2
          intro HS1
          go_wp2_with fail
          go_roundw
          case rel => exact ⟨(2 * r + 1), swp dk (first + r) (first + (2 * r + 1)), by go_num, by omega, Lib.hid (by rw [swp_size]; exact HDK.out), HS1, HQ2⟩
          case measure => simp [intOf]; omega
        · have HF := Lib.hid (show tlt l dk[first + r]! dk[first + (2 * r + 1)]! = false by rw [← HX.out, ← HY.out]; exact decide_eq_false hcmp)
          have HQ2 := Lib.hid ((sd_left_stop (tlt l) dk (by omega) HL1.out HF.out).symm.trans HQ.out)
          have hcd : decide ((keyAt l x).cmp (keyAt l y) < 0) = false := decide_eq_false hcmp
          go_wp2_with fail
          (try simp only [Exit.inBlock, Exit.then]); refine bodyPost_ret (results_none rfl _ _ _) rfl ?_
          refine ⟨rfl, ?_⟩
          rw [← HQ2.out]
          exact HD1.out
end Go.Proofs.Ytpiflkgjmncijaa
