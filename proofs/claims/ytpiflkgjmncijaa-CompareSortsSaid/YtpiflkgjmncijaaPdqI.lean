/-
  The library's sorting of a row of places: the whole.
-/
import Derived.Test.YtpiflkgjmncijaaPdqB
import Derived.Test.YtpiflkgjmncijaaPdqD
import Derived.Test.YtpiflkgjmncijaaPdqE
import Derived.Test.YtpiflkgjmncijaaPdqG
import Derived.Test.YtpiflkgjmncijaaPdqH
import Derived.Sort.Walk13
import Derived.Sort.AssemblyPlain
import Derived.Deep.CutRange
namespace Go.Proofs.Ytpiflkgjmncijaa
open Go.RowKit Go.Sort

set_option maxRecDepth 100000 in
set_option maxHeartbeats 16000000 in
theorem pdqs_any (l : List Tm) (sv : Value) (b cap : Nat) (w : World) (hsl : Tm.sliceIn w w.heap.size l sv) : ∀ (M a0 z0 limit : Nat) (d : Array Int) (W : World), z0 - a0 < M → RowSt w b l.length d W → a0 ≤ z0 → z0 ≤ d.size → d.size < 256 → limit < 256 → Go.Sort.Below (tlt l) a0 z0 d →
    Calls Try.prog 80 #[.slice (some ⟨b, 0, none⟩) d.size cap, .int .i64 a0, .int .i64 z0, .int .i64 limit, .func (.func 45) #[sv] #[]] W
      fun e W' => e = .returned (.tuple #[]) ∧ RowSt w b l.length (pdq (tlt l) d a0 z0 limit true true) W' := by
  have HSL := Lib.hid hsl
  clear hsl
  intro M
  induction M with
  | zero => intro _ _ _ _ _ h; exact absurd h (Nat.not_lt_zero _)
  | succ M ih =>
    intro a0 z0 limit d W hM hS haz0 hz0 hsz hlimit hBel0
    have HS := Lib.hid hS
    have HIH := Lib.hid ih
    obtain ⟨n, hn⟩ : ∃ n, n = d.size := ⟨_, rfl⟩
    have HN := Lib.hid hn.symm
    rw [← hn] at hz0 hsz ⊢
    clear hn hS ih
    go_enter Try.func80, Try.ntmps80
    go_wp2_with fail
    go_loopg [1, 2, 3, 10, 11] (z0 - a0) (fun k s1 s2 s3 s8 s9 wr => ∃ (a z lim : Nat) (wb wp : Bool) (dk : Array Int), s1 = .int .i64 a ∧ s2 = .int .i64 z ∧ s3 = .int .i64 lim ∧ s8 = .bool wb ∧ s9 = .bool wp ∧
      a ≤ z ∧ z ≤ n ∧ z - a ≤ k ∧ k ≤ z0 - a0 ∧ lim ≤ limit ∧ Hid (dk.size = n) ∧ Hid (Go.Sort.Below (tlt l) a z dk) ∧ Hid (RowSt w b l.length dk wr) ∧ Hid (pdq (tlt l) dk a z lim wb wp = pdq (tlt l) d a0 z0 limit true true))
    case atStart => exact ⟨a0, z0, limit, true, true, d, rfl, rfl, rfl, rfl, rfl, haz0, hz0, Nat.le_refl _, Nat.le_refl _, Nat.le_refl _, HN, Lib.hid hBel0, HS, Lib.hid rfl⟩
    case round =>
      clear HS HN hBel0
      obtain ⟨a, z, lim, wb, wp, dk, rfl, rfl, rfl, rfl, rfl, haz, hz, hk, hkN, hlim, HDK, HBel, HD, HQ⟩ := hrel
      by_cases h12 : z - a ≤ 12
      · have h12z : (z : Int) - (a : Int) ≤ 12 := by omega
        have hc := insertion_any l sv dk (some ⟨b, 0, none⟩) a z b cap w wr (.inr rfl) HD.out HSL.out haz (by rw [HDK.out]; exact hz) (by rw [HDK.out]; omega)
        rw [HDK.out] at hc
        have HC := Lib.hid hc
        clear hc
        go_wp2_with fail
        refine HC.out.mono ?_
        rintro e w1 ⟨rfl, h1⟩
        have H1 := Lib.hid h1
        clear h1
        go_wp2_with fail
        (try simp only [Exit.inBlock, Exit.then]); refine bodyPost_ret (results_none rfl _ _ _) rfl ?_
        refine ⟨rfl, ?_⟩
        rw [← HQ.out, pdq_small h12]
        exact H1.out
      · have h12z : ¬ (z : Int) - (a : Int) ≤ 12 := by omega
        by_cases hl0 : lim = 0
        · subst hl0
          have hc := heap_any l sv dk b cap a z w wr HD.out HSL.out haz (by rw [HDK.out]; exact hz) (by rw [HDK.out]; omega)
          rw [HDK.out] at hc
          have HC := Lib.hid hc
          clear hc
          go_wp2_with fail
          refine HC.out.mono ?_
          rintro e w1 ⟨rfl, h1⟩
          have H1 := Lib.hid h1
          clear h1
          go_wp2_with fail
          (try simp only [Exit.inBlock, Exit.then]); refine bodyPost_ret (results_none rfl _ _ _) rfl ?_
          refine ⟨rfl, ?_⟩
          rw [← HQ.out, pdq_heap h12 rfl]
          exact H1.out
        · have hl0z : ¬ (lim : Int) = 0 := by omega
          have hl1z : (1 : Int) ≤ (lim : Int) := by omega
          have hall := rd_facts (limit := lim) (wb := wb) (wp := wp) (tlt_swo l) partialInsertionSort_holds reverseRange_holds (show a < z by omega) (by rw [HDK.out]; exact hz) HBel.out
          rw [HDK.out] at hall
          obtain ⟨t1, B1, hc1, t2, B2, hpv, t3, B3⟩ := hall
          have T1 := Lib.hid t1
          have T2 := Lib.hid t2
          have T3 := Lib.hid t3
          have HB3 := Lib.hid B3
          clear t1 t2 t3 B1 B2 B3 hc1
          have HPV := Lib.hid hpv
          clear hpv
          go_upto_if 39 with fail
          go_cut [3] from 21 to 147 (fun s3 wc => s3 = .int .i64 (rd (tlt l) dk a z lim wb wp).lim ∧ Hid (RowSt w b l.length (rd (tlt l) dk a z lim wb wp).d1 wc))
          case first =>
            cases wb
            · have hc := breakL_any l.length (.func (.func 45) #[sv] #[]) dk b cap a (z - a) w wr HD.out (by rw [HDK.out]; omega) (by rw [HDK.out]; omega) (by omega) (by omega)
              rw [show a + (z - a) = z by omega, HDK.out] at hc
              have HC := Lib.hid hc
              clear hc
              go_wp2_with fail
              refine HC.out.mono ?_
              rintro e w1 ⟨rfl, h1⟩
              have H1 := Lib.hid h1
              clear h1
              go_wp2_with fail
              go_meet
              case rel =>
                refine ⟨?_, H1⟩
                show Value.int .i64 ((lim : Int) - 1) = Value.int .i64 ((lim - 1 : Nat) : Int)
                congr 1
                omega
            · go_wp2_with fail
              go_meet
              case rel => exact ⟨rfl, HD⟩
          case rest =>
            obtain ⟨rfl, HD1⟩ := hcut
            have hc := pivot_any l sv (rd (tlt l) dk a z lim wb wp).d1 b cap a z w wc HD1.out HSL.out (by omega) (by rw [T1.out]; exact hz) (by rw [T1.out]; omega)
            rw [T1.out] at hc
            have HC := Lib.hid (show Calls Try.prog 85 #[.slice (some ⟨b, 0, none⟩) n cap, .int .i64 a, .int .i64 z, .func (.func 45) #[sv] #[]] wc fun e W' => e = .returned (.tuple #[.int .i64 (rd (tlt l) dk a z lim wb wp).c.1, .int .i64 (hintCode (rd (tlt l) dk a z lim wb wp).c.2)]) ∧ RowSt w b l.length (rd (tlt l) dk a z lim wb wp).d1 W' from hc)
            clear hc
            go_upto_if 56 with (go_at_call 85; refine HC.out.mono ?_; rintro e w2 ⟨rfl, h2⟩)
            have HD2 := Lib.hid h2
            clear h2
            go_cut [13, 14] from 21 to 147 (fun s13 s14 wc => s13 = .int .i64 (rd (tlt l) dk a z lim wb wp).pivot ∧ s14 = .int .i64 (hintCode (rd (tlt l) dk a z lim wb wp).hint) ∧ Hid (RowSt w b l.length (rd (tlt l) dk a z lim wb wp).d2 wc))
            case first =>
              by_cases hh : (rd (tlt l) dk a z lim wb wp).c.2 = .decreasing
              · have hcode : hintCode (rd (tlt l) dk a z lim wb wp).c.2 = 2 := by rw [hh]; rfl
                obtain ⟨e2, epv, eht⟩ := rd_dec hh
                have E2 := Lib.hid e2
                have EP := Lib.hid epv
                have EH := Lib.hid eht
                clear hh e2 epv eht
                have hc1 : a ≤ (rd (tlt l) dk a z lim wb wp).c.1 ∧ (rd (tlt l) dk a z lim wb wp).c.1 < z := choosePivot_holds (tlt l) (rd (tlt l) dk a z lim wb wp).d1 a z (by omega)
                have hc := reverse_any l.length (.func (.func 45) #[sv] #[]) (rd (tlt l) dk a z lim wb wp).d1 b cap a z w w2 HD2.out (by omega) (by rw [T1.out]; exact hz) (by rw [T1.out]; omega)
                rw [T1.out] at hc
                have HC2 := Lib.hid hc
                clear hc
                go_wp2_with fail
                refine HC2.out.mono ?_
                rintro e w3 ⟨rfl, h3⟩
                have H3 := Lib.hid h3
                clear h3
                go_wp2_with fail
                go_meet
                case rel =>
                  refine ⟨?_, by rw [EH.out]; rfl, Lib.hid (by rw [E2.out]; exact H3.out)⟩
                  rw [EP.out]
                  congr 1
                  omega
              · have hcode : ¬ hintCode (rd (tlt l) dk a z lim wb wp).c.2 = 2 := fun h => hh (hintCode_two h)
                have hcb : (hintCode (rd (tlt l) dk a z lim wb wp).c.2 == 2) = false := by simpa using hcode
                obtain ⟨e2, epv, eht⟩ := rd_not hh
                have E2 := Lib.hid e2
                have EP := Lib.hid epv
                have EH := Lib.hid eht
                clear hh e2 epv eht
                go_wp2_with fail
                go_meet
                case rel => exact ⟨by rw [EP.out], by rw [EH.out], Lib.hid (by rw [E2.out]; exact HD2.out)⟩
            case rest =>
              obtain ⟨rfl, rfl, HD3⟩ := hcut
              go_upto_region 15 with fail
              go_cut [75] from 21 to 147 (fun s75 wx => s75 = .bool (wb && wp && decide ((rd (tlt l) dk a z lim wb wp).hint = .increasing)) ∧ wx = wc)
              case first =>
                have hcode : (hintCode (rd (tlt l) dk a z lim wb wp).hint == 1) = decide ((rd (tlt l) dk a z lim wb wp).hint = .increasing) := by cases (rd (tlt l) dk a z lim wb wp).hint <;> rfl
                cases wb <;> cases wp <;>
                  (go_wp2_with fail
                   go_meet
                   exact ⟨by first | (simp; done) | simp [hcode], rfl⟩)
              case rest =>
                obtain ⟨rfl, rfl⟩ := hcut
                go_upto_if 75 with fail
                go_cut [] from 21 to 147 (fun wx => (rd (tlt l) dk a z lim wb wp).pi.2 = false ∧ Hid (RowSt w b l.length (rd (tlt l) dk a z lim wb wp).pi.1 wx))
                case first =>
                  cases h75 : (wb && wp && decide ((rd (tlt l) dk a z lim wb wp).hint = .increasing))
                  · have EPI := Lib.hid (rd_pi_no h75)
                    go_wp2_with fail
                    go_meet
                    case rel => exact ⟨by rw [EPI.out], Lib.hid (by rw [EPI.out]; exact HD3.out)⟩
                  · have hc := partial_any l sv (rd (tlt l) dk a z lim wb wp).d2 b cap a z w wc HD3.out HSL.out (by omega) (by rw [T2.out]; exact hz) (by rw [T2.out]; omega)
                    rw [T2.out, ← rd_pi_yes h75] at hc
                    have HC3 := Lib.hid hc
                    clear hc
                    go_wp2_with fail
                    refine HC3.out.mono ?_
                    rintro e w4 ⟨rfl, h4⟩
                    have H4 := Lib.hid h4
                    clear h4
                    cases hp2 : (rd (tlt l) dk a z lim wb wp).pi.2 with
                    | false =>
                      go_wp2_with fail
                      go_meet
                      exact ⟨hp2, H4⟩
                    | true =>
                      have HP2 := Lib.hid hp2
                      clear hp2
                      go_wp2_with fail
                      (try simp only [Exit.inBlock, Exit.then]); refine bodyPost_ret (results_none rfl _ _ _) rfl ?_
                      refine ⟨rfl, ?_⟩
                      rw [← HQ.out, pdq_done h12 hl0 HP2.out]
                      exact H4.out
                case rest =>
                  obtain ⟨hp2, HD5⟩ := hcut
                  have HP2 := Lib.hid hp2
                  clear hp2 HD3
                  go_upto_region 17 with fail
                  go_cut [97] from 21 to 147 (fun s97 wx => s97 = .bool (decide (a > 0) && !tlt l (rd (tlt l) dk a z lim wb wp).pi.1[a - 1]! (rd (tlt l) dk a z lim wb wp).pi.1[(rd (tlt l) dk a z lim wb wp).pivot]!) ∧ Hid (RowSt w b l.length (rd (tlt l) dk a z lim wb wp).pi.1 wx))
                  case first =>
                    rcases Nat.eq_zero_or_pos a with hap | hap
                    · have ha0z : decide ((a : Int) > 0) = false := decide_eq_false (by omega)
                      have ha0w : decide ((0 : Int) < (a : Int)) = false := decide_eq_false (by omega)
                      have ha0x : decide (0 < a) = false := decide_eq_false (by omega)
                      have HA0 := Lib.hid hap
                      clear hap
                      go_quiet (fail)
                      have HD6 := Lib.hid (HD5.out.drewN nq)
                      revert HD6
                      generalize wc.drewN nq = w5
                      intro HD6
                      go_wp2_with fail
                      go_meet
                      case rel => exact ⟨by simp [HA0.out], HD6⟩
                    · have ha0z : decide ((a : Int) > 0) = true := decide_eq_true (by omega)
                      have ha0y : (0 : Int) < (a : Int) := by omega
                      have ha1y : (1 : Int) ≤ (a : Int) := by omega
                      have hpz : (rd (tlt l) dk a z lim wb wp).pivot < n := by have := HPV.out.2; omega
                      have ha1 : (0 : Int) ≤ (a : Int) - 1 := by omega
                      have hz1 : (a : Int) - 1 < (n : Int) := by omega
                      have ht1 : ((a : Int) - 1).toNat = a - 1 := by omega
                      have hw1 : IntKind.i64.wrap ((a : Int) - 1) = (a : Int) - 1 := by rw [IntKind.wrap_i64]; omega

                      have ha0 : (0 : Int) ≤ ((rd (tlt l) dk a z lim wb wp).pivot : Int) := by omega
                      have hz0 : ((rd (tlt l) dk a z lim wb wp).pivot : Int) < (n : Int) := by omega
                      have ht0 : (((rd (tlt l) dk a z lim wb wp).pivot : Int)).toNat = (rd (tlt l) dk a z lim wb wp).pivot := by omega
                      have hw0 : IntKind.i64.wrap (((rd (tlt l) dk a z lim wb wp).pivot : Int)) = ((rd (tlt l) dk a z lim wb wp).pivot : Int) := by rw [IntKind.wrap_i64]; omega

                      have hp1 : a - 1 < (rd (tlt l) dk a z lim wb wp).pi.1.size := by rw [T3.out]; omega
                      have hp0 : (rd (tlt l) dk a z lim wb wp).pivot < (rd (tlt l) dk a z lim wb wp).pi.1.size := by rw [T3.out]; omega
                      have hless := Lib.hid (HD5.out.drew.less HSL.out hp1 hp0)
                      have c1 := HD5.out.cell (a - 1) hp1
                      have c0 := HD5.out.cell ((rd (tlt l) dk a z lim wb wp).pivot) hp0
                      have f1 := HD5.out.free (a - 1) hp1
                      have f0 := HD5.out.free ((rd (tlt l) dk a z lim wb wp).pivot) hp0
                      obtain ⟨x, hx⟩ : ∃ x, x = (rd (tlt l) dk a z lim wb wp).pi.1[a - 1]! := ⟨_, rfl⟩
                      obtain ⟨y, hy⟩ : ∃ y, y = (rd (tlt l) dk a z lim wb wp).pi.1[(rd (tlt l) dk a z lim wb wp).pivot]! := ⟨_, rfl⟩
                      rw [← hx, ← hy] at hless
                      rw [← hx] at c1
                      rw [← hy] at c0
                      have HX := Lib.hid hx
                      have HY := Lib.hid hy
                      clear hx hy
                      go_still_tail 13, (by kernel_rfl)
                      go_wp2_with fail
                      refine hless.out.mono ?_
                      rintro e w1 ⟨rfl, hb1⟩
                      have HD1' := Lib.hid (HD5.out.drew.next hb1)
                      clear hb1 hless c1 c0 f1 f0
                      by_cases hcmp : (keyAt l x).cmp (keyAt l y) < 0
                      · have HL := Lib.hid (show tlt l (rd (tlt l) dk a z lim wb wp).pi.1[a - 1]! (rd (tlt l) dk a z lim wb wp).pi.1[(rd (tlt l) dk a z lim wb wp).pivot]! = true by rw [← HX.out, ← HY.out]; exact decide_eq_true hcmp)
                        have HA0 := Lib.hid hap
                        clear hap
                        go_wp2_with fail
                        go_meet
                        case rel => exact ⟨by rw [HL.out]; simp, HD1'⟩
                      · have HL := Lib.hid (show tlt l (rd (tlt l) dk a z lim wb wp).pi.1[a - 1]! (rd (tlt l) dk a z lim wb wp).pi.1[(rd (tlt l) dk a z lim wb wp).pivot]! = false by rw [← HX.out, ← HY.out]; exact decide_eq_false hcmp)
                        have hcd : decide ((keyAt l x).cmp (keyAt l y) < 0) = false := decide_eq_false hcmp
                        have HA0 := Lib.hid hap
                        clear hap
                        go_wp2_with fail
                        go_meet
                        case rel => exact ⟨by have h : decide (a > 0) = true := decide_eq_true HA0.out
                                              rw [HL.out, h]; rfl, HD1'⟩
                  case rest =>
                    obtain ⟨rfl, HD6⟩ := hcut
                    clear HD5
                    have hsn : z ≤ (rd (tlt l) dk a z lim wb wp).pi.1.size := by rw [T3.out]; exact hz
                    have HSN := Lib.hid hsn
                    clear hsn
                    cases h97 : (decide (a > 0) && !tlt l (rd (tlt l) dk a z lim wb wp).pi.1[a - 1]! (rd (tlt l) dk a z lim wb wp).pi.1[(rd (tlt l) dk a z lim wb wp).pivot]!)
                    · have H97 := Lib.hid h97
                      clear h97
                      obtain ⟨mid, ap, d4, hx⟩ : ∃ mid ap d4, partition (tlt l) (rd (tlt l) dk a z lim wb wp).pi.1 a z (rd (tlt l) dk a z lim wb wp).pivot = (mid, ap, d4) := ⟨(partition (tlt l) (rd (tlt l) dk a z lim wb wp).pi.1 a z (rd (tlt l) dk a z lim wb wp).pivot).1, (partition (tlt l) (rd (tlt l) dk a z lim wb wp).pi.1 a z (rd (tlt l) dk a z lim wb wp).pivot).2.1, (partition (tlt l) (rd (tlt l) dk a z lim wb wp).pi.1 a z (rd (tlt l) dk a z lim wb wp).pivot).2.2, rfl⟩
                      obtain ⟨r1, r2, r3, r4, r5, r6, r7⟩ := round_part (tlt_swo l) (partition_holds (tlt l)) HPV.out.1 HPV.out.2 HSN.out HB3.out hx
                      have hc := part_any l sv (rd (tlt l) dk a z lim wb wp).pi.1 b cap a z (rd (tlt l) dk a z lim wb wp).pivot w wc HD6.out HSL.out (by omega) HPV.out.2 HSN.out (by rw [T3.out]; omega)
                      rw [T3.out, hx] at hc
                      have HC4 := Lib.hid hc
                      have X := Lib.hid hx
                      have R3 := Lib.hid (r3.trans T3.out)
                      have R4 := Lib.hid r4
                      have R5 := Lib.hid r5
                      have R6 := Lib.hid r6
                      have R7 := Lib.hid r7
                      clear hc hx r3 r4 r5 r6 r7
                      go_upto_if 125 with (go_at_call 89; refine HC4.out.mono ?_; rintro e w7 ⟨rfl, h7⟩)
                      have H7 := Lib.hid h7
                      clear h7
                      have hlm : (rd (tlt l) dk a z lim wb wp).lim ≤ limit := Nat.le_trans rd_lim_le hlim
                      by_cases h4 : mid - a < z - mid
                      · have h4z : (mid : Int) - (a : Int) < (z : Int) - (mid : Int) := by omega
                        have hih := HIH.out a mid (rd (tlt l) dk a z lim wb wp).lim d4 w7 (by omega) H7.out (by omega) (by rw [R3.out]; omega) (by rw [R3.out]; exact hsz) (by omega) R4.out
                        rw [R3.out] at hih
                        have HC5 := Lib.hid hih
                        clear hih
                        have PS := Lib.hid (pdq_sorts (tlt l) (tlt_swo l) d4 a mid (rd (tlt l) dk a z lim wb wp).lim true true (by omega) (by rw [R3.out]; omega) R4.out)
                        go_wp2_with (go_at_call 80; refine HC5.out.mono ?_; rintro e w8 ⟨rfl, h8⟩)
                        go_roundg (z - (mid + 1))
                        case measure => omega
                        case rel =>
                          refine ⟨mid + 1, z, (rd (tlt l) dk a z lim wb wp).lim, decide (mid - a ≥ (z - a) / 8), ap, pdq (tlt l) d4 a mid (rd (tlt l) dk a z lim wb wp).lim true true, by simp, rfl, rfl, ?_, rfl, by omega, by omega, Nat.le_refl _, by omega, hlm, Lib.hid (PS.out.1.1.trans R3.out), Lib.hid (R6.out _ PS.out.1 PS.out.2).1, Lib.hid h8, ?_⟩
                          · exact congrArg Value.bool (eighth (by omega) (by omega))
                          · refine Lib.hid ?_
                            rw [← HQ.out, pdq_left h12 hl0 HP2.out H97.out (by rw [X.out]; exact ⟨r1, r2⟩) (by rw [X.out]; exact h4), X.out]
                      · have h4z : ¬ (mid : Int) - (a : Int) < (z : Int) - (mid : Int) := by omega
                        have hih := HIH.out (mid + 1) z (rd (tlt l) dk a z lim wb wp).lim d4 w7 (by omega) H7.out (by omega) (by rw [R3.out]; omega) (by rw [R3.out]; exact hsz) (by omega) R5.out
                        rw [R3.out] at hih
                        have HC5 := Lib.hid hih
                        clear hih
                        have PS := Lib.hid (pdq_sorts (tlt l) (tlt_swo l) d4 (mid + 1) z (rd (tlt l) dk a z lim wb wp).lim true true (by omega) (by rw [R3.out]; omega) R5.out)
                        go_wp2_with (go_at_call 80; refine HC5.out.mono ?_; rintro e w8 ⟨rfl, h8⟩)
                        go_roundg (mid - a)
                        case measure => omega
                        case rel =>
                          refine ⟨a, mid, (rd (tlt l) dk a z lim wb wp).lim, decide (z - mid ≥ (z - a) / 8), ap, pdq (tlt l) d4 (mid + 1) z (rd (tlt l) dk a z lim wb wp).lim true true, rfl, rfl, rfl, ?_, rfl, by omega, by omega, Nat.le_refl _, by omega, hlm, Lib.hid (PS.out.1.1.trans R3.out), Lib.hid (R7.out _ PS.out.1 PS.out.2).1, Lib.hid h8, ?_⟩
                          · exact congrArg Value.bool (eighth (by omega) (by omega))
                          · refine Lib.hid ?_
                            rw [← HQ.out, pdq_right h12 hl0 HP2.out H97.out (by rw [X.out]; exact ⟨r1, r2⟩) (by rw [X.out]; exact h4), X.out]
                    · have H97 := Lib.hid h97
                      have h97b := h97
                      simp only [Bool.and_eq_true, decide_eq_true_eq, Bool.not_eq_true'] at h97b
                      clear h97
                      obtain ⟨mid, d4, hx⟩ : ∃ mid d4, partitionEqual (tlt l) (rd (tlt l) dk a z lim wb wp).pi.1 a z (rd (tlt l) dk a z lim wb wp).pivot = (mid, d4) := ⟨(partitionEqual (tlt l) (rd (tlt l) dk a z lim wb wp).pi.1 a z (rd (tlt l) dk a z lim wb wp).pivot).1, (partitionEqual (tlt l) (rd (tlt l) dk a z lim wb wp).pi.1 a z (rd (tlt l) dk a z lim wb wp).pivot).2, rfl⟩
                      obtain ⟨r1, r2, r3, r4, _⟩ := round_eq (tlt_swo l) (partitionEqual_holds (tlt l)) h97b.1 HPV.out.1 HPV.out.2 HSN.out HB3.out h97b.2 hx
                      have hc := equal_any l sv (rd (tlt l) dk a z lim wb wp).pi.1 b cap a z (rd (tlt l) dk a z lim wb wp).pivot w wc HD6.out HSL.out (by omega) HPV.out.1 HPV.out.2 HSN.out (by rw [T3.out]; omega)
                      rw [T3.out, hx] at hc
                      have HC4 := Lib.hid hc
                      have X := Lib.hid hx
                      have R3 := Lib.hid (r3.trans T3.out)
                      have R4 := Lib.hid r4
                      clear hc hx r3 r4 h97b
                      go_wp2_with (go_at_call 88; refine HC4.out.mono ?_; rintro e w7 ⟨rfl, h7⟩)
                      go_roundg (z - mid)
                      case measure => omega
                      case rel =>
                        exact ⟨mid, z, (rd (tlt l) dk a z lim wb wp).lim, wb, wp, d4, rfl, rfl, rfl, rfl, rfl, r2, hz, Nat.le_refl _, by omega, Nat.le_trans rd_lim_le hlim, R3, R4, Lib.hid h7, Lib.hid (by rw [← HQ.out, pdq_eq h12 hl0 HP2.out H97.out (by rw [X.out]; exact ⟨r1, r2⟩), X.out])⟩
end Go.Proofs.Ytpiflkgjmncijaa
