/-
  The library's sorting of a row of places: a row that is almost sorted.
-/
import Derived.Test.YtpiflkgjmncijaaPdqF
namespace Go.Proofs.Ytpiflkgjmncijaa
open Go.RowKit Go.Sort

theorem ss_go {lt : Int → Int → Bool} {d : Array Int} {z i : Nat} (h : i < z) (hl : lt d[i]! d[i - 1]! = false) : scanSorted lt d z i = scanSorted lt d z (i + 1) := by
  rw [scanSorted]; simp [h, hl]
theorem ss_stop {lt : Int → Int → Bool} {d : Array Int} {z i : Nat} (h : ¬ i < z ∨ lt d[i]! d[i - 1]! = true) : scanSorted lt d z i = i := by
  rw [scanSorted]
  rcases h with h | h <;> simp [h]
theorem sdn_go {lt : Int → Int → Bool} {d : Array Int} {j : Nat} (h : 0 < j) (hl : lt d[j]! d[j - 1]! = true) : shiftDown lt j d = shiftDown lt (j - 1) (swp d j (j - 1)) := by
  obtain ⟨k, rfl⟩ : ∃ k, j = k + 1 := ⟨j - 1, by omega⟩
  simp only [Nat.add_sub_cancel] at hl ⊢
  rw [shiftDown, hl]
  rfl
theorem sdn_stop {lt : Int → Int → Bool} {d : Array Int} {j : Nat} (h : j = 0 ∨ lt d[j]! d[j - 1]! = false) : shiftDown lt j d = d := by
  cases j with
  | zero => rfl
  | succ k =>
    rcases h with h | h
    · omega
    · simp only [Nat.add_sub_cancel] at h
      rw [shiftDown, h]
      rfl
theorem sup_go {lt : Int → Int → Bool} {d : Array Int} {z j : Nat} (h : j < z) (hl : lt d[j]! d[j - 1]! = true) : shiftUp lt z j d = shiftUp lt z (j + 1) (swp d j (j - 1)) := by
  rw [shiftUp, if_pos h, hl]
  rfl
theorem sup_stop {lt : Int → Int → Bool} {d : Array Int} {z j : Nat} (h : ¬ j < z ∨ lt d[j]! d[j - 1]! = false) : shiftUp lt z j d = d := by
  rw [shiftUp]
  by_cases hj : j < z
  · rcases h with h | h
    · exact absurd hj h
    · rw [if_pos hj, h]
      rfl
  · rw [if_neg hj]

set_option maxRecDepth 100000 in
set_option maxHeartbeats 8000000 in
theorem partial_any (l : List Tm) (sv : Value) (d : Array Int) (b cap a z : Nat) (w W : World) (hS : RowSt w b l.length d W) (hsl : Tm.sliceIn w w.heap.size l sv) (haz : a < z) (hb : z ≤ d.size) (hsz : d.size ≤ 1000000) :
    Calls Try.prog 87 #[.slice (some ⟨b, 0, none⟩) d.size cap, .int .i64 a, .int .i64 z, .func (.func 45) #[sv] #[]] W
      fun e W' => e = .returned (.bool (partialInsertionSort (tlt l) d a z).2) ∧ RowSt w b l.length (partialInsertionSort (tlt l) d a z).1 W' := by
  have HS := Lib.hid hS
  have HSL := Lib.hid hsl
  clear hS hsl
  obtain ⟨n, hn⟩ : ∃ n, n = d.size := ⟨_, rfl⟩
  have HDN := Lib.hid hn.symm
  rw [← hn] at hb hsz ⊢
  clear hn
  go_enter Try.func87, Try.ntmps87
  go_wp2_with fail
  go_loopg [9, 10] (5) (fun k s9 s10 wr => ∃ (s t i : Nat) (dk : Array Int), s9 = .int .i64 i ∧ s10 = .int .i64 t ∧ s + t = 5 ∧ s ≤ k ∧ a < i ∧ i ≤ z ∧ Hid (dk.size = n) ∧ Hid (RowSt w b l.length dk wr) ∧ Hid (partialIns (tlt l) a z s i dk = partialInsertionSort (tlt l) d a z))
  case atStart => exact ⟨5, 0, a + 1, d, by go_num, rfl, rfl, Nat.le_refl _, by omega, by omega, HDN, HS, Lib.hid rfl⟩
  case round =>
    clear HS HDN
    obtain ⟨s, t, i, dk, rfl, rfl, hst, hsk, hai, hiz, HDK, HD, HQ⟩ := hrel
    by_cases hs0 : s = 0
    · subst hs0
      obtain rfl : t = 5 := by omega
      have HQ2 := Lib.hid (show (dk, false) = partialInsertionSort (tlt l) d a z from HQ.out)
      go_wp2_with fail
      go_ret
      rw [← HQ2.out]
      exact ⟨rfl, HD.out⟩
    · obtain ⟨s, rfl⟩ : ∃ r, s = r + 1 := ⟨s - 1, by omega⟩
      have HQ1 := Lib.hid ((partialIns_succ a z s i dk).symm.trans HQ.out)
      have ht5 : (t : Int) < 5 := by omega
      have ht5d : decide ((t : Int) < 5) = true := decide_eq_true ht5
      clear HQ
      go_upto_block 2 with fail
      go_cut [9] from 15 to 140 (fun q wx => ∃ v : Nat, q = .int .i64 v ∧ i ≤ v ∧ v ≤ z ∧ Hid (RowSt w b l.length dk wx) ∧ Hid (v = scanSorted (tlt l) dk z i))
      case first =>
        go_wp2_with fail
        go_loopg [9] (z - i) (fun k q wi => ∃ v : Nat, q = .int .i64 v ∧ i ≤ v ∧ v ≤ z ∧ z - v ≤ k ∧ Hid (RowSt w b l.length dk wi) ∧ Hid (scanSorted (tlt l) dk z v = scanSorted (tlt l) dk z i))
        case atStart => exact ⟨i, rfl, Nat.le_refl _, hiz, Nat.le_refl _, HD, Lib.hid rfl⟩
        case round =>
          obtain ⟨v, rfl, hv1, hv2, hvk, HI, HU⟩ := hrel
          by_cases hv : v < z
          · have hvz : (v : Int) < (z : Int) := by omega
            have hvo : (1 : Int) ≤ (v : Int) := by omega
            have hvd : decide ((v : Int) < (z : Int)) = true := decide_eq_true hvz
            have ha1 : (0 : Int) ≤ (v : Int) := by omega
            have hz1 : (v : Int) < (n : Int) := by omega
            have ht1 : ((v : Int)).toNat = v := by omega
            have hw1 : IntKind.i64.wrap ((v : Int)) = (v : Int) := by rw [IntKind.wrap_i64]; omega

            have ha0 : (0 : Int) ≤ (v : Int) - 1 := by omega
            have hz0 : (v : Int) - 1 < (n : Int) := by omega
            have ht0 : ((v : Int) - 1).toNat = v - 1 := by omega
            have hw0 : IntKind.i64.wrap ((v : Int) - 1) = (v : Int) - 1 := by rw [IntKind.wrap_i64]; omega

            have hp1 : v < dk.size := by rw [HDK.out]; omega
            have hp0 : v - 1 < dk.size := by rw [HDK.out]; omega
            have hless := Lib.hid (HI.out.drew.less HSL.out hp1 hp0)
            have c1 := HI.out.cell (v) hp1
            have c0 := HI.out.cell (v - 1) hp0
            have f1 := HI.out.free (v) hp1
            have f0 := HI.out.free (v - 1) hp0
            obtain ⟨x, hx⟩ : ∃ x, x = dk[v]! := ⟨_, rfl⟩
            obtain ⟨y, hy⟩ : ∃ y, y = dk[v - 1]! := ⟨_, rfl⟩
            rw [← hx, ← hy] at hless
            rw [← hx] at c1
            rw [← hy] at c0
            have HX := Lib.hid hx
            have HY := Lib.hid hy
            clear hx hy
            go_wp2_with fail
            go_still_tail 14, (by kernel_rfl)
            go_wp2_with fail
            refine hless.out.mono ?_
            rintro e w1 ⟨rfl, hb1⟩
            have HD1 := Lib.hid (HI.out.drew.next hb1)
            clear hb1 hless c1 c0 f1 f0
            by_cases hcmp : (keyAt l x).cmp (keyAt l y) < 0
            · have hl : tlt l dk[v]! dk[v - 1]! = true := by rw [← HX.out, ← HY.out]; exact decide_eq_true hcmp
              have HU2 := Lib.hid ((ss_stop (.inr hl)).symm.trans HU.out)
              clear hl
              go_wp2_with fail
              go_meet
              exact ⟨v, rfl, by omega, by omega, HD1, HU2⟩
            · have hl : tlt l dk[v]! dk[v - 1]! = false := by rw [← HX.out, ← HY.out]; exact decide_eq_false hcmp
              have hcd : decide ((keyAt l x).cmp (keyAt l y) < 0) = false := decide_eq_false hcmp
              have HU2 := Lib.hid ((ss_go hv hl).symm.trans HU.out)
              clear hl
              go_wp2_with fail
              go_roundg (z - (v + 1))
              case measure => omega
              case rel => exact ⟨v + 1, by go_num, by omega, by omega, Nat.le_refl _, HD1, HU2⟩
          · have hvz : ¬ (v : Int) < (z : Int) := by omega
            have hvd : decide ((v : Int) < (z : Int)) = false := decide_eq_false hvz
            have HU2 := Lib.hid ((ss_stop (.inl hv)).symm.trans HU.out)
            go_wp2_with fail
            go_quiet (fail)
            have HD1 := Lib.hid (HI.out.drewN nq)
            revert HD1
            generalize wr.drewN nq = w1
            intro HD1
            go_wp2_with fail
            go_meet
            exact ⟨v, rfl, by omega, by omega, HD1, HU2⟩
      case rest =>
        obtain ⟨v, rfl, hv1, hv2, HV, HU⟩ := hcut
        have HQ2 := Lib.hid (show (if v = z then (dk, true) else if z - a < 50 then (dk, false) else partialIns (tlt l) a z s v (if z - v ≥ 2 then shiftUp (tlt l) z (v + 1) (if v - a ≥ 2 then shiftDown (tlt l) (v - 1) (swp dk v (v - 1)) else swp dk v (v - 1)) else (if v - a ≥ 2 then shiftDown (tlt l) (v - 1) (swp dk v (v - 1)) else swp dk v (v - 1)))) = partialInsertionSort (tlt l) d a z by
          have h := HQ1.out
          rw [← HU.out] at h
          exact h)
        clear HQ1
        by_cases hvz : v = z
        · have HF := Lib.hid (show (dk, true) = partialInsertionSort (tlt l) d a z by have h := HQ2.out; rw [if_pos hvz] at h; exact h)
          subst hvz
          go_wp2_with fail
          go_ret
          rw [← HF.out]
          exact ⟨rfl, HV.out⟩
        · have hvo : (1 : Int) ≤ (v : Int) := by omega
          have hvb : ((v : Int) == (z : Int)) = false := by simp; omega
          have hvi : ¬ (v : Int) = (z : Int) := by omega
          by_cases h50 : z - a < 50
          · have HF := Lib.hid (show (dk, false) = partialInsertionSort (tlt l) d a z by have h := HQ2.out; rw [if_neg hvz, if_pos h50] at h; exact h)
            have h5z : (z : Int) - (a : Int) < 50 := by omega
            have h5d : decide ((z : Int) - (a : Int) < 50) = true := decide_eq_true h5z
            go_wp2_with fail
            go_ret
            rw [← HF.out]
            exact ⟨rfl, HV.out⟩
          · have HF := Lib.hid (show partialIns (tlt l) a z s v (if z - v ≥ 2 then shiftUp (tlt l) z (v + 1) (if v - a ≥ 2 then shiftDown (tlt l) (v - 1) (swp dk v (v - 1)) else swp dk v (v - 1)) else (if v - a ≥ 2 then shiftDown (tlt l) (v - 1) (swp dk v (v - 1)) else swp dk v (v - 1))) = partialInsertionSort (tlt l) d a z by have h := HQ2.out; rw [if_neg hvz, if_neg h50] at h; exact h)
            have h5z : ¬ (z : Int) - (a : Int) < 50 := by omega
            have h5d : decide ((z : Int) - (a : Int) < 50) = false := decide_eq_false h5z
            have hp1 : v < dk.size := by rw [HDK.out]; omega
            have hp0 : v - 1 < dk.size := by rw [HDK.out]; omega
            obtain ⟨x, hx⟩ : ∃ x, x = dk[v]! := ⟨_, rfl⟩
            obtain ⟨y, hy⟩ : ∃ y, y = dk[v - 1]! := ⟨_, rfl⟩
            have HX := Lib.hid hx
            have HY := Lib.hid hy
            clear hx hy
            have ha1 : (0 : Int) ≤ (v : Int) := by omega
            have hz1 : (v : Int) < (n : Int) := by omega
            have ht1 : ((v : Int)).toNat = v := by omega
            have hw1 : IntKind.i64.wrap ((v : Int)) = (v : Int) := by rw [IntKind.wrap_i64]; omega

            have ha0 : (0 : Int) ≤ (v : Int) - 1 := by omega
            have hz0 : (v : Int) - 1 < (n : Int) := by omega
            have ht0 : ((v : Int) - 1).toNat = v - 1 := by omega
            have hw0 : IntKind.i64.wrap ((v : Int) - 1) = (v : Int) - 1 := by rw [IntKind.wrap_i64]; omega

            have HS1 := Lib.hid (HV.out.swap hp1 hp0)
            have c1 := HV.out.cell (v) hp1
            have c0 := HV.out.cell (v - 1) hp0
            have f1 := HV.out.free (v) hp1
            have f0 := HV.out.free (v - 1) hp0
            obtain ⟨uu, c2⟩ := HV.out.second hp1 hp0 (.int .i64 y)
            rw [← HX.out] at c1
            rw [← HY.out] at c0
            rw [← HX.out, ← HY.out] at HS1
            go_wp2_with fail

            go_big_region
            clear c1 c0 f1 f0 c2
            revert HS1
            generalize ((wc.setCell ⟨b, v, none⟩ (.int .i64 y)).setCell ⟨b, v - 1, none⟩ (.int .i64 x)).drew = w2
            intro HS1
            obtain ⟨d1, hd1⟩ : ∃ d1, d1 = swp dk v (v - 1) := ⟨_, rfl⟩
            rw [← hd1] at HS1 HF
            have Hd1N := Lib.hid (show d1.size = n by rw [hd1, swp_size]; exact HDK.out)
            clear hd1 HX HY HV HQ2 HD
            go_upto_if 65 with fail
            go_cut [11] from 15 to 140 (fun _ wx => ∃ dd : Array Int, Hid (dd.size = n) ∧ Hid (RowSt w b l.length dd wx) ∧ Hid (dd = if v - a ≥ 2 then shiftDown (tlt l) (v - 1) d1 else d1))
            case first =>
              by_cases hc : v - a ≥ 2
              · have hcz : (2 : Int) ≤ (v : Int) - (a : Int) := by omega
                have hcd2 : decide ((2 : Int) ≤ (v : Int) - (a : Int)) = true := decide_eq_true hcz
                rw [hcd2]
                go_wp2_with fail
                go_loopg [11] (v - 1) (fun k q wi => ∃ (u : Nat) (dj : Array Int), q = .int .i64 u ∧ u ≤ v ∧ u ≤ k ∧ Hid (dj.size = n) ∧ Hid (RowSt w b l.length dj wi) ∧ Hid (shiftDown (tlt l) u dj = shiftDown (tlt l) (v - 1) d1))
                case atStart => exact ⟨v - 1, d1, by go_num, by omega, Nat.le_refl _, Hd1N, HS1, Lib.hid rfl⟩
                case round =>
                  obtain ⟨u, dj, rfl, hu1, huk, HJN, HJ, HU⟩ := hrel
                  by_cases hu : 0 < u
                  · have huz : (1 : Int) ≤ (u : Int) := by omega
                    have huo : (1 : Int) ≤ (u : Int) := by omega
                    have hud : decide ((1 : Int) ≤ (u : Int)) = true := decide_eq_true huz
                    have ha1 : (0 : Int) ≤ (u : Int) := by omega
                    have hz1 : (u : Int) < (n : Int) := by omega
                    have ht1 : ((u : Int)).toNat = u := by omega
                    have hw1 : IntKind.i64.wrap ((u : Int)) = (u : Int) := by rw [IntKind.wrap_i64]; omega

                    have ha0 : (0 : Int) ≤ (u : Int) - 1 := by omega
                    have hz0 : (u : Int) - 1 < (n : Int) := by omega
                    have ht0 : ((u : Int) - 1).toNat = u - 1 := by omega
                    have hw0 : IntKind.i64.wrap ((u : Int) - 1) = (u : Int) - 1 := by rw [IntKind.wrap_i64]; omega

                    have hp1 : u < dj.size := by rw [HJN.out]; omega
                    have hp0 : u - 1 < dj.size := by rw [HJN.out]; omega
                    have hless := Lib.hid (HJ.out.drew.less HSL.out hp1 hp0)
                    have c1 := HJ.out.cell (u) hp1
                    have c0 := HJ.out.cell (u - 1) hp0
                    have f1 := HJ.out.free (u) hp1
                    have f0 := HJ.out.free (u - 1) hp0
                    obtain ⟨x, hx⟩ : ∃ x, x = dj[u]! := ⟨_, rfl⟩
                    obtain ⟨y, hy⟩ : ∃ y, y = dj[u - 1]! := ⟨_, rfl⟩
                    rw [← hx, ← hy] at hless
                    rw [← hx] at c1
                    rw [← hy] at c0
                    have HX := Lib.hid hx
                    have HY := Lib.hid hy
                    clear hx hy
                    go_wp2_with fail
                    go_still_tail 10, (by kernel_rfl)
                    go_wp2_with fail
                    refine hless.out.mono ?_
                    rintro e w1 ⟨rfl, hb1⟩
                    have HD1 := Lib.hid (HJ.out.drew.next hb1)
                    clear hb1 hless c1 c0 f1 f0
                    by_cases hcmp : (keyAt l x).cmp (keyAt l y) < 0
                    · have hl : tlt l dj[u]! dj[u - 1]! = true := by rw [← HX.out, ← HY.out]; exact decide_eq_true hcmp
                      have HU2 := Lib.hid ((sdn_go hu hl).symm.trans HU.out)
                      clear hl

                      have HS1 := Lib.hid (HD1.out.swap hp1 hp0)
                      have c1 := HD1.out.cell (u) hp1
                      have c0 := HD1.out.cell (u - 1) hp0
                      have f1 := HD1.out.free (u) hp1
                      have f0 := HD1.out.free (u - 1) hp0
                      obtain ⟨uu, c2⟩ := HD1.out.second hp1 hp0 (.int .i64 y)
                      rw [← HX.out] at c1
                      rw [← HY.out] at c0
                      rw [← HX.out, ← HY.out] at HS1
                      go_wp2_with fail

                      go_big_region
                      clear c1 c0 f1 f0 c2
                      revert HS1
                      generalize ((w1.setCell ⟨b, u, none⟩ (.int .i64 y)).setCell ⟨b, u - 1, none⟩ (.int .i64 x)).drew = w2
                      intro HS1
                      go_wp2_with fail
                      go_roundg (u - 1)
                      case measure => omega
                      case rel => exact ⟨u - 1, swp dj u (u - 1), by go_num, by omega, Nat.le_refl _, Lib.hid (by rw [swp_size]; exact HJN.out), HS1, HU2⟩
                    · have hl : tlt l dj[u]! dj[u - 1]! = false := by rw [← HX.out, ← HY.out]; exact decide_eq_false hcmp
                      have hcd : decide ((keyAt l x).cmp (keyAt l y) < 0) = false := decide_eq_false hcmp
                      have HU2 := Lib.hid ((sdn_stop (.inr hl)).symm.trans HU.out)
                      clear hl
                      go_wp2_with fail
                      go_meet
                      exact ⟨dj, HJN, HD1, Lib.hid (by rw [if_pos hc]; exact HU2.out)⟩
                  · have huz : ¬ (1 : Int) ≤ (u : Int) := by omega
                    have hud : decide ((1 : Int) ≤ (u : Int)) = false := decide_eq_false huz
                    have HU2 := Lib.hid ((sdn_stop (.inl (by omega))).symm.trans HU.out)
                    go_wp2_with fail
                    go_meet
                    exact ⟨dj, HJN, HJ, Lib.hid (by rw [if_pos hc]; exact HU2.out)⟩
              · have hcz : ¬ (2 : Int) ≤ (v : Int) - (a : Int) := by omega
                have hcd2 : decide ((2 : Int) ≤ (v : Int) - (a : Int)) = false := decide_eq_false hcz
                rw [hcd2]
                go_wp2_with fail
                go_meet
                exact ⟨d1, Hd1N, HS1, Lib.hid (by rw [if_neg hc])⟩
            case rest =>
              obtain ⟨d2, Hd2N, Hd2, Hd2E⟩ := hcut
              rw [← Hd2E.out] at HF
              clear HS1 Hd1N Hd2E
              by_cases hc : z - v ≥ 2
              · have hcz : (2 : Int) ≤ (z : Int) - (v : Int) := by omega
                have hcd2 : decide ((2 : Int) ≤ (z : Int) - (v : Int)) = true := decide_eq_true hcz
                go_wp2_with fail
                go_loopg [12] (z - (v + 1)) (fun k q wi => ∃ (u : Nat) (dj : Array Int), q = .int .i64 u ∧ 0 < u ∧ u ≤ z ∧ z - u ≤ k ∧ Hid (dj.size = n) ∧ Hid (RowSt w b l.length dj wi) ∧ Hid (shiftUp (tlt l) z u dj = shiftUp (tlt l) z (v + 1) d2))
                case atStart => exact ⟨v + 1, d2, by go_num, by omega, by omega, Nat.le_refl _, Hd2N, Hd2, Lib.hid rfl⟩
                case round =>
                  obtain ⟨u, dj, rfl, hu1, hu2, huk, HJN, HJ, HU⟩ := hrel
                  by_cases hu : u < z
                  · have huz : (u : Int) < (z : Int) := by omega
                    have huo : (1 : Int) ≤ (u : Int) := by omega
                    have hud : decide ((u : Int) < (z : Int)) = true := decide_eq_true huz
                    have ha1 : (0 : Int) ≤ (u : Int) := by omega
                    have hz1 : (u : Int) < (n : Int) := by omega
                    have ht1 : ((u : Int)).toNat = u := by omega
                    have hw1 : IntKind.i64.wrap ((u : Int)) = (u : Int) := by rw [IntKind.wrap_i64]; omega

                    have ha0 : (0 : Int) ≤ (u : Int) - 1 := by omega
                    have hz0 : (u : Int) - 1 < (n : Int) := by omega
                    have ht0 : ((u : Int) - 1).toNat = u - 1 := by omega
                    have hw0 : IntKind.i64.wrap ((u : Int) - 1) = (u : Int) - 1 := by rw [IntKind.wrap_i64]; omega

                    have hp1 : u < dj.size := by rw [HJN.out]; omega
                    have hp0 : u - 1 < dj.size := by rw [HJN.out]; omega
                    have hless := Lib.hid (HJ.out.drew.less HSL.out hp1 hp0)
                    have c1 := HJ.out.cell (u) hp1
                    have c0 := HJ.out.cell (u - 1) hp0
                    have f1 := HJ.out.free (u) hp1
                    have f0 := HJ.out.free (u - 1) hp0
                    obtain ⟨x, hx⟩ : ∃ x, x = dj[u]! := ⟨_, rfl⟩
                    obtain ⟨y, hy⟩ : ∃ y, y = dj[u - 1]! := ⟨_, rfl⟩
                    rw [← hx, ← hy] at hless
                    rw [← hx] at c1
                    rw [← hy] at c0
                    have HX := Lib.hid hx
                    have HY := Lib.hid hy
                    clear hx hy
                    go_wp2_with fail
                    go_still_tail 10, (by kernel_rfl)
                    go_wp2_with fail
                    refine hless.out.mono ?_
                    rintro e w1 ⟨rfl, hb1⟩
                    have HD1 := Lib.hid (HJ.out.drew.next hb1)
                    clear hb1 hless c1 c0 f1 f0
                    by_cases hcmp : (keyAt l x).cmp (keyAt l y) < 0
                    · have hl : tlt l dj[u]! dj[u - 1]! = true := by rw [← HX.out, ← HY.out]; exact decide_eq_true hcmp
                      have HU2 := Lib.hid ((sup_go hu hl).symm.trans HU.out)
                      clear hl

                      have HS1 := Lib.hid (HD1.out.swap hp1 hp0)
                      have c1 := HD1.out.cell (u) hp1
                      have c0 := HD1.out.cell (u - 1) hp0
                      have f1 := HD1.out.free (u) hp1
                      have f0 := HD1.out.free (u - 1) hp0
                      obtain ⟨uu, c2⟩ := HD1.out.second hp1 hp0 (.int .i64 y)
                      rw [← HX.out] at c1
                      rw [← HY.out] at c0
                      rw [← HX.out, ← HY.out] at HS1
                      go_wp2_with fail

                      go_big_region
                      clear c1 c0 f1 f0 c2
                      revert HS1
                      generalize ((w1.setCell ⟨b, u, none⟩ (.int .i64 y)).setCell ⟨b, u - 1, none⟩ (.int .i64 x)).drew = w2
                      intro HS1
                      go_wp2_with fail
                      go_roundg (z - (u + 1))
                      case measure => omega
                      case rel => exact ⟨u + 1, swp dj u (u - 1), by go_num, by omega, by omega, Nat.le_refl _, Lib.hid (by rw [swp_size]; exact HJN.out), HS1, HU2⟩
                    · have hl : tlt l dj[u]! dj[u - 1]! = false := by rw [← HX.out, ← HY.out]; exact decide_eq_false hcmp
                      have hcd : decide ((keyAt l x).cmp (keyAt l y) < 0) = false := decide_eq_false hcmp
                      have HU2 := Lib.hid ((sup_stop (.inr hl)).symm.trans HU.out)
                      clear hl
                      have HFU := Lib.hid (show dj = if z - v ≥ 2 then shiftUp (tlt l) z (v + 1) d2 else d2 by rw [if_pos hc]; exact HU2.out)
                      have HF2 := Lib.hid (show partialIns (tlt l) a z s v dj = partialInsertionSort (tlt l) d a z by rw [HFU.out]; exact HF.out)
                      go_wp2_with fail
                      go_roundg s
                      case measure => omega
                      case rel => exact ⟨s, t + 1, v, dj, rfl, by go_num, by omega, Nat.le_refl _, by omega, by omega, HJN, HD1, HF2⟩
                  · have huz : ¬ (u : Int) < (z : Int) := by omega
                    have hud : decide ((u : Int) < (z : Int)) = false := decide_eq_false huz
                    have HU2 := Lib.hid ((sup_stop (.inl hu)).symm.trans HU.out)
                    have HFU := Lib.hid (show dj = if z - v ≥ 2 then shiftUp (tlt l) z (v + 1) d2 else d2 by rw [if_pos hc]; exact HU2.out)
                    have HF2 := Lib.hid (show partialIns (tlt l) a z s v dj = partialInsertionSort (tlt l) d a z by rw [HFU.out]; exact HF.out)
                    go_wp2_with fail
                    go_roundg s
                    case measure => omega
                    case rel => exact ⟨s, t + 1, v, dj, rfl, by go_num, by omega, Nat.le_refl _, by omega, by omega, HJN, HJ, HF2⟩
              · have hcz : ¬ (2 : Int) ≤ (z : Int) - (v : Int) := by omega
                have hcd2 : decide ((2 : Int) ≤ (z : Int) - (v : Int)) = false := decide_eq_false hcz
                have HFU := Lib.hid (show d2 = if z - v ≥ 2 then shiftUp (tlt l) z (v + 1) d2 else d2 by rw [if_neg hc])
                have HF2 := Lib.hid (show partialIns (tlt l) a z s v d2 = partialInsertionSort (tlt l) d a z by rw [HFU.out]; exact HF.out)
                go_wp2_with fail
                go_roundg s
                case measure => omega
                case rel => exact ⟨s, t + 1, v, d2, rfl, by go_num, by omega, Nat.le_refl _, by omega, by omega, Hd2N, Hd2, HF2⟩
end Go.Proofs.Ytpiflkgjmncijaa
