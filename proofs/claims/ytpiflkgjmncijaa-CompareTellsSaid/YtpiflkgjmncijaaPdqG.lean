/-
  The library's sorting of a row of places: a range is parted.
-/
import Derived.Test.YtpiflkgjmncijaaPdqF
namespace Go.Proofs.Ytpiflkgjmncijaa
open Go.RowKit Go.Sort

set_option maxRecDepth 100000 in
set_option maxHeartbeats 4000000 in
theorem part_any (l : List Tm) (sv : Value) (d : Array Int) (b cap a z q : Nat) (w W : World) (hS : RowSt w b l.length d W) (hsl : Tm.sliceIn w w.heap.size l sv) (haz : a < z) (hq2 : q < z) (hb : z ≤ d.size) (hsz : d.size ≤ 1000000) :
    Calls Try.prog 89 #[.slice (some ⟨b, 0, none⟩) d.size cap, .int .i64 a, .int .i64 z, .int .i64 q, .func (.func 45) #[sv] #[]] W
      fun e W' => e = .returned (.tuple #[.int .i64 (partition (tlt l) d a z q).1, .bool (partition (tlt l) d a z q).2.1]) ∧ RowSt w b l.length (partition (tlt l) d a z q).2.2 W' := by
  have HS := Lib.hid hS
  have HSL := Lib.hid hsl
  clear hS hsl
  obtain ⟨n, hn⟩ : ∃ n, n = d.size := ⟨_, rfl⟩
  have HDK := Lib.hid hn.symm
  rw [← hn] at hb hsz ⊢
  clear hn
  obtain ⟨m, rfl⟩ : ∃ m, z = m + 1 := ⟨z - 1, by omega⟩
  obtain ⟨d1, hd1⟩ : ∃ d1, d1 = swp d a q := ⟨_, rfl⟩
  have HE := Lib.hid (show partition (tlt l) d a (m + 1) q = if scanUp (fun x => tlt l x d1[a]!) d1 m (a + 1) > scanDown (fun x => !tlt l x d1[a]!) d1 (scanUp (fun x => tlt l x d1[a]!) d1 m (a + 1)) m then (scanDown (fun x => !tlt l x d1[a]!) d1 (scanUp (fun x => tlt l x d1[a]!) d1 m (a + 1)) m, true, swp d1 (scanDown (fun x => !tlt l x d1[a]!) d1 (scanUp (fun x => tlt l x d1[a]!) d1 m (a + 1)) m) a) else ((partLoop (tlt l) a (scanUp (fun x => tlt l x d1[a]!) d1 m (a + 1) + 1) (scanDown (fun x => !tlt l x d1[a]!) d1 (scanUp (fun x => tlt l x d1[a]!) d1 m (a + 1)) m - 1) (swp d1 (scanUp (fun x => tlt l x d1[a]!) d1 m (a + 1)) (scanDown (fun x => !tlt l x d1[a]!) d1 (scanUp (fun x => tlt l x d1[a]!) d1 m (a + 1)) m))).1, false, swp (partLoop (tlt l) a (scanUp (fun x => tlt l x d1[a]!) d1 m (a + 1) + 1) (scanDown (fun x => !tlt l x d1[a]!) d1 (scanUp (fun x => tlt l x d1[a]!) d1 m (a + 1)) m - 1) (swp d1 (scanUp (fun x => tlt l x d1[a]!) d1 m (a + 1)) (scanDown (fun x => !tlt l x d1[a]!) d1 (scanUp (fun x => tlt l x d1[a]!) d1 m (a + 1)) m))).2 (partLoop (tlt l) a (scanUp (fun x => tlt l x d1[a]!) d1 m (a + 1) + 1) (scanDown (fun x => !tlt l x d1[a]!) d1 (scanUp (fun x => tlt l x d1[a]!) d1 m (a + 1)) m - 1) (swp d1 (scanUp (fun x => tlt l x d1[a]!) d1 m (a + 1)) (scanDown (fun x => !tlt l x d1[a]!) d1 (scanUp (fun x => tlt l x d1[a]!) d1 m (a + 1)) m))).1 a) by
    rw [hd1]; rfl)
  have HD1E := Lib.hid hd1
  have hp1 : a < d.size := by rw [HDK.out]; omega
  have hp0 : q < d.size := by rw [HDK.out]; omega
  obtain ⟨x, hx⟩ : ∃ x, x = d[a]! := ⟨_, rfl⟩
  obtain ⟨y, hy⟩ : ∃ y, y = d[q]! := ⟨_, rfl⟩
  have HX := Lib.hid hx
  have HY := Lib.hid hy
  clear hx hy hd1
  go_enter Try.func89, Try.ntmps89
  have ha1 : (0 : Int) ≤ (a : Int) := by omega
  have hz1 : (a : Int) < (n : Int) := by omega
  have ht1 : ((a : Int)).toNat = a := by omega
  have hw1 : IntKind.i64.wrap ((a : Int)) = (a : Int) := by rw [IntKind.wrap_i64]; omega

  have ha0 : (0 : Int) ≤ (q : Int) := by omega
  have hz0 : (q : Int) < (n : Int) := by omega
  have ht0 : ((q : Int)).toNat = q := by omega
  have hw0 : IntKind.i64.wrap ((q : Int)) = (q : Int) := by rw [IntKind.wrap_i64]; omega

  have HS1 := Lib.hid (HS.out.swap hp1 hp0)
  have c1 := HS.out.cell (a) hp1
  have c0 := HS.out.cell (q) hp0
  have f1 := HS.out.free (a) hp1
  have f0 := HS.out.free (q) hp0
  obtain ⟨u, c2⟩ := HS.out.second hp1 hp0 (.int .i64 y)
  rw [← HX.out] at c1
  rw [← HY.out] at c0
  rw [← HX.out, ← HY.out] at HS1
  go_wp2_with fail

  go_big_region
  clear c1 c0 f1 f0 c2
  revert HS1
  generalize ((W.setCell ⟨b, a, none⟩ (.int .i64 y)).setCell ⟨b, q, none⟩ (.int .i64 x)).drew = w2
  intro HS1
  have HD0 := Lib.hid (show d1.size = n by rw [HD1E.out, swp_size]; exact HDK.out)
  rw [← HD1E.out] at HS1
  clear HX HY hp1 hp0 HS HD1E HDK
  go_upto_block 0 with fail
  go_cut [12] from 32 to 49 (fun s wx => ∃ t : Nat, s = .int .i64 t ∧ (a + 1) ≤ t ∧ t ≤ m + 2 ∧ Hid (RowSt w b l.length d1 wx) ∧ Hid (t = scanUp (fun x => tlt l x d1[a]!) d1 m (a + 1)))
  case first =>
    go_wp2_with fail
    go_loopg [12] (m + 1 - (a + 1)) (fun k s wi => ∃ t : Nat, s = .int .i64 t ∧ (a + 1) ≤ t ∧ t ≤ m + 2 ∧ m + 1 - t ≤ k ∧ Hid (RowSt w b l.length d1 wi) ∧ Hid (scanUp (fun x => tlt l x d1[a]!) d1 m t = scanUp (fun x => tlt l x d1[a]!) d1 m (a + 1)))
    case atStart => exact ⟨(a + 1), rfl, by omega, by omega, by omega, HS1, Lib.hid rfl⟩
    case round =>
      obtain ⟨t, rfl, ht1, ht2, htk, HI, HU⟩ := hrel
      by_cases ht : t ≤ m
      · have htz : (t : Int) ≤ (m : Int) := by omega
        have htd : decide ((t : Int) ≤ (m : Int)) = true := decide_eq_true htz
        have ha1 : (0 : Int) ≤ (t : Int) := by omega
        have hz1 : (t : Int) < (n : Int) := by omega
        have ht1 : ((t : Int)).toNat = t := by omega
        have hw1 : IntKind.i64.wrap ((t : Int)) = (t : Int) := by rw [IntKind.wrap_i64]; omega

        have ha0 : (0 : Int) ≤ (a : Int) := by omega
        have hz0 : (a : Int) < (n : Int) := by omega
        have ht0 : ((a : Int)).toNat = a := by omega
        have hw0 : IntKind.i64.wrap ((a : Int)) = (a : Int) := by rw [IntKind.wrap_i64]; omega

        have hp1 : t < d1.size := by rw [HD0.out]; omega
        have hp0 : a < d1.size := by rw [HD0.out]; omega
        have hless := Lib.hid (HI.out.drew.less HSL.out hp1 hp0)
        have c1 := HI.out.cell (t) hp1
        have c0 := HI.out.cell (a) hp0
        have f1 := HI.out.free (t) hp1
        have f0 := HI.out.free (a) hp0
        obtain ⟨x, hx⟩ : ∃ x, x = d1[t]! := ⟨_, rfl⟩
        obtain ⟨y, hy⟩ : ∃ y, y = d1[a]! := ⟨_, rfl⟩
        rw [← hx, ← hy] at hless
        rw [← hx] at c1
        rw [← hy] at c0
        have HX := Lib.hid hx
        have HY := Lib.hid hy
        clear hx hy
        go_wp2_with fail
        go_still_tail 13, (by kernel_rfl)
        go_wp2_with fail
        refine hless.out.mono ?_
        rintro e w1 ⟨rfl, hb1⟩
        have HD1 := Lib.hid (HI.out.drew.next hb1)
        clear hb1 hless c1 c0 f1 f0
        by_cases hcmp : (keyAt l x).cmp (keyAt l y) < 0
        · have hl : tlt l d1[t]! d1[a]! = true := by rw [← HX.out, ← HY.out]; exact decide_eq_true hcmp
          have hv := hl
          have HU2 := Lib.hid ((up_go (p := fun x => tlt l x d1[a]!) (d := d1) ht hv).symm.trans HU.out)
          clear hl hv
          go_wp2_with fail
          go_roundg (m + 1 - (t + 1))
          case measure => omega
          case rel => exact ⟨t + 1, by go_num, by omega, by omega, by omega, HD1, HU2⟩
        · have hl : tlt l d1[t]! d1[a]! = false := by rw [← HX.out, ← HY.out]; exact decide_eq_false hcmp
          have hv := hl
          have hcd : decide ((keyAt l x).cmp (keyAt l y) < 0) = false := decide_eq_false hcmp
          have HU2 := Lib.hid ((up_stop (p := fun x => tlt l x d1[a]!) (d := d1) (.inr hv)).symm.trans HU.out)
          clear hl hv
          go_wp2_with fail
          go_meet
          exact ⟨t, rfl, by omega, by omega, HD1, HU2⟩
      · have htz : ¬ (t : Int) ≤ (m : Int) := by omega
        have htd : decide ((t : Int) ≤ (m : Int)) = false := decide_eq_false htz
        have HU2 := Lib.hid ((up_stop (p := fun x => tlt l x d1[a]!) (d := d1) (.inl ht)).symm.trans HU.out)
        go_wp2_with fail
        go_quiet (fail)
        have HD1 := Lib.hid (HI.out.drewN nq)
        revert HD1
        generalize wr.drewN nq = w1
        intro HD1
        go_wp2_with fail
        go_meet
        exact ⟨t, rfl, by omega, by omega, HD1, HU2⟩
  case rest =>
    obtain ⟨i0, rfl, hi01, hi02, Hi0D, Hi0U⟩ := hcut
    go_upto_block 2 with fail
    go_cut [13] from 50 to 68 (fun s wx => ∃ t : Nat, s = .int .i64 t ∧ t ≤ m ∧ i0 ≤ t + 2 ∧ Hid (RowSt w b l.length d1 wx) ∧ Hid (t = scanDown (fun x => !tlt l x d1[a]!) d1 i0 m))
    case first =>
      go_wp2_with fail
      go_loopg [13] (m + 1 - i0) (fun k s wi => ∃ t : Nat, s = .int .i64 t ∧ t ≤ m ∧ i0 ≤ t + 2 ∧ t + 1 - i0 ≤ k ∧ Hid (RowSt w b l.length d1 wi) ∧ Hid (scanDown (fun x => !tlt l x d1[a]!) d1 i0 t = scanDown (fun x => !tlt l x d1[a]!) d1 i0 m))
      case atStart => exact ⟨m, rfl, by omega, by omega, by omega, Hi0D, Lib.hid rfl⟩
      case round =>
        obtain ⟨t, rfl, ht1, ht2, htk, HI, HU⟩ := hrel
        by_cases ht : i0 ≤ t
        · have htz : (i0 : Int) ≤ (t : Int) := by omega
          have htd : decide ((i0 : Int) ≤ (t : Int)) = true := decide_eq_true htz
          have ha1 : (0 : Int) ≤ (t : Int) := by omega
          have hz1 : (t : Int) < (n : Int) := by omega
          have ht1 : ((t : Int)).toNat = t := by omega
          have hw1 : IntKind.i64.wrap ((t : Int)) = (t : Int) := by rw [IntKind.wrap_i64]; omega

          have ha0 : (0 : Int) ≤ (a : Int) := by omega
          have hz0 : (a : Int) < (n : Int) := by omega
          have ht0 : ((a : Int)).toNat = a := by omega
          have hw0 : IntKind.i64.wrap ((a : Int)) = (a : Int) := by rw [IntKind.wrap_i64]; omega

          have hp1 : t < d1.size := by rw [HD0.out]; omega
          have hp0 : a < d1.size := by rw [HD0.out]; omega
          have hless := Lib.hid (HI.out.drew.less HSL.out hp1 hp0)
          have c1 := HI.out.cell (t) hp1
          have c0 := HI.out.cell (a) hp0
          have f1 := HI.out.free (t) hp1
          have f0 := HI.out.free (a) hp0
          obtain ⟨x, hx⟩ : ∃ x, x = d1[t]! := ⟨_, rfl⟩
          obtain ⟨y, hy⟩ : ∃ y, y = d1[a]! := ⟨_, rfl⟩
          rw [← hx, ← hy] at hless
          rw [← hx] at c1
          rw [← hy] at c0
          have HX := Lib.hid hx
          have HY := Lib.hid hy
          clear hx hy
          go_wp2_with fail
          go_still_tail 13, (by kernel_rfl)
          go_wp2_with fail
          refine hless.out.mono ?_
          rintro e w1 ⟨rfl, hb1⟩
          have HD1 := Lib.hid (HI.out.drew.next hb1)
          clear hb1 hless c1 c0 f1 f0
          by_cases hcmp : (keyAt l x).cmp (keyAt l y) < 0
          · have hl : tlt l d1[t]! d1[a]! = true := by rw [← HX.out, ← HY.out]; exact decide_eq_true hcmp
            have hv : (!tlt l d1[t]! d1[a]!) = false := by rw [hl]; rfl
            have HU2 := Lib.hid ((down_stop (p := fun x => !tlt l x d1[a]!) (d := d1) (.inr hv)).symm.trans HU.out)
            clear hl hv
            go_wp2_with fail
            go_meet
            exact ⟨t, rfl, by omega, by omega, HD1, HU2⟩
          · have hl : tlt l d1[t]! d1[a]! = false := by rw [← HX.out, ← HY.out]; exact decide_eq_false hcmp
            have hv : (!tlt l d1[t]! d1[a]!) = true := by rw [hl]; rfl
            have hcd : decide ((keyAt l x).cmp (keyAt l y) < 0) = false := decide_eq_false hcmp
            have HU2 := Lib.hid ((down_go (p := fun x => !tlt l x d1[a]!) (d := d1) (by omega) ht hv).symm.trans HU.out)
            clear hl hv
            go_wp2_with fail
            go_roundg ((t - 1) + 1 - i0)
            case measure => omega
            case rel => exact ⟨t - 1, by go_num, by omega, by omega, by omega, HD1, HU2⟩
        · have htz : ¬ (i0 : Int) ≤ (t : Int) := by omega
          have htd : decide ((i0 : Int) ≤ (t : Int)) = false := decide_eq_false htz
          have HU2 := Lib.hid ((down_stop (p := fun x => !tlt l x d1[a]!) (d := d1) (.inl ht)).symm.trans HU.out)
          go_wp2_with fail
          go_quiet (fail)
          have HD1 := Lib.hid (HI.out.drewN nq)
          revert HD1
          generalize wr.drewN nq = w1
          intro HD1
          go_wp2_with fail
          go_meet
          exact ⟨t, rfl, by omega, by omega, HD1, HU2⟩
    case rest =>
      obtain ⟨j0, rfl, hj01, hj02, Hj0D, Hj0U⟩ := hcut
      have HE2 := Lib.hid (show partition (tlt l) d a (m + 1) q = if i0 > j0 then (j0, true, swp d1 j0 a) else ((partLoop (tlt l) a (i0 + 1) (j0 - 1) (swp d1 i0 j0)).1, false, swp (partLoop (tlt l) a (i0 + 1) (j0 - 1) (swp d1 i0 j0)).2 (partLoop (tlt l) a (i0 + 1) (j0 - 1) (swp d1 i0 j0)).1 a) by
        have h := HE.out
        rw [← Hi0U.out, ← Hj0U.out] at h
        exact h)
      clear HE HS1
      by_cases hgt : i0 > j0
      · have HF := Lib.hid (show partition (tlt l) d a (m + 1) q = (j0, true, swp d1 j0 a) by have h := HE2.out; rw [if_pos hgt] at h; exact h)
        have hgz : (j0 : Int) < (i0 : Int) := by omega
        have hgd : decide ((i0 : Int) > (j0 : Int)) = true := decide_eq_true hgz
        go_wp2_with fail
        have hp1 : j0 < d1.size := by rw [HD0.out]; omega
        have hp0 : a < d1.size := by rw [HD0.out]; omega
        obtain ⟨x, hx⟩ : ∃ x, x = d1[j0]! := ⟨_, rfl⟩
        obtain ⟨y, hy⟩ : ∃ y, y = d1[a]! := ⟨_, rfl⟩
        have HX := Lib.hid hx
        have HY := Lib.hid hy
        clear hx hy

        have ha1 : (0 : Int) ≤ (j0 : Int) := by omega
        have hz1 : (j0 : Int) < (n : Int) := by omega
        have ht1 : ((j0 : Int)).toNat = j0 := by omega
        have hw1 : IntKind.i64.wrap ((j0 : Int)) = (j0 : Int) := by rw [IntKind.wrap_i64]; omega

        have ha0 : (0 : Int) ≤ (a : Int) := by omega
        have hz0 : (a : Int) < (n : Int) := by omega
        have ht0 : ((a : Int)).toNat = a := by omega
        have hw0 : IntKind.i64.wrap ((a : Int)) = (a : Int) := by rw [IntKind.wrap_i64]; omega

        have HS1 := Lib.hid (Hj0D.out.swap hp1 hp0)
        have c1 := Hj0D.out.cell (j0) hp1
        have c0 := Hj0D.out.cell (a) hp0
        have f1 := Hj0D.out.free (j0) hp1
        have f0 := Hj0D.out.free (a) hp0
        obtain ⟨u, c2⟩ := Hj0D.out.second hp1 hp0 (.int .i64 y)
        rw [← HX.out] at c1
        rw [← HY.out] at c0
        rw [← HX.out, ← HY.out] at HS1

        go_big_region
        clear c1 c0 f1 f0 c2
        revert HS1
        generalize ((wc.setCell ⟨b, j0, none⟩ (.int .i64 y)).setCell ⟨b, a, none⟩ (.int .i64 x)).drew = w2
        intro HS1
        go_wp2_with fail
        go_ret2
        rw [HF.out]
        exact ⟨rfl, HS1.out⟩
      · obtain ⟨pj, pd, hpr⟩ : ∃ pj pd, partLoop (tlt l) a (i0 + 1) (j0 - 1) (swp d1 i0 j0) = (pj, pd) := ⟨_, _, rfl⟩
        have HE3 := Lib.hid (show partition (tlt l) d a (m + 1) q = (pj, false, swp pd pj a) by have h := HE2.out; rw [if_neg hgt, hpr] at h; exact h)
        have HPR := Lib.hid hpr
        clear hpr
        have hgz : ¬ (j0 : Int) < (i0 : Int) := by omega
        have hgd : decide ((i0 : Int) > (j0 : Int)) = false := decide_eq_false hgz
        go_wp2_with fail
        have hp1 : i0 < d1.size := by rw [HD0.out]; omega
        have hp0 : j0 < d1.size := by rw [HD0.out]; omega
        obtain ⟨x, hx⟩ : ∃ x, x = d1[i0]! := ⟨_, rfl⟩
        obtain ⟨y, hy⟩ : ∃ y, y = d1[j0]! := ⟨_, rfl⟩
        have HX := Lib.hid hx
        have HY := Lib.hid hy
        clear hx hy

        have ha1 : (0 : Int) ≤ (i0 : Int) := by omega
        have hz1 : (i0 : Int) < (n : Int) := by omega
        have ht1 : ((i0 : Int)).toNat = i0 := by omega
        have hw1 : IntKind.i64.wrap ((i0 : Int)) = (i0 : Int) := by rw [IntKind.wrap_i64]; omega

        have ha0 : (0 : Int) ≤ (j0 : Int) := by omega
        have hz0 : (j0 : Int) < (n : Int) := by omega
        have ht0 : ((j0 : Int)).toNat = j0 := by omega
        have hw0 : IntKind.i64.wrap ((j0 : Int)) = (j0 : Int) := by rw [IntKind.wrap_i64]; omega

        have HS1 := Lib.hid (Hj0D.out.swap hp1 hp0)
        have c1 := Hj0D.out.cell (i0) hp1
        have c0 := Hj0D.out.cell (j0) hp0
        have f1 := Hj0D.out.free (i0) hp1
        have f0 := Hj0D.out.free (j0) hp0
        obtain ⟨u, c2⟩ := Hj0D.out.second hp1 hp0 (.int .i64 y)
        rw [← HX.out] at c1
        rw [← HY.out] at c0
        rw [← HX.out, ← HY.out] at HS1

        go_big_region
        clear c1 c0 f1 f0 c2
        revert HS1
        generalize ((wc.setCell ⟨b, i0, none⟩ (.int .i64 y)).setCell ⟨b, j0, none⟩ (.int .i64 x)).drew = w2
        intro HS1

        have HD1 := Lib.hid (show (swp d1 i0 j0).size = n by rw [swp_size]; exact HD0.out)
        clear HX HY hp1 hp0
        go_wp2_with fail
        go_loopg [12, 13] ((j0 - 1) + 1 - (i0 + 1)) (fun k s12 s13 wr => ∃ (i j : Nat) (dk : Array Int), s12 = .int .i64 i ∧ s13 = .int .i64 j ∧ a < i ∧ i ≤ j + 2 ∧ j ≤ m ∧ j + 1 - i ≤ k ∧ Hid (dk.size = n) ∧ Hid (RowSt w b l.length dk wr) ∧ Hid (partLoop (tlt l) a i j dk = (pj, pd)))
        case atStart => exact ⟨i0 + 1, j0 - 1, swp d1 i0 j0, by go_num, by go_num, by omega, by omega, by omega, Nat.le_refl _, HD1, HS1, HPR⟩
        case round =>
          clear HD0 HS1 HE2 HPR HD1
          obtain ⟨i, j, dk, rfl, rfl, hai, hij, hjm, hkk, HDK, HD, HQ⟩ := hrel
          go_upto_block 6 with fail
          go_cut [12] from 105 to 162 (fun s wx => ∃ t : Nat, s = .int .i64 t ∧ i ≤ t ∧ t ≤ j + 2 ∧ Hid (RowSt w b l.length dk wx) ∧ Hid (t = scanUp (fun x => tlt l x dk[a]!) dk j i))
          case first =>
            go_wp2_with fail
            go_loopg [12] (j + 1 - i) (fun k s wi => ∃ t : Nat, s = .int .i64 t ∧ i ≤ t ∧ t ≤ j + 2 ∧ j + 1 - t ≤ k ∧ Hid (RowSt w b l.length dk wi) ∧ Hid (scanUp (fun x => tlt l x dk[a]!) dk j t = scanUp (fun x => tlt l x dk[a]!) dk j i))
            case atStart => exact ⟨i, rfl, by omega, by omega, by omega, HD, Lib.hid rfl⟩
            case round =>
              obtain ⟨t, rfl, ht1, ht2, htk, HI, HU⟩ := hrel
              by_cases ht : t ≤ j
              · have htz : (t : Int) ≤ (j : Int) := by omega
                have htd : decide ((t : Int) ≤ (j : Int)) = true := decide_eq_true htz
                have ha1 : (0 : Int) ≤ (t : Int) := by omega
                have hz1 : (t : Int) < (n : Int) := by omega
                have ht1 : ((t : Int)).toNat = t := by omega
                have hw1 : IntKind.i64.wrap ((t : Int)) = (t : Int) := by rw [IntKind.wrap_i64]; omega

                have ha0 : (0 : Int) ≤ (a : Int) := by omega
                have hz0 : (a : Int) < (n : Int) := by omega
                have ht0 : ((a : Int)).toNat = a := by omega
                have hw0 : IntKind.i64.wrap ((a : Int)) = (a : Int) := by rw [IntKind.wrap_i64]; omega

                have hp1 : t < dk.size := by rw [HDK.out]; omega
                have hp0 : a < dk.size := by rw [HDK.out]; omega
                have hless := Lib.hid (HI.out.drew.less HSL.out hp1 hp0)
                have c1 := HI.out.cell (t) hp1
                have c0 := HI.out.cell (a) hp0
                have f1 := HI.out.free (t) hp1
                have f0 := HI.out.free (a) hp0
                obtain ⟨x, hx⟩ : ∃ x, x = dk[t]! := ⟨_, rfl⟩
                obtain ⟨y, hy⟩ : ∃ y, y = dk[a]! := ⟨_, rfl⟩
                rw [← hx, ← hy] at hless
                rw [← hx] at c1
                rw [← hy] at c0
                have HX := Lib.hid hx
                have HY := Lib.hid hy
                clear hx hy
                go_wp2_with fail
                go_still_tail 13, (by kernel_rfl)
                go_wp2_with fail
                refine hless.out.mono ?_
                rintro e w1 ⟨rfl, hb1⟩
                have HD1 := Lib.hid (HI.out.drew.next hb1)
                clear hb1 hless c1 c0 f1 f0
                by_cases hcmp : (keyAt l x).cmp (keyAt l y) < 0
                · have hl : tlt l dk[t]! dk[a]! = true := by rw [← HX.out, ← HY.out]; exact decide_eq_true hcmp
                  have hv := hl
                  have HU2 := Lib.hid ((up_go (p := fun x => tlt l x dk[a]!) (d := dk) ht hv).symm.trans HU.out)
                  clear hl hv
                  go_wp2_with fail
                  go_roundg (j + 1 - (t + 1))
                  case measure => omega
                  case rel => exact ⟨t + 1, by go_num, by omega, by omega, by omega, HD1, HU2⟩
                · have hl : tlt l dk[t]! dk[a]! = false := by rw [← HX.out, ← HY.out]; exact decide_eq_false hcmp
                  have hv := hl
                  have hcd : decide ((keyAt l x).cmp (keyAt l y) < 0) = false := decide_eq_false hcmp
                  have HU2 := Lib.hid ((up_stop (p := fun x => tlt l x dk[a]!) (d := dk) (.inr hv)).symm.trans HU.out)
                  clear hl hv
                  go_wp2_with fail
                  go_meet
                  exact ⟨t, rfl, by omega, by omega, HD1, HU2⟩
              · have htz : ¬ (t : Int) ≤ (j : Int) := by omega
                have htd : decide ((t : Int) ≤ (j : Int)) = false := decide_eq_false htz
                have HU2 := Lib.hid ((up_stop (p := fun x => tlt l x dk[a]!) (d := dk) (.inl ht)).symm.trans HU.out)
                go_wp2_with fail
                go_quiet (fail)
                have HD1 := Lib.hid (HI.out.drewN nq)
                revert HD1
                generalize wr.drewN nq = w1
                intro HD1
                go_wp2_with fail
                go_meet
                exact ⟨t, rfl, by omega, by omega, HD1, HU2⟩
          case rest =>
            obtain ⟨i2, rfl, hi21, hi22, Hi2D, Hi2U⟩ := hcut
            go_upto_block 8 with fail
            go_cut [13] from 105 to 162 (fun s wx => ∃ t : Nat, s = .int .i64 t ∧ t ≤ j ∧ i2 ≤ t + 2 ∧ Hid (RowSt w b l.length dk wx) ∧ Hid (t = scanDown (fun x => !tlt l x dk[a]!) dk i2 j))
            case first =>
              go_wp2_with fail
              go_loopg [13] (j + 1 - i2) (fun k s wi => ∃ t : Nat, s = .int .i64 t ∧ t ≤ j ∧ i2 ≤ t + 2 ∧ t + 1 - i2 ≤ k ∧ Hid (RowSt w b l.length dk wi) ∧ Hid (scanDown (fun x => !tlt l x dk[a]!) dk i2 t = scanDown (fun x => !tlt l x dk[a]!) dk i2 j))
              case atStart => exact ⟨j, rfl, by omega, by omega, by omega, Hi2D, Lib.hid rfl⟩
              case round =>
                obtain ⟨t, rfl, ht1, ht2, htk, HI, HU⟩ := hrel
                by_cases ht : i2 ≤ t
                · have htz : (i2 : Int) ≤ (t : Int) := by omega
                  have htd : decide ((i2 : Int) ≤ (t : Int)) = true := decide_eq_true htz
                  have ha1 : (0 : Int) ≤ (t : Int) := by omega
                  have hz1 : (t : Int) < (n : Int) := by omega
                  have ht1 : ((t : Int)).toNat = t := by omega
                  have hw1 : IntKind.i64.wrap ((t : Int)) = (t : Int) := by rw [IntKind.wrap_i64]; omega

                  have ha0 : (0 : Int) ≤ (a : Int) := by omega
                  have hz0 : (a : Int) < (n : Int) := by omega
                  have ht0 : ((a : Int)).toNat = a := by omega
                  have hw0 : IntKind.i64.wrap ((a : Int)) = (a : Int) := by rw [IntKind.wrap_i64]; omega

                  have hp1 : t < dk.size := by rw [HDK.out]; omega
                  have hp0 : a < dk.size := by rw [HDK.out]; omega
                  have hless := Lib.hid (HI.out.drew.less HSL.out hp1 hp0)
                  have c1 := HI.out.cell (t) hp1
                  have c0 := HI.out.cell (a) hp0
                  have f1 := HI.out.free (t) hp1
                  have f0 := HI.out.free (a) hp0
                  obtain ⟨x, hx⟩ : ∃ x, x = dk[t]! := ⟨_, rfl⟩
                  obtain ⟨y, hy⟩ : ∃ y, y = dk[a]! := ⟨_, rfl⟩
                  rw [← hx, ← hy] at hless
                  rw [← hx] at c1
                  rw [← hy] at c0
                  have HX := Lib.hid hx
                  have HY := Lib.hid hy
                  clear hx hy
                  go_wp2_with fail
                  go_still_tail 13, (by kernel_rfl)
                  go_wp2_with fail
                  refine hless.out.mono ?_
                  rintro e w1 ⟨rfl, hb1⟩
                  have HD1 := Lib.hid (HI.out.drew.next hb1)
                  clear hb1 hless c1 c0 f1 f0
                  by_cases hcmp : (keyAt l x).cmp (keyAt l y) < 0
                  · have hl : tlt l dk[t]! dk[a]! = true := by rw [← HX.out, ← HY.out]; exact decide_eq_true hcmp
                    have hv : (!tlt l dk[t]! dk[a]!) = false := by rw [hl]; rfl
                    have HU2 := Lib.hid ((down_stop (p := fun x => !tlt l x dk[a]!) (d := dk) (.inr hv)).symm.trans HU.out)
                    clear hl hv
                    go_wp2_with fail
                    go_meet
                    exact ⟨t, rfl, by omega, by omega, HD1, HU2⟩
                  · have hl : tlt l dk[t]! dk[a]! = false := by rw [← HX.out, ← HY.out]; exact decide_eq_false hcmp
                    have hv : (!tlt l dk[t]! dk[a]!) = true := by rw [hl]; rfl
                    have hcd : decide ((keyAt l x).cmp (keyAt l y) < 0) = false := decide_eq_false hcmp
                    have HU2 := Lib.hid ((down_go (p := fun x => !tlt l x dk[a]!) (d := dk) (by omega) ht hv).symm.trans HU.out)
                    clear hl hv
                    go_wp2_with fail
                    go_roundg ((t - 1) + 1 - i2)
                    case measure => omega
                    case rel => exact ⟨t - 1, by go_num, by omega, by omega, by omega, HD1, HU2⟩
                · have htz : ¬ (i2 : Int) ≤ (t : Int) := by omega
                  have htd : decide ((i2 : Int) ≤ (t : Int)) = false := decide_eq_false htz
                  have HU2 := Lib.hid ((down_stop (p := fun x => !tlt l x dk[a]!) (d := dk) (.inl ht)).symm.trans HU.out)
                  go_wp2_with fail
                  go_quiet (fail)
                  have HD1 := Lib.hid (HI.out.drewN nq)
                  revert HD1
                  generalize wr.drewN nq = w1
                  intro HD1
                  go_wp2_with fail
                  go_meet
                  exact ⟨t, rfl, by omega, by omega, HD1, HU2⟩
            case rest =>
              obtain ⟨j2, rfl, hj21, hj22, Hj2D, Hj2U⟩ := hcut
              have HEQ := Lib.hid ((partLoop_eq (tlt l) a i j dk).symm.trans HQ.out)
              have HEQ2 := Lib.hid (show (if i2 > j2 then (j2, dk) else partLoop (tlt l) a (i2 + 1) (j2 - 1) (swp dk i2 j2)) = (pj, pd) by
                have h := HEQ.out
                rw [← Hi2U.out, ← Hj2U.out] at h
                exact h)
              clear HEQ
              by_cases hgt : i2 > j2
              · have HF := Lib.hid (show j2 = pj ∧ dk = pd by have h := HEQ2.out; rw [if_pos hgt] at h; exact ⟨congrArg Prod.fst h, congrArg Prod.snd h⟩)
                have hgz : (j2 : Int) < (i2 : Int) := by omega
                have hgd : decide ((i2 : Int) > (j2 : Int)) = true := decide_eq_true hgz
                go_wp2_with fail
                have hp1 : j2 < dk.size := by rw [HDK.out]; omega
                have hp0 : a < dk.size := by rw [HDK.out]; omega
                obtain ⟨x, hx⟩ : ∃ x, x = dk[j2]! := ⟨_, rfl⟩
                obtain ⟨y, hy⟩ : ∃ y, y = dk[a]! := ⟨_, rfl⟩
                have HX := Lib.hid hx
                have HY := Lib.hid hy
                clear hx hy

                have ha1 : (0 : Int) ≤ (j2 : Int) := by omega
                have hz1 : (j2 : Int) < (n : Int) := by omega
                have ht1 : ((j2 : Int)).toNat = j2 := by omega
                have hw1 : IntKind.i64.wrap ((j2 : Int)) = (j2 : Int) := by rw [IntKind.wrap_i64]; omega

                have ha0 : (0 : Int) ≤ (a : Int) := by omega
                have hz0 : (a : Int) < (n : Int) := by omega
                have ht0 : ((a : Int)).toNat = a := by omega
                have hw0 : IntKind.i64.wrap ((a : Int)) = (a : Int) := by rw [IntKind.wrap_i64]; omega

                have HS1 := Lib.hid (Hj2D.out.swap hp1 hp0)
                have c1 := Hj2D.out.cell (j2) hp1
                have c0 := Hj2D.out.cell (a) hp0
                have f1 := Hj2D.out.free (j2) hp1
                have f0 := Hj2D.out.free (a) hp0
                obtain ⟨u, c2⟩ := Hj2D.out.second hp1 hp0 (.int .i64 y)
                rw [← HX.out] at c1
                rw [← HY.out] at c0
                rw [← HX.out, ← HY.out] at HS1

                go_big_region
                clear c1 c0 f1 f0 c2
                revert HS1
                generalize ((wc.setCell ⟨b, j2, none⟩ (.int .i64 y)).setCell ⟨b, a, none⟩ (.int .i64 x)).drew = w2
                intro HS1
                go_wp2_with fail
                go_ret2
                rw [HE3.out, ← HF.out.1, ← HF.out.2]
                exact ⟨rfl, HS1.out⟩
              · have HF := Lib.hid (show partLoop (tlt l) a (i2 + 1) (j2 - 1) (swp dk i2 j2) = (pj, pd) by have h := HEQ2.out; rw [if_neg hgt] at h; exact h)
                have hgz : ¬ (j2 : Int) < (i2 : Int) := by omega
                have hgd : decide ((i2 : Int) > (j2 : Int)) = false := decide_eq_false hgz
                have hp1 : i2 < dk.size := by rw [HDK.out]; omega
                have hp0 : j2 < dk.size := by rw [HDK.out]; omega
                obtain ⟨x, hx⟩ : ∃ x, x = dk[i2]! := ⟨_, rfl⟩
                obtain ⟨y, hy⟩ : ∃ y, y = dk[j2]! := ⟨_, rfl⟩
                have HX := Lib.hid hx
                have HY := Lib.hid hy
                clear hx hy

                have ha1 : (0 : Int) ≤ (i2 : Int) := by omega
                have hz1 : (i2 : Int) < (n : Int) := by omega
                have ht1 : ((i2 : Int)).toNat = i2 := by omega
                have hw1 : IntKind.i64.wrap ((i2 : Int)) = (i2 : Int) := by rw [IntKind.wrap_i64]; omega

                have ha0 : (0 : Int) ≤ (j2 : Int) := by omega
                have hz0 : (j2 : Int) < (n : Int) := by omega
                have ht0 : ((j2 : Int)).toNat = j2 := by omega
                have hw0 : IntKind.i64.wrap ((j2 : Int)) = (j2 : Int) := by rw [IntKind.wrap_i64]; omega

                have HS1 := Lib.hid (Hj2D.out.swap hp1 hp0)
                have c1 := Hj2D.out.cell (i2) hp1
                have c0 := Hj2D.out.cell (j2) hp0
                have f1 := Hj2D.out.free (i2) hp1
                have f0 := Hj2D.out.free (j2) hp0
                obtain ⟨u, c2⟩ := Hj2D.out.second hp1 hp0 (.int .i64 y)
                rw [← HX.out] at c1
                rw [← HY.out] at c0
                rw [← HX.out, ← HY.out] at HS1
                go_wp2_with fail

                go_big_region
                clear c1 c0 f1 f0 c2
                revert HS1
                generalize ((wc.setCell ⟨b, i2, none⟩ (.int .i64 y)).setCell ⟨b, j2, none⟩ (.int .i64 x)).drew = w2
                intro HS1

                go_wp2_with fail
                go_roundg ((j2 - 1) + 1 - (i2 + 1))
                case measure => omega
                case rel => exact ⟨i2 + 1, j2 - 1, swp dk i2 j2, by go_num, by go_num, by omega, by omega, by omega, by omega, Lib.hid (by rw [swp_size]; exact HDK.out), HS1, HF⟩
end Go.Proofs.Ytpiflkgjmncijaa
