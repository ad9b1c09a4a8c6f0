/-
  The library's sorting of a row of places: a range of equals is parted off.
-/
import Derived.Test.YtpiflkgjmncijaaPdqA
import Derived.Deep.QuietTactic
import Derived.BigQuiet
import Derived.Sort.LotC
import Derived.Deep.CutBlock
import Derived.Deep.LoopGhost
namespace Go.Proofs.Ytpiflkgjmncijaa
open Go.RowKit Go.Sort

theorem up_go {p : Int → Bool} {d : Array Int} {i j : Nat} (h : i ≤ j) (hp : p d[i]! = true) : scanUp p d j i = scanUp p d j (i + 1) := by
  rw [scanUp]; simp [h, hp]
theorem up_stop {p : Int → Bool} {d : Array Int} {i j : Nat} (h : ¬ i ≤ j ∨ p d[i]! = false) : scanUp p d j i = i := by
  rw [scanUp]
  rcases h with h | h <;> simp [h]
theorem down_go {p : Int → Bool} {d : Array Int} {i j : Nat} (h0 : 0 < j) (h : i ≤ j) (hp : p d[j]! = true) : scanDown p d i j = scanDown p d i (j - 1) := by
  obtain ⟨k, rfl⟩ : ∃ k, j = k + 1 := ⟨j - 1, by omega⟩
  rw [scanDown]; simp [h, hp]
theorem down_stop {p : Int → Bool} {d : Array Int} {i j : Nat} (h : ¬ i ≤ j ∨ p d[j]! = false) : scanDown p d i j = j := by
  cases j with
  | zero => rfl
  | succ k =>
    rw [scanDown]
    rcases h with h | h <;> simp [h]

set_option maxRecDepth 100000 in
set_option maxHeartbeats 4000000 in
theorem equal_any (l : List Tm) (sv : Value) (d : Array Int) (b cap a z q : Nat) (w W : World) (hS : RowSt w b l.length d W) (hsl : Tm.sliceIn w w.heap.size l sv) (haz : a < z) (_hq1 : a ≤ q) (hq2 : q < z) (hb : z ≤ d.size) (hsz : d.size ≤ 1000000) :
    Calls Try.prog 88 #[.slice (some ⟨b, 0, none⟩) d.size cap, .int .i64 a, .int .i64 z, .int .i64 q, .func (.func 45) #[sv] #[]] W
      fun e W' => e = .returned (.int .i64 (partitionEqual (tlt l) d a z q).1) ∧ RowSt w b l.length (partitionEqual (tlt l) d a z q).2 W' := by
  have HS := Lib.hid hS
  have HSL := Lib.hid hsl
  clear hS hsl
  obtain ⟨n, hn⟩ : ∃ n, n = d.size := ⟨_, rfl⟩
  have HDK := Lib.hid hn.symm
  rw [← hn] at hb hsz ⊢
  clear hn
  obtain ⟨m, rfl⟩ : ∃ m, z = m + 1 := ⟨z - 1, by omega⟩
  have HE := Lib.hid (show partitionEqual (tlt l) d a (m + 1) q = partEqLoop (tlt l) a (a + 1) m (swp d a q) from rfl)
  have hp1 : a < d.size := by rw [HDK.out]; omega
  have hp0 : q < d.size := by rw [HDK.out]; omega
  obtain ⟨x, hx⟩ : ∃ x, x = d[a]! := ⟨_, rfl⟩
  obtain ⟨y, hy⟩ : ∃ y, y = d[q]! := ⟨_, rfl⟩
  have HX := Lib.hid hx
  have HY := Lib.hid hy
  clear hx hy
  go_enter Try.func88, Try.ntmps88
  have ha1 : (0 : Int) ≤ (a : Int) := by omega
  have hz1 : (a : Int) < (n : Int) := by omega
  have ht1 : ((a : Int)).toNat = a := by omega
  have hw1 : IntKind.i64.wrap ((a : Int)) = (a : Int) := by rw [IntKind.wrap_i64]; omega

  have ha0 : (0 : Int) ≤ (q : Int) := by omega
  have hz0 : (q : Int) < (n : Int) := by omega
  have ht0 : ((q : Int)).toNat = q := by omega
  have hw0 : IntKind.i64.wrap ((q : Int)) = (q : Int) := by rw [IntKind.wrap_i64]; omega

  have HS1 := Lib.hid (HS.out.swap hp1 hp0)
  have c1 := HS.out.cell (a) hp1
  have c0 := HS.out.cell (q) hp0
  have f1 := HS.out.free (a) hp1
  have f0 := HS.out.free (q) hp0
  obtain ⟨u, c2⟩ := HS.out.second hp1 hp0 (.int .i64 y)
  rw [← HX.out] at c1
  rw [← HY.out] at c0
  rw [← HX.out, ← HY.out] at HS1
  go_wp2_with fail

  go_big_region
  clear c1 c0 f1 f0 c2
  revert HS1
  generalize ((W.setCell ⟨b, a, none⟩ (.int .i64 y)).setCell ⟨b, q, none⟩ (.int .i64 x)).drew = w2
  intro HS1
  have HD0 := Lib.hid (show (swp d a q).size = n by rw [swp_size]; exact HDK.out)
  clear HX HY hp1 hp0 HS
  go_wp2_with fail
  go_loopg [11, 12] (m + 1 - (a + 1)) (fun k s11 s12 wr => ∃ (i j : Nat) (dk : Array Int), s11 = .int .i64 i ∧ s12 = .int .i64 j ∧ a < i ∧ i ≤ j + 2 ∧ j ≤ m ∧ j + 1 - i ≤ k ∧ Hid (dk.size = n) ∧ Hid (RowSt w b l.length dk wr) ∧ Hid (partEqLoop (tlt l) a i j dk = partitionEqual (tlt l) d a (m + 1) q))
  case atStart => exact ⟨a + 1, m, swp d a q, by go_num, by go_num, by omega, by omega, by omega, Nat.le_refl _, HD0, HS1, Lib.hid HE.out.symm⟩
  case round =>
    clear HD0 HS1 HE HDK
    obtain ⟨i, j, dk, rfl, rfl, hai, hij, hjm, hkk, HDK, HD, HQ⟩ := hrel
    go_upto_block 2 with fail
    go_cut [11] from 31 to 88 (fun s wx => ∃ t : Nat, s = .int .i64 t ∧ i ≤ t ∧ t ≤ j + 2 ∧ Hid (RowSt w b l.length dk wx) ∧ Hid (t = scanUp (fun x => !tlt l dk[a]! x) dk j i))
    case first =>
      go_wp2_with fail
      go_loopg [11] (j + 1 - i) (fun k s wi => ∃ t : Nat, s = .int .i64 t ∧ i ≤ t ∧ t ≤ j + 2 ∧ j + 1 - t ≤ k ∧ Hid (RowSt w b l.length dk wi) ∧ Hid (scanUp (fun x => !tlt l dk[a]! x) dk j t = scanUp (fun x => !tlt l dk[a]! x) dk j i))
      case atStart => exact ⟨i, rfl, by omega, by omega, by omega, HD, Lib.hid rfl⟩
      case round =>
        obtain ⟨t, rfl, ht1, ht2, htk, HI, HU⟩ := hrel
        by_cases ht : t ≤ j
        · have htz : (t : Int) ≤ (j : Int) := by omega
          have htd : decide ((t : Int) ≤ (j : Int)) = true := decide_eq_true htz
          have ha1 : (0 : Int) ≤ (a : Int) := by omega
          have hz1 : (a : Int) < (n : Int) := by omega
          have ht1 : ((a : Int)).toNat = a := by omega
          have hw1 : IntKind.i64.wrap ((a : Int)) = (a : Int) := by rw [IntKind.wrap_i64]; omega

          have ha0 : (0 : Int) ≤ (t : Int) := by omega
          have hz0 : (t : Int) < (n : Int) := by omega
          have ht0 : ((t : Int)).toNat = t := by omega
          have hw0 : IntKind.i64.wrap ((t : Int)) = (t : Int) := by rw [IntKind.wrap_i64]; omega

          have hp1 : a < dk.size := by rw [HDK.out]; omega
          have hp0 : t < dk.size := by rw [HDK.out]; omega
          have hless := Lib.hid (HI.out.drew.less HSL.out hp1 hp0)
          have c1 := HI.out.cell (a) hp1
          have c0 := HI.out.cell (t) hp0
          have f1 := HI.out.free (a) hp1
          have f0 := HI.out.free (t) hp0
          obtain ⟨x, hx⟩ : ∃ x, x = dk[a]! := ⟨_, rfl⟩
          obtain ⟨y, hy⟩ : ∃ y, y = dk[t]! := ⟨_, rfl⟩
          rw [← hx, ← hy] at hless
          rw [← hx] at c1
          rw [← hy] at c0
          have HX := Lib.hid hx
          have HY := Lib.hid hy
          clear hx hy
          go_wp2_with fail
          go_still_tail 13, (by kernel_rfl)
          go_wp2_with fail
          refine hless.out.mono ?_
          rintro e w1 ⟨rfl, hb1⟩
          have HD1 := Lib.hid (HI.out.drew.next hb1)
          clear hb1 hless c1 c0 f1 f0
          by_cases hcmp : (keyAt l x).cmp (keyAt l y) < 0
          · have hl : tlt l dk[a]! dk[t]! = true := by rw [← HX.out, ← HY.out]; exact decide_eq_true hcmp
            have hv : (!tlt l dk[a]! dk[t]!) = false := by rw [hl]; rfl
            have HU2 := Lib.hid ((up_stop (p := fun x => !tlt l dk[a]! x) (d := dk) (.inr hv)).symm.trans HU.out)
            clear hl hv
            go_wp2_with fail
            go_meet
            exact ⟨t, rfl, by omega, by omega, HD1, HU2⟩
          · have hl : tlt l dk[a]! dk[t]! = false := by rw [← HX.out, ← HY.out]; exact decide_eq_false hcmp
            have hv : (!tlt l dk[a]! dk[t]!) = true := by rw [hl]; rfl
            have hcd : decide ((keyAt l x).cmp (keyAt l y) < 0) = false := decide_eq_false hcmp
            have HU2 := Lib.hid ((up_go (p := fun x => !tlt l dk[a]! x) (d := dk) ht hv).symm.trans HU.out)
            clear hl hv
            go_wp2_with fail
            go_roundg (j + 1 - (t + 1))
            case measure => omega
            case rel => exact ⟨t + 1, by go_num, by omega, by omega, by omega, HD1, HU2⟩
        · have htz : ¬ (t : Int) ≤ (j : Int) := by omega
          have htd : decide ((t : Int) ≤ (j : Int)) = false := decide_eq_false htz
          have HU2 := Lib.hid ((up_stop (p := fun x => !tlt l dk[a]! x) (d := dk) (.inl ht)).symm.trans HU.out)
          go_wp2_with fail
          go_quiet (fail)
          have HD1 := Lib.hid (HI.out.drewN nq)
          revert HD1
          generalize wr.drewN nq = w1
          intro HD1
          go_wp2_with fail
          go_meet
          exact ⟨t, rfl, by omega, by omega, HD1, HU2⟩
    case rest =>
      obtain ⟨i2, rfl, hi21, hi22, Hi2D, Hi2U⟩ := hcut
      go_upto_block 4 with fail
      go_cut [12] from 31 to 88 (fun s wx => ∃ t : Nat, s = .int .i64 t ∧ t ≤ j ∧ i2 ≤ t + 2 ∧ Hid (RowSt w b l.length dk wx) ∧ Hid (t = scanDown (fun x => tlt l dk[a]! x) dk i2 j))
      case first =>
        go_wp2_with fail
        go_loopg [12] (j + 1 - i2) (fun k s wi => ∃ t : Nat, s = .int .i64 t ∧ t ≤ j ∧ i2 ≤ t + 2 ∧ t + 1 - i2 ≤ k ∧ Hid (RowSt w b l.length dk wi) ∧ Hid (scanDown (fun x => tlt l dk[a]! x) dk i2 t = scanDown (fun x => tlt l dk[a]! x) dk i2 j))
        case atStart => exact ⟨j, rfl, by omega, by omega, by omega, Hi2D, Lib.hid rfl⟩
        case round =>
          obtain ⟨t, rfl, ht1, ht2, htk, HI, HU⟩ := hrel
          by_cases ht : i2 ≤ t
          · have htz : (i2 : Int) ≤ (t : Int) := by omega
            have htd : decide ((i2 : Int) ≤ (t : Int)) = true := decide_eq_true htz
            have ha1 : (0 : Int) ≤ (a : Int) := by omega
            have hz1 : (a : Int) < (n : Int) := by omega
            have ht1 : ((a : Int)).toNat = a := by omega
            have hw1 : IntKind.i64.wrap ((a : Int)) = (a : Int) := by rw [IntKind.wrap_i64]; omega

            have ha0 : (0 : Int) ≤ (t : Int) := by omega
            have hz0 : (t : Int) < (n : Int) := by omega
            have ht0 : ((t : Int)).toNat = t := by omega
            have hw0 : IntKind.i64.wrap ((t : Int)) = (t : Int) := by rw [IntKind.wrap_i64]; omega

            have hp1 : a < dk.size := by rw [HDK.out]; omega
            have hp0 : t < dk.size := by rw [HDK.out]; omega
            have hless := Lib.hid (HI.out.drew.less HSL.out hp1 hp0)
            have c1 := HI.out.cell (a) hp1
            have c0 := HI.out.cell (t) hp0
            have f1 := HI.out.free (a) hp1
            have f0 := HI.out.free (t) hp0
            obtain ⟨x, hx⟩ : ∃ x, x = dk[a]! := ⟨_, rfl⟩
            obtain ⟨y, hy⟩ : ∃ y, y = dk[t]! := ⟨_, rfl⟩
            rw [← hx, ← hy] at hless
            rw [← hx] at c1
            rw [← hy] at c0
            have HX := Lib.hid hx
            have HY := Lib.hid hy
            clear hx hy
            go_wp2_with fail
            go_still_tail 13, (by kernel_rfl)
            go_wp2_with fail
            refine hless.out.mono ?_
            rintro e w1 ⟨rfl, hb1⟩
            have HD1 := Lib.hid (HI.out.drew.next hb1)
            clear hb1 hless c1 c0 f1 f0
            by_cases hcmp : (keyAt l x).cmp (keyAt l y) < 0
            · have hl : tlt l dk[a]! dk[t]! = true := by rw [← HX.out, ← HY.out]; exact decide_eq_true hcmp
              have hv := hl
              have HU2 := Lib.hid ((down_go (p := fun x => tlt l dk[a]! x) (d := dk) (by omega) ht hv).symm.trans HU.out)
              clear hl hv
              go_wp2_with fail
              go_roundg ((t - 1) + 1 - i2)
              case measure => omega
              case rel => exact ⟨t - 1, by go_num, by omega, by omega, by omega, HD1, HU2⟩
            · have hl : tlt l dk[a]! dk[t]! = false := by rw [← HX.out, ← HY.out]; exact decide_eq_false hcmp
              have hv := hl
              have hcd : decide ((keyAt l x).cmp (keyAt l y) < 0) = false := decide_eq_false hcmp
              have HU2 := Lib.hid ((down_stop (p := fun x => tlt l dk[a]! x) (d := dk) (.inr hv)).symm.trans HU.out)
              clear hl hv
              go_wp2_with fail
              go_meet
              exact ⟨t, rfl, by omega, by omega, HD1, HU2⟩
          · have htz : ¬ (i2 : Int) ≤ (t : Int) := by omega
            have htd : decide ((i2 : Int) ≤ (t : Int)) = false := decide_eq_false htz
            have HU2 := Lib.hid ((down_stop (p := fun x => tlt l dk[a]! x) (d := dk) (.inl ht)).symm.trans HU.out)
            go_wp2_with fail
            go_quiet (fail)
            have HD1 := Lib.hid (HI.out.drewN nq)
            revert HD1
            generalize wr.drewN nq = w1
            intro HD1
            go_wp2_with fail
            go_meet
            exact ⟨t, rfl, by omega, by omega, HD1, HU2⟩
      case rest =>
        obtain ⟨j2, rfl, hj21, hj22, Hj2D, Hj2U⟩ := hcut
        have HEQ := Lib.hid ((partEqLoop_eq (tlt l) a i j dk).symm.trans HQ.out)
        have HEQ2 := Lib.hid (show (if i2 > j2 then (i2, dk) else partEqLoop (tlt l) a (i2 + 1) (j2 - 1) (swp dk i2 j2)) = partitionEqual (tlt l) d a (m + 1) q by
          have h := HEQ.out
          rw [← Hi2U.out, ← Hj2U.out] at h
          exact h)
        clear HEQ
        by_cases hgt : i2 > j2
        · have HF := Lib.hid (show (i2, dk) = partitionEqual (tlt l) d a (m + 1) q by have h := HEQ2.out; rw [if_pos hgt] at h; exact h)
          have hgz : (j2 : Int) < (i2 : Int) := by omega
          have hgd : decide ((i2 : Int) > (j2 : Int)) = true := decide_eq_true hgz
          go_wp2_with fail
          go_ret
          rw [← HF.out]
          exact ⟨rfl, Hj2D.out⟩
        · have HF := Lib.hid (show partEqLoop (tlt l) a (i2 + 1) (j2 - 1) (swp dk i2 j2) = partitionEqual (tlt l) d a (m + 1) q by have h := HEQ2.out; rw [if_neg hgt] at h; exact h)
          have hgz : ¬ (j2 : Int) < (i2 : Int) := by omega
          have hgd : decide ((i2 : Int) > (j2 : Int)) = false := decide_eq_false hgz
          have hp1 : i2 < dk.size := by rw [HDK.out]; omega
          have hp0 : j2 < dk.size := by rw [HDK.out]; omega
          obtain ⟨x, hx⟩ : ∃ x, x = dk[i2]! := ⟨_, rfl⟩
          obtain ⟨y, hy⟩ : ∃ y, y = dk[j2]! := ⟨_, rfl⟩
          have HX := Lib.hid hx
          have HY := Lib.hid hy
          clear hx hy
          have ha1 : (0 : Int) ≤ (i2 : Int) := by omega
          have hz1 : (i2 : Int) < (n : Int) := by omega
          have ht1 : ((i2 : Int)).toNat = i2 := by omega
          have hw1 : IntKind.i64.wrap ((i2 : Int)) = (i2 : Int) := by rw [IntKind.wrap_i64]; omega

          have ha0 : (0 : Int) ≤ (j2 : Int) := by omega
          have hz0 : (j2 : Int) < (n : Int) := by omega
          have ht0 : ((j2 : Int)).toNat = j2 := by omega
          have hw0 : IntKind.i64.wrap ((j2 : Int)) = (j2 : Int) := by rw [IntKind.wrap_i64]; omega

          have HS1 := Lib.hid (Hj2D.out.swap hp1 hp0)
          have c1 := Hj2D.out.cell (i2) hp1
          have c0 := Hj2D.out.cell (j2) hp0
          have f1 := Hj2D.out.free (i2) hp1
          have f0 := Hj2D.out.free (j2) hp0
          obtain ⟨u, c2⟩ := Hj2D.out.second hp1 hp0 (.int .i64 y)
          rw [← HX.out] at c1
          rw [← HY.out] at c0
          rw [← HX.out, ← HY.out] at HS1
          go_wp2_with fail

          go_big_region
          clear c1 c0 f1 f0 c2
          revert HS1
          generalize ((wc.setCell ⟨b, i2, none⟩ (.int .i64 y)).setCell ⟨b, j2, none⟩ (.int .i64 x)).drew = w2
          intro HS1

          go_wp2_with fail
          go_roundg ((j2 - 1) + 1 - (i2 + 1))
          case measure => omega
          case rel => exact ⟨i2 + 1, j2 - 1, swp dk i2 j2, by go_num, by go_num, by omega, by omega, by omega, by omega, Lib.hid (by rw [swp_size]; exact HDK.out), HS1, HF⟩
end Go.Proofs.Ytpiflkgjmncijaa
