/-
  The library's sorting of a row of places: heap sort.
-/
import Derived.Test.YtpiflkgjmncijaaPdqA
import Derived.Sort.WalkB3
namespace Go.Proofs.Ytpiflkgjmncijaa
open Go.RowKit Go.Sort

theorem half_of (m : Nat) : ((m : Int) - 1).tdiv 2 + 1 = (((m - 1) / 2 + 1 : Nat) : Int) := by
  by_cases h : m = 0
  · subst h
    decide
  · rw [Int.tdiv_eq_ediv_of_nonneg (by omega)]
    omega

set_option maxRecDepth 100000 in
set_option maxHeartbeats 4000000 in
theorem heap_any (l : List Tm) (sv : Value) (d : Array Int) (b cap a z : Nat) (w W : World) (hS : RowSt w b l.length d W) (hsl : Tm.sliceIn w w.heap.size l sv) (haz : a ≤ z) (hb : z ≤ d.size) (hsz : d.size ≤ 1000000) :
    Calls Try.prog 83 #[.slice (some ⟨b, 0, none⟩) d.size cap, .int .i64 a, .int .i64 z, .func (.func 45) #[sv] #[]] W
      fun e W' => e = .returned (.tuple #[]) ∧ RowSt w b l.length (heapSort (tlt l) d a z) W' := by
  have HS := Lib.hid hS
  have HSL := Lib.hid hsl
  clear hS hsl
  obtain ⟨n, hn⟩ : ∃ n, n = d.size := ⟨_, rfl⟩
  have HN := Lib.hid hn
  rw [← hn] at hb hsz ⊢
  clear hn
  obtain ⟨m, hm⟩ : ∃ m, m = z - a := ⟨_, rfl⟩
  have hmi : (z : Int) - (a : Int) = (m : Int) := by omega
  have HM := Lib.hid hm
  have hmn : a + m ≤ n := by omega
  clear hm
  go_enter Try.func83, Try.ntmps83
  go_wp2_with fail
  go_loopw [11] (fun vi wr => ∃ (k : Nat) (i : Int) (dk : Array Int), vi = .int .i64 i ∧ i + 1 = k ∧ k ≤ (m - 1) / 2 + 1 ∧ Hid (dk.size = n) ∧ Hid (RowSt w b l.length dk wr) ∧ Hid (heapBuild (tlt l) m a k dk = heapBuild (tlt l) m a ((m - 1) / 2 + 1) d)) (fun vi _ => (intOf vi + 1).toNat)
  case atStart => exact ⟨(m - 1) / 2 + 1, ((m : Int) - 1).tdiv 2, d, (by first | rfl | rw [hmi]), half_of m, Nat.le_refl _, Lib.hid HN.out.symm, HS, Lib.hid rfl⟩
  case round =>
    obtain ⟨k, i, dk, rfl, hik, hk, HDK, HD, HQ⟩ := hrel
    by_cases h0 : k = 0
    · subst h0
      obtain rfl : i = -1 := by omega
      have HQ2 := Lib.hid (show heapPop (tlt l) a m dk = heapSort (tlt l) d a z by
        have h : dk = heapBuild (tlt l) m a ((m - 1) / 2 + 1) d := HQ.out
        rw [h, HM.out]
        rfl)
      clear HQ hk hik
      go_wp2_with fail
      go_loopw [12] (fun vi wi => ∃ (k : Nat) (i : Int) (dj : Array Int), vi = .int .i64 i ∧ i + 1 = k ∧ k ≤ m ∧ Hid (dj.size = n) ∧ Hid (RowSt w b l.length dj wi) ∧ Hid (heapPop (tlt l) a k dj = heapSort (tlt l) d a z)) (fun vi _ => (intOf vi + 1).toNat)
      case atStart => exact ⟨m, (m : Int) - 1, dk, rfl, by omega, Nat.le_refl _, HDK, HD, HQ2⟩
      case round =>
        clear HD HDK HQ2 dk
        obtain ⟨k, i, dk, rfl, hik, hk, HDK, HD, HQ⟩ := hrel
        by_cases h0 : k = 0
        · subst h0
          obtain rfl : i = -1 := by omega
          have HQ2 := Lib.hid (show dk = heapSort (tlt l) d a z from HQ.out)
          go_wp2_with fail
          go_end0
          refine ⟨rfl, ?_⟩
          rw [← HQ2.out]
          exact HD.out
        · obtain ⟨j, rfl⟩ : ∃ j, k = j + 1 := ⟨k - 1, by omega⟩
          obtain rfl : i = (j : Int) := by omega
          clear h0 hik
          have HQ2 := Lib.hid (show heapPop (tlt l) a j (siftDown (tlt l) j a 0 (swp dk a (a + j))) = _ from HQ.out)
          clear HQ
          have hp1 : a < dk.size := by rw [HDK.out]; omega
          have hp0 : a + j < dk.size := by rw [HDK.out]; omega
          obtain ⟨x, hx⟩ : ∃ x, x = dk[a]! := ⟨_, rfl⟩
          obtain ⟨y, hy⟩ : ∃ y, y = dk[a + j]! := ⟨_, rfl⟩
          have HX := Lib.hid hx
          have HY := Lib.hid hy
          clear hx hy
          have ha1 : (0 : Int) ≤ (a : Int) := by omega
          have hz1 : (a : Int) < (n : Int) := by omega
          have ht1 : ((a : Int)).toNat = a := by omega
          have hw1 : IntKind.i64.wrap ((a : Int)) = (a : Int) := by rw [IntKind.wrap_i64]; omega

          have ha0 : (0 : Int) ≤ (a : Int) + (j : Int) := by omega
          have hz0 : (a : Int) + (j : Int) < (n : Int) := by omega
          have ht0 : ((a : Int) + (j : Int)).toNat = a + j := by omega
          have hw0 : IntKind.i64.wrap ((a : Int) + (j : Int)) = (a : Int) + (j : Int) := by rw [IntKind.wrap_i64]; omega

          have HS1 := Lib.hid (HD.out.swap hp1 hp0)
          have c1 := HD.out.cell (a) hp1
          have c0 := HD.out.cell (a + j) hp0
          have f1 := HD.out.free (a) hp1
          have f0 := HD.out.free (a + j) hp0
          obtain ⟨u, c2⟩ := HD.out.second hp1 hp0 (.int .i64 y)
          rw [← HX.out] at c1
          rw [← HY.out] at c0
          rw [← HX.out, ← HY.out] at HS1
          go_wp2_with fail

          go_big_region
          clear c1 c0 f1 f0 c2
          revert HS1
          generalize ((wr.setCell ⟨b, a, none⟩ (.int .i64 y)).setCell ⟨b, a + j, none⟩ (.int .i64 x)).drew = w2
          intro HS1
          have hz2 : (swp dk a (a + j)).size = n := by rw [swp_size]; exact HDK.out
          have hcall := sift_any l sv (swp dk a (a + j)) b cap 0 j a w w2 HS1.out HSL.out (by omega) (by rw [hz2]; omega) (by rw [hz2]; exact hsz)
          rw [hz2] at hcall
          have HC := Lib.hid hcall
          have HZ2 := Lib.hid hz2
          clear hcall hz2 HS1
          go_wp2_with fail
          refine HC.out.mono ?_
          rintro e w3 ⟨rfl, hd1⟩
          have HD1 := Lib.hid hd1
          clear hd1
          go_wp2_with fail
          go_roundw
          case rel => exact ⟨j, (j : Int) - 1, siftDown (tlt l) j a 0 (swp dk a (a + j)), by go_num, by omega, by omega, Lib.hid ((size_siftDown (tlt l) j a (j - 0) 0 _ (Nat.le_refl _)).trans HZ2.out), HD1, HQ2⟩
          case measure => simp [intOf]
    · obtain ⟨j, rfl⟩ : ∃ j, k = j + 1 := ⟨k - 1, by omega⟩
      obtain rfl : i = (j : Int) := by omega
      clear h0 hik
      have HQ2 := Lib.hid (show heapBuild (tlt l) m a j (siftDown (tlt l) m a j dk) = _ from HQ.out)
      clear HQ
      have hcall := sift_any l sv dk b cap j m a w wr HD.out HSL.out (by omega) (by rw [HDK.out]; omega) (by rw [HDK.out]; exact hsz)
      rw [HDK.out] at hcall
      have HC := Lib.hid hcall
      clear hcall
      go_wp2_with fail
      refine HC.out.mono ?_
      rintro e w1 ⟨rfl, hd1⟩
      have HD1 := Lib.hid hd1
      clear hd1
      go_wp2_with fail
      go_roundw
      case rel => exact ⟨j, (j : Int) - 1, siftDown (tlt l) m a j dk, by go_num, by omega, by omega, Lib.hid ((size_siftDown (tlt l) m a (m - j) j dk (Nat.le_refl _)).trans HDK.out), HD1, HQ2⟩
      case measure => simp [intOf]
end Go.Proofs.Ytpiflkgjmncijaa
