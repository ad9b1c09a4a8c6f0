/-
  The library's sorting of a row of places: the pivot.
-/
import Derived.Test.YtpiflkgjmncijaaPdqC
namespace Go.Proofs.Ytpiflkgjmncijaa
open Go.RowKit Go.Sort

theorem order2_lt (lt : Int → Int → Bool) (d : Array Int) {a b n : Nat} (s : Nat) (ha : a < n) (hb : b < n) : (order2 lt d a b s).1 < n ∧ (order2 lt d a b s).2.1 < n := by
  rcases order2_mem lt d a b s with ⟨h1, h2⟩ | ⟨h1, h2⟩ <;> rw [h1, h2] <;> omega

set_option maxRecDepth 100000 in
set_option maxHeartbeats 4000000 in
theorem median_any (l : List Tm) (sv : Value) (d : Array Int) (b cap sb s p q r : Nat) (w W : World) (hS : PivSt w b l.length d sb s W) (hsl : Tm.sliceIn w w.heap.size l sv) (hp : p < d.size) (hq : q < d.size) (hr : r < d.size) (hs : s ≤ 900) (hsz : d.size ≤ 1000000) :
    Calls Try.prog 96 #[.slice (some ⟨b, 0, none⟩) d.size cap, .int .i64 p, .int .i64 q, .int .i64 r, .pointer (some ⟨sb, 0, none⟩), .func (.func 45) #[sv] #[]] W
      fun e W' => e = .returned (.int .i64 (median (tlt l) d p q r s).1) ∧ PivSt w b l.length d sb (median (tlt l) d p q r s).2 W' := by
  have HS := Lib.hid hS
  have HSL := Lib.hid hsl
  clear hS hsl
  obtain ⟨a1, b1, s1, h1⟩ : ∃ a1 b1 s1, order2 (tlt l) d p q s = (a1, b1, s1) := ⟨_, _, _, rfl⟩
  obtain ⟨b2, c2, s2, h2⟩ : ∃ b2 c2 s2, order2 (tlt l) d b1 r s1 = (b2, c2, s2) := ⟨_, _, _, rfl⟩
  obtain ⟨a3, b3, s3, h3⟩ : ∃ a3 b3 s3, order2 (tlt l) d a1 b2 s2 = (a3, b3, s3) := ⟨_, _, _, rfl⟩
  have hm : median (tlt l) d p q r s = (b3, s3) := by simp only [median, h1, h2, h3]
  have m1 := order2_lt (tlt l) d s hp hq
  have n1 := order2_count (lt := tlt l) d p q s
  rw [h1] at m1 n1
  simp only [] at m1 n1
  have m2 := order2_lt (tlt l) d s1 m1.2 hr
  have n2 := order2_count (lt := tlt l) d b1 r s1
  rw [h2] at m2 n2
  simp only [] at m2 n2
  have c1 := order2_any l sv d b cap sb s p q w W HS.out HSL.out hp hq (by omega) hsz
  rw [h1] at c1
  have k2 := fun W1 (h : PivSt w b l.length d sb s1 W1) => order2_any l sv d b cap sb s1 b1 r w W1 h HSL.out m1.2 hr (by omega) hsz
  rw [h2] at k2
  have k3 := fun W1 (h : PivSt w b l.length d sb s2 W1) => order2_any l sv d b cap sb s2 a1 b2 w W1 h HSL.out m1.1 m2.1 (by omega) hsz
  rw [h3] at k3
  rw [hm]
  have C1 := Lib.hid c1
  have C2 := Lib.hid k2
  have C3 := Lib.hid k3
  clear c1 k2 k3 m1 m2 n1 n2 h1 h2 h3 hm
  obtain ⟨n, hn⟩ : ∃ n, n = d.size := ⟨_, rfl⟩
  rw [← hn] at C1 C2 C3 ⊢
  clear hn
  go_enter Try.func96, Try.ntmps96
  go_wp2_with fail
  refine C1.out.mono ?_
  rintro e w1 ⟨rfl, h1⟩
  have H1 := Lib.hid h1
  clear h1
  go_wp2_with fail
  refine (C2.out w1 H1.out).mono ?_
  rintro e w2 ⟨rfl, h2⟩
  have H2 := Lib.hid h2
  clear h2
  go_wp2_with fail
  refine (C3.out w2 H2.out).mono ?_
  rintro e w3 ⟨rfl, h3⟩
  have H3 := Lib.hid h3
  clear h3
  go_wp2_with fail
  go_ret
  exact ⟨rfl, H3.out⟩

set_option maxRecDepth 100000 in
set_option maxHeartbeats 4000000 in
theorem adjacent_any (l : List Tm) (sv : Value) (d : Array Int) (b cap sb s p : Nat) (w W : World) (hS : PivSt w b l.length d sb s W) (hsl : Tm.sliceIn w w.heap.size l sv) (hp1 : 1 ≤ p) (hp : p + 1 < d.size) (hs : s ≤ 900) (hsz : d.size ≤ 1000000) :
    Calls Try.prog 95 #[.slice (some ⟨b, 0, none⟩) d.size cap, .int .i64 p, .pointer (some ⟨sb, 0, none⟩), .func (.func 45) #[sv] #[]] W
      fun e W' => e = .returned (.int .i64 (medianAdjacent (tlt l) d p s).1) ∧ PivSt w b l.length d sb (medianAdjacent (tlt l) d p s).2 W' := by
  have hc := median_any l sv d b cap sb s (p - 1) p (p + 1) w W hS hsl (by omega) (by omega) hp hs hsz
  obtain ⟨m, s1, hm⟩ : ∃ m s1, median (tlt l) d (p - 1) p (p + 1) s = (m, s1) := ⟨_, _, rfl⟩
  have hm2 : medianAdjacent (tlt l) d p s = (m, s1) := hm
  rw [hm] at hc
  rw [hm2]
  rw [show ((p - 1 : Nat) : Int) = (p : Int) - 1 by omega, show ((p + 1 : Nat) : Int) = (p : Int) + 1 by omega] at hc
  obtain ⟨n, hn⟩ : ∃ n, n = d.size := ⟨_, rfl⟩
  rw [← hn] at hc hp hsz ⊢
  have HC := Lib.hid hc
  clear hc hm hm2 hS hsl hn
  go_enter Try.func95, Try.ntmps95
  go_wp2_with fail
  refine HC.out.mono ?_
  rintro e w1 ⟨rfl, h1⟩
  have H1 := Lib.hid h1
  clear h1
  go_wp2_with fail
  go_ret
  exact ⟨rfl, H1.out⟩

theorem rowSt_alloc {w : World} {b N : Nat} {d : Array Int} {W : World} (h : RowSt w b N d W) (hd : 0 < d.size) : PivSt w b N d W.heap.size 0 (W.alloc (.cells #[.int .i64 0] 3)) where
  row := h.next ((Below.refl _ _).alloc (Nat.le_refl _) _)
  hs := h.below.size
  ne := by have := h.lt hd; omega
  cell := by simp
  free := by rw [World.frozen?_alloc_at _ _ _ _ rfl]

theorem of_beq_int {x y : Int} (h : (x == y) = true) : x = y := by simpa using h
theorem of_bne_int {x y : Int} (h : (x == y) = false) : x ≠ y := by simpa using h

set_option maxRecDepth 100000 in
set_option maxHeartbeats 4000000 in
theorem pivot_any (l : List Tm) (sv : Value) (d : Array Int) (b cap a z : Nat) (w W : World) (hS : RowSt w b l.length d W) (hsl : Tm.sliceIn w w.heap.size l sv) (haz : a < z) (hb : z ≤ d.size) (hsz : d.size ≤ 1000000) :
    Calls Try.prog 85 #[.slice (some ⟨b, 0, none⟩) d.size cap, .int .i64 a, .int .i64 z, .func (.func 45) #[sv] #[]] W
      fun e W' => e = .returned (.tuple #[.int .i64 (choosePivot (tlt l) d a z).1, .int .i64 (hintCode (choosePivot (tlt l) d a z).2)]) ∧ RowSt w b l.length d W' := by
  have h0 := rowSt_alloc hS (by omega)
  have HSL := Lib.hid hsl
  clear hS hsl
  rw [choosePivot_eq]
  obtain ⟨I, hI⟩ : ∃ I : Nat, I = a + (z - a) / 4 * 1 := ⟨_, rfl⟩
  obtain ⟨J, hJ⟩ : ∃ J : Nat, J = a + (z - a) / 4 * 2 := ⟨_, rfl⟩
  obtain ⟨K, hK⟩ : ∃ K : Nat, K = a + (z - a) / 4 * 3 := ⟨_, rfl⟩
  have eI : ((a : Int) + ((z : Int) - (a : Int)) / 4) = (I : Int) := by omega
  have eJ : ((a : Int) + ((z : Int) - (a : Int)) / 4 * 2) = (J : Int) := by omega
  have eK : ((a : Int) + ((z : Int) - (a : Int)) / 4 * 3) = (K : Int) := by omega
  have MA := fun x s W1 (h : PivSt w b l.length d W.heap.size s W1) h1 h2 hs => adjacent_any l sv d b cap W.heap.size s x w W1 h HSL.out h1 h2 hs hsz
  have MD := fun x y v s W1 (h : PivSt w b l.length d W.heap.size s W1) h1 h2 h3 hs => median_any l sv d b cap W.heap.size s x y v w W1 h HSL.out h1 h2 h3 hs hsz
  have H0 := Lib.hid h0
  clear h0
  by_cases h8 : z - a ≥ 8
  · by_cases h50 : z - a ≥ 50
    · obtain ⟨i1, s1, h1⟩ : ∃ i1 s1, medianAdjacent (tlt l) d I 0 = (i1, s1) := ⟨_, _, rfl⟩
      obtain ⟨j1, s2, h2⟩ : ∃ j1 s2, medianAdjacent (tlt l) d J s1 = (j1, s2) := ⟨_, _, rfl⟩
      obtain ⟨k1, s3, h3⟩ : ∃ k1 s3, medianAdjacent (tlt l) d K s2 = (k1, s3) := ⟨_, _, rfl⟩
      obtain ⟨p, s, h4⟩ : ∃ p s, median (tlt l) d i1 j1 k1 s3 = (p, s) := ⟨_, _, rfl⟩
      have hraw : rawPivot (tlt l) d a z = (p, s) := by simp only [rawPivot, if_pos h8, if_pos h50, ← hI, ← hJ, ← hK, h1, h2, h3, h4]
      have m1 := medianAdjacent_mem (tlt l) d I 0; rw [h1] at m1
      have m2 := medianAdjacent_mem (tlt l) d J s1; rw [h2] at m2
      have m3 := medianAdjacent_mem (tlt l) d K s2; rw [h3] at m3
      have n1 := medianAdjacent_count (tlt l) d I 0; rw [h1] at n1
      have n2 := medianAdjacent_count (tlt l) d J s1; rw [h2] at n2
      have n3 := medianAdjacent_count (tlt l) d K s2; rw [h3] at n3
      simp only [] at m1 m2 m3 n1 n2 n3
      have c1 := fun W1 (h : PivSt w b l.length d W.heap.size 0 W1) => MA I 0 W1 h (by omega) (by omega) (by omega); rw [h1] at c1
      have c2 := fun W1 (h : PivSt w b l.length d W.heap.size s1 W1) => MA J s1 W1 h (by omega) (by omega) (by omega); rw [h2] at c2
      have c3 := fun W1 (h : PivSt w b l.length d W.heap.size s2 W1) => MA K s2 W1 h (by omega) (by omega) (by omega); rw [h3] at c3
      have c4 := fun W1 (h : PivSt w b l.length d W.heap.size s3 W1) => MD i1 j1 k1 s3 W1 h (by omega) (by omega) (by omega) (by omega); rw [h4] at c4
      have HH := Lib.hid (rfl : hintOf s = hintOf s)
      rw [hraw]
      obtain ⟨n, hn⟩ : ∃ n, n = d.size := ⟨_, rfl⟩
      rw [← hn] at c1 c2 c3 c4 hb hsz ⊢
      have C1 := Lib.hid c1
      have C2 := Lib.hid c2
      have C3 := Lib.hid c3
      have C4 := Lib.hid c4
      clear h1 h2 h3 h4 MA MD hI hJ hK m1 m2 m3 c1 c2 c3 c4 n1 n2 n3 hraw hn
      go_enter Try.func85, Try.ntmps85
      go_wp2_with fail

      refine (C1.out _ H0.out).mono ?_
      rintro e w1 ⟨rfl, h1⟩
      have H1 := Lib.hid h1
      clear h1
      go_wp2_with fail

      refine (C2.out _ H1.out).mono ?_
      rintro e w2 ⟨rfl, h2⟩
      have H2 := Lib.hid h2
      clear h2
      go_wp2_with fail

      refine (C3.out _ H2.out).mono ?_
      rintro e w3 ⟨rfl, h3⟩
      have H3 := Lib.hid h3
      clear h3
      go_wp2_with fail

      refine (C4.out _ H3.out).mono ?_
      rintro e w4 ⟨rfl, h4⟩
      have HE := Lib.hid h4
      clear h4
      have k0 := HE.out.cell
      go_wp2_with fail

      all_goals
        go_ret2
        refine ⟨?_, HE.out.row⟩
        first
          | (have e0 : (s : Int) = 0 := of_beq_int (by assumption)
             obtain rfl : s = 0 := by omega
             rfl)
          | (have e1 : (s : Int) = 12 := of_beq_int (by assumption)
             obtain rfl : s = 12 := by omega
             rfl)
          | (have e0 : (s : Int) ≠ 0 := of_bne_int (by assumption)
             have e1 : (s : Int) ≠ 12 := of_bne_int (by assumption)
             show _ = Ending.returned (.tuple #[.int .i64 (p : Int), .int .i64 (hintCode (hintOf s))])
             unfold hintOf
             rw [if_neg (by omega), if_neg (by omega)]
             rfl)
    · obtain ⟨p, s, h4⟩ : ∃ p s, median (tlt l) d I J K 0 = (p, s) := ⟨_, _, rfl⟩
      have hraw : rawPivot (tlt l) d a z = (p, s) := by simp only [rawPivot, if_pos h8, if_neg h50, ← hI, ← hJ, ← hK, h4]
      have c4 := fun W1 (h : PivSt w b l.length d W.heap.size 0 W1) => MD I J K 0 W1 h (by omega) (by omega) (by omega) (by omega); rw [h4] at c4
      rw [hraw]
      obtain ⟨n, hn⟩ : ∃ n, n = d.size := ⟨_, rfl⟩
      rw [← hn] at c4 hb hsz ⊢
      have C4 := Lib.hid c4
      clear h4 MA MD hI hJ hK c4 hraw hn
      go_enter Try.func85, Try.ntmps85
      go_wp2_with fail

      refine (C4.out _ H0.out).mono ?_
      rintro e w4 ⟨rfl, h4⟩
      have HE := Lib.hid h4
      clear h4
      have k0 := HE.out.cell
      go_wp2_with fail

      all_goals
        go_ret2
        refine ⟨?_, HE.out.row⟩
        first
          | (have e0 : (s : Int) = 0 := of_beq_int (by assumption)
             obtain rfl : s = 0 := by omega
             rfl)
          | (have e1 : (s : Int) = 12 := of_beq_int (by assumption)
             obtain rfl : s = 12 := by omega
             rfl)
          | (have e0 : (s : Int) ≠ 0 := of_bne_int (by assumption)
             have e1 : (s : Int) ≠ 12 := of_bne_int (by assumption)
             show _ = Ending.returned (.tuple #[.int .i64 (p : Int), .int .i64 (hintCode (hintOf s))])
             unfold hintOf
             rw [if_neg (by omega), if_neg (by omega)]
             rfl)
  · obtain ⟨p, hp⟩ : ∃ p : Nat, p = J := ⟨_, rfl⟩
    have hraw : rawPivot (tlt l) d a z = (p, 0) := by simp only [rawPivot, if_neg h8, ← hJ, hp]
    rw [hraw]
    subst hp
    clear MA MD hI hJ hK hraw
    have k0 := H0.out.cell
    go_enter Try.func85, Try.ntmps85
    go_wp2_with fail

    go_ret2
    exact ⟨rfl, H0.out.row⟩
end Go.Proofs.Ytpiflkgjmncijaa
