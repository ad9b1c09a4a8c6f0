/-
  The library's sorting of a row of places: patterns are broken.
-/
import Derived.Test.YtpiflkgjmncijaaPdqL
import Derived.Test.YtpiflkgjmncijaaPdqC
import Derived.Sort.LotD5
import Derived.Laws.Bits64
import Derived.Laws.Bits64b
import Derived.Sort.Walk7
namespace Go.Proofs.Ytpiflkgjmncijaa
open Go.RowKit Go.Sort
set_option maxRecDepth 100000 in
set_option maxHeartbeats 1000000 in
theorem next_any (sb X : Nat) (hX : X < 18446744073709551616) (w : World) (hc : w.cell? ⟨sb, 0, none⟩ = some (.int .u64 X)) (hf : w.frozen? ⟨sb, 0, none⟩ = false) :
    Calls Try.prog 94 #[.pointer (some ⟨sb, 0, none⟩)] w fun e w' => e = .returned (.int .u64 (xorNextN X : Nat)) ∧ w' = (w.setCell ⟨sb, 0, none⟩ (.int .u64 (xorNextN X : Nat))).drewN 3 := by
  obtain ⟨A, hA⟩ : ∃ A : Nat, A = X ^^^ (X * 8192 % 18446744073709551616) := ⟨_, rfl⟩
  obtain ⟨B, hB⟩ : ∃ B : Nat, B = A ^^^ (A / 128) := ⟨_, rfl⟩
  obtain ⟨C, hC⟩ : ∃ C : Nat, C = B ^^^ (B * 131072 % 18446744073709551616) := ⟨_, rfl⟩
  have lA : A < 18446744073709551616 := by rw [hA]; exact Nat.xor_lt_two_pow (n := 64) (by omega) (by omega)
  have lB : B < 18446744073709551616 := by rw [hB]; exact Nat.xor_lt_two_pow (n := 64) (by omega) (by omega)
  have e1 : bits .xor .u64 (X : Int) (IntKind.u64.wrap ((X : Int) * 8192)) = (A : Int) := by
    rw [IntKind.wrap_u64, show ((X : Int) * 8192 % 18446744073709551616) = ((X * 8192 % 18446744073709551616 : Nat) : Int) by omega, bits_xor_u64_nat _ _ hX (by omega), hA]
  have e2 : bits .xor .u64 (A : Int) ((A : Int) / 128) = (B : Int) := by
    rw [show ((A : Int) / 128) = ((A / 128 : Nat) : Int) by omega, bits_xor_u64_nat _ _ lA (by omega), hB]
  have e3 : bits .xor .u64 (B : Int) (IntKind.u64.wrap ((B : Int) * 131072)) = (C : Int) := by
    rw [IntKind.wrap_u64, show ((B : Int) * 131072 % 18446744073709551616) = ((B * 131072 % 18446744073709551616 : Nat) : Int) by omega, bits_xor_u64_nat _ _ lB (by omega), hC]
  have hv : xorNextN X = C := by unfold xorNextN; simp only []; rw [← hA, ← hB, ← hC]
  rw [hv]
  clear hA hB hC hv
  have hss : ∀ v v', (w.setCell ⟨sb, 0, none⟩ v).setCell ⟨sb, 0, none⟩ v' = w.setCell ⟨sb, 0, none⟩ v' := setCell_setCell w sb 0
  go_enter Try.func94, Try.ntmps94
  go_wp2
  go_region
  all_goals go_wp2
  all_goals go_region
  all_goals go_wp2
  all_goals go_region
  all_goals go_wp2
  go_ret
  exact ⟨rfl, rfl⟩

/-- While patterns are broken: the row, and the cell of the numbers. -/
structure RndSt (w : World) (b N : Nat) (d : Array Int) (sb R : Nat) (W : World) : Prop where
  row : RowSt w b N d W
  hs : w.heap.size ≤ sb
  ne : sb ≠ b
  cell : W.cell? ⟨sb, 0, none⟩ = some (.int .u64 R)
  free : W.frozen? ⟨sb, 0, none⟩ = false
theorem RndSt.rowPut {w : World} {b N : Nat} {d : Array Int} {sb R : Nat} {W : World} (h : RndSt w b N d sb R W) (v : Value) : RowSt w b N d (W.setCell ⟨sb, 0, none⟩ v) where
  hb := h.row.hb
  below := h.row.below.setCell (p := ⟨sb, 0, none⟩) h.hs _
  cell := fun i hi => (World.cell?_setCell_other _ _ _ _ (by intro e'; simp only [Addr.mk.injEq] at e'; exact absurd e'.1 (by have := h.ne; omega))).trans (h.row.cell i hi)
  free := fun i hi => by rw [World.frozen?_setCell]; exact h.row.free i hi
  rng := h.row.rng
theorem RndSt.put {w : World} {b N : Nat} {d : Array Int} {sb R : Nat} {W : World} (h : RndSt w b N d sb R W) (t q : Nat) : RndSt w b N d sb t ((W.setCell ⟨sb, 0, none⟩ (.int .u64 t)).drewN q) where
  row := (h.rowPut _).drewN q
  hs := h.hs
  ne := h.ne
  cell := World.cell?_setCell_same _ _ _ h.cell
  free := by show (W.setCell ⟨sb, 0, none⟩ _).frozen? _ = _; rw [World.frozen?_setCell]; exact h.free
theorem RndSt.swap {w : World} {b N : Nat} {d : Array Int} {sb R : Nat} {W : World} (h : RndSt w b N d sb R W) {i j : Nat} (hi : i < d.size) (hj : j < d.size) :
    RndSt w b N (swp d i j) sb R (((W.setCell ⟨b, i, none⟩ (.int .i64 d[j]!)).setCell ⟨b, j, none⟩ (.int .i64 d[i]!)).drew) where
  row := h.row.swap hi hj
  hs := h.hs
  ne := h.ne
  cell := ((World.cell?_setCell_other _ _ _ _ (by intro e'; simp only [Addr.mk.injEq] at e'; exact absurd e'.1 (by have := h.ne; omega))).trans (World.cell?_setCell_other _ _ _ _ (by intro e'; simp only [Addr.mk.injEq] at e'; exact absurd e'.1 (by have := h.ne; omega)))).trans h.cell
  free := by show ((W.setCell ⟨b, i, none⟩ _).setCell ⟨b, j, none⟩ _).frozen? _ = _; rw [World.frozen?_setCell, World.frozen?_setCell]; exact h.free
theorem rndSt_alloc {w : World} {b N : Nat} {d : Array Int} {W : World} (h : RowSt w b N d W) (hd : 0 < d.size) (R : Nat) (T : TypeId) : RndSt w b N d W.heap.size R (W.alloc (.cells #[.int .u64 R] T)) where
  row := h.next ((Below.refl _ _).alloc (Nat.le_refl _) _)
  hs := h.below.size
  ne := by have := h.lt hd; omega
  cell := by simp
  free := by rw [World.frozen?_alloc_at _ _ _ _ rfl]

set_option maxRecDepth 100000 in
set_option maxHeartbeats 4000000 in
theorem breakL_any (N : Nat) (cv : Value) (d : Array Int) (b cap a L : Nat) (w W : World) (hS : RowSt w b N d W) (hb : a + L ≤ d.size) (hsz : d.size ≤ 1000000) (h8 : 8 ≤ L) (hL : L < 256) :
    Calls Try.prog 84 #[.slice (some ⟨b, 0, none⟩) d.size cap, .int .i64 a, .int .i64 ((a + L : Nat) : Int), cv] W
      fun e W' => e = .returned (.tuple #[]) ∧ RowSt w b N (breakPatterns d a (a + L)) W' := by
  have h0 := rndSt_alloc hS (by omega) L 123
  rw [breakPatterns_eq d a L h8]
  obtain ⟨M, hM⟩ : ∃ M : Nat, M = 1 <<< bitsLen L := ⟨_, rfl⟩
  have hM1 : 1 ≤ M := by rw [hM, Nat.one_shiftLeft]; exact Nat.two_pow_pos _
  have hM2 : M ≤ 2 * L := by rw [hM, Nat.one_shiftLeft]; exact two_pow_bitsLen_le (by omega)
  have hNP : ∀ w, Calls Try.prog 93 #[.int .i64 (L : Int)] w fun e w' => e = .returned (.int .u64 (M : Int)) ∧ w = w' := by rw [hM]; exact fun w => power_any L hL w
  rw [← hM]
  clear hM
  obtain ⟨sb, hsb⟩ : ∃ sb, sb = W.heap.size := ⟨_, rfl⟩
  have H0 := Lib.hid h0
  obtain ⟨n, hn⟩ : ∃ n, n = d.size := ⟨_, rfl⟩
  have HN := Lib.hid hn
  rw [← hn] at hb hsz ⊢
  clear hn hS h0
  have hUL : (UInt64.ofNat L).toNat = L := by simp; omega
  have HUL := Lib.hid hUL
  clear hUL
  go_enter Try.func84, Try.ntmps84
  go_wp2_with (first | (go_at_call 93; rw [show ((a : Int) + (L : Int) - (a : Int)) = (L : Int) by omega]; refine (hNP _).mono ?_; rintro e w' ⟨rfl, rfl⟩))
  go_loopw [11] (fun vi wr => ∃ (t : Nat) (r : UInt64) (dk : Array Int), vi = .int .i64 ((a + L / 4 * 2 - 1 + t : Nat) : Int) ∧ t ≤ 3 ∧ Hid (dk.size = n) ∧ Hid (RndSt w b N dk W.heap.size r.toNat wr) ∧
      Hid (bpRest a L M (a + L / 4 * 2 - 1) (3 - t) t (r, dk) = bpRest a L M (a + L / 4 * 2 - 1) 3 0 (UInt64.ofNat L, d))) (fun vi _ => a + L / 4 * 2 + 3 - (intOf vi).toNat)
  case atStart => exact ⟨0, UInt64.ofNat L, d, by congr 1; omega, by omega, Lib.hid HN.out.symm, Lib.hid (by rw [HUL.out]; exact H0.out), Lib.hid rfl⟩
  case round =>
    obtain ⟨t, r, dk, rfl, ht, HDK, HD, HR⟩ := hrel
    by_cases h3 : t < 3
    · obtain ⟨i, hi⟩ : ∃ i, i = a + L / 4 * 2 - 1 + t := ⟨_, rfl⟩
      have HI := Lib.hid hi
      have hi1 : i < n := by omega
      rw [← hi]
      have hi2 : a ≤ i := by omega
      have hi3 : (i : Int) ≤ (a : Int) + (L : Int) / 4 * 2 + 1 := by omega
      clear hi
      obtain ⟨R, hRr⟩ : ∃ R : Nat, R = r.toNat := ⟨_, rfl⟩
      have lR : R < 18446744073709551616 := by rw [hRr]; exact r.toNat_lt
      obtain ⟨R', hR'⟩ : ∃ R' : Nat, R' = xorNextN R := ⟨_, rfl⟩
      have lR' : R' < 18446744073709551616 := by rw [hR']; exact xorNextN_lt R lR
      obtain ⟨O, hO⟩ : ∃ O : Nat, O = R' &&& (M - 1) := ⟨_, rfl⟩
      have lO : O ≤ M - 1 := by rw [hO]; exact Nat.and_le_right
      have eAnd : bits .and .u64 (R' : Int) ((M : Int) - 1) = (O : Int) := by
        rw [show ((M : Int) - 1) = ((M - 1 : Nat) : Int) by omega, bits_and_u64_nat _ _ lR' (by omega), hO]
      have HNx := Lib.hid (show R' = (xorNext r).toNat ∧ O = (xorNext r).toNat &&& (M - 1) by
        have e : R' = (xorNext r).toNat := by rw [hR', hRr, xorNext_toNat]
        exact ⟨e, by rw [hO, e]⟩)
      have hD := HD.out
      rw [← hRr] at hD
      have hNext := next_any W.heap.size R lR wr hD.cell hD.free
      rw [← hR'] at hNext
      have HD2 := Lib.hid (hD.put R' 3)
      have HNX := Lib.hid hNext
      clear hNext hD hRr hR' hO HD
      go_wp2_with (first | (go_at_call 94; refine HNX.out.mono ?_; rintro e w' ⟨rfl, rfl⟩))
      · have hLO : L ≤ O := by omega
        have hp1 : i < dk.size := by rw [HDK.out]; omega
        have hp0 : a + (O - L) < dk.size := by rw [HDK.out]; omega
        have HBP := Lib.hid ((bp_step a L M _ t r dk ((O - L)) h3 (by rw [← HNx.out.2, if_pos (by omega)])).symm.trans HR.out)
        obtain ⟨x, hx⟩ : ∃ x, x = dk[i]! := ⟨_, rfl⟩
        obtain ⟨y, hy⟩ : ∃ y, y = dk[a + (O - L)]! := ⟨_, rfl⟩
        have HX := Lib.hid hx
        have HY := Lib.hid hy
        clear hx hy
        revert HD2
        generalize (wr.setCell ⟨W.heap.size, 0, none⟩ (.int .u64 (R' : Int))).drewN 3 = w1
        intro HD2

        have ha1 : (0 : Int) ≤ (i : Int) := by omega
        have hz1 : (i : Int) < (n : Int) := by omega
        have ht1 : ((i : Int)).toNat = i := by omega
        have hw1 : IntKind.i64.wrap ((i : Int)) = (i : Int) := by rw [IntKind.wrap_i64]; omega

        have ha0 : (0 : Int) ≤ (a : Int) + ((O : Int) - (L : Int)) := by omega
        have hz0 : (a : Int) + ((O : Int) - (L : Int)) < (n : Int) := by omega
        have ht0 : ((a : Int) + ((O : Int) - (L : Int))).toNat = a + (O - L) := by omega
        have hw0 : IntKind.i64.wrap ((a : Int) + ((O : Int) - (L : Int))) = (a : Int) + ((O : Int) - (L : Int)) := by rw [IntKind.wrap_i64]; omega

        have HS1 := Lib.hid (HD2.out.swap hp1 hp0)
        have c1 := HD2.out.row.cell (i) hp1
        have c0 := HD2.out.row.cell (a + (O - L)) hp0
        have f1 := HD2.out.row.free (i) hp1
        have f0 := HD2.out.row.free (a + (O - L)) hp0
        obtain ⟨u, c2⟩ := HD2.out.row.second hp1 hp0 (.int .i64 y)
        rw [← HX.out] at c1
        rw [← HY.out] at c0
        rw [← HX.out, ← HY.out] at HS1

        go_big_region
        clear c1 c0 f1 f0 c2
        revert HS1
        generalize ((w1.setCell ⟨b, i, none⟩ (.int .i64 y)).setCell ⟨b, a + (O - L), none⟩ (.int .i64 x)).drew = w2
        intro HS1

        go_wp2_with fail
        go_roundw
        case rel => exact ⟨t + 1, xorNext r, swp dk i (a + (O - L)), by have := HI.out; congr 1; omega, by omega, Lib.hid (by rw [swp_size]; exact HDK.out), Lib.hid (by rw [← HNx.out.1]; exact HS1.out), Lib.hid (by rw [HI.out]; exact HBP.out)⟩
        case measure => have := HI.out; simp [intOf]; omega
      · have hLO : ¬ L ≤ O := by omega
        have hp1 : i < dk.size := by rw [HDK.out]; omega
        have hp0 : a + O < dk.size := by rw [HDK.out]; omega
        have HBP := Lib.hid ((bp_step a L M _ t r dk (O) h3 (by rw [← HNx.out.2, if_neg (by omega)])).symm.trans HR.out)
        obtain ⟨x, hx⟩ : ∃ x, x = dk[i]! := ⟨_, rfl⟩
        obtain ⟨y, hy⟩ : ∃ y, y = dk[a + O]! := ⟨_, rfl⟩
        have HX := Lib.hid hx
        have HY := Lib.hid hy
        clear hx hy
        revert HD2
        generalize (wr.setCell ⟨W.heap.size, 0, none⟩ (.int .u64 (R' : Int))).drewN 3 = w1
        intro HD2

        have ha1 : (0 : Int) ≤ (i : Int) := by omega
        have hz1 : (i : Int) < (n : Int) := by omega
        have ht1 : ((i : Int)).toNat = i := by omega
        have hw1 : IntKind.i64.wrap ((i : Int)) = (i : Int) := by rw [IntKind.wrap_i64]; omega

        have ha0 : (0 : Int) ≤ (a : Int) + (O : Int) := by omega
        have hz0 : (a : Int) + (O : Int) < (n : Int) := by omega
        have ht0 : ((a : Int) + (O : Int)).toNat = a + O := by omega
        have hw0 : IntKind.i64.wrap ((a : Int) + (O : Int)) = (a : Int) + (O : Int) := by rw [IntKind.wrap_i64]; omega

        have HS1 := Lib.hid (HD2.out.swap hp1 hp0)
        have c1 := HD2.out.row.cell (i) hp1
        have c0 := HD2.out.row.cell (a + O) hp0
        have f1 := HD2.out.row.free (i) hp1
        have f0 := HD2.out.row.free (a + O) hp0
        obtain ⟨u, c2⟩ := HD2.out.row.second hp1 hp0 (.int .i64 y)
        rw [← HX.out] at c1
        rw [← HY.out] at c0
        rw [← HX.out, ← HY.out] at HS1

        go_big_region
        clear c1 c0 f1 f0 c2
        revert HS1
        generalize ((w1.setCell ⟨b, i, none⟩ (.int .i64 y)).setCell ⟨b, a + O, none⟩ (.int .i64 x)).drew = w2
        intro HS1

        go_wp2_with fail
        go_roundw
        case rel => exact ⟨t + 1, xorNext r, swp dk i (a + O), by have := HI.out; congr 1; omega, by omega, Lib.hid (by rw [swp_size]; exact HDK.out), Lib.hid (by rw [← HNx.out.1]; exact HS1.out), Lib.hid (by rw [HI.out]; exact HBP.out)⟩
        case measure => have := HI.out; simp [intOf]; omega
    · obtain rfl : t = 3 := by omega
      go_wp2_with fail
      go_end0
      refine ⟨rfl, ?_⟩
      have e : dk = bpRest a L M (a + L / 4 * 2 - 1) 3 0 (UInt64.ofNat L, d) := HR.out
      rw [← e]
      exact HD.out.row
end Go.Proofs.Ytpiflkgjmncijaa
