/-
  The program's named, unquoted, isEnd, number.
  The program's unquoted, isEnd, number.
  The program's quoted.
-/
import Derived.Test.YtkjnjahmlobjiaaGreatDoorLpA
import Derived.Test.YtkjnjahmlobjiaaGreatDoorLxA
import Derived.Test.YtkjnjahmlobjiaaGreatDoorG00
namespace Go.Proofs.YtkjnjahmlobjiaaGreatDoor
open Go.RowKit

def pnoTok : Value := .tuple #[.agg #[.int .i64 0, .string ⟨#[]⟩, .int .i64 0, .int .i64 0, .bool false], .int .i64 0]
def tok0 : Obj := Obj.cells #[.int .i64 0, .string ⟨#[]⟩, .int .i64 0, .int .i64 0, .bool false] 103 (0, 0)
/-- The result stands empty in memory of its own. -/
structure LpSt (w W : World) : Prop where
  below : Below w.heap.size w W
  blk : W.heap[w.heap.size]? = some tok0
  size : w.heap.size < W.heap.size
theorem pst0 (w : World) : LpSt w (w.alloc tok0) := ⟨(Below.refl _ _).alloc (Nat.le_refl _) _, lnewBlk _ _, by simp⟩
theorem LpSt.next {w W W' : World} (h : LpSt w W) (hb : Below W.heap.size W W') : LpSt w W' :=
  ⟨h.below.trans (hb.mono h.below.size), (hb.block w.heap.size h.size).trans h.blk, Nat.lt_of_lt_of_le h.size hb.size⟩
theorem LpSt.cells {w W : World} (h : LpSt w W) : (W.cell? ⟨w.heap.size, 0, none⟩ = some (.int .i64 0) ∧ W.cell? ⟨w.heap.size, 1, none⟩ = some (.string ⟨#[]⟩) ∧ W.cell? ⟨w.heap.size, 2, none⟩ = some (.int .i64 0) ∧ W.cell? ⟨w.heap.size, 3, none⟩ = some (.int .i64 0) ∧ W.cell? ⟨w.heap.size, 4, none⟩ = some (.bool false)) ∧
    (W.frozen? ⟨w.heap.size, 0, none⟩ = false ∧ W.frozen? ⟨w.heap.size, 1, none⟩ = false ∧ W.frozen? ⟨w.heap.size, 2, none⟩ = false ∧ W.frozen? ⟨w.heap.size, 3, none⟩ = false ∧ W.frozen? ⟨w.heap.size, 4, none⟩ = false) := by
  simp [World.cell?, World.frozen?, h.blk, tok0]
def NmPost (w : World) (l : List UInt8) (kind : Nat) (x : ByteArray) (n : Nat) (e : Ending) (w' : World) : Prop :=
  Below w.heap.size w w' ∧ ((¬ (1 ≤ x.size ∧ x.size ≤ 20) ∧ e = .returned pnoTok) ∨ ((1 ≤ x.size ∧ x.size ≤ 20) ∧ e = .returned (.tuple #[tokV kind x 0 0 (opens (l.drop n)), .int .i64 (n : Nat)])))
theorem bs_mk0 {x : ByteArray} (h : (bs x).length = 0) : x = ⟨#[]⟩ := by
  cases x
  simp [bs] at h
  simp [h]
theorem open_any (s : ByteArray) (n : Nat) (w : World) : Calls Tryz.prog 79 #[.string (s.extract n s.size), .string ⟨#[40]⟩] w fun e w' => e = .returned (.bool (opens ((bs s).drop n))) ∧ w = w' :=
  (Tryz.strings_HasPrefix _ _ w).mono fun e w' h => by
    obtain ⟨rfl, rfl⟩ := h
    refine ⟨?_, rfl⟩
    have h1 : (s.extract n s.size).data.toList = (bs s).drop n := by
      have h2 := bs_extract s n s.size
      rw [List.take_of_length_le (by rw [List.length_drop, bs_length]; exact Nat.le_refl _)] at h2
      exact h2
    rw [h1]
    unfold opens Lib.hasPrefix
    cases (bs s).drop n with
    | nil => rfl
    | cons c r =>
      congr 2
      show (40 == c && true) = (some c == some 40)
      rw [Bool.and_true, Bool.eq_iff_iff, beq_iff_eq, beq_iff_eq]
      constructor
      · rintro rfl; rfl
      · intro e; exact (Option.some.inj e).symm
set_option maxRecDepth 100000 in
set_option maxHeartbeats 2000000 in
theorem pnamed_any (kind : Nat) (x s : ByteArray) (n : Nat) (w : World) (hn : n ≤ s.size) (_hs : s.size ≤ 1000000) :
    Calls Tryz.prog 86 #[.int .i64 (kind : Nat), .string x, .string s, .int .i64 (n : Nat)] w fun e w' => NmPost w (bs s) kind x n e w' := by
  by_cases h1 : x.size < 1
  · obtain rfl : x = ⟨#[]⟩ := by
      apply bs_mk0
      rw [bs_length]; omega
    go_enter Tryz.func86, Tryz.ntmps86
    go_wp2_with fail
    refine bodyPost_ret (v := pnoTok) (by simp [results, pnoTok, Tryz.results86, go_sem]) rfl ?_
    exact ⟨(Below.refl _ _).alloc (Nat.le_refl _) _, .inl ⟨by omega, rfl⟩⟩
  have hne : x.toList ≠ [] := by
    rw [bs_toList]
    intro e
    have := bs_length x
    rw [e] at this
    simp at this
    omega
  have hne2 : (x.toList == []) = false := by rw [beq_eq_false_iff_ne]; exact hne
  by_cases h2 : 20 < x.size
  · have h3 : 1 ≤ x.size := by omega
    clear h1
    go_enter Tryz.func86, Tryz.ntmps86
    go_wp2_with fail
    refine bodyPost_ret (v := pnoTok) (by simp [results, pnoTok, Tryz.results86, go_sem]) rfl ?_
    exact ⟨(Below.refl _ _).alloc (Nat.le_refl _) _, .inl ⟨by omega, rfl⟩⟩
  have h3 : 1 ≤ x.size := by omega
  have h4 : x.size ≤ 20 := by omega
  clear h1 h2
  have hsl : ∀ u, (Instr.slice 9 (.string s) (some (.int .i64 (n : Nat))) none none).run Tryz.prog u = .ok (.string (s.extract n s.size)) u := fun u => by
    rw [run_slice_string_from_if (h := Tryz.underlying9), if_pos (by omega)]; rfl
  have HO := Lib.hid (fun u => open_any s n u)
  go_enter Tryz.func86, Tryz.ntmps86
  go_wp2_with (go_at_call 79; (with_reducible refine (HO.out _).mono ?_); rintro e w' ⟨rfl, rfl⟩)
  refine bodyPost_ret (v := .tuple #[tokV kind x 0 0 (opens ((bs s).drop n)), .int .i64 (n : Nat)]) (by simp [results, tokV, Tryz.results86, go_sem]) rfl ?_
  exact ⟨(Below.refl _ _).alloc (Nat.le_refl _) _, .inr ⟨⟨h3, h4⟩, rfl⟩⟩
end Go.Proofs.YtkjnjahmlobjiaaGreatDoor

namespace Go.Proofs.YtkjnjahmlobjiaaGreatDoor
open Go.RowKit

theorem peq_byte {c : UInt8} {n : Nat} (_hn : n < 256) (h : c ≠ UInt8.ofNat n) : ((c.toNat : Int) == (n : Int)) = false := by
  rw [beq_eq_false_iff_ne]
  intro e
  apply h
  have : c.toNat = n := by omega
  rw [← this, UInt8.ofNat_toNat]
theorem run_upto {P : Program} {t : TypeId} (h : P.underlying t = some .string) (s : ByteArray) (n : Nat) (hn : n ≤ s.size) (w : World) : (Instr.slice t (.string s) none (some (.int .i64 (n : Nat))) none).run P w = .ok (.string (s.extract 0 n)) w := by
  rw [run_slice_string_h (ht := h) (h0 := by omega) (h2 := by omega)]
  rfl
set_option maxRecDepth 100000 in
set_option maxHeartbeats 2000000 in
theorem punq_any (kind : Nat) (s : ByteArray) (n : Nat) (w : World) (hn : n ≤ s.size) (hs : s.size ≤ 1000000) :
    Calls Tryz.prog 71 #[.int .i64 (kind : Nat), .string s, .int .i64 (n : Nat)] w fun e w' => NmPost w (bs s) kind (s.extract 0 n) n e w' := by
  have hsl := fun u => run_upto Tryz.underlying9 s n hn u
  have H := Lib.hid (fun u => pnamed_any kind (s.extract 0 n) s n u hn hs)
  by_cases h : 1 ≤ (s.extract 0 n).size ∧ (s.extract 0 n).size ≤ 20
  · have HN := Lib.hid (fun u => (H.out u).mono fun e w' (g : NmPost u (bs s) kind (s.extract 0 n) n e w') => (show Below u.heap.size u w' ∧ e = .returned (.tuple #[.agg #[.int .i64 (kind : Nat), .string (s.extract 0 n), .int .i64 0, .int .i64 0, .bool (opens ((bs s).drop n))], .int .i64 (n : Nat)]) from ⟨g.1, by
      rcases g.2 with g | g
      · exact absurd h g.1
      · exact g.2⟩))
    have HH := Lib.hid h
    clear h H
    go_enter Tryz.func71, Tryz.ntmps71
    go_wp2_with (go_at_call 86; (refine (HN.out _).mono ?_); rintro e w' ⟨hb, rfl⟩; have hst := (pst0 w).next hb; obtain ⟨⟨c0, c1, c2, c3, c4⟩, f0, f1, f2, f3, f4⟩ := hst.cells; have HB := Lib.hid hst.below; clear hb hst)
    refine bodyPost_ret (v := .tuple #[tokV kind (s.extract 0 n) 0 0 (opens ((bs s).drop n)), .int .i64 (n : Nat)]) (by simp [results, tokV, Tryz.results71, go_sem, c0, c1, c2, c3, c4]) rfl ?_
    exact ⟨set5_below HB.out _ _ _ _ _, .inr ⟨HH.out, rfl⟩⟩
  · have HN := Lib.hid (fun u => (H.out u).mono fun e w' (g : NmPost u (bs s) kind (s.extract 0 n) n e w') => (show Below u.heap.size u w' ∧ e = .returned (.tuple #[.agg #[.int .i64 0, .string ⟨#[]⟩, .int .i64 0, .int .i64 0, .bool false], .int .i64 0]) from ⟨g.1, by
      rcases g.2 with g | g
      · exact g.2
      · exact absurd g.1 h⟩))
    have HH := Lib.hid h
    clear h H
    go_enter Tryz.func71, Tryz.ntmps71
    go_wp2_with (go_at_call 86; (refine (HN.out _).mono ?_); rintro e w' ⟨hb, rfl⟩; have hst := (pst0 w).next hb; obtain ⟨⟨c0, c1, c2, c3, c4⟩, f0, f1, f2, f3, f4⟩ := hst.cells; have HB := Lib.hid hst.below; clear hb hst)
    refine bodyPost_ret (v := pnoTok) (by simp [results, pnoTok, Tryz.results71, go_sem, c0, c1, c2, c3, c4]) rfl ?_
    exact ⟨set5_below HB.out _ _ _ _ _, .inl ⟨HH.out, rfl⟩⟩

/-! ### an End -/
def gaS : ByteArray := ⟨#[32, 9, 10, 37]⟩
theorem gaS_ends (c : UInt8) : decide (0 ≤ Lib.indexByte (bs gaS) c) = (srt c == 5 || c == 37) :=
  beq_iff_eq.1 (byte_all (fun c => decide (0 ≤ Lib.indexByte (bs gaS) c) == (srt c == 5 || c == 37)) (by decide +kernel) c)
def endS (l : List UInt8) : Bool := decide (l.head? = some 46) && ends (l.drop 1)
theorem end_tw {l : List UInt8} (h : l.head? = some 46) : ((l.takeWhile isSign).length = 1 ∧ ends (l.dropWhile isSign) = true) ↔ endS l = true := by
  obtain ⟨r, rfl⟩ : ∃ r, l = 46 :: r := by
    cases l with
    | nil => cases h
    | cons c r => injection h with h; exact ⟨r, by rw [h]⟩
  have h46 : isSign 46 = true := by decide
  unfold endS
  rw [decide_eq_true h, Bool.true_and, List.takeWhile_cons, List.dropWhile_cons, h46]
  simp only [if_true, List.length_cons, List.drop_succ_cons, List.drop_zero]
  cases r with
  | nil => simp [ends]
  | cons c q =>
    cases hs : isSign c
    · simp [hs]
    · have : ends (c :: q) = false := by
        unfold ends
        have h4 : srt c = 4 := by simpa [isSign] using hs
        have h5 : c ≠ 37 := by rintro rfl; revert h4; decide
        simp [h4, h5]
      rw [this]
      simp [hs]
set_option maxRecDepth 100000 in
set_option maxHeartbeats 2000000 in
theorem pend_any (s : ByteArray) (w : World) (h0 : 0 < s.size) (hs : s.size ≤ 1000000) :
    Calls Tryz.prog 77 #[.string s] w fun e w' => e = .returned (.bool (endS (bs s))) ∧ w = w' := by
  obtain ⟨b, hb⟩ : ∃ b, endS (bs s) = b := ⟨_, rfl⟩
  rw [hb]
  have hd := pdrop_at s 0 h0
  rw [List.drop_zero] at hd
  unfold endS at hb
  rw [hd] at hb
  simp only [List.head?_cons, Option.some.injEq, Nat.zero_add, List.drop_succ_cons, List.drop_zero] at hb
  clear hd
  by_cases h46 : s[0] = 46
  · have b46 : ((s[0].toNat : Int) == 46) = true := by rw [h46]; rfl
    rw [decide_eq_true h46, Bool.true_and] at hb
    by_cases h1 : s.size = 1
    · rw [List.drop_eq_nil_of_le (by rw [bs_length]; omega)] at hb
      obtain rfl : true = b := hb
      clear h46
      go_enter Tryz.func77, Tryz.ntmps77
      go_wp2_with fail
      go_ret
      exact ⟨rfl, rfl⟩
    · have h2 : 1 < s.size := by omega
      have b1 : ((s.size : Int) == 1) = false := by rw [beq_eq_false_iff_ne]; omega
      rw [pdrop_at s 1 h2] at hb
      have hb' : (srt s[1] == 5 || s[1] == 37) = b := hb
      have HI : Hid (∀ u, Calls Tryz.prog 90 #[.string ⟨#[32, 9, 10, 37]⟩, .int .u8 (s[1].toNat : Nat)] u fun e w' => ∃ n : Int, decide (0 ≤ n) = b ∧ -1 ≤ n ∧ n ≤ 9 ∧ e = .returned (.int .i64 n) ∧ u = w') := Lib.hid fun u =>
        (Tryz.strings_IndexByte _ _ u).mono fun e w' h => by
          obtain ⟨rfl, rfl⟩ := h
          have e1 : ((s[1].toNat : Nat) : Int).toNat.toUInt8 = s[1] := by simp
          rw [e1]
          refine ⟨_, ?_, Lib.indexByte_ge _ _, ?_, rfl, rfl⟩
          · rw [← hb']; exact gaS_ends s[1]
          · exact of_decide_eq_true (byte_all (fun c => decide (Lib.indexByte (bs gaS) c ≤ 9)) (by decide +kernel) s[1])
      clear hb hb' h46 h1
      go_enter Tryz.func77, Tryz.ntmps77
      go_wp2_with (go_at_call 90; (with_reducible refine (HI.out _).mono ?_); rintro e w' ⟨n, hn, hn1, hn2, rfl, rfl⟩; have HN := Lib.hid hn; clear hn)
      go_ret
      exact ⟨by rw [← HN.out]; rfl, rfl⟩
  · have b46 : ((s[0].toNat : Int) == 46) = false := peq_byte (n := 46) (by decide) h46
    rw [decide_eq_false h46, Bool.false_and] at hb
    obtain rfl : false = b := hb
    clear h46
    go_enter Tryz.func77, Tryz.ntmps77
    go_wp2_with fail
    go_ret
    exact ⟨rfl, rfl⟩

/-! ### a Number -/
theorem uint_dig : ∀ (l : List UInt8) (acc : Nat), (∀ c ∈ l, isDigit c = true) → acc < 18446744073709551616 → Lib.parseUint10 acc l = if dfrom acc l < 18446744073709551616 then .ok (dfrom acc l) else .range
  | [], acc, _, ha => by
    unfold Lib.parseUint10
    have : dfrom acc [] = acc := rfl
    rw [this, if_pos ha]
  | c :: r, acc, h, ha => by
    obtain ⟨h1, h2⟩ := dig_says (h c (by simp))
    have e1 : dfrom acc (c :: r) = dfrom (10 * acc + (c.toNat - 48)) r := rfl
    have e2 : dfrom (10 * acc + (c.toNat - 48)) r = (10 * acc + (c.toNat - 48)) * 10 ^ r.length + dval r := dfrom_eq _ _
    have e3 : (10 * acc + (c.toNat - 48)) * 1 ≤ (10 * acc + (c.toNat - 48)) * 10 ^ r.length := Nat.mul_le_mul_left _ (Nat.pos_of_ne_zero (by simp))
    unfold Lib.parseUint10
    rw [if_pos ⟨h1, h2⟩, e1]
    by_cases h3 : 1844674407370955162 ≤ acc
    · rw [if_pos h3, if_neg (by omega)]
    rw [if_neg h3]
    by_cases h4 : 18446744073709551616 ≤ acc * 10 + (c.toNat - 48)
    · rw [if_pos h4, if_neg (by omega)]
    rw [if_neg h4, uint_dig r _ (fun d hd => h d (by simp [hd])) (by omega), Nat.mul_comm acc 10]
theorem atoi_dig {l : List UInt8} (h : ∀ c ∈ l, isDigit c = true) (h0 : l ≠ []) : Lib.atoiAll l = if dval l ≤ 9223372036854775807 then .ok (dval l : Int) else .range := by
  obtain ⟨c, r, rfl⟩ := List.exists_cons_of_ne_nil h0
  obtain ⟨h1, h2⟩ := dig_says (h c (by simp))
  have e0 : dfrom 0 (c :: r) = dval (c :: r) := by rw [dfrom_eq]; omega
  unfold Lib.atoiAll
  simp only
  rw [if_neg (by omega)]
  unfold Lib.parseMag
  rw [if_neg h0, uint_dig _ _ h (by omega), e0]
  by_cases h3 : dval (c :: r) < 18446744073709551616
  · rw [if_pos h3]
    simp only
    by_cases h4 : dval (c :: r) ≤ 9223372036854775807
    · rw [if_neg (by omega), if_neg (by omega), if_pos h4, if_neg (by omega)]
    · rw [if_pos (by omega), if_neg h4]
  · rw [if_neg h3, if_neg (by omega)]
def PnPost (w : World) (s : ByteArray) (e : Ending) (w' : World) : Prop :=
  Below w.heap.size w w' ∧ ((numL (bs s) = none ∧ e = .returned pnoTok) ∨ ∃ n : Nat, numL (bs s) = some n ∧ e = .returned (.tuple #[tokV 3 s n 0 false, .int .i64 (s.size : Nat)]))
theorem bytesW {w w' : World} {t : TypeId} (h : w' = w ∨ ∃ b, w' = Lib.bytesWorld w t b) : Below w.heap.size w w' := by
  rcases h with rfl | ⟨b, rfl⟩
  · exact Below.refl _ _
  · exact Lib.bytesWorld_below _ _ _
set_option maxRecDepth 100000 in
set_option maxHeartbeats 2000000 in
theorem pnum_any (s : ByteArray) (w : World) (hr : Rng w) (h0 : 0 < s.size) (hs : s.size ≤ 1000000) (hd : ∀ c ∈ bs s, isDigit c = true) :
    Calls Tryz.prog 75 #[.string s] w fun e w' => PnPost w s e w' := by
  have hlen := bs_length s
  have hhead : (bs s).head? = some s[0] := by
    rw [List.head?_eq_getElem?, List.getElem?_eq_getElem (by rw [hlen]; exact h0), bs_get s 0 h0]
  have hne : bs s ≠ [] := fun e => by rw [e] at hlen; simp at hlen; omega
  have hat := atoi_dig hd hne
  by_cases hv : dval (bs s) ≤ 9223372036854775807
  · rw [if_pos hv] at hat
    have HA := Lib.hid (fun u => (Tryz.strconv_Atoi_ok s (by omega) _ hat u).mono fun e w' (h : e = .returned (.tuple #[.int .i64 (dval (bs s) : Nat), .nilIface]) ∧ _) => (show e = .returned (.tuple #[.int .i64 (dval (bs s) : Nat), .nilIface]) ∧ Below u.heap.size u w' from ⟨h.1, bytesW h.2⟩))
    by_cases hz : s[0] = 48 ∧ 1 < s.size
    · have hn : numL (bs s) = none := by
        unfold numL
        rw [if_pos (.inl ⟨by rw [hhead, hz.1], by omega⟩)]
      have b48 : ((s[0].toNat : Int) == 48) = true := by rw [hz.1]; rfl
      have h1 := hz.2
      have HN := Lib.hid hn
      generalize dval (bs s) = V at HA hv
      clear hz hn hlen hhead hne hat hd hr
      go_enter Tryz.func75, Tryz.ntmps75
      go_wp2_with (go_at_call 87; (with_reducible refine (HA.out _).mono ?_); rintro e w' ⟨rfl, hb⟩; have hst := (pst0 w).next hb; obtain ⟨⟨c0, c1, c2, c3, c4⟩, f0, f1, f2, f3, f4⟩ := hst.cells; have HB := Lib.hid hst.below; clear hb hst)
      refine bodyPost_ret (v := pnoTok) (by simp [results, pnoTok, Tryz.results75, go_sem, c0, c1, c2, c3, c4]) rfl ?_
      exact ⟨set5_below HB.out _ _ _ _ _, .inl ⟨HN.out, rfl⟩⟩
    · have hn : numL (bs s) = some (dval (bs s)) := by
        unfold numL
        rw [if_neg]
        rintro (⟨e1, e2⟩ | e)
        · rw [hhead] at e1
          exact hz ⟨Option.some.inj e1, by omega⟩
        · omega
      have hc : (((s[0].toNat : Int) == 48) = true ∧ ¬ 1 < s.size) ∨ ((s[0].toNat : Int) == 48) = false := by
        by_cases e : s[0] = 48
        · exact .inl ⟨by rw [e]; rfl, fun h => hz ⟨e, h⟩⟩
        · exact .inr (peq_byte (n := 48) (by decide) e)
      have HN := Lib.hid hn
      generalize dval (bs s) = V at HA hv HN
      clear hz hn hlen hhead hne hat hd hr
      rcases hc with ⟨b48, h1⟩ | b48
      · have h2 : s.size ≤ 1 := by omega
        clear h1
        go_enter Tryz.func75, Tryz.ntmps75
        go_wp2_with (go_at_call 87; (with_reducible refine (HA.out _).mono ?_); rintro e w' ⟨rfl, hb⟩; have hst := (pst0 w).next hb; obtain ⟨⟨c0, c1, c2, c3, c4⟩, f0, f1, f2, f3, f4⟩ := hst.cells; have HB := Lib.hid hst.below; clear hb hst)
        refine bodyPost_ret (v := .tuple #[tokV 3 s V 0 false, .int .i64 (s.size : Nat)]) (by simp [results, tokV, Tryz.results75, go_sem, c0, c1, c2, c3, c4]) rfl ?_
        exact ⟨set5_below HB.out _ _ _ _ _, .inr ⟨V, HN.out, rfl⟩⟩
      · go_enter Tryz.func75, Tryz.ntmps75
        go_wp2_with (go_at_call 87; (with_reducible refine (HA.out _).mono ?_); rintro e w' ⟨rfl, hb⟩; have hst := (pst0 w).next hb; obtain ⟨⟨c0, c1, c2, c3, c4⟩, f0, f1, f2, f3, f4⟩ := hst.cells; have HB := Lib.hid hst.below; clear hb hst)
        refine bodyPost_ret (v := .tuple #[tokV 3 s V 0 false, .int .i64 (s.size : Nat)]) (by simp [results, tokV, Tryz.results75, go_sem, c0, c1, c2, c3, c4]) rfl ?_
        exact ⟨set5_below HB.out _ _ _ _ _, .inr ⟨V, HN.out, rfl⟩⟩
  · rw [if_neg hv] at hat
    have hn : numL (bs s) = none := by
      unfold numL
      rw [if_pos (.inr (by omega))]
    have HN := Lib.hid hn
    have HA := Lib.hid (fun u (hru : Rng u) => show Calls Tryz.prog 87 #[.string s] u fun e w' => ∃ a te pe, e = .returned (.tuple #[.int .i64 a, .iface te pe]) ∧ Below u.heap.size u w' by
      obtain ⟨te, pe, hc⟩ := hru
      exact (Tryz.strconv_Atoi_range s (by omega) hat _ u hc (.inr ⟨te, pe, rfl⟩)).mono fun e w' ⟨N, he, _, _, hb⟩ => ⟨_, _, _, he, hb⟩)
    have HR := Lib.hid (hr.next (pst0 w).below)
    clear hn hlen hhead hne hat hd hr hv
    go_enter Tryz.func75, Tryz.ntmps75
    go_wp2_with (go_at_call 87; (refine (HA.out _ HR.out).mono ?_); rintro e w' ⟨a, te, pe, rfl, hb⟩; have hst := (pst0 w).next hb; obtain ⟨⟨c0, c1, c2, c3, c4⟩, f0, f1, f2, f3, f4⟩ := hst.cells; have HB := Lib.hid hst.below; clear hb hst)
    refine bodyPost_ret (v := pnoTok) (by simp [results, pnoTok, Tryz.results75, go_sem, c0, c1, c2, c3, c4]) rfl ?_
    exact ⟨set5_below HB.out _ _ _ _ _, .inl ⟨HN.out, rfl⟩⟩
end Go.Proofs.YtkjnjahmlobjiaaGreatDoor

namespace Go.Proofs.YtkjnjahmlobjiaaGreatDoor
open Go.RowKit

def PqPost (w : World) (l : List UInt8) (e : Ending) (w' : World) : Prop :=
  Below w.heap.size w w' ∧ ((((quoL (l.drop 1)).bind fun x => nameL 1 x.1 ((l.drop 1).drop x.2) (x.2 + 1)) = none ∧ e = .returned pnoTok) ∨ ∃ (t : Tk) (x : ByteArray) (k : Nat), ((quoL (l.drop 1)).bind fun x => nameL 1 x.1 ((l.drop 1).drop x.2) (x.2 + 1)) = some (t, k) ∧ bs x = t.text ∧ k ≤ l.length ∧ e = .returned (.tuple #[tokV t.kind x t.n 0 t.opn, .int .i64 (k : Nat)]))
/-- What lies in memory while a quoted Name is read: the result, and a builder that bears the bytes. -/
def QSt (w : World) (acc : List UInt8) (W : World) : Prop :=
  Lib.IsBuilder 156 5 (w.heap.size + 1) (w.heap.size + 1) (Lib.byteCells acc) W ∧ Below (w.heap.size + 1) (w.alloc tok0) W
theorem QSt.start (w : World) : QSt w [] ((w.alloc tok0).alloc (.cells #[.pointer none, .slice none 0 0] 156)) := by
  have h := Lib.fresh_isBuilder 156 5 (w.alloc tok0)
  rw [World.size_alloc] at h
  exact ⟨h, (Below.refl _ _).alloc (by rw [World.size_alloc]; exact Nat.le_refl _) _⟩
theorem QSt.size {w : World} {acc : List UInt8} {W : World} (h : QSt w acc W) : w.heap.size + 1 ≤ W.heap.size := by
  have := h.2.size
  rw [World.size_alloc] at this
  exact this
theorem QSt.pst {w : World} {acc : List UInt8} {W W' : World} (h : QSt w acc W) (hb : Below (w.heap.size + 1) W W') : LpSt w W' := by
  have h1 : Below (w.alloc tok0).heap.size (w.alloc tok0) W' := by rw [World.size_alloc]; exact h.2.trans hb
  exact (pst0 w).next h1
theorem pwrite_any (w : World) (acc : List UInt8) (c : UInt8) (W : World) (h : QSt w acc W) (hl : acc.length ≤ 1000000) : Calls Tryz.prog 89 #[.pointer (some ⟨w.heap.size + 1, 0, none⟩), .int .u8 (c.toNat : Nat)] W fun e W' => e = .returned .nilIface ∧ QSt w (acc ++ [c]) W' :=
  (Tryz.Builder_WriteByte (w.heap.size + 1) (w.heap.size + 1) (Lib.byteCells acc) (c.toNat : Nat) W h.1 (by rw [Lib.byteCells_length]; omega) h.size).mono fun e W' ⟨he, h1, h2⟩ => ⟨he, by rw [QSt, Lib.byteCells_append]; exact ⟨.inr h1, h.2.trans h2⟩⟩
theorem pstring_any (w : World) (acc : List UInt8) (W : World) (h : QSt w acc W) : Calls Tryz.prog 88 #[.pointer (some ⟨w.heap.size + 1, 0, none⟩)] W fun e W' => e = .returned (.string ⟨acc.toArray⟩) ∧ Below (w.heap.size + 1) W W' :=
  Tryz.Builder_String_any (w.heap.size + 1) (w.heap.size + 1) acc W h.1 h.size
set_option maxRecDepth 100000 in
set_option maxHeartbeats 2000000 in
theorem pquoted_any (s : ByteArray) (w : World) (h0 : 0 < s.size) (hs : s.size ≤ 1000000) :
    Calls Tryz.prog 76 #[.string s] w fun e w' => PqPost w (bs s) e w' := by
  go_enter Tryz.func76, Tryz.ntmps76
  go_wp2_with fail
  go_loopw [5] (fun i wr => ∃ (q : Nat) (acc : List UInt8), 1 ≤ q ∧ q ≤ s.size ∧ acc.length ≤ q ∧ i = .int .i64 q ∧ Hid (QSt w acc wr) ∧ Hid (quoL ((bs s).drop 1) = (quoL ((bs s).drop q)).map fun x => (acc ++ x.1, x.2 + (q - 1)))) (fun i _ => s.size - (intOf i).toNat)
  case atStart =>
    refine ⟨1, [], Nat.le_refl _, h0, Nat.zero_le _, rfl, QSt.start w, Lib.hid ?_⟩
    cases quoL ((bs s).drop 1) <;> simp
  case round =>
    obtain ⟨q, acc, hq1, hq2, hal, rfl, hst, hqu⟩ := hrel
    have HST := Lib.hid hst.out
    have HQ := Lib.hid hqu.out
    clear hst hqu
    by_cases hlt : q < s.size
    · have hcons := pdrop_at s q hlt
      by_cases h1 : s[q].toNat < 32
      · have hn : quoL ((bs s).drop 1) = none := by rw [HQ.out, hcons, quoL_bad _ (.inl h1)]; rfl
        have HN := Lib.hid hn
        clear hn hcons
        obtain ⟨⟨c0, c1, c2, c3, c4⟩, f0, f1, f2, f3, f4⟩ := (HST.out.pst (Below.refl _ wr)).cells
        go_wp2_with fail
        refine bodyPost_ret (v := pnoTok) (by simp [results, pnoTok, Tryz.results76, go_sem, c0, c1, c2, c3, c4]) rfl ?_
        exact ⟨set5_below (HST.out.pst (Below.refl _ wr)).below _ _ _ _ _, .inl ⟨by rw [HN.out]; rfl, rfl⟩⟩
      by_cases h2 : 126 < s[q].toNat
      · have hn : quoL ((bs s).drop 1) = none := by rw [HQ.out, hcons, quoL_bad _ (.inr h2)]; rfl
        have h1' : 32 ≤ s[q].toNat := by omega
        have HN := Lib.hid hn
        clear hn hcons h1
        obtain ⟨⟨c0, c1, c2, c3, c4⟩, f0, f1, f2, f3, f4⟩ := (HST.out.pst (Below.refl _ wr)).cells
        go_wp2_with fail
        refine bodyPost_ret (v := pnoTok) (by simp [results, pnoTok, Tryz.results76, go_sem, c0, c1, c2, c3, c4]) rfl ?_
        exact ⟨set5_below (HST.out.pst (Below.refl _ wr)).below _ _ _ _ _, .inl ⟨by rw [HN.out]; rfl, rfl⟩⟩
      have h1' : 32 ≤ s[q].toNat := by omega
      have h2' : s[q].toNat ≤ 126 := by omega
      have HB := Lib.hid (show ¬ (s[q].toNat < 32 ∨ 126 < s[q].toNat) by omega)
      clear h1 h2
      by_cases h3 : s[q] = 39
      · have hb : ((s[q].toNat : Int) == 39) = true := by rw [h3]; rfl
        by_cases h4 : q + 1 < s.size
        · have hcons2 := pdrop_at s (q + 1) h4
          have hz1 : ((q : Int) + 1 == (s.size : Int)) = false := by rw [beq_eq_false_iff_ne]; omega
          by_cases h5 : s[q + 1] = 39
          · have hb2 : ((s[q + 1].toNat : Int) != 39) = false := by rw [h5]; rfl
            have HN := Lib.hid (show quoL ((bs s).drop 1) = (quoL ((bs s).drop (q + 2))).map fun x => ((acc ++ [s[q + 1]]) ++ x.1, x.2 + (q + 2 - 1)) by
              rw [HQ.out, hcons, h3, hcons2, h5, quoL_two]
              cases quoL ((bs s).drop (q + 2)) with
              | none => rfl
              | some x =>
                simp only [Option.map_some, List.append_assoc, List.cons_append, List.nil_append]
                rw [show x.2 + 2 + (q - 1) = x.2 + (q + 2 - 1) by omega])
            clear h3 h5 hcons hcons2
            go_wp2_with (go_at_call 89; (refine (pwrite_any w acc s[q + 1] _ HST.out (by omega)).mono ?_); rintro e W1 ⟨rfl, hst1⟩; have HST1 := Lib.hid hst1; clear hst1)
            go_roundw
            case rel => exact ⟨q + 2, acc ++ [s[q + 1]], by omega, by omega, by simp; omega, by go_num, HST1, HN⟩
            case measure => simp [intOf]; omega
          · have hb2 : ((s[q + 1].toNat : Int) != 39) = true := by
              have h6 : ((s[q + 1].toNat : Int) == 39) = false := peq_byte (n := 39) (by decide) h5
              rw [bne, h6]; rfl
            have HN := Lib.hid (show quoL ((bs s).drop 1) = some (acc, q) by
              rw [HQ.out, hcons, h3, quoL_end (by rw [hcons2]; simpa using h5)]
              simp only [Option.map_some, List.append_nil]
              rw [show 1 + (q - 1) = q by omega])
            have H := Lib.hid (fun u => pnamed_any 1 ⟨acc.toArray⟩ s (q + 1) u (by omega) hs)
            clear h3 h5 hcons hcons2
            by_cases h : 1 ≤ acc.length ∧ acc.length ≤ 20
            · have HM := Lib.hid (fun u => (H.out u).mono fun e w' (g : NmPost u (bs s) 1 ⟨acc.toArray⟩ (q + 1) e w') => (show Below u.heap.size u w' ∧ e = .returned (.tuple #[.agg #[.int .i64 1, .string ⟨acc.toArray⟩, .int .i64 0, .int .i64 0, .bool (opens ((bs s).drop (q + 1)))], .int .i64 ((q + 1 : Nat) : Int)]) from ⟨g.1, by
                rcases g.2 with g | g
                · exact absurd (show 1 ≤ acc.toArray.size ∧ acc.toArray.size ≤ 20 by simpa using h) g.1
                · exact g.2⟩))
              have HH := Lib.hid h
              clear h H
              have HC := Lib.hid (show ((q + 1 : Nat) : Int) = (q : Int) + 1 by omega)
              rw [HC.out] at HM
              go_wp2_with (first
                | (go_at_call 88; (refine (pstring_any w acc _ HST.out).mono ?_); rintro e W1 ⟨rfl, hb1⟩; have HB1 := Lib.hid hb1; clear hb1)
                | (go_at_call 86; (refine (HM.out _).mono ?_); rintro e W2 ⟨hb2, rfl⟩; have hst2 := HST.out.pst (HB1.out.trans (hb2.mono (by have := HST.out.size; have := HB1.out.size; omega))); obtain ⟨⟨c0, c1, c2, c3, c4⟩, f0, f1, f2, f3, f4⟩ := hst2.cells; have HB := Lib.hid hst2.below; clear hb2 hst2))
              refine bodyPost_ret (v := .tuple #[tokV 1 ⟨acc.toArray⟩ 0 0 (opens ((bs s).drop (q + 1))), .int .i64 ((q : Int) + 1)]) (by simp [results, tokV, Tryz.results76, go_sem, c0, c1, c2, c3, c4]) rfl ?_
              refine ⟨set5_below HB.out _ _ _ _ _, .inr ⟨⟨1, acc, 0, opens ((bs s).drop (q + 1))⟩, ⟨acc.toArray⟩, q + 1, ?_, by simp [bs], by rw [bs_length]; omega, rfl⟩⟩
              rw [HN.out, Option.bind_some, nameL, if_pos HH.out, List.drop_drop, show 1 + q = q + 1 by omega]
            · have HM := Lib.hid (fun u => (H.out u).mono fun e w' (g : NmPost u (bs s) 1 ⟨acc.toArray⟩ (q + 1) e w') => (show Below u.heap.size u w' ∧ e = .returned (.tuple #[.agg #[.int .i64 0, .string ⟨#[]⟩, .int .i64 0, .int .i64 0, .bool false], .int .i64 0]) from ⟨g.1, by
                rcases g.2 with g | g
                · exact g.2
                · exact absurd (show 1 ≤ acc.length ∧ acc.length ≤ 20 by have h9 : 1 ≤ acc.toArray.size ∧ acc.toArray.size ≤ 20 := g.1; simpa using h9) h⟩))
              have HH := Lib.hid h
              clear h H
              have HC := Lib.hid (show ((q + 1 : Nat) : Int) = (q : Int) + 1 by omega)
              rw [HC.out] at HM
              go_wp2_with (first
                | (go_at_call 88; (refine (pstring_any w acc _ HST.out).mono ?_); rintro e W1 ⟨rfl, hb1⟩; have HB1 := Lib.hid hb1; clear hb1)
                | (go_at_call 86; (refine (HM.out _).mono ?_); rintro e W2 ⟨hb2, rfl⟩; have hst2 := HST.out.pst (HB1.out.trans (hb2.mono (by have := HST.out.size; have := HB1.out.size; omega))); obtain ⟨⟨c0, c1, c2, c3, c4⟩, f0, f1, f2, f3, f4⟩ := hst2.cells; have HB := Lib.hid hst2.below; clear hb2 hst2))
              refine bodyPost_ret (v := pnoTok) (by simp [results, pnoTok, Tryz.results76, go_sem, c0, c1, c2, c3, c4]) rfl ?_
              refine ⟨set5_below HB.out _ _ _ _ _, .inl ⟨?_, rfl⟩⟩
              rw [HN.out, Option.bind_some, nameL, if_neg HH.out]
        · have hz1 : ((q : Int) + 1 == (s.size : Int)) = true := by rw [beq_iff_eq]; omega
          have HN := Lib.hid (show quoL ((bs s).drop 1) = some (acc, q) by
            rw [HQ.out, hcons, h3, quoL_end (by rw [List.drop_eq_nil_of_le (by rw [bs_length]; omega)]; simp)]
            simp only [Option.map_some, List.append_nil]
            rw [show 1 + (q - 1) = q by omega])
          have H := Lib.hid (fun u => pnamed_any 1 ⟨acc.toArray⟩ s (q + 1) u (by omega) hs)
          clear h3 hcons
          by_cases h : 1 ≤ acc.length ∧ acc.length ≤ 20
          · have HM := Lib.hid (fun u => (H.out u).mono fun e w' (g : NmPost u (bs s) 1 ⟨acc.toArray⟩ (q + 1) e w') => (show Below u.heap.size u w' ∧ e = .returned (.tuple #[.agg #[.int .i64 1, .string ⟨acc.toArray⟩, .int .i64 0, .int .i64 0, .bool (opens ((bs s).drop (q + 1)))], .int .i64 ((q + 1 : Nat) : Int)]) from ⟨g.1, by
              rcases g.2 with g | g
              · exact absurd (show 1 ≤ acc.toArray.size ∧ acc.toArray.size ≤ 20 by simpa using h) g.1
              · exact g.2⟩))
            have HH := Lib.hid h
            clear h H
            have HC := Lib.hid (show ((q + 1 : Nat) : Int) = (q : Int) + 1 by omega)
            rw [HC.out] at HM
            go_wp2_with (first
              | (go_at_call 88; (refine (pstring_any w acc _ HST.out).mono ?_); rintro e W1 ⟨rfl, hb1⟩; have HB1 := Lib.hid hb1; clear hb1)
              | (go_at_call 86; (refine (HM.out _).mono ?_); rintro e W2 ⟨hb2, rfl⟩; have hst2 := HST.out.pst (HB1.out.trans (hb2.mono (by have := HST.out.size; have := HB1.out.size; omega))); obtain ⟨⟨c0, c1, c2, c3, c4⟩, f0, f1, f2, f3, f4⟩ := hst2.cells; have HB := Lib.hid hst2.below; clear hb2 hst2))
            refine bodyPost_ret (v := .tuple #[tokV 1 ⟨acc.toArray⟩ 0 0 (opens ((bs s).drop (q + 1))), .int .i64 ((q : Int) + 1)]) (by simp [results, tokV, Tryz.results76, go_sem, c0, c1, c2, c3, c4]) rfl ?_
            refine ⟨set5_below HB.out _ _ _ _ _, .inr ⟨⟨1, acc, 0, opens ((bs s).drop (q + 1))⟩, ⟨acc.toArray⟩, q + 1, ?_, by simp [bs], by rw [bs_length]; omega, rfl⟩⟩
            rw [HN.out, Option.bind_some, nameL, if_pos HH.out, List.drop_drop, show 1 + q = q + 1 by omega]
          · have HM := Lib.hid (fun u => (H.out u).mono fun e w' (g : NmPost u (bs s) 1 ⟨acc.toArray⟩ (q + 1) e w') => (show Below u.heap.size u w' ∧ e = .returned (.tuple #[.agg #[.int .i64 0, .string ⟨#[]⟩, .int .i64 0, .int .i64 0, .bool false], .int .i64 0]) from ⟨g.1, by
              rcases g.2 with g | g
              · exact g.2
              · exact absurd (show 1 ≤ acc.length ∧ acc.length ≤ 20 by have h9 : 1 ≤ acc.toArray.size ∧ acc.toArray.size ≤ 20 := g.1; simpa using h9) h⟩))
            have HH := Lib.hid h
            clear h H
            have HC := Lib.hid (show ((q + 1 : Nat) : Int) = (q : Int) + 1 by omega)
            rw [HC.out] at HM
            go_wp2_with (first
              | (go_at_call 88; (refine (pstring_any w acc _ HST.out).mono ?_); rintro e W1 ⟨rfl, hb1⟩; have HB1 := Lib.hid hb1; clear hb1)
              | (go_at_call 86; (refine (HM.out _).mono ?_); rintro e W2 ⟨hb2, rfl⟩; have hst2 := HST.out.pst (HB1.out.trans (hb2.mono (by have := HST.out.size; have := HB1.out.size; omega))); obtain ⟨⟨c0, c1, c2, c3, c4⟩, f0, f1, f2, f3, f4⟩ := hst2.cells; have HB := Lib.hid hst2.below; clear hb2 hst2))
            refine bodyPost_ret (v := pnoTok) (by simp [results, pnoTok, Tryz.results76, go_sem, c0, c1, c2, c3, c4]) rfl ?_
            refine ⟨set5_below HB.out _ _ _ _ _, .inl ⟨?_, rfl⟩⟩
            rw [HN.out, Option.bind_some, nameL, if_neg HH.out]
      · have hb : ((s[q].toNat : Int) == 39) = false := peq_byte (n := 39) (by decide) h3
        have HN := Lib.hid (show quoL ((bs s).drop 1) = (quoL ((bs s).drop (q + 1))).map fun x => ((acc ++ [s[q]]) ++ x.1, x.2 + (q + 1 - 1)) by
          rw [HQ.out, hcons, quoL_one _ HB.out h3]
          cases quoL ((bs s).drop (q + 1)) with
          | none => rfl
          | some x =>
            simp only [Option.map_some, List.append_assoc, List.cons_append, List.nil_append]
            rw [show x.2 + 1 + (q - 1) = x.2 + (q + 1 - 1) by omega])
        clear h3 hcons
        go_wp2_with (go_at_call 89; (refine (pwrite_any w acc s[q] _ HST.out (by omega)).mono ?_); rintro e W1 ⟨rfl, hst1⟩; have HST1 := Lib.hid hst1; clear hst1)
        go_roundw
        case rel => exact ⟨q + 1, acc ++ [s[q]], by omega, by omega, by simp; omega, by go_num, HST1, HN⟩
        case measure => simp [intOf]; omega
    · obtain rfl : s.size = q := by omega
      have hn : quoL ((bs s).drop 1) = none := by
        rw [HQ.out, List.drop_eq_nil_of_le (by rw [bs_length]; exact Nat.le_refl _), quoL_nil]; rfl
      have HN := Lib.hid hn
      clear hn
      obtain ⟨⟨c0, c1, c2, c3, c4⟩, f0, f1, f2, f3, f4⟩ := (HST.out.pst (Below.refl _ wr)).cells
      go_wp2_with fail
      refine bodyPost_ret (v := pnoTok) (by simp [results, pnoTok, Tryz.results76, go_sem, c0, c1, c2, c3, c4]) rfl ?_
      exact ⟨set5_below (HST.out.pst (Below.refl _ wr)).below _ _ _ _ _, .inl ⟨by rw [HN.out]; rfl, rfl⟩⟩
end Go.Proofs.YtkjnjahmlobjiaaGreatDoor
