/-
  The program's unquoted, isEnd, number.
-/
import Derived.Test.YtlildhacfimaaaaDoorLpE
import Derived.Test.YtlildhacfimaaaaDoorRng
namespace Go.Proofs.YtlildhacfimaaaaDoor
open Go.RowKit

theorem peq_byte {c : UInt8} {n : Nat} (_hn : n < 256) (h : c ≠ UInt8.ofNat n) : ((c.toNat : Int) == (n : Int)) = false := by
  rw [beq_eq_false_iff_ne]
  intro e
  apply h
  have : c.toNat = n := by omega
  rw [← this, UInt8.ofNat_toNat]
theorem run_upto {P : Program} {t : TypeId} (h : P.underlying t = some .string) (s : ByteArray) (n : Nat) (hn : n ≤ s.size) (w : World) : (Instr.slice t (.string s) none (some (.int .i64 (n : Nat))) none).run P w = .ok (.string (s.extract 0 n)) w := by
  rw [run_slice_string_h (ht := h) (h0 := by omega) (h2 := by omega)]
  rfl
set_option maxRecDepth 100000 in
set_option maxHeartbeats 2000000 in
theorem punq_any (kind : Nat) (s : ByteArray) (n : Nat) (w : World) (hn : n ≤ s.size) (hs : s.size ≤ 1000000) :
    Calls Tryd.prog 17 #[.int .i64 (kind : Nat), .string s, .int .i64 (n : Nat)] w fun e w' => NmPost w (bs s) kind (s.extract 0 n) n e w' := by
  have hsl := fun u => run_upto Tryd.underlying9 s n hn u
  have H := Lib.hid (fun u => pnamed_any kind (s.extract 0 n) s n u hn hs)
  by_cases h : 1 ≤ (s.extract 0 n).size ∧ (s.extract 0 n).size ≤ 20
  · have HN := Lib.hid (fun u => (H.out u).mono fun e w' (g : NmPost u (bs s) kind (s.extract 0 n) n e w') => (show Below u.heap.size u w' ∧ e = .returned (.tuple #[.agg #[.int .i64 (kind : Nat), .string (s.extract 0 n), .int .i64 0, .int .i64 0, .bool (opens ((bs s).drop n))], .int .i64 (n : Nat)]) from ⟨g.1, by
      rcases g.2 with g | g
      · exact absurd h g.1
      · exact g.2⟩))
    have HH := Lib.hid h
    clear h H
    go_enter Tryd.func17, Tryd.ntmps17
    go_wp2_with (go_at_call 33; (refine (HN.out _).mono ?_); rintro e w' ⟨hb, rfl⟩; have hst := (pst0 w).next hb; obtain ⟨⟨c0, c1, c2, c3, c4⟩, f0, f1, f2, f3, f4⟩ := hst.cells; have HB := Lib.hid hst.below; clear hb hst)
    refine bodyPost_ret (v := .tuple #[tokV kind (s.extract 0 n) 0 0 (opens ((bs s).drop n)), .int .i64 (n : Nat)]) (by simp [results, tokV, Tryd.results17, go_sem, c0, c1, c2, c3, c4]) rfl ?_
    exact ⟨set5_below HB.out _ _ _ _ _, .inr ⟨HH.out, rfl⟩⟩
  · have HN := Lib.hid (fun u => (H.out u).mono fun e w' (g : NmPost u (bs s) kind (s.extract 0 n) n e w') => (show Below u.heap.size u w' ∧ e = .returned (.tuple #[.agg #[.int .i64 0, .string ⟨#[]⟩, .int .i64 0, .int .i64 0, .bool false], .int .i64 0]) from ⟨g.1, by
      rcases g.2 with g | g
      · exact g.2
      · exact absurd g.1 h⟩))
    have HH := Lib.hid h
    clear h H
    go_enter Tryd.func17, Tryd.ntmps17
    go_wp2_with (go_at_call 33; (refine (HN.out _).mono ?_); rintro e w' ⟨hb, rfl⟩; have hst := (pst0 w).next hb; obtain ⟨⟨c0, c1, c2, c3, c4⟩, f0, f1, f2, f3, f4⟩ := hst.cells; have HB := Lib.hid hst.below; clear hb hst)
    refine bodyPost_ret (v := pnoTok) (by simp [results, pnoTok, Tryd.results17, go_sem, c0, c1, c2, c3, c4]) rfl ?_
    exact ⟨set5_below HB.out _ _ _ _ _, .inl ⟨HH.out, rfl⟩⟩

/-! ### an End -/
def gaS : ByteArray := ⟨#[32, 9, 10, 37]⟩
theorem gaS_ends (c : UInt8) : decide (0 ≤ Lib.indexByte (bs gaS) c) = (srt c == 5 || c == 37) :=
  beq_iff_eq.1 (byte_all (fun c => decide (0 ≤ Lib.indexByte (bs gaS) c) == (srt c == 5 || c == 37)) (by decide +kernel) c)
def endS (l : List UInt8) : Bool := decide (l.head? = some 46) && ends (l.drop 1)
theorem end_tw {l : List UInt8} (h : l.head? = some 46) : ((l.takeWhile isSign).length = 1 ∧ ends (l.dropWhile isSign) = true) ↔ endS l = true := by
  obtain ⟨r, rfl⟩ : ∃ r, l = 46 :: r := by
    cases l with
    | nil => cases h
    | cons c r => injection h with h; exact ⟨r, by rw [h]⟩
  have h46 : isSign 46 = true := by decide
  unfold endS
  rw [decide_eq_true h, Bool.true_and, List.takeWhile_cons, List.dropWhile_cons, h46]
  simp only [if_true, List.length_cons, List.drop_succ_cons, List.drop_zero]
  cases r with
  | nil => simp [ends]
  | cons c q =>
    cases hs : isSign c
    · simp [hs]
    · have : ends (c :: q) = false := by
        unfold ends
        have h4 : srt c = 4 := by simpa [isSign] using hs
        have h5 : c ≠ 37 := by rintro rfl; revert h4; decide
        simp [h4, h5]
      rw [this]
      simp [hs]
set_option maxRecDepth 100000 in
set_option maxHeartbeats 2000000 in
theorem pend_any (s : ByteArray) (w : World) (h0 : 0 < s.size) (hs : s.size ≤ 1000000) :
    Calls Tryd.prog 23 #[.string s] w fun e w' => e = .returned (.bool (endS (bs s))) ∧ w = w' := by
  obtain ⟨b, hb⟩ : ∃ b, endS (bs s) = b := ⟨_, rfl⟩
  rw [hb]
  have hd := pdrop_at s 0 h0
  rw [List.drop_zero] at hd
  unfold endS at hb
  rw [hd] at hb
  simp only [List.head?_cons, Option.some.injEq, Nat.zero_add, List.drop_succ_cons, List.drop_zero] at hb
  clear hd
  by_cases h46 : s[0] = 46
  · have b46 : ((s[0].toNat : Int) == 46) = true := by rw [h46]; rfl
    rw [decide_eq_true h46, Bool.true_and] at hb
    by_cases h1 : s.size = 1
    · rw [List.drop_eq_nil_of_le (by rw [bs_length]; omega)] at hb
      obtain rfl : true = b := hb
      clear h46
      go_enter Tryd.func23, Tryd.ntmps23
      go_wp2_with fail
      go_ret
      exact ⟨rfl, rfl⟩
    · have h2 : 1 < s.size := by omega
      have b1 : ((s.size : Int) == 1) = false := by rw [beq_eq_false_iff_ne]; omega
      rw [pdrop_at s 1 h2] at hb
      have hb' : (srt s[1] == 5 || s[1] == 37) = b := hb
      have HI : Hid (∀ u, Calls Tryd.prog 37 #[.string ⟨#[32, 9, 10, 37]⟩, .int .u8 (s[1].toNat : Nat)] u fun e w' => ∃ n : Int, decide (0 ≤ n) = b ∧ -1 ≤ n ∧ n ≤ 9 ∧ e = .returned (.int .i64 n) ∧ u = w') := Lib.hid fun u =>
        (Tryd.strings_IndexByte _ _ u).mono fun e w' h => by
          obtain ⟨rfl, rfl⟩ := h
          have e1 : ((s[1].toNat : Nat) : Int).toNat.toUInt8 = s[1] := by simp
          rw [e1]
          refine ⟨_, ?_, Lib.indexByte_ge _ _, ?_, rfl, rfl⟩
          · rw [← hb']; exact gaS_ends s[1]
          · exact of_decide_eq_true (byte_all (fun c => decide (Lib.indexByte (bs gaS) c ≤ 9)) (by decide +kernel) s[1])
      clear hb hb' h46 h1
      go_enter Tryd.func23, Tryd.ntmps23
      go_wp2_with (go_at_call 37; (with_reducible refine (HI.out _).mono ?_); rintro e w' ⟨n, hn, hn1, hn2, rfl, rfl⟩; have HN := Lib.hid hn; clear hn)
      go_ret
      exact ⟨by rw [← HN.out]; rfl, rfl⟩
  · have b46 : ((s[0].toNat : Int) == 46) = false := peq_byte (n := 46) (by decide) h46
    rw [decide_eq_false h46, Bool.false_and] at hb
    obtain rfl : false = b := hb
    clear h46
    go_enter Tryd.func23, Tryd.ntmps23
    go_wp2_with fail
    go_ret
    exact ⟨rfl, rfl⟩

/-! ### a Number -/
theorem uint_dig : ∀ (l : List UInt8) (acc : Nat), (∀ c ∈ l, isDigit c = true) → acc < 18446744073709551616 → Lib.parseUint10 acc l = if dfrom acc l < 18446744073709551616 then .ok (dfrom acc l) else .range
  | [], acc, _, ha => by
    unfold Lib.parseUint10
    have : dfrom acc [] = acc := rfl
    rw [this, if_pos ha]
  | c :: r, acc, h, ha => by
    obtain ⟨h1, h2⟩ := dig_says (h c (by simp))
    have e1 : dfrom acc (c :: r) = dfrom (10 * acc + (c.toNat - 48)) r := rfl
    have e2 : dfrom (10 * acc + (c.toNat - 48)) r = (10 * acc + (c.toNat - 48)) * 10 ^ r.length + dval r := dfrom_eq _ _
    have e3 : (10 * acc + (c.toNat - 48)) * 1 ≤ (10 * acc + (c.toNat - 48)) * 10 ^ r.length := Nat.mul_le_mul_left _ (Nat.pos_of_ne_zero (by simp))
    unfold Lib.parseUint10
    rw [if_pos ⟨h1, h2⟩, e1]
    by_cases h3 : 1844674407370955162 ≤ acc
    · rw [if_pos h3, if_neg (by omega)]
    rw [if_neg h3]
    by_cases h4 : 18446744073709551616 ≤ acc * 10 + (c.toNat - 48)
    · rw [if_pos h4, if_neg (by omega)]
    rw [if_neg h4, uint_dig r _ (fun d hd => h d (by simp [hd])) (by omega), Nat.mul_comm acc 10]
theorem atoi_dig {l : List UInt8} (h : ∀ c ∈ l, isDigit c = true) (h0 : l ≠ []) : Lib.atoiAll l = if dval l ≤ 9223372036854775807 then .ok (dval l : Int) else .range := by
  obtain ⟨c, r, rfl⟩ := List.exists_cons_of_ne_nil h0
  obtain ⟨h1, h2⟩ := dig_says (h c (by simp))
  have e0 : dfrom 0 (c :: r) = dval (c :: r) := by rw [dfrom_eq]; omega
  unfold Lib.atoiAll
  simp only
  rw [if_neg (by omega)]
  unfold Lib.parseMag
  rw [if_neg h0, uint_dig _ _ h (by omega), e0]
  by_cases h3 : dval (c :: r) < 18446744073709551616
  · rw [if_pos h3]
    simp only
    by_cases h4 : dval (c :: r) ≤ 9223372036854775807
    · rw [if_neg (by omega), if_neg (by omega), if_pos h4, if_neg (by omega)]
    · rw [if_pos (by omega), if_neg h4]
  · rw [if_neg h3, if_neg (by omega)]
def PnPost (w : World) (s : ByteArray) (e : Ending) (w' : World) : Prop :=
  Below w.heap.size w w' ∧ ((numL (bs s) = none ∧ e = .returned pnoTok) ∨ ∃ n : Nat, numL (bs s) = some n ∧ e = .returned (.tuple #[tokV 3 s n 0 false, .int .i64 (s.size : Nat)]))
theorem bytesW {w w' : World} {t : TypeId} (h : w' = w ∨ ∃ b, w' = Lib.bytesWorld w t b) : Below w.heap.size w w' := by
  rcases h with rfl | ⟨b, rfl⟩
  · exact Below.refl _ _
  · exact Lib.bytesWorld_below _ _ _
set_option maxRecDepth 100000 in
set_option maxHeartbeats 2000000 in
theorem pnum_any (s : ByteArray) (w : World) (hr : Rng w) (h0 : 0 < s.size) (hs : s.size ≤ 1000000) (hd : ∀ c ∈ bs s, isDigit c = true) :
    Calls Tryd.prog 21 #[.string s] w fun e w' => PnPost w s e w' := by
  have hlen := bs_length s
  have hhead : (bs s).head? = some s[0] := by
    rw [List.head?_eq_getElem?, List.getElem?_eq_getElem (by rw [hlen]; exact h0), bs_get s 0 h0]
  have hne : bs s ≠ [] := fun e => by rw [e] at hlen; simp at hlen; omega
  have hat := atoi_dig hd hne
  by_cases hv : dval (bs s) ≤ 9223372036854775807
  · rw [if_pos hv] at hat
    have HA := Lib.hid (fun u => (Tryd.strconv_Atoi_ok s (by omega) _ hat u).mono fun e w' (h : e = .returned (.tuple #[.int .i64 (dval (bs s) : Nat), .nilIface]) ∧ _) => (show e = .returned (.tuple #[.int .i64 (dval (bs s) : Nat), .nilIface]) ∧ Below u.heap.size u w' from ⟨h.1, bytesW h.2⟩))
    by_cases hz : s[0] = 48 ∧ 1 < s.size
    · have hn : numL (bs s) = none := by
        unfold numL
        rw [if_pos (.inl ⟨by rw [hhead, hz.1], by omega⟩)]
      have b48 : ((s[0].toNat : Int) == 48) = true := by rw [hz.1]; rfl
      have h1 := hz.2
      have HN := Lib.hid hn
      generalize dval (bs s) = V at HA hv
      clear hz hn hlen hhead hne hat hd hr
      go_enter Tryd.func21, Tryd.ntmps21
      go_wp2_with (go_at_call 34; (with_reducible refine (HA.out _).mono ?_); rintro e w' ⟨rfl, hb⟩; have hst := (pst0 w).next hb; obtain ⟨⟨c0, c1, c2, c3, c4⟩, f0, f1, f2, f3, f4⟩ := hst.cells; have HB := Lib.hid hst.below; clear hb hst)
      refine bodyPost_ret (v := pnoTok) (by simp [results, pnoTok, Tryd.results21, go_sem, c0, c1, c2, c3, c4]) rfl ?_
      exact ⟨set5_below HB.out _ _ _ _ _, .inl ⟨HN.out, rfl⟩⟩
    · have hn : numL (bs s) = some (dval (bs s)) := by
        unfold numL
        rw [if_neg]
        rintro (⟨e1, e2⟩ | e)
        · rw [hhead] at e1
          exact hz ⟨Option.some.inj e1, by omega⟩
        · omega
      have hc : (((s[0].toNat : Int) == 48) = true ∧ ¬ 1 < s.size) ∨ ((s[0].toNat : Int) == 48) = false := by
        by_cases e : s[0] = 48
        · exact .inl ⟨by rw [e]; rfl, fun h => hz ⟨e, h⟩⟩
        · exact .inr (peq_byte (n := 48) (by decide) e)
      have HN := Lib.hid hn
      generalize dval (bs s) = V at HA hv HN
      clear hz hn hlen hhead hne hat hd hr
      rcases hc with ⟨b48, h1⟩ | b48
      · have h2 : s.size ≤ 1 := by omega
        clear h1
        go_enter Tryd.func21, Tryd.ntmps21
        go_wp2_with (go_at_call 34; (with_reducible refine (HA.out _).mono ?_); rintro e w' ⟨rfl, hb⟩; have hst := (pst0 w).next hb; obtain ⟨⟨c0, c1, c2, c3, c4⟩, f0, f1, f2, f3, f4⟩ := hst.cells; have HB := Lib.hid hst.below; clear hb hst)
        refine bodyPost_ret (v := .tuple #[tokV 3 s V 0 false, .int .i64 (s.size : Nat)]) (by simp [results, tokV, Tryd.results21, go_sem, c0, c1, c2, c3, c4]) rfl ?_
        exact ⟨set5_below HB.out _ _ _ _ _, .inr ⟨V, HN.out, rfl⟩⟩
      · go_enter Tryd.func21, Tryd.ntmps21
        go_wp2_with (go_at_call 34; (with_reducible refine (HA.out _).mono ?_); rintro e w' ⟨rfl, hb⟩; have hst := (pst0 w).next hb; obtain ⟨⟨c0, c1, c2, c3, c4⟩, f0, f1, f2, f3, f4⟩ := hst.cells; have HB := Lib.hid hst.below; clear hb hst)
        refine bodyPost_ret (v := .tuple #[tokV 3 s V 0 false, .int .i64 (s.size : Nat)]) (by simp [results, tokV, Tryd.results21, go_sem, c0, c1, c2, c3, c4]) rfl ?_
        exact ⟨set5_below HB.out _ _ _ _ _, .inr ⟨V, HN.out, rfl⟩⟩
  · rw [if_neg hv] at hat
    have hn : numL (bs s) = none := by
      unfold numL
      rw [if_pos (.inr (by omega))]
    have HN := Lib.hid hn
    have HA := Lib.hid (fun u (hru : Rng u) => show Calls Tryd.prog 34 #[.string s] u fun e w' => ∃ a te pe, e = .returned (.tuple #[.int .i64 a, .iface te pe]) ∧ Below u.heap.size u w' by
      obtain ⟨te, pe, hc⟩ := hru
      exact (Tryd.strconv_Atoi_range s (by omega) hat _ u hc (.inr ⟨te, pe, rfl⟩)).mono fun e w' ⟨N, he, _, _, hb⟩ => ⟨_, _, _, he, hb⟩)
    have HR := Lib.hid (hr.next (pst0 w).below)
    clear hn hlen hhead hne hat hd hr hv
    go_enter Tryd.func21, Tryd.ntmps21
    go_wp2_with (go_at_call 34; (refine (HA.out _ HR.out).mono ?_); rintro e w' ⟨a, te, pe, rfl, hb⟩; have hst := (pst0 w).next hb; obtain ⟨⟨c0, c1, c2, c3, c4⟩, f0, f1, f2, f3, f4⟩ := hst.cells; have HB := Lib.hid hst.below; clear hb hst)
    refine bodyPost_ret (v := pnoTok) (by simp [results, pnoTok, Tryd.results21, go_sem, c0, c1, c2, c3, c4]) rfl ?_
    exact ⟨set5_below HB.out _ _ _ _ _, .inl ⟨HN.out, rfl⟩⟩
end Go.Proofs.YtlildhacfimaaaaDoor
