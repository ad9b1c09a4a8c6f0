/-
  LexJoins' body, goes on: the latter text has an error; none has.
-/
import Derived.Test.YtlildhacfimaaaaDoorLxR
namespace Go.Proofs.YtlildhacfimaaaaDoor
open Go.RowKit

theorem lex_len : ∀ (n : Nat) (l : List UInt8) (cm : Bool) (at' : Nat) (ts : List (Tk × Nat)), l.length ≤ n → lexL cm at' l = .inr ts → ts.length ≤ l.length
  | _, [], cm, at', ts, _, h => by
    rw [lexL_nil] at h
    injection h with h
    subst h
    exact Nat.le_refl _
  | 0, _ :: _, _, _, _, hn, _ => by simp at hn
  | n + 1, c :: r, cm, at', ts, hn, h => by
    simp only [List.length_cons] at hn ⊢
    by_cases h1 : cm = true ∨ c = 37
    · rw [lexL_skip h1] at h
      have := lex_len n r _ _ ts (by omega) h
      omega
    by_cases h5 : srt c = 5
    · rw [lexL_gap h1 h5] at h
      have := lex_len n r _ _ ts (by omega) h
      omega
    cases ho : oneL (c :: r) with
    | none => rw [lexL_bad h1 h5 ho] at h; cases h
    | some x =>
      obtain ⟨t, k⟩ := x
      rw [lexL_tok h1 h5 ho] at h
      obtain ⟨q, h2, rfl⟩ := preL_inr h
      have := lex_len n _ _ _ q (by simp; omega) h2
      simp only [List.length_drop] at this
      simp only [List.length_append, List.length_cons, List.length_nil]
      omega
theorem join_size (a b : ByteArray) (h1 : a.size ≤ 3000) (h2 : b.size ≤ 3000) : (a ++ ⟨#[10]⟩ ++ b).size ≤ 8000 := by
  rw [ByteArray.size_append, ByteArray.size_append]
  have : (⟨#[10]⟩ : ByteArray).size = 1 := rfl
  omega
set_option maxRecDepth 100000 in
set_option maxHeartbeats 2000000 in
theorem ljoins_no2 (HL : LexSays) (a b : ByteArray) (w : World) (hr : Rng w) (h1 : a.size ≤ 3000) (h2 : b.size ≤ 3000) {la : List (Tk × Nat)} (ha : lexL false 0 (bs a) = .inr la) {bb : Nat} (hb : lexL false 0 (bs b) = .inl bb) :
    Calls Tryd.prog 4 #[.string a, .string b] w fun e w' => e = .returned (.bool true) ∧ Below w.heap.size w w' := by
  have HK := Lib.hid (fun u h => lknows_any HL u h)
  have HR := Lib.hid hr
  clear hr
  have HA := Lib.hid (fun u h => lex_ok HL a u h (by omega) ha)
  have HB := Lib.hid (fun u h => lex_no HL b u h (by omega) hb)
  have hj := join_lex a b ha
  rw [hb] at hj
  obtain ⟨i0, hi0⟩ : ∃ i0, bb + (a.size + 1) = i0 := ⟨_, rfl⟩
  have hbb := lex_bad_at _ _ _ _ _ (Nat.le_refl _) hb
  rw [bs_length] at hbb
  have hb3 : bb ≤ 3000 := by omega
  have hi1 : ((i0 : Int) == (bb : Int) + (a.size : Int) + 1) = true := by rw [beq_iff_eq]; omega
  have HJ := Lib.hid (fun u h => lex_no HL (a ++ ⟨#[10]⟩ ++ b) u h (join_size a b h1 h2) (b := i0) (by rw [hj, ← hi0]; rfl))
  clear HL ha hb hj hi0 hbb
  go_enter Tryd.func4, Tryd.ntmps4
  go_wp2_with (first
    | (go_at_call 7; (with_reducible refine (HA.out _ HR.out).mono ?_); rintro e w1 ⟨hb1, g1, c1, rfl, _⟩; have HB1 := Lib.hid hb1; have HR := Lib.hid (HR.out.next hb1); clear hb1)
    | (go_at_call 7; (with_reducible refine (HB.out _ HR.out).mono ?_); rintro e w2 ⟨hb2, g2, c2, rfl⟩; have HB2 := Lib.hid hb2; have HR := Lib.hid (HR.out.next hb2); clear hb2)
    | (go_at_call 7; refine (HJ.out _ HR.out).mono ?_; rintro e w3 ⟨hb3, g3, c3, rfl⟩; have HB3 := Lib.hid hb3; have HR := Lib.hid (HR.out.next hb3); clear hb3)
    | (go_at_call 6; refine (HK.out _ HR.out).mono ?_; rintro e w4 ⟨rfl, hb4⟩; have HB4 := Lib.hid hb4; have HR := Lib.hid (HR.out.next hb4); clear hb4))
  go_ret
  exact ⟨rfl, ((HB1.out.trans (HB2.out.mono HB1.out.size)).trans (HB3.out.mono (by have := HB1.out.size; have := HB2.out.size; omega))).trans (HB4.out.mono (by have := HB1.out.size; have := HB2.out.size; have := HB3.out.size; omega))⟩
set_option maxRecDepth 100000 in
set_option maxHeartbeats 2000000 in
theorem ljoins_yes (HL : LexSays) (a b : ByteArray) (w : World) (hr : Rng w) (h1 : a.size ≤ 3000) (h2 : b.size ≤ 3000) {la : List (Tk × Nat)} (ha : lexL false 0 (bs a) = .inr la) {lb : List (Tk × Nat)} (hb : lexL false 0 (bs b) = .inr lb) :
    Calls Tryd.prog 4 #[.string a, .string b] w fun e w' => e = .returned (.bool true) ∧ Below w.heap.size w w' := by
  have HK := Lib.hid (fun u h => lknows_any HL u h)
  have HR := Lib.hid hr
  clear hr
  have HA := Lib.hid (fun u h => lex_ok HL a u h (by omega) ha)
  have HB := Lib.hid (fun u h => lex_ok HL b u h (by omega) hb)
  have hj := join_lex a b ha
  rw [hb] at hj
  obtain ⟨lc, hlc⟩ : ∃ lc, la ++ lb.map (fun x => (x.1, x.2 + (a.size + 1))) = lc := ⟨_, rfl⟩
  have hll : lc.length = la.length + lb.length := by rw [← hlc]; simp
  have hla : la.length ≤ 3000 := by have := lex_len _ _ _ _ _ (Nat.le_refl _) ha; rw [bs_length] at this; omega
  have hlb : lb.length ≤ 3000 := by have := lex_len _ _ _ _ _ (Nat.le_refl _) hb; rw [bs_length] at this; omega
  have HJ := Lib.hid (fun u h => lex_ok HL (a ++ ⟨#[10]⟩ ++ b) u h (join_size a b h1 h2) (l := lc) (by rw [hj, ← hlc]; rfl))
  have hpl : ((lc.length : Int) != (la.length : Int) + (lb.length : Int)) = false := by rw [bne_eq_false_iff_eq]; omega
  have hat0 : ∀ x ∈ lb, x.2 ≤ 3000 := fun x hx => by
    have h := ((lex_stand _ _ _ _ _ (Nat.le_refl _) hb).1 x hx).hi
    rw [bs_length] at h
    omega
  have HAT := Lib.hid hat0
  have HLC := Lib.hid hlc
  have HLL := Lib.hid hll
  clear HL ha hb hj hlc hll hat0
  go_enter Tryd.func4, Tryd.ntmps4
  go_wp2_with (first
    | (go_at_call 7; (with_reducible refine (HA.out _ HR.out).mono ?_); rintro e w1 ⟨hb1, g1, c1, rfl, ht1⟩; have HB1 := Lib.hid hb1; have HR := Lib.hid (HR.out.next hb1); have HT1 := Lib.hid ht1; clear hb1 ht1)
    | (go_at_call 7; (with_reducible refine (HB.out _ HR.out).mono ?_); rintro e w2 ⟨hb2, g2, c2, rfl, ht2⟩; have HB2 := Lib.hid hb2; have HR := Lib.hid (HR.out.next hb2); have HT2 := Lib.hid ht2; clear hb2 ht2)
    | (go_at_call 7; refine (HJ.out _ HR.out).mono ?_; rintro e w3 ⟨hb3, g3, c3, rfl, ht3⟩; have HB3 := Lib.hid hb3; have HR := Lib.hid (HR.out.next hb3); have HT3 := Lib.hid ht3; clear hb3 ht3))
  have hbw : Below w.heap.size w w3 := (HB1.out.trans (HB2.out.mono HB1.out.size)).trans (HB3.out.mono (by have := HB1.out.size; have := HB2.out.size; omega))
  have HBW := Lib.hid hbw
  have HS12 := Lib.hid HB1.out.size
  have HX1 := Lib.hid (toksIn_same (toksIn_same HT1.out HB2.out.size HB2.out) HB3.out.size HB3.out)
  have HX2 := Lib.hid (toksIn_same HT2.out HB3.out.size HB3.out)
  clear hbw HT1 HT2 HB1 HB2 HB3 HA HB HJ
  go_loopw [14] (fun i wr => ∃ q : Nat, q ≤ la.length ∧ i = .int .i64 q ∧ Below w3.heap.size w3 wr) (fun i _ => la.length - (intOf i).toNat)
  case atStart => exact ⟨0, Nat.zero_le _, rfl, Below.refl _ _⟩
  case round =>
    obtain ⟨q, hq, rfl, hb⟩ := hrel
    have HB := Lib.hid hb
    clear hb
    by_cases hlt : q < la.length
    · have hlt3 : q < lc.length := by have := HLL.out; omega
      obtain ⟨b1, o1, c1', e1, hb1, x0, x1, x2, x3, x4⟩ := toksIn_at (toksIn_same HX1.out (Nat.le_refl _) HB.out) q hlt
      obtain ⟨b2, o2, c2', e2, hb2, y0, y1, y2, y3, y4⟩ := toksIn_at (toksIn_same HT3.out (Nat.le_refl _) HB.out) q hlt3
      injection e1 with e1 _ ec1
      injection e2 with e2 _ ec2
      subst e1 e2 ec1 ec2
      have hg : lc[q] = la[q] := by
        have h := HLC.out
        subst h
        exact List.getElem_append_left hlt
      rw [hg] at y0 y1 y2 y3 y4
      have j0 : (0 : Int) ≤ (q : Int) := by omega
      have j1 : (q : Int) < (la.length : Int) := by omega
      have j2 : (q : Int) < (lc.length : Int) := by omega
      have jw : IntKind.i64.wrap (q : Int) = (q : Int) := by rw [IntKind.wrap_i64]; omega
      have hsz := HB.out.size
      have hb1' : b1 < wr.heap.size := by omega
      have hb2' : b2 < wr.heap.size := by omega
      clear hg
      go_wp2_with fail
      go_region
      all_goals
        go_wp2_with fail
        go_roundw
        case rel => exact ⟨q + 1, by omega, by go_num, HB.out.drew⟩
        case measure => simp [intOf]; omega
    · obtain rfl : la.length = q := by omega
      have HY2 := Lib.hid (toksIn_same HX2.out HB.out.size HB.out)
      have HY3 := Lib.hid (toksIn_same HT3.out HB.out.size HB.out)
      have HBV := Lib.hid (HBW.out.trans (HB.out.mono HBW.out.size))
      have HBT := Lib.hid HB.out
      clear HX1 HX2 HT3 HB HBW HS12
      go_wp2_with fail
      go_loopw [15] (fun i wv => ∃ q : Nat, q ≤ lb.length ∧ i = .int .i64 q ∧ Below wr.heap.size wr wv) (fun i _ => lb.length - (intOf i).toNat)
      case atStart => exact ⟨0, Nat.zero_le _, rfl, Below.refl _ _⟩
      case round =>
        obtain ⟨q, hq, rfl, hb⟩ := hrel
        have HB := Lib.hid hb
        clear hb
        by_cases hlt : q < lb.length
        · have hlt3 : la.length + q < lc.length := by have := HLL.out; omega
          obtain ⟨b1, o1, c1', e1, hb1, x0, x1, x2, x3, x4⟩ := toksIn_at (toksIn_same HY2.out (Nat.le_refl _) HB.out) q hlt
          obtain ⟨b2, o2, c2', e2, hb2, y0, y1, y2, y3, y4⟩ := toksIn_at (toksIn_same HY3.out (Nat.le_refl _) HB.out) (la.length + q) hlt3
          injection e1 with e1 _ ec1
          injection e2 with e2 _ ec2
          subst e1 e2 ec1 ec2
          have hg : lc[la.length + q] = (lb[q].1, lb[q].2 + (a.size + 1)) := by
            have h := HLC.out
            subst h
            rw [List.getElem_append_right (by omega)]
            simp
          rw [hg] at y0 y1 y2 y3 y4
          obtain ⟨m0, hm0⟩ : ∃ m0, la.length + q = m0 := ⟨_, rfl⟩
          rw [hm0] at y0 y1 y2 y3 y4 hlt3
          have hat : lb[q].2 ≤ 3000 := HAT.out lb[q] (List.getElem_mem hlt)
          obtain ⟨p0, hp0⟩ : ∃ p0, lb[q].2 = p0 := ⟨_, rfl⟩
          simp only [hp0] at x3 y3
          rw [hp0] at hat
          obtain ⟨p1, hp1⟩ : ∃ p1, p0 + (a.size + 1) = p1 := ⟨_, rfl⟩
          simp only [hp1] at y3
          have e3 : (la.length : Int) + (q : Int) = (m0 : Int) := by omega
          have e4 : (p0 : Int) + (a.size : Int) + 1 = (p1 : Int) := by omega
          have j0 : (0 : Int) ≤ (q : Int) := by omega
          have j1 : (q : Int) < (lb.length : Int) := by omega
          have j2 : (m0 : Int) < (lc.length : Int) := by omega
          have j3 : (0 : Int) ≤ (m0 : Int) := by omega
          have jw : IntKind.i64.wrap (q : Int) = (q : Int) := by rw [IntKind.wrap_i64]; omega
          have jw3 : IntKind.i64.wrap (m0 : Int) = (m0 : Int) := by rw [IntKind.wrap_i64]; omega
          have hsz := HB.out.size
          have hb1' : b1 < wr.heap.size := by omega
          have hb2' : b2 < wr.heap.size := by omega
          clear hg hp0
          go_wp2_with fail
          go_region
          all_goals
            go_wp2_with fail
            go_roundw
            case rel => exact ⟨q + 1, by omega, by go_num, (HB.out.alloc hsz _).drew⟩
            case measure => simp [intOf]; omega
        · obtain rfl : lb.length = q := by omega
          have HRV := Lib.hid (HR.out.next (HBT.out.trans (HB.out.mono HBT.out.size)))
          go_wp2_with (go_at_call 6; refine (HK.out _ HRV.out).mono ?_; rintro e w4 ⟨rfl, hb4⟩; have HB4 := Lib.hid hb4; clear hb4)
          go_ret
          exact ⟨rfl, (HBV.out.trans (HB.out.mono HBV.out.size)).trans (HB4.out.mono (by have := HBV.out.size; have := HB.out.size; omega))⟩
end Go.Proofs.YtlildhacfimaaaaDoor
