/-
  The document's number and quoted.
-/
import Derived.Test.YtlildhacfimaaaaDoorLxA
namespace Go.Proofs.YtlildhacfimaaaaDoor
open Go.RowKit

theorem bs_toList (s : ByteArray) : s.toList = bs s := by rw [ByteArray.toList_eq]; rfl
theorem dval_take_le : ∀ (l : List UInt8) (i : Nat), dval (l.take i) ≤ dval l := by
  intro l i
  by_cases h : i < l.length
  · have e : l = l.take i ++ l.drop i := (List.take_append_drop i l).symm
    have h1 : dval l = dfrom (dval (l.take i)) (l.drop i) := by
      unfold dval dfrom
      rw [← List.foldl_append, List.take_append_drop]
    rw [h1, dfrom_eq]
    have : 1 * dval (l.take i) ≤ 10 ^ (l.drop i).length * dval (l.take i) := Nat.mul_le_mul_right _ (Nat.pos_of_ne_zero (by simp))
    rw [Nat.mul_comm (dval (l.take i))]
    omega
  · rw [List.take_of_length_le (by omega)]
    exact Nat.le_refl _
theorem run_gtr_str (P : Program) (t : TypeId) (a b : ByteArray) (w : World) : (binOp BinOp.gtr t (.string a) (.string b)).run P w = .ok (.bool !(Op.bytesLess a.toList b.toList || a.toList == b.toList)) w := rfl
theorem maxD_str : (⟨#[57, 50, 50, 51, 51, 55, 50, 48, 51, 54, 56, 53, 52, 55, 55, 53, 56, 48, 55]⟩ : ByteArray).toList = maxD := by rw [ByteArray.toList_eq]; rfl
theorem wrap_d1 (n : Nat) (c : Nat) (h3 : 10 * n + (c - 48) ≤ 9223372036854775807) : IntKind.i64.wrap (10 * (n : Int)) = 10 * (n : Int) := by
  rw [IntKind.wrap_i64]; omega
theorem wrap_d2 (n : Nat) (c : Nat) (h1 : 48 ≤ c) (h2 : c ≤ 57) (h3 : 10 * n + (c - 48) ≤ 9223372036854775807) : wrap64 (wrap64 (10 * (n : Int) + (c : Int)) - 48) = ((10 * n + (c - 48) : Nat) : Int) := by
  have h4 : ((10 * n + (c - 48) : Nat) : Int) = 10 * (n : Int) + (c : Int) - 48 := by omega
  rw [h4]
  obtain ⟨x, hx⟩ : ∃ x, 10 * (n : Int) + (c : Int) = x := ⟨_, rfl⟩
  rw [hx]
  unfold wrap64
  omega
def NumPost (w : World) (l : List UInt8) (e : Ending) (w' : World) : Prop := ∃ (n : Nat) (b : Bool), e = .returned (.tuple #[.int .i64 (n : Nat), .bool b]) ∧ w = w' ∧ ((numL l = some n ∧ b = true) ∨ (numL l = none ∧ b = false))
set_option maxRecDepth 100000 in
set_option maxHeartbeats 2000000 in
theorem dnumber_any (s : ByteArray) (w : World) (h0 : 0 < s.size) (hs : s.size ≤ 1000000) (hd : ∀ c ∈ bs s, isDigit c = true) :
    Calls Tryd.prog 30 #[.string s] w fun e w' => NumPost w (bs s) e w' := by
  have hlen := bs_length s
  have hhead : (bs s).head? = some s[0] := by
    rw [List.head?_eq_getElem?, List.getElem?_eq_getElem (by rw [hlen]; exact h0), bs_get s 0 h0]
  by_cases hz : s[0] = 48 ∧ 1 < s.size
  · have hn : numL (bs s) = none := by
      unfold numL
      rw [if_pos (.inl ⟨by rw [hhead, hz.1], by omega⟩)]
    have h1 : ((s[0].toNat : Int) == 48) = true := by rw [hz.1]; rfl
    have h2 := hz.2
    have HN := Lib.hid hn
    clear hz hn hlen hhead hd
    go_enter Tryd.func30, Tryd.ntmps30
    go_wp2_with fail
    go_ret2
    exact ⟨0, false, rfl, rfl, .inr ⟨HN.out, rfl⟩⟩
  have hnz : ¬ ((bs s).head? = some 48 ∧ 1 < (bs s).length) := by
    rintro ⟨e1, e2⟩
    rw [hhead] at e1
    exact hz ⟨Option.some.inj e1, by omega⟩
  have hdoc := num_doc hd hnz
  have hne : bs s ≠ [] := fun e => by rw [e] at hlen; simp at hlen; omega
  have hc48 : (((s[0].toNat : Int) == 48) = true ∧ ¬ 1 < s.size) ∨ ((s[0].toNat : Int) == 48) = false := by
    by_cases e : s[0] = 48
    · exact .inl ⟨by rw [e]; rfl, fun h => hz ⟨e, h⟩⟩
    · refine .inr ?_
      rw [beq_eq_false_iff_ne]
      intro e2
      exact e (UInt8.toNat_inj.1 (by show s[0].toNat = 48; omega))
  clear hhead hz
  by_cases h19 : 19 < s.size
  · have hn : numL (bs s) = none := by
      unfold numL
      rw [if_pos (.inr (hdoc.1 (.inl (by omega))).1)]
    have HN := Lib.hid hn
    clear hn hlen hd hdoc hne hnz
    rcases hc48 with ⟨hc, h1⟩ | hc
    · omega
    all_goals
      go_enter Tryd.func30, Tryd.ntmps30
      go_wp2_with fail
      go_ret2
      exact ⟨0, false, rfl, rfl, .inr ⟨HN.out, rfl⟩⟩
  by_cases hbad : s.size = 19 ∧ (Op.bytesLess (bs s) maxD || bs s == maxD) = false
  · have hn : numL (bs s) = none := by
      unfold numL
      rw [if_pos (.inr (hdoc.1 (.inr ⟨by omega, hbad.2⟩)).1)]
    have HN := Lib.hid hn
    obtain ⟨hb1, hb2⟩ := hbad
    have hcmp : ∀ u, (binOp BinOp.gtr 9 (.string s) (.string ⟨#[57, 50, 50, 51, 51, 55, 50, 48, 51, 54, 56, 53, 52, 55, 55, 53, 56, 48, 55]⟩)).run Tryd.prog u = .ok (.bool true) u := fun u => by
      rw [run_gtr_str, maxD_str, bs_toList, hb2]; rfl
    have h5 : ((s.size : Int) == 19) = true := by rw [beq_iff_eq]; omega
    have h6 : s.size ≤ 19 := by omega
    clear hn hlen hd hdoc hne hnz hb2
    rcases hc48 with ⟨hc, h1⟩ | hc
    · omega
    clear hb1
    go_enter Tryd.func30, Tryd.ntmps30
    go_wp2_with fail
    go_ret2
    exact ⟨0, false, rfl, rfl, .inr ⟨HN.out, rfl⟩⟩
  have hsm : ¬ (9223372036854775807 < dval (bs s)) := fun h => by
    rcases hdoc.2 ⟨h, hne⟩ with h | h
    · omega
    · exact hbad ⟨by omega, h.2⟩
  have hn : numL (bs s) = some (dval (bs s)) := by
    unfold numL
    rw [if_neg (by rintro (h | h); exact hnz h; exact hsm h)]
  have HN := Lib.hid hn
  have HSM := Lib.hid hsm
  have HD := Lib.hid hd
  have HLEN := Lib.hid hlen
  have hcase : (s.size = 19 ∧ (Op.bytesLess (bs s) maxD || bs s == maxD) = true) ∨ ((s.size : Int) == 19) = false := by
    by_cases e : s.size = 19
    · refine .inl ⟨e, ?_⟩
      cases hb : (Op.bytesLess (bs s) maxD || bs s == maxD) with
      | true => rfl
      | false => exact absurd ⟨e, hb⟩ hbad
    · refine .inr ?_
      rw [beq_eq_false_iff_ne]
      intro e2
      exact e (by omega)
  have hcmp : ((s.size : Int) == 19) = true → ∀ u, (binOp BinOp.gtr 9 (.string s) (.string ⟨#[57, 50, 50, 51, 51, 55, 50, 48, 51, 54, 56, 53, 52, 55, 55, 53, 56, 48, 55]⟩)).run Tryd.prog u = .ok (.bool false) u := fun h u => by
    rcases hcase with ⟨_, e⟩ | e
    · rw [run_gtr_str, maxD_str, bs_toList, e]; rfl
    · rw [h] at e; cases e
  have h19' : s.size ≤ 19 := by omega
  clear hn hsm hd hlen hdoc hne hnz hbad h19
  cases hb19 : ((s.size : Int) == 19) with
  | true =>
    have hcmp := hcmp hb19
    have h19s : s.size = 19 := by have h := hb19; simp only [beq_iff_eq] at h; omega
    rcases hc48 with ⟨hc, h1⟩ | hc
    · omega
    clear hcase h19s
    go_enter Tryd.func30, Tryd.ntmps30
    go_wp2_with fail
    clear hcmp hb19
    go_loop [4, 5] (fun v i => ∃ q : Nat, q ≤ s.size ∧ i = .int .i64 q ∧ v = .int .i64 (dval ((bs s).take q) : Nat)) (fun _ i => s.size - (intOf i).toNat)
    case atStart => exact ⟨0, Nat.zero_le _, rfl, by simp [dval]⟩
    case round =>
      obtain ⟨q, hq, rfl, rfl⟩ := hrel
      by_cases hlt : q < s.size
      · have hd := HD.out s[q] (by rw [← bs_get s q hlt]; exact List.getElem_mem _)
        obtain ⟨hc1, hc2⟩ := dig_says hd
        have hsucc : dval ((bs s).take (q + 1)) = 10 * dval ((bs s).take q) + (s[q].toNat - 48) := by
          rw [List.take_succ_eq_append_getElem (by rw [HLEN.out]; exact hlt), dval_snoc, bs_get s q hlt]
        have hle := dval_take_le (bs s) (q + 1)
        have hmx : dval ((bs s).take (q + 1)) ≤ 9223372036854775807 := by have := HSM.out; omega
        obtain ⟨n, hn⟩ : ∃ n, dval ((bs s).take q) = n := ⟨_, rfl⟩
        obtain ⟨c, hcn⟩ : ∃ c, s[q].toNat = c := ⟨_, rfl⟩
        rw [hn, hcn] at hsucc
        rw [hcn] at hc1 hc2
        rw [hsucc] at hmx
        rw [hn]
        have hcell : ((s[q].toNat : Nat) : Int) = (c : Int) := by rw [hcn]
        have w1 : IntKind.i64.wrap (10 * (n : Int)) = 10 * (n : Int) := wrap_d1 n c hmx
        have w2 := Lib.hid (wrap_d2 n c hc1 hc2 hmx)
        have HSU := Lib.hid hsucc
        clear hn hcn hsucc hd hle
        go_wp2_with fail
        exact ⟨⟨q + 1, by omega, by go_num, by rw [HSU.out, w2.out]⟩, by simp [intOf]; omega⟩
      · obtain rfl : s.size = q := by omega
        have hf : (bs s).take s.size = bs s := List.take_of_length_le (by rw [HLEN.out]; exact Nat.le_refl _)
        rw [hf]
        clear hf
        go_wp2_with fail
        go_ret2
        exact ⟨dval (bs s), true, rfl, rfl, .inl ⟨HN.out, rfl⟩⟩
  | false =>
    clear hcmp hcase
    rcases hc48 with ⟨hc, h1⟩ | hc
    all_goals
      go_enter Tryd.func30, Tryd.ntmps30
      go_wp2_with fail
      clear hb19
      go_loop [4, 5] (fun v i => ∃ q : Nat, q ≤ s.size ∧ i = .int .i64 q ∧ v = .int .i64 (dval ((bs s).take q) : Nat)) (fun _ i => s.size - (intOf i).toNat)
      case atStart => exact ⟨0, Nat.zero_le _, rfl, by simp [dval]⟩
      case round =>
        obtain ⟨q, hq, rfl, rfl⟩ := hrel
        by_cases hlt : q < s.size
        · have hd := HD.out s[q] (by rw [← bs_get s q hlt]; exact List.getElem_mem _)
          obtain ⟨hc1, hc2⟩ := dig_says hd
          have hsucc : dval ((bs s).take (q + 1)) = 10 * dval ((bs s).take q) + (s[q].toNat - 48) := by
            rw [List.take_succ_eq_append_getElem (by rw [HLEN.out]; exact hlt), dval_snoc, bs_get s q hlt]
          have hle := dval_take_le (bs s) (q + 1)
          have hmx : dval ((bs s).take (q + 1)) ≤ 9223372036854775807 := by have := HSM.out; omega
          obtain ⟨n, hn⟩ : ∃ n, dval ((bs s).take q) = n := ⟨_, rfl⟩
          obtain ⟨c, hcn⟩ : ∃ c, s[q].toNat = c := ⟨_, rfl⟩
          rw [hn, hcn] at hsucc
          rw [hcn] at hc1 hc2
          rw [hsucc] at hmx
          rw [hn]
          have hcell : ((s[q].toNat : Nat) : Int) = (c : Int) := by rw [hcn]
          have w1 : IntKind.i64.wrap (10 * (n : Int)) = 10 * (n : Int) := wrap_d1 n c hmx
          have w2 := Lib.hid (wrap_d2 n c hc1 hc2 hmx)
          have HSU := Lib.hid hsucc
          clear hn hcn hsucc hd hle
          go_wp2_with fail
          exact ⟨⟨q + 1, by omega, by go_num, by rw [HSU.out, w2.out]⟩, by simp [intOf]; omega⟩
        · obtain rfl : s.size = q := by omega
          have hf : (bs s).take s.size = bs s := List.take_of_length_le (by rw [HLEN.out]; exact Nat.le_refl _)
          rw [hf]
          clear hf
          go_wp2_with fail
          go_ret2
          exact ⟨dval (bs s), true, rfl, rfl, .inl ⟨HN.out, rfl⟩⟩
end Go.Proofs.YtlildhacfimaaaaDoor
