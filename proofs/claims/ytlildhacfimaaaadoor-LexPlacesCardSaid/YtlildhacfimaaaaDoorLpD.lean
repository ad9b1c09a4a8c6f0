/-
  What separates tokens: the program's gap; where words, digits, signs end.
-/
import Derived.Test.YtlildhacfimaaaaDoorLpC
import Derived.RangeFuncBox
namespace Go.Proofs.YtlildhacfimaaaaDoor
open Go.RowKit Go.Shelf

/-! ### purely -/
/-- How many bytes only separate. -/
def gapL : Bool → List UInt8 → Nat
  | _, [] => 0
  | cm, c :: r => if cm = true ∨ c = 37 then gapL (decide (c ≠ 10)) r + 1 else if srt c = 5 then gapL false r + 1 else 0
theorem gapL_cons (cm : Bool) (c : UInt8) (r : List UInt8) : gapL cm (c :: r) = if cm = true ∨ c = 37 then gapL (decide (c ≠ 10)) r + 1 else if srt c = 5 then gapL false r + 1 else 0 := by rw [gapL]
theorem gap_lex : ∀ (l : List UInt8) (cm : Bool) (at' : Nat), (l.drop (gapL cm l) = [] ∧ lexL cm at' l = .inr []) ∨ (∃ c r, l.drop (gapL cm l) = c :: r ∧ ¬ c = 37 ∧ ¬ srt c = 5 ∧ lexL cm at' l = lexL false (at' + gapL cm l) (c :: r))
  | [], cm, at' => .inl ⟨rfl, lexL_nil _ _⟩
  | c :: r, cm, at' => by
    unfold gapL
    by_cases h1 : cm = true ∨ c = 37
    · rw [if_pos h1, lexL_skip h1, List.drop_succ_cons]
      rcases gap_lex r (decide (c ≠ 10)) (at' + 1) with h | ⟨c', r', h2, h3, h4, h5⟩
      · exact .inl h
      · exact .inr ⟨c', r', h2, h3, h4, by rw [h5]; congr 1; omega⟩
    rw [if_neg h1]
    by_cases h5 : srt c = 5
    · rw [if_pos h5, lexL_gap h1 h5, List.drop_succ_cons]
      rcases gap_lex r false (at' + 1) with h | ⟨c', r', h2, h3, h4, h5⟩
      · exact .inl h
      · exact .inr ⟨c', r', h2, h3, h4, by rw [h5]; congr 1; omega⟩
    rw [if_neg h5, List.drop_zero]
    refine .inr ⟨c, r, rfl, fun e => h1 (.inr e), h5, ?_⟩
    have : cm = false := by
      cases cm with
      | false => rfl
      | true => exact absurd (.inl rfl) h1
    rw [this]
    rfl
def okG (cm : Bool) (r : Int) : Bool := decide (r = 37) || decide (r = 10) || cm || decide (r = 32) || decide (r = 9)
def nxG (cm : Bool) (r : Int) : Bool := if r = 37 then true else if r = 10 then false else cm
theorem pdrop_at (s : ByteArray) (p : Nat) (h : p < s.size) : (bs s).drop p = s[p] :: (bs s).drop (p + 1) := by
  rw [List.drop_eq_getElem_cons (by rw [bs_length]; exact h), bs_get s p h]
theorem get!_at (s : ByteArray) (p : Nat) (h : p < s.size) : s.get! p = s[p]'h := by
  have := get_at s p h
  simpa using this
/-- A character that is not of ASCII has no byte of ASCII. -/
theorem wide_high (s : ByteArray) (pos : Nat) (h : pos < s.size) (ha : 128 ≤ (s[pos]'h).toNat) (j : Nat) (h1 : pos ≤ j) (h2 : j < pos + (Utf8.decode s pos).2) : ∃ hj : j < s.size, 128 ≤ (s[j]'hj).toNat := by
  have hj : j < s.size := by have := wid_le s pos h; omega
  refine ⟨hj, ?_⟩
  rw [Lib.decode_at, get!_at s pos h] at h2
  unfold Lib.decodeN at h2
  rw [if_neg (by omega)] at h2
  rcases Nat.eq_or_lt_of_le h1 with e | h3
  · subst e; exact ha
  have k1 : j = pos + 1 → (s.get! (pos + 1)).toNat / 64 = 2 → 128 ≤ (s[j]'hj).toNat := fun e h => by
    subst e; rw [get!_at s _ hj] at h; omega
  have k2 : j = pos + 2 → (s.get! (pos + 2)).toNat / 64 = 2 → 128 ≤ (s[j]'hj).toNat := fun e h => by
    subst e; rw [get!_at s _ hj] at h; omega
  have k3 : j = pos + 3 → (s.get! (pos + 3)).toNat / 64 = 2 → 128 ≤ (s[j]'hj).toNat := fun e h => by
    subst e; rw [get!_at s _ hj] at h; omega
  split at h2
  · rename_i hc
    split at h2
    · exact k1 (by simp only at h2; omega) hc.2.2
    · simp only at h2; omega
  split at h2
  · rename_i hc
    split at h2
    · simp only at h2
      rcases (by omega : j = pos + 1 ∨ j = pos + 2) with e | e
      · exact k1 e hc.2.1.2
      · exact k2 e hc.2.2.2
    · simp only at h2; omega
  split at h2
  · rename_i hc
    split at h2
    · simp only at h2
      rcases (by omega : j = pos + 1 ∨ j = pos + 2 ∨ j = pos + 3) with e | e | e
      · exact k1 e hc.2.1.2
      · exact k2 e hc.2.2.1.2
      · exact k3 e hc.2.2.2.2
    · simp only at h2; omega
  · simp only at h2; omega
theorem gap_wide (s : ByteArray) : ∀ (n pos : Nat), (∀ j, pos ≤ j → j < pos + n → ∃ hj : j < s.size, 128 ≤ (s[j]'hj).toNat) → gapL true ((bs s).drop pos) = gapL true ((bs s).drop (pos + n)) + n
  | 0, pos, _ => rfl
  | n + 1, pos, h => by
    obtain ⟨hj, hh⟩ := h pos (Nat.le_refl _) (by omega)
    rw [pdrop_at s pos hj]
    have h10 : s[pos] ≠ 10 := fun e => by rw [e] at hh; revert hh; decide
    rw [gapL_cons, if_pos (.inl rfl), decide_eq_true h10, gap_wide s n (pos + 1) (fun j h1 h2 => h j (by omega) (by omega)), show pos + 1 + n = pos + (n + 1) by omega, Nat.add_assoc]
theorem byte_int (c : UInt8) (n : Nat) (h : n < 256) : decide (((c.toNat : Nat) : Int) = (n : Int)) = decide (c = UInt8.ofNat n) := by
  rw [Bool.eq_iff_iff, decide_eq_true_eq, decide_eq_true_eq]
  constructor
  · intro e
    have : c.toNat = n := by omega
    rw [← this, UInt8.ofNat_toNat]
  · rintro rfl
    rw [UInt8.toNat_ofNat', Nat.mod_eq_of_lt h]
theorem okG_byte (cm : Bool) (c : UInt8) : okG cm (c.toNat : Nat) = (decide (c = 37) || decide (srt c = 5) || cm) := by
  have h := byte_all (fun c => (okG true (c.toNat : Nat) == (decide (c = 37) || decide (srt c = 5) || true)) && (okG false (c.toNat : Nat) == (decide (c = 37) || decide (srt c = 5) || false))) (by decide +kernel) c
  rw [Bool.and_eq_true, beq_iff_eq, beq_iff_eq] at h
  cases cm
  · exact h.2
  · exact h.1
theorem nxG_byte (cm : Bool) (c : UInt8) : nxG cm (c.toNat : Nat) = (decide (c = 37) || (cm && decide (c ≠ 10))) := by
  have h := byte_all (fun c => (nxG true (c.toNat : Nat) == (decide (c = 37) || (true && decide (c ≠ 10)))) && (nxG false (c.toNat : Nat) == (decide (c = 37) || (false && decide (c ≠ 10))))) (by decide +kernel) c
  rw [Bool.and_eq_true, beq_iff_eq, beq_iff_eq] at h
  cases cm
  · exact h.2
  · exact h.1
theorem span_gap (s : ByteArray) : ∀ (f pos : Nat) (cm : Bool), s.size ≤ pos + f → spanD okG nxG s f pos cm = pos + gapL cm ((bs s).drop pos)
  | 0, pos, cm, h => by
    rw [List.drop_eq_nil_of_le (by rw [bs_length]; omega)]
    rfl
  | f + 1, pos, cm, h => by
    unfold spanD
    by_cases h1 : pos < s.size
    · rw [if_pos h1]
      by_cases h2 : (s[pos]).toNat < 128
      · rw [decode_ascii s pos h1 h2]
        simp only
        rw [okG_byte, nxG_byte, pdrop_at s pos h1]
        unfold gapL
        by_cases h3 : cm = true ∨ s[pos] = 37
        · rw [if_pos h3]
          have h4 : (decide (s[pos] = 37) || decide (srt s[pos] = 5) || cm) = true := by
            rcases h3 with h3 | h3 <;> simp [h3]
          rw [if_pos h4, span_gap s f (pos + 1) _ (by omega)]
          have h5 : (decide (s[pos] = 37) || (cm && decide (s[pos] ≠ 10))) = decide (s[pos] ≠ 10) := by
            rcases h3 with h3 | h3
            · rw [h3]
              by_cases h6 : s[pos] = 37
              · rw [h6]; rfl
              · simp [h6]
            · rw [h3]; rfl
          rw [h5]
          omega
        · rw [if_neg h3]
          have hcm : cm = false := by
            cases cm with
            | false => rfl
            | true => exact absurd (.inl rfl) h3
          have h37 : ¬ s[pos] = 37 := fun e => h3 (.inr e)
          subst hcm
          by_cases h6 : srt s[pos] = 5
          · simp only [h37, h6, decide_true, decide_false, Bool.or_true, Bool.false_or, Bool.true_or, if_true, Bool.false_and]
            rw [span_gap s f (pos + 1) _ (by omega)]
            omega
          · simp [h37, h6]
      · have h3 := decode_high s pos h1 (by omega)
        have h4 : okG cm ((Utf8.decode s pos).1 : Nat) = cm := by
          unfold okG
          have a1 : ¬ (((Utf8.decode s pos).1 : Nat) : Int) = 37 := by omega
          have a2 : ¬ (((Utf8.decode s pos).1 : Nat) : Int) = 10 := by omega
          have a3 : ¬ (((Utf8.decode s pos).1 : Nat) : Int) = 32 := by omega
          have a4 : ¬ (((Utf8.decode s pos).1 : Nat) : Int) = 9 := by omega
          simp [a1, a2, a3, a4]
        have h5 : nxG cm ((Utf8.decode s pos).1 : Nat) = cm := by
          unfold nxG
          rw [if_neg (by omega), if_neg (by omega)]
        rw [h4, h5]
        cases cm with
        | false =>
          rw [if_neg (by simp), pdrop_at s pos h1]
          unfold gapL
          have h6 : ¬ s[pos] = 37 := fun e => by rw [e] at h2; exact h2 (by decide)
          have h7 : ¬ srt s[pos] = 5 := fun e => by
            unfold srt at e
            repeat' split at e
            all_goals omega
          rw [if_neg (by simp [h6]), if_neg h7]
          rfl
        | true =>
          rw [if_pos rfl, span_gap s f _ _ (by omega), gap_wide s (Utf8.decode s pos).2 pos (fun j g1 g2 => wide_high s pos h1 (by omega) j g1 g2)]
          omega
    · rw [if_neg h1, List.drop_eq_nil_of_le (by rw [bs_length]; omega)]
      rfl
theorem span_take (p : UInt8 → Bool) (ok : Int → Bool) (h1 : ∀ c : UInt8, ok (c.toNat : Nat) = p c) (h2 : ∀ r, 128 ≤ r → ok r = false) (s : ByteArray) : ∀ (f pos : Nat) (a : Bool), s.size ≤ pos + f → spanD (fun _ => ok) (fun _ _ => false) s f pos a = pos + (((bs s).drop pos).takeWhile p).length
  | 0, pos, a, h => by
    rw [List.drop_eq_nil_of_le (by rw [bs_length]; omega)]
    rfl
  | f + 1, pos, a, h => by
    unfold spanD
    by_cases hp : pos < s.size
    · rw [if_pos hp, pdrop_at s pos hp]
      by_cases h3 : (s[pos]).toNat < 128
      · rw [decode_ascii s pos hp h3]
        simp only
        rw [h1]
        cases hq : p s[pos]
        · simp [hq]
        · rw [if_pos rfl, span_take p ok h1 h2 s f (pos + 1) false (by omega)]
          simp only [List.takeWhile_cons, hq, if_true, List.length_cons]
          omega
      · have h4 := decode_high s pos hp (by omega)
        rw [h2 _ (by omega)]
        have h5 : p s[pos] = false := by rw [← h1]; exact h2 _ (by omega)
        simp [h5]
    · rw [if_neg hp, List.drop_eq_nil_of_le (by rw [bs_length]; omega)]
      rfl
/-! ### the functions that tell of characters -/
theorem tells_of {g : Nat} {ok : Int → Bool} {B : Nat} (eg : ∀ args w, (callFunc g args).run Tryd.prog w = .ok (.enter g args) w) (h : ∀ r w, 0 ≤ r → Calls Tryd.prog g #[.int .i32 r] w fun e w' => BoolPost w (ok r) e w') : Tells g #[] none B (fun _ _ => True) (fun _ => ok) (fun _ _ => false) where
  enters := eg
  call := fun a r W _ h0 _ _ => (h r W h0).mono fun e W' ⟨he, hb⟩ => ⟨he, trivial, ⟨hb.os, hb.tape, hb.output, hb.size, fun k hk _ => hb.block k hk⟩⟩
  keep := fun _ _ _ _ _ _ => trivial
  low := fun k h => by cases h
def TakePost (w : World) (n : Nat) (e : Ending) (w' : World) : Prop := e = .returned (.int .i64 (n : Nat)) ∧ Below w.heap.size w w'
theorem grown_none {w w' : World} (h : w.grownBy w' none) : Below w.heap.size w w' := ⟨h.os, h.tape, h.output, h.size, fun k hk => h.block k hk (by simp)⟩
theorem span_word (s : ByteArray) (w : World) (hs : s.size ≤ 1000000) : Calls Tryd.prog 14 #[.string s, .func (.func 18) #[] #[]] w fun e w' => TakePost w ((bs s).takeWhile isWord).length e w' := by
  have hT : Tells 18 #[] none w.heap.size (fun _ _ => True) (fun _ => worR) (fun _ _ => false) := tells_of (enters_of Tryd.func18 (by kernel_rfl) rfl) fun r w _ => (pwor_any r w).mono fun e w' ⟨he, hw⟩ => ⟨he, hw ▸ Below.refl _ _⟩
  refine (span_any s w false hs hT trivial).mono fun e w' ⟨he, hg⟩ => ⟨?_, grown_none hg⟩
  rw [he, span_take isWord worR wor_of (fun r h => wor_high h) s _ 0 false (by omega)]
  simp
theorem span_digit (s : ByteArray) (w : World) (hs : s.size ≤ 1000000) : Calls Tryd.prog 14 #[.string s, .func (.func 20) #[] #[]] w fun e w' => TakePost w ((bs s).takeWhile isDigit).length e w' := by
  have hT : Tells 20 #[] none w.heap.size (fun _ _ => True) (fun _ => digR) (fun _ _ => false) := tells_of (enters_of Tryd.func20 (by kernel_rfl) rfl) fun r w _ => (pdig_any r w).mono fun e w' ⟨he, hw⟩ => ⟨he, hw ▸ Below.refl _ _⟩
  refine (span_any s w false hs hT trivial).mono fun e w' ⟨he, hg⟩ => ⟨?_, grown_none hg⟩
  rw [he, span_take isDigit digR dig_of (fun r h => dig_high h) s _ 0 false (by omega)]
  simp
theorem span_sign (s : ByteArray) (w : World) (hs : s.size ≤ 1000000) : Calls Tryd.prog 14 #[.string s, .func (.func 24) #[] #[]] w fun e w' => TakePost w ((bs s).takeWhile isSign).length e w' := by
  have hT : Tells 24 #[] none w.heap.size (fun _ _ => True) (fun _ => sigR) (fun _ _ => false) := tells_of (enters_of Tryd.func24 (by kernel_rfl) rfl) fun r w h => psig_any r h w
  refine (span_any s w false hs hT trivial).mono fun e w' ⟨he, hg⟩ => ⟨?_, grown_none hg⟩
  rw [he, span_take isSign sigR sig_of (fun r h => sig_high h) s _ 0 false (by omega)]
  simp
def GapPost (w : World) (b : Bool) (mb : Nat) (cm : Bool) (e : Ending) (w' : World) : Prop := e = .returned (.bool b) ∧ Boxed w' mb 4 (.bool cm) ∧ w.grownBy w' (some mb)
set_option maxRecDepth 100000 in
set_option maxHeartbeats 2000000 in
theorem gapf_any (cm : Bool) (r : Int) (mb : Nat) (W : World) (hb : Boxed W mb 4 (.bool cm)) :
    Calls Tryd.prog 15 #[.int .i32 r, .pointer (some ⟨mb, 0, none⟩)] W fun e w' => GapPost W (okG cm r) mb (nxG cm r) e w' := by
  have hc := hb.cell
  have hf := hb.frozen
  have hlt := hb.lt
  have HB := Lib.hid hb
  clear hb
  by_cases h1 : r = 37
  · subst h1
    have e1 : okG cm 37 = true := rfl
    have e2 : nxG cm 37 = true := rfl
    rw [e1, e2]
    go_enter Tryd.func15, Tryd.ntmps15
    go_wp2_with fail
    go_ret
    exact ⟨rfl, HB.out.set _, grownBy_setCell' _ _ _⟩
  by_cases h2 : r = 10
  · subst h2
    have e1 : okG cm 10 = true := rfl
    have e2 : nxG cm 10 = false := rfl
    rw [e1, e2]
    clear h1
    go_enter Tryd.func15, Tryd.ntmps15
    go_wp2_with fail
    go_ret
    exact ⟨rfl, HB.out.set _, grownBy_setCell' _ _ _⟩
  have e2 : nxG cm r = cm := by unfold nxG; rw [if_neg h1, if_neg h2]
  have b1 : (r == 37) = false := by rw [beq_eq_false_iff_ne]; exact h1
  have b2 : (r == 10) = false := by rw [beq_eq_false_iff_ne]; exact h2
  rw [e2]
  have e1 : okG cm r = (cm || decide (r = 32) || decide (r = 9)) := by unfold okG; simp [h1, h2]
  rw [e1]
  clear e1 e2 h1 h2
  by_cases h3 : r = 32
  · subst h3
    cases cm
    all_goals
      go_enter Tryd.func15, Tryd.ntmps15
      go_wp2_with fail
      go_ret
      exact ⟨rfl, HB.out, World.grownBy.refl _ _⟩
  have b3 : (r == 32) = false := by rw [beq_eq_false_iff_ne]; exact h3
  by_cases h4 : r = 9
  · subst h4
    clear h3
    cases cm
    all_goals
      go_enter Tryd.func15, Tryd.ntmps15
      go_wp2_with fail
      go_ret
      exact ⟨rfl, HB.out, World.grownBy.refl _ _⟩
  have b4 : (r == 9) = false := by rw [beq_eq_false_iff_ne]; exact h4
  have e3 : (cm || decide (r = 32) || decide (r = 9)) = cm := by simp [h3, h4]
  rw [e3]
  clear e3 h3 h4
  cases cm
  all_goals
    go_enter Tryd.func15, Tryd.ntmps15
    go_wp2_with fail
    go_ret
    exact ⟨rfl, HB.out, World.grownBy.refl _ _⟩
theorem tells_gap (mb B : Nat) (h : mb < B) : Tells 15 #[.pointer (some ⟨mb, 0, none⟩)] (some mb) B (fun cm W => Boxed W mb 4 (.bool cm)) okG nxG where
  enters := enters_of Tryd.func15 (by kernel_rfl) rfl
  call := fun a r W hb _ _ _ => gapf_any a r mb W hb
  keep := fun a W W' hb hk _ => (hk mb h).trans hb
  low := fun k e => by cases e; exact h
set_option maxRecDepth 100000 in
set_option maxHeartbeats 2000000 in
theorem gap_any (s : ByteArray) (w : World) (hs : s.size ≤ 1000000) : Calls Tryd.prog 10 #[.string s] w fun e w' => TakePost w (gapL false (bs s)) e w' := by
  have hS : Calls Tryd.prog 14 #[.string s, .func (.func 15) #[] #[.pointer (some ⟨w.heap.size, 0, none⟩)]] (w.alloc (.cells #[.bool false] 4)) _ :=
    span_any s (w.alloc (.cells #[.bool false] 4)) false hs (tells_gap w.heap.size (w.alloc (.cells #[.bool false] 4)).heap.size (by simp)) (Boxed.new w 4 (.bool false))
  rw [span_gap s _ 0 false (by omega), List.drop_zero, Nat.zero_add] at hS
  have H := Lib.hid hS
  clear hS
  go_enter Tryd.func10, Tryd.ntmps10
  go_wp2_with (go_at_call 14; refine (H.out).mono ?_; rintro e w1 ⟨rfl, hg⟩; have HG := Lib.hid hg; clear hg)
  go_ret
  exact ⟨rfl, ((Below.refl _ w).alloc (Nat.le_refl _) _).grown HG.out (by simp) (fun k hk => by cases hk; exact Nat.le_refl _)⟩
end Go.Proofs.YtlildhacfimaaaaDoor
