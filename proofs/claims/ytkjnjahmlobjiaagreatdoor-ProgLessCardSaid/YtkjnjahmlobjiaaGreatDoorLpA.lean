/-
  The program's small functions: of which sort a character is.
  Whether a character stands in a text of ASCII; whether it is a sign.
  The program's span, over any function value that tells of characters.
  What separates tokens: the program's gap; where words, digits, signs end.
-/
import Derived.Test.YtkjnjahmlobjiaaGreatDoorLxA
import Derived.Test.YtkjnjahmlobjiaaGreatDoorShelf
import Derived.Lib.OthersKept
import Derived.BigQuiet
import Derived.Laws.Runes
import Derived.WalkMore
import Derived.Outline
import Derived.Shelf.RegionOpenPlain
import Derived.Lib.FieldsU
import Derived.BigCall
import Derived.Maps.AppendAt
import Derived.RangeFuncBox
namespace Go.Proofs.YtkjnjahmlobjiaaGreatDoor
open Go.RowKit

/-! ### characters -/
def lowR (r : Int) : Bool := decide (97 ≤ r ∧ r ≤ 122)
def upR (r : Int) : Bool := decide ((65 ≤ r ∧ r ≤ 90) ∨ r = 95)
def digR (r : Int) : Bool := decide (48 ≤ r ∧ r ≤ 57)
def worR (r : Int) : Bool := lowR r || upR r || digR r
def asB (r : Int) : UInt8 := r.toNat.toUInt8
def sigR (r : Int) : Bool := decide (r < 128) && isSign (asB r)
theorem asB_of (c : UInt8) : asB (c.toNat : Nat) = c := by simp [asB]
theorem low_of (c : UInt8) : lowR (c.toNat : Nat) = decide (srt c = 1) := by
  unfold lowR srt
  rw [Bool.eq_iff_iff, decide_eq_true_eq, decide_eq_true_eq]
  repeat' split
  all_goals omega
theorem up_of (c : UInt8) : upR (c.toNat : Nat) = decide (srt c = 2) := by
  unfold upR srt
  rw [Bool.eq_iff_iff, decide_eq_true_eq, decide_eq_true_eq]
  repeat' split
  all_goals omega
theorem dig_of (c : UInt8) : digR (c.toNat : Nat) = isDigit c := by
  unfold digR isDigit srt
  rw [Bool.eq_iff_iff, decide_eq_true_eq, beq_iff_eq]
  repeat' split
  all_goals omega
theorem wor_of (c : UInt8) : worR (c.toNat : Nat) = isWord c := by
  unfold worR isWord
  rw [low_of, up_of, dig_of, isDigit, Bool.eq_iff_iff]
  simp only [Bool.or_eq_true, decide_eq_true_eq, beq_iff_eq]
  omega
theorem sig_of (c : UInt8) : sigR (c.toNat : Nat) = isSign c := by
  unfold sigR
  rw [asB_of]
  by_cases h : c.toNat < 128
  · have : ((c.toNat : Nat) : Int) < 128 := by omega
    simp [this]
  · have h1 : isSign c = false := by
      unfold isSign srt
      rw [beq_eq_false_iff_ne]
      have : sgn c = false := by
        unfold sgn
        rw [Bool.eq_false_iff]
        intro hc
        rw [List.contains_iff_mem] at hc
        simp only [List.mem_cons, List.not_mem_nil, or_false] at hc
        rcases hc with rfl | rfl | rfl | rfl | rfl | rfl | rfl | rfl | rfl | rfl | rfl | rfl | rfl | rfl | rfl | rfl <;> exact h (by decide)
      rw [this]
      simp only [Bool.false_eq_true, false_or]
      repeat' split
      all_goals omega
    rw [h1]
    simp
theorem wor_high {r : Int} (h : 128 ≤ r) : worR r = false := by
  unfold worR lowR upR digR
  simp only [Bool.or_eq_false_iff, decide_eq_false_iff_not]
  omega
theorem dig_high {r : Int} (h : 128 ≤ r) : digR r = false := by
  unfold digR
  rw [decide_eq_false_iff_not]
  omega
theorem sig_high {r : Int} (h : 128 ≤ r) : sigR r = false := by
  unfold sigR
  rw [Bool.and_eq_false_iff, decide_eq_false_iff_not]
  omega

set_option maxRecDepth 100000 in
theorem plow_any (r : Int) (w : World) : Calls Tryz.prog 70 #[.int .i32 r] w fun e w' => e = .returned (.bool (lowR r)) ∧ w = w' := by
  obtain ⟨b, hb⟩ : ∃ b, lowR r = b := ⟨_, rfl⟩
  rw [hb]
  unfold lowR at hb
  by_cases h1 : 97 ≤ r
  · by_cases h2 : r ≤ 122
    · obtain rfl : true = b := by rw [← hb]; simp [h1, h2]
      clear hb
      go_enter Tryz.func70, Tryz.ntmps70
      go_wp2_with fail
      go_ret
      exact ⟨rfl, rfl⟩
    · obtain rfl : false = b := by rw [← hb]; simp [h2]
      clear hb
      go_enter Tryz.func70, Tryz.ntmps70
      go_wp2_with fail
      go_ret
      exact ⟨rfl, rfl⟩
  · obtain rfl : false = b := by rw [← hb]; simp [h1]
    have h3 : r < 97 := by omega
    clear hb h1
    go_enter Tryz.func70, Tryz.ntmps70
    go_wp2_with fail
    go_ret
    exact ⟨rfl, rfl⟩
set_option maxRecDepth 100000 in
theorem pdig_any (r : Int) (w : World) : Calls Tryz.prog 74 #[.int .i32 r] w fun e w' => e = .returned (.bool (digR r)) ∧ w = w' := by
  obtain ⟨b, hb⟩ : ∃ b, digR r = b := ⟨_, rfl⟩
  rw [hb]
  unfold digR at hb
  by_cases h1 : 48 ≤ r
  · by_cases h2 : r ≤ 57
    · obtain rfl : true = b := by rw [← hb]; simp [h1, h2]
      clear hb
      go_enter Tryz.func74, Tryz.ntmps74
      go_wp2_with fail
      go_ret
      exact ⟨rfl, rfl⟩
    · obtain rfl : false = b := by rw [← hb]; simp [h2]
      clear hb
      go_enter Tryz.func74, Tryz.ntmps74
      go_wp2_with fail
      go_ret
      exact ⟨rfl, rfl⟩
  · obtain rfl : false = b := by rw [← hb]; simp [h1]
    have h3 : r < 48 := by omega
    clear hb h1
    go_enter Tryz.func74, Tryz.ntmps74
    go_wp2_with fail
    go_ret
    exact ⟨rfl, rfl⟩
set_option maxRecDepth 100000 in
theorem pup_any (r : Int) (w : World) : Calls Tryz.prog 73 #[.int .i32 r] w fun e w' => e = .returned (.bool (upR r)) ∧ w = w' := by
  obtain ⟨b, hb⟩ : ∃ b, upR r = b := ⟨_, rfl⟩
  rw [hb]
  unfold upR at hb
  by_cases h0 : r = 95
  · obtain rfl : true = b := by rw [← hb]; simp [h0]
    subst h0
    clear hb
    go_enter Tryz.func73, Tryz.ntmps73
    go_wp2_with fail
    go_ret
    exact ⟨rfl, rfl⟩
  have h5 : (r == 95) = false := by rw [beq_eq_false_iff_ne]; exact h0
  by_cases h1 : 65 ≤ r
  · by_cases h2 : r ≤ 90
    · obtain rfl : true = b := by rw [← hb]; simp [h1, h2]
      clear hb h0
      go_enter Tryz.func73, Tryz.ntmps73
      go_wp2_with fail
      go_ret
      exact ⟨rfl, rfl⟩
    · obtain rfl : false = b := by rw [← hb]; simp [h0, h2]
      clear hb h0
      go_enter Tryz.func73, Tryz.ntmps73
      go_wp2_with fail
      go_ret
      exact ⟨rfl, rfl⟩
  · obtain rfl : false = b := by rw [← hb]; simp [h0, h1]
    have h3 : r < 65 := by omega
    clear hb h1 h0
    go_enter Tryz.func73, Tryz.ntmps73
    go_wp2_with fail
    go_ret
    exact ⟨rfl, rfl⟩
set_option maxRecDepth 100000 in
theorem pwor_any (r : Int) (w : World) : Calls Tryz.prog 72 #[.int .i32 r] w fun e w' => e = .returned (.bool (worR r)) ∧ w = w' := by
  have H1 := Lib.hid (fun u => plow_any r u)
  have H2 := Lib.hid (fun u => pup_any r u)
  have H3 := Lib.hid (fun u => pdig_any r u)
  unfold worR
  generalize lowR r = b1 at H1 ⊢
  generalize upR r = b2 at H2 ⊢
  generalize digR r = b3 at H3 ⊢
  cases b1 <;> cases b2 <;> cases b3
  all_goals
    go_enter Tryz.func72, Tryz.ntmps72
    go_wp2_with (first
      | (go_at_call 70; (with_reducible refine (H1.out _).mono ?_); rintro e w1 ⟨rfl, rfl⟩)
      | (go_at_call 73; (with_reducible refine (H2.out _).mono ?_); rintro e w1 ⟨rfl, rfl⟩)
      | (go_at_call 74; (with_reducible refine (H3.out _).mono ?_); rintro e w1 ⟨rfl, rfl⟩))
    go_ret
    exact ⟨rfl, rfl⟩
end Go.Proofs.YtkjnjahmlobjiaaGreatDoor

namespace Go.Proofs.YtkjnjahmlobjiaaGreatDoor
open Go.RowKit

theorem below_dn {B : Nat} {a w : World} (h : Below B a w) (n : Nat) : Below B a (w.drewN n) := ⟨h.os, h.tape, h.output, h.size, h.block⟩
def Asc (s : ByteArray) : Prop := ∀ i (h : i < s.size), s[i].toNat < 128
/-- What a call leaves that makes memory and writes none. -/
def IdxPost (w : World) (n : Int) (e : Ending) (w' : World) : Prop := e = .returned (.int .i64 n) ∧ Below w.heap.size w w'
theorem indexByte_high : ∀ (l : List UInt8) (c : UInt8), (∀ x ∈ l, x.toNat < 128) → 128 ≤ c.toNat → Lib.indexByte l c = -1
  | [], c, _, _ => rfl
  | b :: l, c, h, hc => by
    have h1 := h b (by simp)
    have h2 : (b == c) = false := by rw [beq_eq_false_iff_ne]; rintro rfl; omega
    unfold Lib.indexByte
    rw [h2, indexByte_high l c (fun x hx => h x (by simp [hx])) hc]
    rfl
theorem tail_high (m : Nat) : 128 ≤ (UInt8.ofNat (0x80 + m % 64)).toNat := by
  have : (0x80 + m % 64) % 256 = 0x80 + m % 64 := by omega
  rw [UInt8.toNat_ofNat', this]
  omega
theorem enc_cases {r : Int} (h0 : 128 ≤ r) (hv : Lib.validRune r = true) : ∃ m, (∃ a, Utf8.encode r = ⟨#[a, UInt8.ofNat (0x80 + m % 64)]⟩) ∨ (∃ a b, Utf8.encode r = ⟨#[a, b, UInt8.ofNat (0x80 + m % 64)]⟩) ∨ (∃ a b c, Utf8.encode r = ⟨#[a, b, c, UInt8.ofNat (0x80 + m % 64)]⟩) := by
  have hv' : Utf8.valid r = true := by
    unfold Lib.validRune at hv
    rw [decide_eq_true_eq] at hv
    unfold Utf8.valid
    simp only [Bool.or_eq_true, Bool.and_eq_true, decide_eq_true_eq]
    omega
  refine ⟨r.toNat, ?_⟩
  obtain ⟨c, hc⟩ : ∃ c, c = r.toNat := ⟨_, rfl⟩
  have h1 : ¬ c < 0x80 := by omega
  unfold Utf8.encode
  simp only [hv', if_true]
  rw [← hc, if_neg h1]
  by_cases h2 : c < 0x800
  · rw [if_pos h2]; exact .inl ⟨_, rfl⟩
  by_cases h3 : c < 0x10000
  · rw [if_neg h2, if_pos h3]; exact .inr (.inl ⟨_, _, rfl⟩)
  · rw [if_neg h2, if_neg h3]; exact .inr (.inr ⟨_, _, _, rfl⟩)
theorem enc_high {r : Int} (h0 : 128 ≤ r) (hv : Lib.validRune r = true) : ∃ n, (Utf8.encode r).size = n + 2 ∧ n ≤ 2 ∧ ∃ h : n + 1 < (Utf8.encode r).size, 128 ≤ ((Utf8.encode r)[n + 1]'h).toNat := by
  obtain ⟨m, ⟨a, h⟩ | ⟨a, b, h⟩ | ⟨a, b, c, h⟩⟩ := enc_cases h0 hv
  · rw [h]; exact ⟨0, rfl, by omega, by show 1 < 2; omega, tail_high m⟩
  · rw [h]; exact ⟨1, rfl, by omega, by show 2 < 3; omega, tail_high m⟩
  · rw [h]; exact ⟨2, rfl, by omega, by show 3 < 4; omega, tail_high m⟩
set_option maxRecDepth 100000 in
set_option maxHeartbeats 2000000 in
theorem idx_error (s : ByteArray) (ha : Asc s) (w : World) : Calls Tryz.prog 92 #[.string s, .int .i32 65533] w fun e w' => IdxPost w (-1) e w' := by
  have HA := Lib.hid ha
  clear ha
  go_enter Tryz.func92, Tryz.ntmps92
  go_wp2_with fail
  go_loopw [] (fun wr => ∃ pos : Nat, wr.heap[w.heap.size]? = some (.stringIter s pos) ∧ Hid (Below w.heap.size w wr)) (fun wr => s.size - wr.iterPos w.heap.size)
  case atStart =>
    refine ⟨0, ?_, Lib.hid ((Below.refl _ w).alloc (Nat.le_refl _) _)⟩
    have := World.iter_heap w s 0
    simpa using this
  case round =>
    obtain ⟨pos, hit, hb⟩ := hrel
    by_cases hp : pos < s.size
    · have hnx : ∀ ty, (Instr.next (.pointer (some ⟨w.heap.size, 0, none⟩)) true ty).run Tryz.prog wr = _ := fun ty => Lib.run_next_ascii_at wr w.heap.size s pos ty hit hp (HA.out pos hp)
      have h1 := HA.out pos hp
      have h2 : ((s[pos].toNat : Int) == 65533) = false := by rw [beq_eq_false_iff_ne]; omega
      have HIT := Lib.hid hit
      have HB2 := Lib.hid (Lib.below_iterAt hb.out (k := w.heap.size) (Nat.le_refl _) s (pos + 1))
      clear hit hb
      go_wp2_with fail
      go_roundw
      case rel => exact ⟨pos + 1, Lib.iterAt_heap wr _ s pos (pos + 1) HIT.out, HB2⟩
      case measure =>
        simp only [World.iterPos, Lib.iterAt_heap wr _ s pos (pos + 1) HIT.out, HIT.out]
        omega
    · have hnx : ∀ ty, (Instr.next (.pointer (some ⟨w.heap.size, 0, none⟩)) true ty).run Tryz.prog wr = _ := fun ty => Lib.run_next_end_at wr w.heap.size s pos ty hit hp
      clear hit
      go_wp2_with fail
      go_ret
      exact ⟨rfl, hb.out⟩
set_option maxRecDepth 100000 in
set_option maxHeartbeats 2000000 in
theorem idx_bad (s : ByteArray) (r : Int) (h0 : 128 ≤ r) (h1 : r ≠ 65533) (hv : Lib.validRune r = false) (w : World) : Calls Tryz.prog 92 #[.string s, .int .i32 r] w fun e w' => IdxPost w (-1) e w' := by
  have H1 := Lib.hid (fun u => Tryz.utf8_ValidRune r u)
  rw [hv] at H1
  have h2 : (r == 65533) = false := by rw [beq_eq_false_iff_ne]; exact h1
  clear hv h1
  go_enter Tryz.func92, Tryz.ntmps92
  go_wp2_with (go_at_call 106; (with_reducible refine (H1.out _).mono ?_); rintro e w1 ⟨rfl, rfl⟩)
  go_ret
  exact ⟨rfl, Below.refl _ _⟩
theorem idxb (s : ByteArray) (ha : Asc s) (a b : Nat) (c : UInt8) (hc : 128 ≤ c.toNat) (u : World) : Calls Tryz.prog 90 #[.string (s.extract a b), .int .u8 (c.toNat : Nat)] u fun e w' => e = .returned (.int .i64 (-1)) ∧ w' = u :=
  (Tryz.strings_IndexByte _ _ u).mono fun e w' h => by
    obtain ⟨rfl, rfl⟩ := h
    refine ⟨?_, rfl⟩
    have h1 : ((c.toNat : Nat) : Int).toNat.toUInt8 = c := by simp
    rw [h1, indexByte_high]
    · intro x hx
      have hx' : x ∈ bs (s.extract a b) := hx
      rw [bs_extract] at hx'
      have h2 := List.mem_of_mem_drop (List.mem_of_mem_take hx')
      obtain ⟨i, hi, rfl⟩ := List.getElem_of_mem h2
      rw [bs_length] at hi
      rw [bs_get s i hi]
      exact ha i hi
    · exact hc
set_option maxRecDepth 100000 in
set_option maxHeartbeats 2000000 in
theorem idx_good (s : ByteArray) (ha : Asc s) (hs : s.size ≤ 1000) (hs6 : 6 ≤ s.size) (r : Int) (h0 : 128 ≤ r) (h1 : r ≠ 65533) (hv : Lib.validRune r = true) (w : World) : Calls Tryz.prog 92 #[.string s, .int .i32 r] w fun e w' => IdxPost w (-1) e w' := by
  obtain ⟨n, hz, hn, hlt, hh⟩ := enc_high h0 hv
  have H1 := Lib.hid (fun u => Tryz.utf8_ValidRune r u)
  rw [hv] at H1
  have h2 : (r == 65533) = false := by rw [beq_eq_false_iff_ne]; exact h1
  have hr : -2147483648 ≤ r ∧ r ≤ 2147483647 := by
    unfold Lib.validRune at hv
    rw [decide_eq_true_eq] at hv
    omega
  obtain ⟨hr1, hr2⟩ := hr
  clear hv h1
  have hcv : ∀ u, (convert 21 9 (.int .i32 r)).run Tryz.prog u = .ok (.string (Utf8.encode r)) u := fun u => run_convert_int_string u 21 9 .i32 r (by rw [Tryz.underlying21]; rfl) Tryz.underlying9
  generalize Utf8.encode r = E at hz hlt hh hcv
  have hcs : n = 0 ∨ n = 1 ∨ n = 2 := by omega
  have HA := Lib.hid ha
  clear ha hn
  rcases hcs with rfl | rfl | rfl
  case inl =>
    have hE : 128 ≤ E[1].toNat := hh
    have hz2 : E.size = 2 := hz
    clear hz hh
    have hq : s[1].toNat < 128 := HA.out 1 (by omega)
    have hne : ((s[1].toNat : Int) != (E[1].toNat : Int)) = true := by rw [bne_iff_ne]; omega
    have HI := Lib.hid (fun a b u => idxb s HA.out a b E[1] hE u)
    go_enter Tryz.func92, Tryz.ntmps92
    go_wp2_with (go_at_call 106; (with_reducible refine (H1.out _).mono ?_); rintro e w1 ⟨rfl, rfl⟩)
    go_step3
    go_wp2_with fail
    go_loop [9] (fun i => i = .int .i64 1) (fun _ => 0)
    case atStart => rfl
    case round =>
      subst hrel
      go_wp2_with fail
      go_step3
      go_wp2_with fail
      go_quiet (fail)
      go_wp2_with fail
      have hsl : ∀ u, (Instr.slice 9 (.string s) (some (.int .i64 2)) none none).run Tryz.prog u = .ok (.string (s.extract 2 s.size)) u := fun u => by
        rw [run_slice_string_from_if (h := Tryz.underlying9), if_pos (by omega)]; rfl
      have HB := Lib.hid (below_dn (Below.refl w1.heap.size w1) nq)
      generalize w1.drewN nq = W2 at HB ⊢
      go_quiet ((go_at_call 90; exact Calls.quiet_of_same (HI.out _ _ _)))
      go_wp2_with fail
      rw [Exit.noGoto_ret]
      go_ret
      exact ⟨rfl, below_dn HB.out _⟩
  case inr.inl =>
    have hE : 128 ≤ E[2].toNat := hh
    have hz2 : E.size = 3 := hz
    clear hz hh
    have hq : s[2].toNat < 128 := HA.out 2 (by omega)
    have hne : ((s[2].toNat : Int) != (E[2].toNat : Int)) = true := by rw [bne_iff_ne]; omega
    have HI := Lib.hid (fun a b u => idxb s HA.out a b E[2] hE u)
    go_enter Tryz.func92, Tryz.ntmps92
    go_wp2_with (go_at_call 106; (with_reducible refine (H1.out _).mono ?_); rintro e w1 ⟨rfl, rfl⟩)
    go_step3
    go_wp2_with fail
    go_loop [9] (fun i => i = .int .i64 2) (fun _ => 0)
    case atStart => rfl
    case round =>
      subst hrel
      go_wp2_with fail
      go_step3
      go_wp2_with fail
      go_quiet (fail)
      go_wp2_with fail
      have hsl : ∀ u, (Instr.slice 9 (.string s) (some (.int .i64 3)) none none).run Tryz.prog u = .ok (.string (s.extract 3 s.size)) u := fun u => by
        rw [run_slice_string_from_if (h := Tryz.underlying9), if_pos (by omega)]; rfl
      have HB := Lib.hid (below_dn (Below.refl w1.heap.size w1) nq)
      generalize w1.drewN nq = W2 at HB ⊢
      go_quiet ((go_at_call 90; exact Calls.quiet_of_same (HI.out _ _ _)))
      go_wp2_with fail
      rw [Exit.noGoto_ret]
      go_ret
      exact ⟨rfl, below_dn HB.out _⟩
  case inr.inr =>
    have hE : 128 ≤ E[3].toNat := hh
    have hz2 : E.size = 4 := hz
    clear hz hh
    have hq : s[3].toNat < 128 := HA.out 3 (by omega)
    have hne : ((s[3].toNat : Int) != (E[3].toNat : Int)) = true := by rw [bne_iff_ne]; omega
    have HI := Lib.hid (fun a b u => idxb s HA.out a b E[3] hE u)
    go_enter Tryz.func92, Tryz.ntmps92
    go_wp2_with (go_at_call 106; (with_reducible refine (H1.out _).mono ?_); rintro e w1 ⟨rfl, rfl⟩)
    go_step3
    go_wp2_with fail
    go_loop [9] (fun i => i = .int .i64 3) (fun _ => 0)
    case atStart => rfl
    case round =>
      subst hrel
      go_wp2_with fail
      go_step3
      go_wp2_with fail
      go_quiet (fail)
      go_wp2_with fail
      have hsl : ∀ u, (Instr.slice 9 (.string s) (some (.int .i64 4)) none none).run Tryz.prog u = .ok (.string (s.extract 4 s.size)) u := fun u => by
        rw [run_slice_string_from_if (h := Tryz.underlying9), if_pos (by omega)]; rfl
      have HB := Lib.hid (below_dn (Below.refl w1.heap.size w1) nq)
      generalize w1.drewN nq = W2 at HB ⊢
      go_quiet ((go_at_call 90; exact Calls.quiet_of_same (HI.out _ _ _)))
      go_wp2_with fail
      rw [Exit.noGoto_ret]
      go_ret
      exact ⟨rfl, below_dn HB.out _⟩
theorem idx_any (s : ByteArray) (ha : Asc s) (hs : s.size ≤ 1000) (hs6 : 6 ≤ s.size) (r : Int) (h0 : 128 ≤ r) (w : World) : Calls Tryz.prog 92 #[.string s, .int .i32 r] w fun e w' => IdxPost w (-1) e w' := by
  by_cases h1 : r = 65533
  · subst h1; exact idx_error s ha w
  · cases hv : Lib.validRune r with
    | false => exact idx_bad s r h0 h1 hv w
    | true => exact idx_good s ha hs hs6 r h0 h1 hv w
theorem indexByte_mem : ∀ (l : List UInt8) (c : UInt8), decide (0 ≤ Lib.indexByte l c) = l.contains c
  | [], c => rfl
  | b :: l, c => by
    have ih := indexByte_mem l c
    have hge := Lib.indexByte_ge l c
    unfold Lib.indexByte
    rw [List.contains_cons, ← ih]
    by_cases h : b = c
    · subst h; simp
    · have h1 : (b == c) = false := by rw [beq_eq_false_iff_ne]; exact h
      have h2 : (c == b) = false := by rw [beq_eq_false_iff_ne]; exact Ne.symm h
      rw [h1, h2, Bool.false_or]
      rw [Bool.eq_iff_iff, decide_eq_true_eq, decide_eq_true_eq]
      by_cases h3 : Lib.indexByte l c = -1
      · simp [h3]
      · have : (Lib.indexByte l c == -1) = false := by rw [beq_eq_false_iff_ne]; exact h3
        simp only [Bool.false_eq_true, if_false, this]
        omega
/-- Whether a text of ASCII bears a character. -/
def hasR (s : ByteArray) (r : Int) : Bool := decide (r < 128) && (bs s).contains (asB r)
theorem has_high {s : ByteArray} {r : Int} (h : 128 ≤ r) : hasR s r = false := by
  unfold hasR
  rw [Bool.and_eq_false_iff, decide_eq_false_iff_not]
  omega
theorem has_of (s : ByteArray) (ha : Asc s) (c : UInt8) : hasR s (c.toNat : Nat) = (bs s).contains c := by
  unfold hasR
  rw [asB_of]
  by_cases h : c.toNat < 128
  · have : ((c.toNat : Nat) : Int) < 128 := by omega
    simp [this]
  · have : (bs s).contains c = false := by
      rw [Bool.eq_false_iff]
      intro hc
      rw [List.contains_iff_mem] at hc
      obtain ⟨i, hi, e⟩ := List.getElem_of_mem hc
      rw [bs_length] at hi
      rw [bs_get s i hi] at e
      have := ha i hi
      rw [e] at this
      omega
    rw [this, Bool.and_false]
def BoolPost (w : World) (b : Bool) (e : Ending) (w' : World) : Prop := e = .returned (.bool b) ∧ Below w.heap.size w w'
set_option maxRecDepth 100000 in
theorem has_any (s : ByteArray) (ha : Asc s) (hs : s.size ≤ 1000) (hs6 : 6 ≤ s.size) (r : Int) (h0 : 0 ≤ r) (w : World) : Calls Tryz.prog 80 #[.string s, .int .i32 r] w fun e w' => BoolPost w (hasR s r) e w' := by
  by_cases h1 : r < 128
  · refine (Tryz.strings_ContainsRune_ascii s r w h0 h1).mono fun e w' h => ?_
    obtain ⟨rfl, rfl⟩ := h
    refine ⟨?_, Below.refl _ _⟩
    rw [indexByte_mem]
    unfold hasR
    rw [decide_eq_true h1, Bool.true_and]
    rfl
  · have H := Lib.hid (fun u => idx_any s ha hs hs6 r (by omega) u)
    rw [has_high (by omega)]
    clear ha h1
    go_enter Tryz.func80, Tryz.ntmps80
    go_wp2_with (go_at_call 92; (with_reducible refine (H.out _).mono ?_); rintro e w1 ⟨rfl, hb⟩; have HB := Lib.hid hb; clear hb)
    go_ret
    exact ⟨rfl, HB.out⟩
def sgS : ByteArray := ⟨#[43, 45, 42, 47, 92, 94, 60, 62, 61, 126, 58, 46, 63, 64, 35, 38, 36]⟩
def mkS : ByteArray := ⟨#[40, 41, 91, 93, 124, 44]⟩
theorem asc_of {s : ByteArray} (h : ∀ c ∈ bs s, c.toNat < 128) : Asc s := fun i hi => h _ (by rw [← bs_get s i hi]; exact List.getElem_mem _)
theorem sgS_asc : Asc sgS := asc_of (by decide)
theorem mkS_asc : Asc mkS := asc_of (by decide)
theorem byte_all (p : UInt8 → Bool) (h : (List.range 256).all (fun n => p (UInt8.ofNat n)) = true) (c : UInt8) : p c = true := by
  have h1 := List.all_eq_true.1 h c.toNat (List.mem_range.2 c.toNat_lt)
  rwa [UInt8.ofNat_toNat] at h1
theorem sgS_sign (c : UInt8) : (bs sgS).contains c = isSign c :=
  beq_iff_eq.1 (byte_all (fun c => (bs sgS).contains c == isSign c) (by decide +kernel) c)
set_option maxRecDepth 100000 in
theorem psig_any (r : Int) (h0 : 0 ≤ r) (w : World) : Calls Tryz.prog 78 #[.int .i32 r] w fun e w' => BoolPost w (sigR r) e w' := by
  have H := Lib.hid (fun u => has_any sgS sgS_asc (by decide) (by decide) r h0 u)
  have he : hasR sgS r = sigR r := by
    unfold hasR sigR
    rw [sgS_sign]
  rw [he] at H
  clear he
  go_enter Tryz.func78, Tryz.ntmps78
  go_wp2_with (go_at_call 80; (refine (H.out _).mono ?_); rintro e w1 ⟨rfl, hb⟩; have HB := Lib.hid hb; clear hb)
  go_ret
  exact ⟨rfl, HB.out⟩
end Go.Proofs.YtkjnjahmlobjiaaGreatDoor

namespace Go.Proofs.YtkjnjahmlobjiaaGreatDoor
open Go.RowKit Go.Shelf

/-- Where characters of a sort end: 'a' is what the function keeps between its calls. -/
def spanD (ok nx : Bool → Int → Bool) (s : ByteArray) : Nat → Nat → Bool → Nat
  | 0, pos, _ => pos
  | f + 1, pos, a => if pos < s.size then (if ok a (Utf8.decode s pos).1 = true then spanD ok nx s f (pos + (Utf8.decode s pos).2) (nx a (Utf8.decode s pos).1) else pos) else pos
theorem wid_le (s : ByteArray) (pos : Nat) (hlt : pos < s.size) : pos + (Utf8.decode s pos).2 ≤ s.size := by
  have := Lib.decodeN_le_n' (s.size - pos) (s.get! pos).toNat (s.get! (pos + 1)).toNat (s.get! (pos + 2)).toNat (s.get! (pos + 3)).toNat (by omega)
  rw [← Lib.decode_at] at this
  omega
/-- What is asked of the function value: g with what it has captured. -/
structure Tells (g : Nat) (lb : Array Value) (m : Option Nat) (B : Nat) (St : Bool → World → Prop) (ok nx : Bool → Int → Bool) : Prop where
  enters : ∀ args w, (callFunc g args).run Tryz.prog w = .ok (.enter g args) w
  call : ∀ (a : Bool) (r : Int) (W : World), St a W → 0 ≤ r → r ≤ 1114111 → B ≤ W.heap.size → Calls Tryz.prog g (#[.int .i32 r] ++ lb) W fun e W' => e = .returned (.bool (ok a r)) ∧ St (nx a r) W' ∧ W.grownBy W' m
  keep : ∀ (a : Bool) (W W' : World), St a W → (∀ b, b < B → W'.heap[b]? = W.heap[b]?) → B ≤ W.heap.size → St a W'
  low : ∀ k, m = some k → k < B
theorem grown_iterAt {w wr : World} {m : Option Nat} {k : Nat} (h : w.grownBy wr m) (hk : w.heap.size ≤ k) (s : ByteArray) (pos : Nat) : w.grownBy (wr.iterAt k s pos) m :=
  ⟨h.os, h.tape, h.output, by rw [Lib.iterAt_size]; exact h.size, fun j hj hne => (Lib.iterAt_other wr k j s pos (by omega)).trans (h.block j hj hne)⟩
def SpanPost (w : World) (m : Option Nat) (n : Nat) (e : Ending) (w' : World) : Prop := e = .returned (.int .i64 (n : Nat)) ∧ w.grownBy w' m
theorem heap_iter_old (w : World) (s : ByteArray) (p b : Nat) (h : b < w.heap.size) : (w.iter s p).heap[b]? = w.heap[b]? := Below.heap_alloc w _ b h
set_option maxRecDepth 100000 in
set_option maxHeartbeats 4000000 in
theorem span_any {g : Nat} {lb : Array Value} {m : Option Nat} {St : Bool → World → Prop} {ok nx : Bool → Int → Bool} (s : ByteArray) (w : World) (a0 : Bool) (_hs : s.size ≤ 1000000) (hT : Tells g lb m w.heap.size St ok nx) (h0 : St a0 w) :
    Calls Tryz.prog 68 #[.string s, .func (.func g) #[] lb] w fun e w' => SpanPost w m (spanD ok nx s s.size 0 a0) e w' := by
  have eg := hT.enters
  obtain ⟨N, hN⟩ : ∃ N, spanD ok nx s s.size 0 a0 = N := ⟨_, rfl⟩
  rw [hN]
  have HN := Lib.hid hN
  have HT := Lib.hid hT
  have H0 := Lib.hid h0
  clear hT h0 hN
  go_enter Tryz.func68, Tryz.ntmps68
  go_wp2_with fail
  go_loopw [] (fun wr => ∃ (pos f : Nat) (a : Bool), Hid (St a wr ∧ wr.heap[w.heap.size]? = some (.stringIter s pos) ∧ w.grownBy wr m ∧ spanD ok nx s f pos a = N) ∧ s.size ≤ pos + f ∧ pos ≤ s.size) (fun wr => s.size - wr.iterPos w.heap.size)
  case atStart =>
    refine ⟨0, s.size, a0, Lib.hid ⟨?_, ?_, World.grownBy_alloc w _ _, HN.out⟩, by omega, Nat.zero_le _⟩
    · exact HT.out.keep _ _ _ H0.out (fun b hb => heap_iter_old w s 0 b hb) (Nat.le_refl _)
    · have := World.iter_heap w s 0
      simpa using this
  case round =>
    obtain ⟨pos, f, a, hR, hf, hps⟩ := hrel
    obtain ⟨hst, hit, hgr, hsp⟩ := hR.out
    clear hR
    have hsz : w.heap.size < wr.heap.size := (Array.getElem?_eq_some_iff.1 hit).1
    by_cases hp : pos < s.size
    · have hnx : ∀ ty, (Instr.next (.pointer (some ⟨w.heap.size, 0, none⟩)) true ty).run Tryz.prog wr = _ := fun ty => Lib.run_next_any_at wr w.heap.size s pos ty hit hp
      have hwd := Lib.width_pos s pos
      have hwn := wid_le s pos hp
      have hrl := Lib.rune_le s pos
      obtain ⟨f', rfl⟩ : ∃ f', f = f' + 1 := ⟨f - 1, by omega⟩
      unfold spanD at hsp
      rw [if_pos hp] at hsp
      generalize (Utf8.decode s pos).1 = R at hnx hrl hsp
      generalize (Utf8.decode s pos).2 = K at hnx hwd hwn hsp
      have hit2 := Lib.iterAt_heap wr w.heap.size s pos (pos + K) hit
      have hgr2 := grown_iterAt hgr (k := w.heap.size) (Nat.le_refl _) s (pos + K)
      have hst2 := HT.out.keep a wr (wr.iterAt w.heap.size s (pos + K)) hst (fun b hb => Lib.iterAt_other wr _ _ _ _ (by omega)) (by omega)
      have hmz : (wr.iterAt w.heap.size s (pos + K)).heap.size = wr.heap.size := Lib.iterAt_size _ _ _ _
      have hmv : wr.iterPos w.heap.size = pos := by simp only [World.iterPos, hit]
      have cS : Calls Tryz.prog g (#[.int .i32 (R : Int)] ++ lb) (wr.iterAt w.heap.size s (pos + K)) _ := HT.out.call a (R : Int) _ hst2 (by omega) (by omega) (by omega)
      have HMV := Lib.hid hmv
      generalize wr.iterAt w.heap.size s (pos + K) = W at hnx hit2 hgr2 hst2 hmz cS
      have HIT := Lib.hid hit2
      have HGR := Lib.hid hgr2
      have HSP := Lib.hid hsp
      have HMZ := Lib.hid hmz
      clear hit hgr hst hit2 hgr2 hst2 hsp hmz hmv
      cases hok : ok a (R : Int)
      · rw [hok] at cS
        have HOK := Lib.hid hok
        clear hok
        go_wp2_with fail
        refine cS.mono ?_
        rintro e W' ⟨rfl, hst3, hgr3⟩
        have HG3 := Lib.hid hgr3
        clear hgr3 hst3
        go_wp2_with fail
        have h1 := HSP.out
        rw [HOK.out] at h1
        simp only [Bool.false_eq_true, if_false] at h1
        have HX := Lib.hid h1
        clear h1
        go_ret
        exact ⟨by rw [← HX.out]; rfl, HGR.out.trans HG3.out⟩
      · rw [hok] at cS
        have HOK := Lib.hid hok
        clear hok
        go_wp2_with fail
        refine cS.mono ?_
        rintro e W' ⟨rfl, hst3, hgr3⟩
        have hit3 : W'.heap[w.heap.size]? = some (.stringIter s (pos + K)) := (hgr3.block w.heap.size (by have := HMZ.out; omega) (fun e => by have := HT.out.low _ e.symm; omega)).trans HIT.out
        have HIT3 := Lib.hid hit3
        have HG3 := Lib.hid hgr3
        have HST3 := Lib.hid hst3
        clear hgr3 hst3 hit3
        go_wp2_with fail
        go_roundw
        case rel =>
          refine ⟨pos + K, f', _, Lib.hid ⟨HST3.out, HIT3.out, HGR.out.trans HG3.out, ?_⟩, by omega, hwn⟩
          have h1 := HSP.out
          rw [HOK.out, if_pos rfl] at h1
          exact h1
        case measure =>
          rw [HMV.out]
          simp only [World.iterPos, HIT3.out]
          omega
    · have hnx : ∀ ty, (Instr.next (.pointer (some ⟨w.heap.size, 0, none⟩)) true ty).run Tryz.prog wr = _ := fun ty => Lib.run_next_end_at wr w.heap.size s pos ty hit hp
      have HGR := Lib.hid hgr
      have hq : spanD ok nx s f pos a = pos := by
        cases f with
        | zero => rfl
        | succ f => unfold spanD; rw [if_neg hp]
      have HSP := Lib.hid (hq.symm.trans hsp)
      clear hit hgr hst hsp hq
      go_wp2_with fail
      go_ret
      exact ⟨by rw [← HSP.out, show pos = s.size by omega]; rfl, HGR.out⟩
end Go.Proofs.YtkjnjahmlobjiaaGreatDoor

namespace Go.Proofs.YtkjnjahmlobjiaaGreatDoor
open Go.RowKit Go.Shelf

/-! ### purely -/
/-- How many bytes only separate. -/
def gapL : Bool → List UInt8 → Nat
  | _, [] => 0
  | cm, c :: r => if cm = true ∨ c = 37 then gapL (decide (c ≠ 10)) r + 1 else if srt c = 5 then gapL false r + 1 else 0
theorem gapL_cons (cm : Bool) (c : UInt8) (r : List UInt8) : gapL cm (c :: r) = if cm = true ∨ c = 37 then gapL (decide (c ≠ 10)) r + 1 else if srt c = 5 then gapL false r + 1 else 0 := by rw [gapL]
theorem gap_lex : ∀ (l : List UInt8) (cm : Bool) (at' : Nat), (l.drop (gapL cm l) = [] ∧ lexL cm at' l = .inr []) ∨ (∃ c r, l.drop (gapL cm l) = c :: r ∧ ¬ c = 37 ∧ ¬ srt c = 5 ∧ lexL cm at' l = lexL false (at' + gapL cm l) (c :: r))
  | [], cm, at' => .inl ⟨rfl, lexL_nil _ _⟩
  | c :: r, cm, at' => by
    unfold gapL
    by_cases h1 : cm = true ∨ c = 37
    · rw [if_pos h1, lexL_skip h1, List.drop_succ_cons]
      rcases gap_lex r (decide (c ≠ 10)) (at' + 1) with h | ⟨c', r', h2, h3, h4, h5⟩
      · exact .inl h
      · exact .inr ⟨c', r', h2, h3, h4, by rw [h5]; congr 1; omega⟩
    rw [if_neg h1]
    by_cases h5 : srt c = 5
    · rw [if_pos h5, lexL_gap h1 h5, List.drop_succ_cons]
      rcases gap_lex r false (at' + 1) with h | ⟨c', r', h2, h3, h4, h5⟩
      · exact .inl h
      · exact .inr ⟨c', r', h2, h3, h4, by rw [h5]; congr 1; omega⟩
    rw [if_neg h5, List.drop_zero]
    refine .inr ⟨c, r, rfl, fun e => h1 (.inr e), h5, ?_⟩
    have : cm = false := by
      cases cm with
      | false => rfl
      | true => exact absurd (.inl rfl) h1
    rw [this]
    rfl
def okG (cm : Bool) (r : Int) : Bool := decide (r = 37) || decide (r = 10) || cm || decide (r = 32) || decide (r = 9)
def nxG (cm : Bool) (r : Int) : Bool := if r = 37 then true else if r = 10 then false else cm
theorem pdrop_at (s : ByteArray) (p : Nat) (h : p < s.size) : (bs s).drop p = s[p] :: (bs s).drop (p + 1) := by
  rw [List.drop_eq_getElem_cons (by rw [bs_length]; exact h), bs_get s p h]
theorem get!_at (s : ByteArray) (p : Nat) (h : p < s.size) : s.get! p = s[p]'h := by
  have := get_at s p h
  simpa using this
/-- A character that is not of ASCII has no byte of ASCII. -/
theorem wide_high (s : ByteArray) (pos : Nat) (h : pos < s.size) (ha : 128 ≤ (s[pos]'h).toNat) (j : Nat) (h1 : pos ≤ j) (h2 : j < pos + (Utf8.decode s pos).2) : ∃ hj : j < s.size, 128 ≤ (s[j]'hj).toNat := by
  have hj : j < s.size := by have := wid_le s pos h; omega
  refine ⟨hj, ?_⟩
  rw [Lib.decode_at, get!_at s pos h] at h2
  unfold Lib.decodeN at h2
  rw [if_neg (by omega)] at h2
  rcases Nat.eq_or_lt_of_le h1 with e | h3
  · subst e; exact ha
  have k1 : j = pos + 1 → (s.get! (pos + 1)).toNat / 64 = 2 → 128 ≤ (s[j]'hj).toNat := fun e h => by
    subst e; rw [get!_at s _ hj] at h; omega
  have k2 : j = pos + 2 → (s.get! (pos + 2)).toNat / 64 = 2 → 128 ≤ (s[j]'hj).toNat := fun e h => by
    subst e; rw [get!_at s _ hj] at h; omega
  have k3 : j = pos + 3 → (s.get! (pos + 3)).toNat / 64 = 2 → 128 ≤ (s[j]'hj).toNat := fun e h => by
    subst e; rw [get!_at s _ hj] at h; omega
  split at h2
  · rename_i hc
    split at h2
    · exact k1 (by simp only at h2; omega) hc.2.2
    · simp only at h2; omega
  split at h2
  · rename_i hc
    split at h2
    · simp only at h2
      rcases (by omega : j = pos + 1 ∨ j = pos + 2) with e | e
      · exact k1 e hc.2.1.2
      · exact k2 e hc.2.2.2
    · simp only at h2; omega
  split at h2
  · rename_i hc
    split at h2
    · simp only at h2
      rcases (by omega : j = pos + 1 ∨ j = pos + 2 ∨ j = pos + 3) with e | e | e
      · exact k1 e hc.2.1.2
      · exact k2 e hc.2.2.1.2
      · exact k3 e hc.2.2.2.2
    · simp only at h2; omega
  · simp only at h2; omega
theorem gap_wide (s : ByteArray) : ∀ (n pos : Nat), (∀ j, pos ≤ j → j < pos + n → ∃ hj : j < s.size, 128 ≤ (s[j]'hj).toNat) → gapL true ((bs s).drop pos) = gapL true ((bs s).drop (pos + n)) + n
  | 0, pos, _ => rfl
  | n + 1, pos, h => by
    obtain ⟨hj, hh⟩ := h pos (Nat.le_refl _) (by omega)
    rw [pdrop_at s pos hj]
    have h10 : s[pos] ≠ 10 := fun e => by rw [e] at hh; revert hh; decide
    rw [gapL_cons, if_pos (.inl rfl), decide_eq_true h10, gap_wide s n (pos + 1) (fun j h1 h2 => h j (by omega) (by omega)), show pos + 1 + n = pos + (n + 1) by omega, Nat.add_assoc]
theorem okG_byte (cm : Bool) (c : UInt8) : okG cm (c.toNat : Nat) = (decide (c = 37) || decide (srt c = 5) || cm) := by
  have h := byte_all (fun c => (okG true (c.toNat : Nat) == (decide (c = 37) || decide (srt c = 5) || true)) && (okG false (c.toNat : Nat) == (decide (c = 37) || decide (srt c = 5) || false))) (by decide +kernel) c
  rw [Bool.and_eq_true, beq_iff_eq, beq_iff_eq] at h
  cases cm
  · exact h.2
  · exact h.1
theorem nxG_byte (cm : Bool) (c : UInt8) : nxG cm (c.toNat : Nat) = (decide (c = 37) || (cm && decide (c ≠ 10))) := by
  have h := byte_all (fun c => (nxG true (c.toNat : Nat) == (decide (c = 37) || (true && decide (c ≠ 10)))) && (nxG false (c.toNat : Nat) == (decide (c = 37) || (false && decide (c ≠ 10))))) (by decide +kernel) c
  rw [Bool.and_eq_true, beq_iff_eq, beq_iff_eq] at h
  cases cm
  · exact h.2
  · exact h.1
theorem span_gap (s : ByteArray) : ∀ (f pos : Nat) (cm : Bool), s.size ≤ pos + f → spanD okG nxG s f pos cm = pos + gapL cm ((bs s).drop pos)
  | 0, pos, cm, h => by
    rw [List.drop_eq_nil_of_le (by rw [bs_length]; omega)]
    rfl
  | f + 1, pos, cm, h => by
    unfold spanD
    by_cases h1 : pos < s.size
    · rw [if_pos h1]
      by_cases h2 : (s[pos]).toNat < 128
      · rw [decode_ascii s pos h1 h2]
        simp only
        rw [okG_byte, nxG_byte, pdrop_at s pos h1]
        unfold gapL
        by_cases h3 : cm = true ∨ s[pos] = 37
        · rw [if_pos h3]
          have h4 : (decide (s[pos] = 37) || decide (srt s[pos] = 5) || cm) = true := by
            rcases h3 with h3 | h3 <;> simp [h3]
          rw [if_pos h4, span_gap s f (pos + 1) _ (by omega)]
          have h5 : (decide (s[pos] = 37) || (cm && decide (s[pos] ≠ 10))) = decide (s[pos] ≠ 10) := by
            rcases h3 with h3 | h3
            · rw [h3]
              by_cases h6 : s[pos] = 37
              · rw [h6]; rfl
              · simp [h6]
            · rw [h3]; rfl
          rw [h5]
          omega
        · rw [if_neg h3]
          have hcm : cm = false := by
            cases cm with
            | false => rfl
            | true => exact absurd (.inl rfl) h3
          have h37 : ¬ s[pos] = 37 := fun e => h3 (.inr e)
          subst hcm
          by_cases h6 : srt s[pos] = 5
          · simp only [h37, h6, decide_true, decide_false, Bool.or_true, Bool.false_or, Bool.true_or, if_true, Bool.false_and]
            rw [span_gap s f (pos + 1) _ (by omega)]
            omega
          · simp [h37, h6]
      · have h3 := decode_high s pos h1 (by omega)
        have h4 : okG cm ((Utf8.decode s pos).1 : Nat) = cm := by
          unfold okG
          have a1 : ¬ (((Utf8.decode s pos).1 : Nat) : Int) = 37 := by omega
          have a2 : ¬ (((Utf8.decode s pos).1 : Nat) : Int) = 10 := by omega
          have a3 : ¬ (((Utf8.decode s pos).1 : Nat) : Int) = 32 := by omega
          have a4 : ¬ (((Utf8.decode s pos).1 : Nat) : Int) = 9 := by omega
          simp [a1, a2, a3, a4]
        have h5 : nxG cm ((Utf8.decode s pos).1 : Nat) = cm := by
          unfold nxG
          rw [if_neg (by omega), if_neg (by omega)]
        rw [h4, h5]
        cases cm with
        | false =>
          rw [if_neg (by simp), pdrop_at s pos h1]
          unfold gapL
          have h6 : ¬ s[pos] = 37 := fun e => by rw [e] at h2; exact h2 (by decide)
          have h7 : ¬ srt s[pos] = 5 := fun e => by
            unfold srt at e
            repeat' split at e
            all_goals omega
          rw [if_neg (by simp [h6]), if_neg h7]
          rfl
        | true =>
          rw [if_pos rfl, span_gap s f _ _ (by omega), gap_wide s (Utf8.decode s pos).2 pos (fun j g1 g2 => wide_high s pos h1 (by omega) j g1 g2)]
          omega
    · rw [if_neg h1, List.drop_eq_nil_of_le (by rw [bs_length]; omega)]
      rfl
theorem span_take (p : UInt8 → Bool) (ok : Int → Bool) (h1 : ∀ c : UInt8, ok (c.toNat : Nat) = p c) (h2 : ∀ r, 128 ≤ r → ok r = false) (s : ByteArray) : ∀ (f pos : Nat) (a : Bool), s.size ≤ pos + f → spanD (fun _ => ok) (fun _ _ => false) s f pos a = pos + (((bs s).drop pos).takeWhile p).length
  | 0, pos, a, h => by
    rw [List.drop_eq_nil_of_le (by rw [bs_length]; omega)]
    rfl
  | f + 1, pos, a, h => by
    unfold spanD
    by_cases hp : pos < s.size
    · rw [if_pos hp, pdrop_at s pos hp]
      by_cases h3 : (s[pos]).toNat < 128
      · rw [decode_ascii s pos hp h3]
        simp only
        rw [h1]
        cases hq : p s[pos]
        · simp [hq]
        · rw [if_pos rfl, span_take p ok h1 h2 s f (pos + 1) false (by omega)]
          simp only [List.takeWhile_cons, hq, if_true, List.length_cons]
          omega
      · have h4 := decode_high s pos hp (by omega)
        rw [h2 _ (by omega)]
        have h5 : p s[pos] = false := by rw [← h1]; exact h2 _ (by omega)
        simp [h5]
    · rw [if_neg hp, List.drop_eq_nil_of_le (by rw [bs_length]; omega)]
      rfl
/-! ### the functions that tell of characters -/
theorem tells_of {g : Nat} {ok : Int → Bool} {B : Nat} (eg : ∀ args w, (callFunc g args).run Tryz.prog w = .ok (.enter g args) w) (h : ∀ r w, 0 ≤ r → Calls Tryz.prog g #[.int .i32 r] w fun e w' => BoolPost w (ok r) e w') : Tells g #[] none B (fun _ _ => True) (fun _ => ok) (fun _ _ => false) where
  enters := eg
  call := fun a r W _ h0 _ _ => (h r W h0).mono fun e W' ⟨he, hb⟩ => ⟨he, trivial, ⟨hb.os, hb.tape, hb.output, hb.size, fun k hk _ => hb.block k hk⟩⟩
  keep := fun _ _ _ _ _ _ => trivial
  low := fun k h => by cases h
def TakePost (w : World) (n : Nat) (e : Ending) (w' : World) : Prop := e = .returned (.int .i64 (n : Nat)) ∧ Below w.heap.size w w'
theorem grown_none {w w' : World} (h : w.grownBy w' none) : Below w.heap.size w w' := ⟨h.os, h.tape, h.output, h.size, fun k hk => h.block k hk (by simp)⟩
theorem span_word (s : ByteArray) (w : World) (hs : s.size ≤ 1000000) : Calls Tryz.prog 68 #[.string s, .func (.func 72) #[] #[]] w fun e w' => TakePost w ((bs s).takeWhile isWord).length e w' := by
  have hT : Tells 72 #[] none w.heap.size (fun _ _ => True) (fun _ => worR) (fun _ _ => false) := tells_of (enters_of Tryz.func72 (by kernel_rfl) rfl) fun r w _ => (pwor_any r w).mono fun e w' ⟨he, hw⟩ => ⟨he, hw ▸ Below.refl _ _⟩
  refine (span_any s w false hs hT trivial).mono fun e w' ⟨he, hg⟩ => ⟨?_, grown_none hg⟩
  rw [he, span_take isWord worR wor_of (fun r h => wor_high h) s _ 0 false (by omega)]
  simp
theorem span_digit (s : ByteArray) (w : World) (hs : s.size ≤ 1000000) : Calls Tryz.prog 68 #[.string s, .func (.func 74) #[] #[]] w fun e w' => TakePost w ((bs s).takeWhile isDigit).length e w' := by
  have hT : Tells 74 #[] none w.heap.size (fun _ _ => True) (fun _ => digR) (fun _ _ => false) := tells_of (enters_of Tryz.func74 (by kernel_rfl) rfl) fun r w _ => (pdig_any r w).mono fun e w' ⟨he, hw⟩ => ⟨he, hw ▸ Below.refl _ _⟩
  refine (span_any s w false hs hT trivial).mono fun e w' ⟨he, hg⟩ => ⟨?_, grown_none hg⟩
  rw [he, span_take isDigit digR dig_of (fun r h => dig_high h) s _ 0 false (by omega)]
  simp
theorem span_sign (s : ByteArray) (w : World) (hs : s.size ≤ 1000000) : Calls Tryz.prog 68 #[.string s, .func (.func 78) #[] #[]] w fun e w' => TakePost w ((bs s).takeWhile isSign).length e w' := by
  have hT : Tells 78 #[] none w.heap.size (fun _ _ => True) (fun _ => sigR) (fun _ _ => false) := tells_of (enters_of Tryz.func78 (by kernel_rfl) rfl) fun r w h => psig_any r h w
  refine (span_any s w false hs hT trivial).mono fun e w' ⟨he, hg⟩ => ⟨?_, grown_none hg⟩
  rw [he, span_take isSign sigR sig_of (fun r h => sig_high h) s _ 0 false (by omega)]
  simp
def GapPost (w : World) (b : Bool) (mb : Nat) (cm : Bool) (e : Ending) (w' : World) : Prop := e = .returned (.bool b) ∧ Boxed w' mb 4 (.bool cm) ∧ w.grownBy w' (some mb)
set_option maxRecDepth 100000 in
set_option maxHeartbeats 2000000 in
theorem gapf_any (cm : Bool) (r : Int) (mb : Nat) (W : World) (hb : Boxed W mb 4 (.bool cm)) :
    Calls Tryz.prog 69 #[.int .i32 r, .pointer (some ⟨mb, 0, none⟩)] W fun e w' => GapPost W (okG cm r) mb (nxG cm r) e w' := by
  have hc := hb.cell
  have hf := hb.frozen
  have hlt := hb.lt
  have HB := Lib.hid hb
  clear hb
  by_cases h1 : r = 37
  · subst h1
    have e1 : okG cm 37 = true := rfl
    have e2 : nxG cm 37 = true := rfl
    rw [e1, e2]
    go_enter Tryz.func69, Tryz.ntmps69
    go_wp2_with fail
    go_ret
    exact ⟨rfl, HB.out.set _, grownBy_setCell' _ _ _⟩
  by_cases h2 : r = 10
  · subst h2
    have e1 : okG cm 10 = true := rfl
    have e2 : nxG cm 10 = false := rfl
    rw [e1, e2]
    clear h1
    go_enter Tryz.func69, Tryz.ntmps69
    go_wp2_with fail
    go_ret
    exact ⟨rfl, HB.out.set _, grownBy_setCell' _ _ _⟩
  have e2 : nxG cm r = cm := by unfold nxG; rw [if_neg h1, if_neg h2]
  have b1 : (r == 37) = false := by rw [beq_eq_false_iff_ne]; exact h1
  have b2 : (r == 10) = false := by rw [beq_eq_false_iff_ne]; exact h2
  rw [e2]
  have e1 : okG cm r = (cm || decide (r = 32) || decide (r = 9)) := by unfold okG; simp [h1, h2]
  rw [e1]
  clear e1 e2 h1 h2
  by_cases h3 : r = 32
  · subst h3
    cases cm
    all_goals
      go_enter Tryz.func69, Tryz.ntmps69
      go_wp2_with fail
      go_ret
      exact ⟨rfl, HB.out, World.grownBy.refl _ _⟩
  have b3 : (r == 32) = false := by rw [beq_eq_false_iff_ne]; exact h3
  by_cases h4 : r = 9
  · subst h4
    clear h3
    cases cm
    all_goals
      go_enter Tryz.func69, Tryz.ntmps69
      go_wp2_with fail
      go_ret
      exact ⟨rfl, HB.out, World.grownBy.refl _ _⟩
  have b4 : (r == 9) = false := by rw [beq_eq_false_iff_ne]; exact h4
  have e3 : (cm || decide (r = 32) || decide (r = 9)) = cm := by simp [h3, h4]
  rw [e3]
  clear e3 h3 h4
  cases cm
  all_goals
    go_enter Tryz.func69, Tryz.ntmps69
    go_wp2_with fail
    go_ret
    exact ⟨rfl, HB.out, World.grownBy.refl _ _⟩
theorem tells_gap (mb B : Nat) (h : mb < B) : Tells 69 #[.pointer (some ⟨mb, 0, none⟩)] (some mb) B (fun cm W => Boxed W mb 4 (.bool cm)) okG nxG where
  enters := enters_of Tryz.func69 (by kernel_rfl) rfl
  call := fun a r W hb _ _ _ => gapf_any a r mb W hb
  keep := fun a W W' hb hk _ => (hk mb h).trans hb
  low := fun k e => by cases e; exact h
set_option maxRecDepth 100000 in
set_option maxHeartbeats 2000000 in
theorem gap_any (s : ByteArray) (w : World) (hs : s.size ≤ 1000000) : Calls Tryz.prog 59 #[.string s] w fun e w' => TakePost w (gapL false (bs s)) e w' := by
  have hS : Calls Tryz.prog 68 #[.string s, .func (.func 69) #[] #[.pointer (some ⟨w.heap.size, 0, none⟩)]] (w.alloc (.cells #[.bool false] 4)) _ :=
    span_any s (w.alloc (.cells #[.bool false] 4)) false hs (tells_gap w.heap.size (w.alloc (.cells #[.bool false] 4)).heap.size (by simp)) (Boxed.new w 4 (.bool false))
  rw [span_gap s _ 0 false (by omega), List.drop_zero, Nat.zero_add] at hS
  have H := Lib.hid hS
  clear hS
  go_enter Tryz.func59, Tryz.ntmps59
  go_wp2_with (go_at_call 68; refine (H.out).mono ?_; rintro e w1 ⟨rfl, hg⟩; have HG := Lib.hid hg; clear hg)
  go_ret
  exact ⟨rfl, ((Below.refl _ w).alloc (Nat.le_refl _) _).grown HG.out (by simp) (fun k hk => by cases hk; exact Nat.le_refl _)⟩
end Go.Proofs.YtkjnjahmlobjiaaGreatDoor
