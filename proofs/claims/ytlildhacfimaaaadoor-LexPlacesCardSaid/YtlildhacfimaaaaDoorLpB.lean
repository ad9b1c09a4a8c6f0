/-
  Whether a character stands in a text of ASCII; whether it is a sign.
-/
import Derived.Test.YtlildhacfimaaaaDoorLpA
import Derived.Laws.Runes
import Derived.WalkMore
import Derived.Outline
namespace Go.Proofs.YtlildhacfimaaaaDoor
open Go.RowKit

theorem below_dn {B : Nat} {a w : World} (h : Below B a w) (n : Nat) : Below B a (w.drewN n) := ⟨h.os, h.tape, h.output, h.size, h.block⟩
def Asc (s : ByteArray) : Prop := ∀ i (h : i < s.size), s[i].toNat < 128
/-- What a call leaves that makes memory and writes none. -/
def IdxPost (w : World) (n : Int) (e : Ending) (w' : World) : Prop := e = .returned (.int .i64 n) ∧ Below w.heap.size w w'
theorem indexByte_high : ∀ (l : List UInt8) (c : UInt8), (∀ x ∈ l, x.toNat < 128) → 128 ≤ c.toNat → Lib.indexByte l c = -1
  | [], c, _, _ => rfl
  | b :: l, c, h, hc => by
    have h1 := h b (by simp)
    have h2 : (b == c) = false := by rw [beq_eq_false_iff_ne]; rintro rfl; omega
    unfold Lib.indexByte
    rw [h2, indexByte_high l c (fun x hx => h x (by simp [hx])) hc]
    rfl
theorem tail_high (m : Nat) : 128 ≤ (UInt8.ofNat (0x80 + m % 64)).toNat := by
  have : (0x80 + m % 64) % 256 = 0x80 + m % 64 := by omega
  rw [UInt8.toNat_ofNat', this]
  omega
theorem enc_cases {r : Int} (h0 : 128 ≤ r) (hv : Lib.validRune r = true) : ∃ m, (∃ a, Utf8.encode r = ⟨#[a, UInt8.ofNat (0x80 + m % 64)]⟩) ∨ (∃ a b, Utf8.encode r = ⟨#[a, b, UInt8.ofNat (0x80 + m % 64)]⟩) ∨ (∃ a b c, Utf8.encode r = ⟨#[a, b, c, UInt8.ofNat (0x80 + m % 64)]⟩) := by
  have hv' : Utf8.valid r = true := by
    unfold Lib.validRune at hv
    rw [decide_eq_true_eq] at hv
    unfold Utf8.valid
    simp only [Bool.or_eq_true, Bool.and_eq_true, decide_eq_true_eq]
    omega
  refine ⟨r.toNat, ?_⟩
  obtain ⟨c, hc⟩ : ∃ c, c = r.toNat := ⟨_, rfl⟩
  have h1 : ¬ c < 0x80 := by omega
  unfold Utf8.encode
  simp only [hv', if_true]
  rw [← hc, if_neg h1]
  by_cases h2 : c < 0x800
  · rw [if_pos h2]; exact .inl ⟨_, rfl⟩
  by_cases h3 : c < 0x10000
  · rw [if_neg h2, if_pos h3]; exact .inr (.inl ⟨_, _, rfl⟩)
  · rw [if_neg h2, if_neg h3]; exact .inr (.inr ⟨_, _, _, rfl⟩)
theorem enc_high {r : Int} (h0 : 128 ≤ r) (hv : Lib.validRune r = true) : ∃ n, (Utf8.encode r).size = n + 2 ∧ n ≤ 2 ∧ ∃ h : n + 1 < (Utf8.encode r).size, 128 ≤ ((Utf8.encode r)[n + 1]'h).toNat := by
  obtain ⟨m, ⟨a, h⟩ | ⟨a, b, h⟩ | ⟨a, b, c, h⟩⟩ := enc_cases h0 hv
  · rw [h]; exact ⟨0, rfl, by omega, by show 1 < 2; omega, tail_high m⟩
  · rw [h]; exact ⟨1, rfl, by omega, by show 2 < 3; omega, tail_high m⟩
  · rw [h]; exact ⟨2, rfl, by omega, by show 3 < 4; omega, tail_high m⟩
set_option maxRecDepth 100000 in
set_option maxHeartbeats 2000000 in
theorem idx_error (s : ByteArray) (ha : Asc s) (w : World) : Calls Tryd.prog 39 #[.string s, .int .i32 65533] w fun e w' => IdxPost w (-1) e w' := by
  have HA := Lib.hid ha
  clear ha
  go_enter Tryd.func39, Tryd.ntmps39
  go_wp2_with fail
  go_loopw [] (fun wr => ∃ pos : Nat, wr.heap[w.heap.size]? = some (.stringIter s pos) ∧ Hid (Below w.heap.size w wr)) (fun wr => s.size - wr.iterPos w.heap.size)
  case atStart =>
    refine ⟨0, ?_, Lib.hid ((Below.refl _ w).alloc (Nat.le_refl _) _)⟩
    have := World.iter_heap w s 0
    simpa using this
  case round =>
    obtain ⟨pos, hit, hb⟩ := hrel
    by_cases hp : pos < s.size
    · have hnx : ∀ ty, (Instr.next (.pointer (some ⟨w.heap.size, 0, none⟩)) true ty).run Tryd.prog wr = _ := fun ty => Lib.run_next_ascii_at wr w.heap.size s pos ty hit hp (HA.out pos hp)
      have h1 := HA.out pos hp
      have h2 : ((s[pos].toNat : Int) == 65533) = false := by rw [beq_eq_false_iff_ne]; omega
      have HIT := Lib.hid hit
      have HB2 := Lib.hid (Lib.below_iterAt hb.out (k := w.heap.size) (Nat.le_refl _) s (pos + 1))
      clear hit hb
      go_wp2_with fail
      go_roundw
      case rel => exact ⟨pos + 1, Lib.iterAt_heap wr _ s pos (pos + 1) HIT.out, HB2⟩
      case measure =>
        simp only [World.iterPos, Lib.iterAt_heap wr _ s pos (pos + 1) HIT.out, HIT.out]
        omega
    · have hnx : ∀ ty, (Instr.next (.pointer (some ⟨w.heap.size, 0, none⟩)) true ty).run Tryd.prog wr = _ := fun ty => Lib.run_next_end_at wr w.heap.size s pos ty hit hp
      clear hit
      go_wp2_with fail
      go_ret
      exact ⟨rfl, hb.out⟩
set_option maxRecDepth 100000 in
set_option maxHeartbeats 2000000 in
theorem idx_bad (s : ByteArray) (r : Int) (h0 : 128 ≤ r) (h1 : r ≠ 65533) (hv : Lib.validRune r = false) (w : World) : Calls Tryd.prog 39 #[.string s, .int .i32 r] w fun e w' => IdxPost w (-1) e w' := by
  have H1 := Lib.hid (fun u => Tryd.utf8_ValidRune r u)
  rw [hv] at H1
  have h2 : (r == 65533) = false := by rw [beq_eq_false_iff_ne]; exact h1
  clear hv h1
  go_enter Tryd.func39, Tryd.ntmps39
  go_wp2_with (go_at_call 44; (with_reducible refine (H1.out _).mono ?_); rintro e w1 ⟨rfl, rfl⟩)
  go_ret
  exact ⟨rfl, Below.refl _ _⟩
theorem idxb (s : ByteArray) (ha : Asc s) (a b : Nat) (c : UInt8) (hc : 128 ≤ c.toNat) (u : World) : Calls Tryd.prog 37 #[.string (s.extract a b), .int .u8 (c.toNat : Nat)] u fun e w' => e = .returned (.int .i64 (-1)) ∧ w' = u :=
  (Tryd.strings_IndexByte _ _ u).mono fun e w' h => by
    obtain ⟨rfl, rfl⟩ := h
    refine ⟨?_, rfl⟩
    have h1 : ((c.toNat : Nat) : Int).toNat.toUInt8 = c := by simp
    rw [h1, indexByte_high]
    · intro x hx
      have hx' : x ∈ bs (s.extract a b) := hx
      rw [bs_extract] at hx'
      have h2 := List.mem_of_mem_drop (List.mem_of_mem_take hx')
      obtain ⟨i, hi, rfl⟩ := List.getElem_of_mem h2
      rw [bs_length] at hi
      rw [bs_get s i hi]
      exact ha i hi
    · exact hc
set_option maxRecDepth 100000 in
set_option maxHeartbeats 2000000 in
theorem idx_good (s : ByteArray) (ha : Asc s) (hs : s.size ≤ 1000) (hs6 : 6 ≤ s.size) (r : Int) (h0 : 128 ≤ r) (h1 : r ≠ 65533) (hv : Lib.validRune r = true) (w : World) : Calls Tryd.prog 39 #[.string s, .int .i32 r] w fun e w' => IdxPost w (-1) e w' := by
  obtain ⟨n, hz, hn, hlt, hh⟩ := enc_high h0 hv
  have H1 := Lib.hid (fun u => Tryd.utf8_ValidRune r u)
  rw [hv] at H1
  have h2 : (r == 65533) = false := by rw [beq_eq_false_iff_ne]; exact h1
  have hr : -2147483648 ≤ r ∧ r ≤ 2147483647 := by
    unfold Lib.validRune at hv
    rw [decide_eq_true_eq] at hv
    omega
  obtain ⟨hr1, hr2⟩ := hr
  clear hv h1
  have hcv : ∀ u, (convert 21 9 (.int .i32 r)).run Tryd.prog u = .ok (.string (Utf8.encode r)) u := fun u => run_convert_int_string u 21 9 .i32 r (by rw [Tryd.underlying21]; rfl) Tryd.underlying9
  generalize Utf8.encode r = E at hz hlt hh hcv
  have hcs : n = 0 ∨ n = 1 ∨ n = 2 := by omega
  have HA := Lib.hid ha
  clear ha hn
  rcases hcs with rfl | rfl | rfl
  case inl =>
    have hE : 128 ≤ E[1].toNat := hh
    have hz2 : E.size = 2 := hz
    clear hz hh
    have hq : s[1].toNat < 128 := HA.out 1 (by omega)
    have hne : ((s[1].toNat : Int) != (E[1].toNat : Int)) = true := by rw [bne_iff_ne]; omega
    have HI := Lib.hid (fun a b u => idxb s HA.out a b E[1] hE u)
    go_enter Tryd.func39, Tryd.ntmps39
    go_wp2_with (go_at_call 44; (with_reducible refine (H1.out _).mono ?_); rintro e w1 ⟨rfl, rfl⟩)
    go_step3
    go_wp2_with fail
    go_loop [9] (fun i => i = .int .i64 1) (fun _ => 0)
    case atStart => rfl
    case round =>
      subst hrel
      go_wp2_with fail
      go_step3
      go_wp2_with fail
      go_quiet (fail)
      go_wp2_with fail
      have hsl : ∀ u, (Instr.slice 9 (.string s) (some (.int .i64 2)) none none).run Tryd.prog u = .ok (.string (s.extract 2 s.size)) u := fun u => by
        rw [run_slice_string_from_if (h := Tryd.underlying9), if_pos (by omega)]; rfl
      have HB := Lib.hid (below_dn (Below.refl w1.heap.size w1) nq)
      generalize w1.drewN nq = W2 at HB ⊢
      go_quiet ((go_at_call 37; exact Calls.quiet_of_same (HI.out _ _ _)))
      go_wp2_with fail
      rw [Exit.noGoto_ret]
      go_ret
      exact ⟨rfl, below_dn HB.out _⟩
  case inr.inl =>
    have hE : 128 ≤ E[2].toNat := hh
    have hz2 : E.size = 3 := hz
    clear hz hh
    have hq : s[2].toNat < 128 := HA.out 2 (by omega)
    have hne : ((s[2].toNat : Int) != (E[2].toNat : Int)) = true := by rw [bne_iff_ne]; omega
    have HI := Lib.hid (fun a b u => idxb s HA.out a b E[2] hE u)
    go_enter Tryd.func39, Tryd.ntmps39
    go_wp2_with (go_at_call 44; (with_reducible refine (H1.out _).mono ?_); rintro e w1 ⟨rfl, rfl⟩)
    go_step3
    go_wp2_with fail
    go_loop [9] (fun i => i = .int .i64 2) (fun _ => 0)
    case atStart => rfl
    case round =>
      subst hrel
      go_wp2_with fail
      go_step3
      go_wp2_with fail
      go_quiet (fail)
      go_wp2_with fail
      have hsl : ∀ u, (Instr.slice 9 (.string s) (some (.int .i64 3)) none none).run Tryd.prog u = .ok (.string (s.extract 3 s.size)) u := fun u => by
        rw [run_slice_string_from_if (h := Tryd.underlying9), if_pos (by omega)]; rfl
      have HB := Lib.hid (below_dn (Below.refl w1.heap.size w1) nq)
      generalize w1.drewN nq = W2 at HB ⊢
      go_quiet ((go_at_call 37; exact Calls.quiet_of_same (HI.out _ _ _)))
      go_wp2_with fail
      rw [Exit.noGoto_ret]
      go_ret
      exact ⟨rfl, below_dn HB.out _⟩
  case inr.inr =>
    have hE : 128 ≤ E[3].toNat := hh
    have hz2 : E.size = 4 := hz
    clear hz hh
    have hq : s[3].toNat < 128 := HA.out 3 (by omega)
    have hne : ((s[3].toNat : Int) != (E[3].toNat : Int)) = true := by rw [bne_iff_ne]; omega
    have HI := Lib.hid (fun a b u => idxb s HA.out a b E[3] hE u)
    go_enter Tryd.func39, Tryd.ntmps39
    go_wp2_with (go_at_call 44; (with_reducible refine (H1.out _).mono ?_); rintro e w1 ⟨rfl, rfl⟩)
    go_step3
    go_wp2_with fail
    go_loop [9] (fun i => i = .int .i64 3) (fun _ => 0)
    case atStart => rfl
    case round =>
      subst hrel
      go_wp2_with fail
      go_step3
      go_wp2_with fail
      go_quiet (fail)
      go_wp2_with fail
      have hsl : ∀ u, (Instr.slice 9 (.string s) (some (.int .i64 4)) none none).run Tryd.prog u = .ok (.string (s.extract 4 s.size)) u := fun u => by
        rw [run_slice_string_from_if (h := Tryd.underlying9), if_pos (by omega)]; rfl
      have HB := Lib.hid (below_dn (Below.refl w1.heap.size w1) nq)
      generalize w1.drewN nq = W2 at HB ⊢
      go_quiet ((go_at_call 37; exact Calls.quiet_of_same (HI.out _ _ _)))
      go_wp2_with fail
      rw [Exit.noGoto_ret]
      go_ret
      exact ⟨rfl, below_dn HB.out _⟩
theorem idx_any (s : ByteArray) (ha : Asc s) (hs : s.size ≤ 1000) (hs6 : 6 ≤ s.size) (r : Int) (h0 : 128 ≤ r) (w : World) : Calls Tryd.prog 39 #[.string s, .int .i32 r] w fun e w' => IdxPost w (-1) e w' := by
  by_cases h1 : r = 65533
  · subst h1; exact idx_error s ha w
  · cases hv : Lib.validRune r with
    | false => exact idx_bad s r h0 h1 hv w
    | true => exact idx_good s ha hs hs6 r h0 h1 hv w
theorem indexByte_mem : ∀ (l : List UInt8) (c : UInt8), decide (0 ≤ Lib.indexByte l c) = l.contains c
  | [], c => rfl
  | b :: l, c => by
    have ih := indexByte_mem l c
    have hge := Lib.indexByte_ge l c
    unfold Lib.indexByte
    rw [List.contains_cons, ← ih]
    by_cases h : b = c
    · subst h; simp
    · have h1 : (b == c) = false := by rw [beq_eq_false_iff_ne]; exact h
      have h2 : (c == b) = false := by rw [beq_eq_false_iff_ne]; exact Ne.symm h
      rw [h1, h2, Bool.false_or]
      rw [Bool.eq_iff_iff, decide_eq_true_eq, decide_eq_true_eq]
      by_cases h3 : Lib.indexByte l c = -1
      · simp [h3]
      · have : (Lib.indexByte l c == -1) = false := by rw [beq_eq_false_iff_ne]; exact h3
        simp only [Bool.false_eq_true, if_false, this]
        omega
/-- Whether a text of ASCII bears a character. -/
def hasR (s : ByteArray) (r : Int) : Bool := decide (r < 128) && (bs s).contains (asB r)
theorem has_high {s : ByteArray} {r : Int} (h : 128 ≤ r) : hasR s r = false := by
  unfold hasR
  rw [Bool.and_eq_false_iff, decide_eq_false_iff_not]
  omega
theorem has_of (s : ByteArray) (ha : Asc s) (c : UInt8) : hasR s (c.toNat : Nat) = (bs s).contains c := by
  unfold hasR
  rw [asB_of]
  by_cases h : c.toNat < 128
  · have : ((c.toNat : Nat) : Int) < 128 := by omega
    simp [this]
  · have : (bs s).contains c = false := by
      rw [Bool.eq_false_iff]
      intro hc
      rw [List.contains_iff_mem] at hc
      obtain ⟨i, hi, e⟩ := List.getElem_of_mem hc
      rw [bs_length] at hi
      rw [bs_get s i hi] at e
      have := ha i hi
      rw [e] at this
      omega
    rw [this, Bool.and_false]
def BoolPost (w : World) (b : Bool) (e : Ending) (w' : World) : Prop := e = .returned (.bool b) ∧ Below w.heap.size w w'
set_option maxRecDepth 100000 in
theorem has_any (s : ByteArray) (ha : Asc s) (hs : s.size ≤ 1000) (hs6 : 6 ≤ s.size) (r : Int) (h0 : 0 ≤ r) (w : World) : Calls Tryd.prog 26 #[.string s, .int .i32 r] w fun e w' => BoolPost w (hasR s r) e w' := by
  by_cases h1 : r < 128
  · refine (Tryd.strings_ContainsRune_ascii s r w h0 h1).mono fun e w' h => ?_
    obtain ⟨rfl, rfl⟩ := h
    refine ⟨?_, Below.refl _ _⟩
    rw [indexByte_mem]
    unfold hasR
    rw [decide_eq_true h1, Bool.true_and]
    rfl
  · have H := Lib.hid (fun u => idx_any s ha hs hs6 r (by omega) u)
    rw [has_high (by omega)]
    clear ha h1
    go_enter Tryd.func26, Tryd.ntmps26
    go_wp2_with (go_at_call 39; (with_reducible refine (H.out _).mono ?_); rintro e w1 ⟨rfl, hb⟩; have HB := Lib.hid hb; clear hb)
    go_ret
    exact ⟨rfl, HB.out⟩
def sgS : ByteArray := ⟨#[43, 45, 42, 47, 92, 94, 60, 62, 61, 126, 58, 46, 63, 64, 35, 38, 36]⟩
def mkS : ByteArray := ⟨#[40, 41, 91, 93, 124, 44]⟩
theorem asc_of {s : ByteArray} (h : ∀ c ∈ bs s, c.toNat < 128) : Asc s := fun i hi => h _ (by rw [← bs_get s i hi]; exact List.getElem_mem _)
theorem sgS_asc : Asc sgS := asc_of (by decide)
theorem mkS_asc : Asc mkS := asc_of (by decide)
theorem byte_all (p : UInt8 → Bool) (h : (List.range 256).all (fun n => p (UInt8.ofNat n)) = true) (c : UInt8) : p c = true := by
  have h1 := List.all_eq_true.1 h c.toNat (List.mem_range.2 c.toNat_lt)
  rwa [UInt8.ofNat_toNat] at h1
theorem sgS_sign (c : UInt8) : (bs sgS).contains c = isSign c :=
  beq_iff_eq.1 (byte_all (fun c => (bs sgS).contains c == isSign c) (by decide +kernel) c)
set_option maxRecDepth 100000 in
theorem psig_any (r : Int) (h0 : 0 ≤ r) (w : World) : Calls Tryd.prog 24 #[.int .i32 r] w fun e w' => BoolPost w (sigR r) e w' := by
  have H := Lib.hid (fun u => has_any sgS sgS_asc (by decide) (by decide) r h0 u)
  have he : hasR sgS r = sigR r := by
    unfold hasR sigR
    rw [sgS_sign]
  rw [he] at H
  clear he
  go_enter Tryd.func24, Tryd.ntmps24
  go_wp2_with (go_at_call 26; (refine (H.out _).mono ?_); rintro e w1 ⟨rfl, hb⟩; have HB := Lib.hid hb; clear hb)
  go_ret
  exact ⟨rfl, HB.out⟩
end Go.Proofs.YtlildhacfimaaaaDoor
