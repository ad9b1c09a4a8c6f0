/-
  The program's small functions on characters and names; a number's text.
-/
import Derived.Test.YtliapkajonbndaaDoorPwA
import Derived.Test.YtliapkajonbndaaDoorWrP
import Derived.Test.YtliapkajonbndaaDoorTm
import Derived.Test.YtliapkajonbndaaDoorShelf
import Derived.Outline
import Derived.WalkMore
import Derived.Lib.LaidTab
namespace Go.Proofs.YtliapkajonbndaaDoor
open Go.RowKit

/-! ### numbers -/
/-- What the library's table of powers holds. -/
def Pow (w : World) : Prop := Lib.TabIs Tryd.prog w "internal/strconv.uint64pow10" .u64 Lib.pow10Tab
theorem Pow.next {b : Nat} {w w' : World} (h : Pow w) (hb : Below b w w') (hg : 0 < b) : Pow w' := by
  have hn : Tryd.prog.globalNamed "internal/strconv.uint64pow10" = some 0 := by kernel_rfl
  unfold Pow Lib.TabIs World.var? at h ⊢
  rw [hn] at h ⊢
  simp only [Option.bind_some] at h ⊢
  rw [hb.block _ hg]
  exact h
theorem Pow.lt {w : World} (h : Pow w) : 0 < w.heap.size := by
  have hn : Tryd.prog.globalNamed "internal/strconv.uint64pow10" = some 0 := by kernel_rfl
  unfold Pow Lib.TabIs World.var? at h
  rw [hn] at h
  simp only [Option.bind_some] at h
  rcases Nat.lt_or_ge 0 w.heap.size with h' | h'
  · exact h'
  · rw [Array.getElem?_eq_none h'] at h
    cases h
theorem dgs_dec : ∀ (n m : Nat), n ≤ m → dgs n = Lib.decDigits n
  | n, m, hm => by
    rw [dgs, Lib.decDigits]
    by_cases h : n < 10
    · rw [if_pos h, dif_pos h]
    · rw [if_neg h, dif_neg h]
      match m, hm with
      | 0, hm => omega
      | m + 1, hm =>
        have hlt : n / 10 < n := Nat.div_lt_self (by omega) (by omega)
        rw [dgs_dec (n / 10) m (by omega)]
theorem dgz_itoa (n : Int) : dgz n = Lib.itoa n := by
  unfold dgz Lib.itoa
  split
  · rename_i h
    rw [dgs_dec _ _ (Nat.le_refl _), show (-n).toNat = n.natAbs by omega]
  · rw [dgs_dec _ _ (Nat.le_refl _)]
theorem below_grow {w : World} (k : Nat) (os : Array Obj) : Below w.heap.size w (Go.Sort.grow (w.drewN k) os) := by
  refine ⟨rfl, rfl, rfl, ?_, fun i hi => ?_⟩
  · show w.heap.size ≤ (w.heap ++ os).size
    simp
  · show (w.heap ++ os)[i]? = _
    exact Array.getElem?_append_left hi
theorem pitoa_any (n : Int) (h0 : -9223372036854775808 ≤ n) (h1 : n ≤ 9223372036854775807) (w : World) (hp : Pow w) :
    Calls Tryd.prog 34 #[.int .i64 n] w fun e w' => e = .returned (.string ⟨(dgz n).toArray⟩) ∧ Below w.heap.size w w' := by
  refine (Tryd.strconv_Itoa n h0 h1 w hp).mono ?_
  rintro e w' ⟨rfl, k, os, rfl⟩
  exact ⟨by rw [dgz_itoa], below_grow k os⟩
/-! ### characters -/
set_option maxRecDepth 100000 in
theorem wlow_any (r : Int) (b : Bool) (hb : b = decide (97 ≤ r ∧ r ≤ 122)) (w : World) : Calls Tryd.prog 51 #[.int .i32 r] w fun e w' => e = .returned (.bool b) ∧ w = w' := by
  by_cases h1 : 97 ≤ r
  · by_cases h2 : r ≤ 122
    · obtain rfl : true = b := by rw [hb]; simp [h1, h2]
      clear hb
      go_enter Tryd.func51, Tryd.ntmps51
      go_wp2_with fail
      go_ret
      exact ⟨rfl, rfl⟩
    · obtain rfl : false = b := by rw [hb]; simp [h2]
      clear hb
      go_enter Tryd.func51, Tryd.ntmps51
      go_wp2_with fail
      go_ret
      exact ⟨rfl, rfl⟩
  · obtain rfl : false = b := by rw [hb]; simp [h1]
    have h3 : r < 97 := by omega
    clear hb h1
    go_enter Tryd.func51, Tryd.ntmps51
    go_wp2_with fail
    go_ret
    exact ⟨rfl, rfl⟩
set_option maxRecDepth 100000 in
set_option maxHeartbeats 2000000 in
theorem wword_any (r : Int) (b : Bool) (hb : b = decide ((97 ≤ r ∧ r ≤ 122) ∨ (65 ≤ r ∧ r ≤ 90) ∨ (48 ≤ r ∧ r ≤ 57) ∨ r = 95)) (w : World) : Calls Tryd.prog 53 #[.int .i32 r] w fun e w' => e = .returned (.bool b) ∧ w = w' := by
  by_cases c1 : 97 ≤ r ∧ r ≤ 122
  · obtain rfl : true = b := by rw [hb, eq_comm, decide_eq_true_eq]; omega
    have H1 := Lib.hid (fun u => wlow_any r true (by rw [eq_comm, decide_eq_true_eq]; omega) u)
    clear hb
    go_enter Tryd.func53, Tryd.ntmps53
    go_wp2_with (go_at_call 51; (with_reducible refine (H1.out _).mono ?_); rintro e w1 ⟨rfl, rfl⟩)
    go_ret
    exact ⟨rfl, rfl⟩
  by_cases c2 : 65 ≤ r ∧ r ≤ 90
  · obtain rfl : true = b := by rw [hb, eq_comm, decide_eq_true_eq]; omega
    have H1 := Lib.hid (fun u => wlow_any r false (by rw [eq_comm, decide_eq_false_iff_not]; omega) u)
    have k0 : 65 ≤ r := by omega
    have k1 : r ≤ 90 := by omega
    clear hb
    go_enter Tryd.func53, Tryd.ntmps53
    go_wp2_with (go_at_call 51; (with_reducible refine (H1.out _).mono ?_); rintro e w1 ⟨rfl, rfl⟩)
    go_ret
    exact ⟨rfl, rfl⟩
  by_cases c3 : 48 ≤ r ∧ r ≤ 57
  · obtain rfl : true = b := by rw [hb, eq_comm, decide_eq_true_eq]; omega
    have H1 := Lib.hid (fun u => wlow_any r false (by rw [eq_comm, decide_eq_false_iff_not]; omega) u)
    have k0 : r < 65 := by omega
    have k1 : 48 ≤ r := by omega
    have k2 : r ≤ 57 := by omega
    clear hb
    go_enter Tryd.func53, Tryd.ntmps53
    go_wp2_with (go_at_call 51; (with_reducible refine (H1.out _).mono ?_); rintro e w1 ⟨rfl, rfl⟩)
    go_ret
    exact ⟨rfl, rfl⟩
  by_cases c4 : r = 95
  · subst c4
    obtain rfl : true = b := by rw [hb, eq_comm, decide_eq_true_eq]; omega
    have H1 := Lib.hid (fun u => wlow_any 95 false (by rw [eq_comm, decide_eq_false_iff_not]; omega) u)
    clear hb
    go_enter Tryd.func53, Tryd.ntmps53
    go_wp2_with (go_at_call 51; (with_reducible refine (H1.out _).mono ?_); rintro e w1 ⟨rfl, rfl⟩)
    go_ret
    exact ⟨rfl, rfl⟩
  by_cases c5 : r < 48
  · obtain rfl : false = b := by rw [hb, eq_comm, decide_eq_false_iff_not]; omega
    have H1 := Lib.hid (fun u => wlow_any r false (by rw [eq_comm, decide_eq_false_iff_not]; omega) u)
    have k0 : r < 65 := by omega
    have k1 : r < 48 := by omega
    have k2 : (r == 95) = false := by rw [beq_eq_false_iff_ne]; omega
    clear hb
    go_enter Tryd.func53, Tryd.ntmps53
    go_wp2_with (go_at_call 51; (with_reducible refine (H1.out _).mono ?_); rintro e w1 ⟨rfl, rfl⟩)
    go_ret
    exact ⟨rfl, rfl⟩
  by_cases c6 : r < 65
  · obtain rfl : false = b := by rw [hb, eq_comm, decide_eq_false_iff_not]; omega
    have H1 := Lib.hid (fun u => wlow_any r false (by rw [eq_comm, decide_eq_false_iff_not]; omega) u)
    have k0 : r < 65 := by omega
    have k1 : 48 ≤ r := by omega
    have k2 : (r ≤ 57) = False := by simp only [eq_iff_iff, iff_false]; omega
    have k3 : (r == 95) = false := by rw [beq_eq_false_iff_ne]; omega
    clear hb
    go_enter Tryd.func53, Tryd.ntmps53
    go_wp2_with (go_at_call 51; (with_reducible refine (H1.out _).mono ?_); rintro e w1 ⟨rfl, rfl⟩)
    go_ret
    exact ⟨rfl, rfl⟩
  obtain rfl : false = b := by rw [hb, eq_comm, decide_eq_false_iff_not]; omega
  have H1 := Lib.hid (fun u => wlow_any r false (by rw [eq_comm, decide_eq_false_iff_not]; omega) u)
  have k0 : 65 ≤ r := by omega
  have k1 : (r ≤ 90) = False := by simp only [eq_iff_iff, iff_false]; omega
  have k2 : 48 ≤ r := by omega
  have k3 : (r ≤ 57) = False := by simp only [eq_iff_iff, iff_false]; omega
  have k4 : (r == 95) = false := by rw [beq_eq_false_iff_ne]; omega
  clear hb
  go_enter Tryd.func53, Tryd.ntmps53
  go_wp2_with (go_at_call 51; (with_reducible refine (H1.out _).mono ?_); rintro e w1 ⟨rfl, rfl⟩)
  go_ret
  exact ⟨rfl, rfl⟩
theorem wlow_is (c : UInt8) : decide (97 ≤ ((c.toNat : Nat) : Int) ∧ ((c.toNat : Nat) : Int) ≤ 122) = (srt c == 1) := by
  unfold srt
  rw [Bool.eq_iff_iff, decide_eq_true_eq, beq_iff_eq]
  repeat' split
  all_goals omega
theorem wword_is (c : UInt8) : decide ((97 ≤ ((c.toNat : Nat) : Int) ∧ ((c.toNat : Nat) : Int) ≤ 122) ∨ (65 ≤ ((c.toNat : Nat) : Int) ∧ ((c.toNat : Nat) : Int) ≤ 90) ∨ (48 ≤ ((c.toNat : Nat) : Int) ∧ ((c.toNat : Nat) : Int) ≤ 57) ∨ ((c.toNat : Nat) : Int) = 95) = isWord c := by
  unfold isWord srt
  rw [Bool.eq_iff_iff, decide_eq_true_eq, decide_eq_true_eq]
  repeat' split
  all_goals omega
def sgW : ByteArray := ⟨#[43, 45, 42, 47, 92, 94, 60, 62, 61, 126, 58, 63, 64, 35, 38, 36]⟩
theorem wsgn_all : ∀ k : Fin 256, (let c := UInt8.ofNat k.val; decide (0 ≤ Lib.indexByte sgW.data.toList c) = (isSign c && c != 46)) := by decide +kernel
theorem wsgn_is (c : UInt8) : decide (0 ≤ Lib.indexByte sgW.data.toList c) = (isSign c && c != 46) := by
  have h := wsgn_all ⟨c.toNat, c.toNat_lt⟩
  have e : UInt8.ofNat c.toNat = c := UInt8.ofNat_toNat
  simpa only [e] using h
set_option maxRecDepth 100000 in
theorem wsign_any (c : UInt8) (hc : c.toNat < 128) (w : World) : Calls Tryd.prog 54 #[.int .i32 (c.toNat : Nat)] w fun e w' => e = .returned (.bool (isSign c && c != 46)) ∧ w = w' := by
  have H := Lib.hid (fun u => Tryd.strings_ContainsRune_ascii sgW (c.toNat : Nat) u (by omega) (by omega))
  have e : ((c.toNat : Nat) : Int).toNat.toUInt8 = c := by simp
  rw [e, wsgn_is] at H
  clear e
  go_enter Tryd.func54, Tryd.ntmps54
  go_wp2_with (go_at_call 60; (refine (H.out _).mono ?_); rintro e w1 ⟨rfl, rfl⟩)
  go_ret
  exact ⟨rfl, rfl⟩
/-- A function value that tells of a character. -/
structure TellB (g : Nat) (p : UInt8 → Bool) : Prop where
  enters : ∀ args w, (callFunc g args).run Tryd.prog w = .ok (.enter g args) w
  call : ∀ (c : UInt8) (w : World), c.toNat < 128 → Calls Tryd.prog g #[.int .i32 (c.toNat : Nat)] w fun e w' => e = .returned (.bool (p c)) ∧ w = w'
theorem tell_word : TellB 53 isWord := ⟨enters_of Tryd.func53 (by kernel_rfl) rfl, fun c w _ => wword_any _ _ (wword_is c).symm w⟩
theorem tell_sign : TellB 54 (fun c => isSign c && c != 46) := ⟨enters_of Tryd.func54 (by kernel_rfl) rfl, fun c w h => wsign_any c h w⟩
theorem all_get (p : UInt8 → Bool) (s : ByteArray) (k : Nat) (h : k < s.size) : ((bsN s).take (k + 1)).all p = (((bsN s).take k).all p && p s[k]) := by
  have hk : k < (bsN s).length := by rw [bsN_length]; exact h
  rw [List.take_succ_eq_append_getElem hk, List.all_append, List.all_cons, List.all_nil, Bool.and_true, bsN_get s k h]
theorem all_no (p : UInt8 → Bool) (s : ByteArray) (k : Nat) (h : k < s.size) (hp : p s[k] = false) : (bsN s).all p = false := by
  have hk : k < (bsN s).length := by rw [bsN_length]; exact h
  rw [List.all_eq_false]
  obtain ⟨c, hc⟩ : ∃ c, s[k]'h = c := ⟨_, rfl⟩
  rw [hc] at hp
  have h9 : (bsN s)[k]'hk = c := (bsN_get s k h).trans hc
  exact ⟨c, h9 ▸ List.getElem_mem hk, by simp [hp]⟩
set_option maxRecDepth 100000 in
set_option maxHeartbeats 2000000 in
theorem wall_any {g : Nat} {p : UInt8 → Bool} (hT : TellB g p) (s : ByteArray) (ha : ∀ i (h : i < s.size), s[i].toNat < 128) (w : World) :
    Calls Tryd.prog 52 #[.string s, .func (.func g) #[] #[]] w fun e w' => e = .returned (.bool ((bsN s).all p)) ∧ Below w.heap.size w w' := by
  have eg := hT.enters
  obtain ⟨R, hR⟩ : ∃ R, (bsN s).all p = R := ⟨_, rfl⟩
  rw [hR]
  have HRR := Lib.hid hR
  have HT := Lib.hid hT
  have HA := Lib.hid ha
  clear hT hR ha
  go_enter Tryd.func52, Tryd.ntmps52
  go_wp2_with fail
  go_loopw [] (fun wr => ∃ pos : Nat, Hid (wr.heap[w.heap.size]? = some (.stringIter s pos) ∧ Below w.heap.size w wr ∧ ((bsN s).take pos).all p = true) ∧ pos ≤ s.size) (fun wr => s.size - wr.iterPos w.heap.size)
  case atStart =>
    refine ⟨0, Lib.hid ⟨?_, (Below.refl _ w).alloc (Nat.le_refl _) _, by simp⟩, Nat.zero_le _⟩
    have := World.iter_heap w s 0
    simpa using this
  case round =>
    obtain ⟨pos, hR, hps⟩ := hrel
    obtain ⟨hit, hb, hal⟩ := hR.out
    clear hR
    by_cases hp : pos < s.size
    · have hnx : ∀ ty, (Instr.next (.pointer (some ⟨w.heap.size, 0, none⟩)) true ty).run Tryd.prog wr = _ := fun ty => Lib.run_next_ascii_at wr w.heap.size s pos ty hit hp (HA.out pos hp)
      have hit2 := Lib.iterAt_heap wr w.heap.size s pos (pos + 1) hit
      have hb2 := Lib.below_iterAt hb (k := w.heap.size) (Nat.le_refl _) s (pos + 1)
      have hmv : wr.iterPos w.heap.size = pos := by simp only [World.iterPos, hit]
      have hn := all_get p s pos hp
      rw [hal, Bool.true_and] at hn
      have cS : Calls Tryd.prog g #[.int .i32 (s[pos].toNat : Nat)] (wr.iterAt w.heap.size s (pos + 1)) _ := HT.out.call s[pos] _ (HA.out pos hp)
      have HN9 := Lib.hid (fun h => all_no p s pos hp h)
      have HMV := Lib.hid hmv
      generalize wr.iterAt w.heap.size s (pos + 1) = W at hnx hit2 hb2 cS
      have HIT := Lib.hid hit2
      have HB := Lib.hid hb2
      generalize s[pos] = c at hnx cS hn HN9
      generalize p c = q at cS hn HN9
      have HN := Lib.hid hn
      clear hit hb hit2 hb2 hmv hal hn
      cases q
      · have HF := Lib.hid (HRR.out.symm.trans (HN9.out rfl))
        go_wp2_with fail
        refine cS.mono ?_
        rintro e W' ⟨rfl, rfl⟩
        go_wp2_with fail
        go_ret
        exact ⟨by rw [HF.out]; rfl, HB.out⟩
      · go_wp2_with fail
        refine cS.mono ?_
        rintro e W' ⟨rfl, rfl⟩
        go_wp2_with fail
        go_roundw
        case rel => exact ⟨pos + 1, Lib.hid ⟨HIT.out, HB.out, HN.out⟩, hp⟩
        case measure =>
          rw [HMV.out]
          simp only [World.iterPos, HIT.out]
          omega
    · have hnx : ∀ ty, (Instr.next (.pointer (some ⟨w.heap.size, 0, none⟩)) true ty).run Tryd.prog wr = _ := fun ty => Lib.run_next_end_at wr w.heap.size s pos ty hit hp
      have h9 : true = R := by
        rw [← HRR.out, ← hal, show pos = (bsN s).length by rw [bsN_length]; omega, List.take_length]
      have H9 := Lib.hid h9
      have HB := Lib.hid hb
      clear hit hb hal h9
      go_wp2_with fail
      go_ret
      exact ⟨by rw [← H9.out]; rfl, HB.out⟩
end Go.Proofs.YtliapkajonbndaaDoor
