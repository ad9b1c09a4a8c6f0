/-
  The program's isPair, isEmpty, isBare and name.
-/
import Derived.Test.YtliapkajonbndaaDoorPwB
import Derived.Test.YtliapkajonbndaaDoorWrL
namespace Go.Proofs.YtliapkajonbndaaDoor
open Go.RowKit

set_option maxRecDepth 100000 in
set_option maxHeartbeats 1000000 in
theorem wpair_any (k n : Int) (s : ByteArray) (g : Option Addr) (m c : Nat) (b : Bool) (hb : b = (decide (bsN s = [46]) && decide (m = 2))) (w : World) :
    Calls Tryd.prog 35 #[.agg #[.int .i64 k, .string s, .int .i64 n, .slice g m c]] w fun e w' => e = .returned (.bool b) ∧ Below w.heap.size w w' := by
  have kd : (s.toList == [46]) = decide (bsN s = [46]) := by rw [bsN_toList, Bool.eq_iff_iff, beq_iff_eq, decide_eq_true_eq]
  have km : ((m : Int) == 2) = decide (m = 2) := by rw [Bool.eq_iff_iff, beq_iff_eq, decide_eq_true_eq]; omega
  generalize decide (bsN s = [46]) = d at hb kd
  generalize decide (m = 2) = q at hb km
  have HB := Lib.hid ((Below.refl w.heap.size w).alloc (Nat.le_refl _) (.cells #[.int .i64 k, .string s, .int .i64 n, .slice g m c] 24))
  cases d <;> cases q
  all_goals
    obtain rfl := hb
    go_enter Tryd.func35, Tryd.ntmps35
    go_wp2_with fail
    go_ret
    exact ⟨rfl, HB.out⟩
set_option maxRecDepth 100000 in
set_option maxHeartbeats 1000000 in
theorem wempty_any (k n : Int) (s : ByteArray) (g : Option Addr) (m c : Nat) (b : Bool) (hb : b = (decide (bsN s = [91, 93]) && decide (m = 0))) (w : World) :
    Calls Tryd.prog 46 #[.agg #[.int .i64 k, .string s, .int .i64 n, .slice g m c]] w fun e w' => e = .returned (.bool b) ∧ Below w.heap.size w w' := by
  have kd : (s.toList == [91, 93]) = decide (bsN s = [91, 93]) := by rw [bsN_toList, Bool.eq_iff_iff, beq_iff_eq, decide_eq_true_eq]
  have km : ((m : Int) == 0) = decide (m = 0) := by rw [Bool.eq_iff_iff, beq_iff_eq, decide_eq_true_eq]; omega
  generalize decide (bsN s = [91, 93]) = d at hb kd
  generalize decide (m = 0) = q at hb km
  have HB := Lib.hid ((Below.refl w.heap.size w).alloc (Nat.le_refl _) (.cells #[.int .i64 k, .string s, .int .i64 n, .slice g m c] 24))
  cases d <;> cases q
  all_goals
    obtain rfl := hb
    go_enter Tryd.func46, Tryd.ntmps46
    go_wp2_with fail
    go_ret
    exact ⟨rfl, HB.out⟩
theorem wordN_is (x : List UInt8) (c : UInt8) (h : x.head? = some c) : wordN x = ((srt c == 1) && x.all isWord) := by
  cases x with
  | nil => cases h
  | cons d r =>
    obtain rfl : d = c := Option.some.inj h
    have hw : srt d = 1 → isWord d = true := fun h => by unfold isWord; rw [h]; rfl
    unfold wordN
    rw [Bool.eq_iff_iff]
    simp only [List.all_cons, Bool.and_eq_true, beq_iff_eq]
    constructor
    · rintro ⟨a1, a2⟩; exact ⟨a1, hw a1, a2⟩
    · rintro ⟨a1, _, a2⟩; exact ⟨a1, a2⟩
theorem head_get : ∀ (x : List UInt8) (h : 0 < x.length), x.head? = some (x[0]'h)
  | _ :: _, _ => rfl
theorem bsN_head (s : ByteArray) (h0 : 0 < s.size) : (bsN s).head? = some (s[0]'h0) :=
  (head_get (bsN s) (by rw [bsN_length]; exact h0)).trans (congrArg some (bsN_get s 0 h0))
/-- Whether a name needs no quotes, as the program asks. -/
theorem bare_is (s : ByteArray) (h0 : 0 < s.size) : plainN (bsN s) = (decide (bsN s = [33]) || decide (bsN s = [59]) || decide (bsN s = [91, 93]) || ((srt (s[0]'h0) == 1) && (bsN s).all isWord) || (bsN s).all (fun c => isSign c && c != 46)) := by
  have h2 := wordN_is (bsN s) _ (bsN_head s h0)
  have h1 : 0 < (bsN s).length := by rw [bsN_length]; exact h0
  have h4 : signN (bsN s) = (bsN s).all (fun c => isSign c && c != 46) := by
    unfold signN
    have : (bsN s).isEmpty = false := by cases hx : bsN s with
      | nil => rw [hx] at h1; simp at h1
      | cons a r => rfl
    rw [this]
    rfl
  unfold plainN
  rw [h2, h4]
  generalize decide (bsN s = [33]) = a1
  generalize decide (bsN s = [59]) = a2
  generalize decide (bsN s = [91, 93]) = a3
  generalize ((srt (s[0]'h0) == 1) && (bsN s).all isWord) = a4
  generalize (bsN s).all (fun c => isSign c && c != 46) = a5
  cases a1 <;> cases a2 <;> cases a3 <;> cases a4 <;> cases a5 <;> rfl
set_option maxRecDepth 100000 in
set_option maxHeartbeats 2000000 in
theorem wbare_any (s : ByteArray) (ha : ∀ i (h : i < s.size), s[i].toNat < 128) (h0 : 0 < s.size) (_hs : s.size ≤ 1000) (w : World) :
    Calls Tryd.prog 47 #[.string s] w fun e w' => e = .returned (.bool (plainN (bsN s))) ∧ Below w.heap.size w w' := by
  have e1 : (s.toList == [33]) = decide (bsN s = [33]) := by rw [bsN_toList, Bool.eq_iff_iff, beq_iff_eq, decide_eq_true_eq]
  have e2 : (s.toList == [59]) = decide (bsN s = [59]) := by rw [bsN_toList, Bool.eq_iff_iff, beq_iff_eq, decide_eq_true_eq]
  have e3 : (s.toList == [91, 93]) = decide (bsN s = [91, 93]) := by rw [bsN_toList, Bool.eq_iff_iff, beq_iff_eq, decide_eq_true_eq]
  rw [bare_is s h0]
  have HL := Lib.hid (fun u => wlow_any (s[0].toNat : Nat) _ (wlow_is s[0]).symm u)
  have HW := Lib.hid (fun u => wall_any tell_word s ha u)
  have HG := Lib.hid (fun u => wall_any tell_sign s ha u)
  have hlt := s[0].toNat_lt
  have kw : IntKind.i32.wrap ((s[0].toNat : Nat) : Int) = ((s[0].toNat : Nat) : Int) := by rw [IntKind.wrap_i32]; omega
  clear ha
  generalize decide (bsN s = [33]) = b1 at e1 ⊢
  generalize decide (bsN s = [59]) = b2 at e2 ⊢
  generalize decide (bsN s = [91, 93]) = b3 at e3 ⊢
  generalize (bsN s).all isWord = b5 at HW ⊢
  generalize (bsN s).all (fun c => isSign c && c != 46) = b6 at HG ⊢
  generalize (srt s[0] == 1) = b4 at HL ⊢
  cases b1
  case true =>
    go_enter Tryd.func47, Tryd.ntmps47
    go_wp2_with fail
    go_ret
    exact ⟨rfl, Below.refl _ _⟩
  cases b2
  case true =>
    go_enter Tryd.func47, Tryd.ntmps47
    go_wp2_with fail
    go_ret
    exact ⟨rfl, Below.refl _ _⟩
  cases b3
  case true =>
    go_enter Tryd.func47, Tryd.ntmps47
    go_wp2_with fail
    go_ret
    exact ⟨rfl, Below.refl _ _⟩
  cases b4
  · cases b6
    all_goals
      go_enter Tryd.func47, Tryd.ntmps47
      go_wp2_with (first
        | (go_at_call 51; (with_reducible refine (HL.out _).mono ?_); rintro e w1 ⟨rfl, rfl⟩)
        | (go_at_call 52; (with_reducible refine (HG.out _).mono ?_); rintro e w2 ⟨rfl, hb⟩; have HB2 := Lib.hid hb; clear hb))
      go_ret
      exact ⟨by cases b5 <;> rfl, HB2.out⟩
  · cases b5
    · cases b6
      all_goals
        go_enter Tryd.func47, Tryd.ntmps47
        go_wp2_with (first
          | (go_at_call 51; (with_reducible refine (HL.out _).mono ?_); rintro e w1 ⟨rfl, rfl⟩)
          | (go_at_call 52; (with_reducible refine (HW.out _).mono ?_); rintro e w2 ⟨rfl, hb⟩; have HB1 := Lib.hid hb; clear hb)
          | (go_at_call 52; (with_reducible refine (HG.out _).mono ?_); rintro e w3 ⟨rfl, hb⟩; have HB2 := Lib.hid hb; clear hb))
        go_ret
        exact ⟨rfl, HB1.out.trans (HB2.out.mono HB1.out.size)⟩
    · go_enter Tryd.func47, Tryd.ntmps47
      go_wp2_with (first
        | (go_at_call 51; (with_reducible refine (HL.out _).mono ?_); rintro e w1 ⟨rfl, rfl⟩)
        | (go_at_call 52; (with_reducible refine (HW.out _).mono ?_); rintro e w2 ⟨rfl, hb⟩; have HB1 := Lib.hid hb; clear hb))
      go_ret
      exact ⟨rfl, HB1.out⟩
/-! ### names -/
theorem pbyte_k (b : Nat) (x : List UInt8) (c : UInt8) (n : Int) (hn : n = (c.toNat : Nat)) (w : World) (h : Pr b x w) (hl : x.length ≤ 9000000000) :
    Calls Tryd.prog 31 #[.pointer (some ⟨b, 0, none⟩), .int .u8 n] w fun e w' => e = .returned .nilIface ∧ Pr b (x ++ [c]) w' ∧ PFr b w w' := hn ▸ pbyte_any b x c w h hl
theorem pstr_b (b : Nat) (x : List UInt8) (s : ByteArray) (w : World) (h : Pr b x w) (hl : x.length + (bsN s).length ≤ 9000000000) :
    Calls Tryd.prog 30 #[.pointer (some ⟨b, 0, none⟩), .string s] w fun e w' => (∃ m : Int, e = .returned (.tuple #[.int .i64 m, .nilIface])) ∧ Pr b (x ++ bsN s) w' ∧ PFr b w w' := by
  have h1 := pstr_any b x (bsN s) w h hl
  rw [bsN_arr] at h1
  exact h1.mono fun e w' h2 => ⟨⟨_, h2.1⟩, h2.2⟩
theorem BuilderAt_iter {T e : TypeId} {B b : Nat} {p : Value} {bs : List Value} {w : World} (h : Lib.BuilderAt T e B b p bs w) {k : Nat} {s : ByteArray} {pos : Nat} (hk : w.heap[k]? = some (.stringIter s pos)) (pos' : Nat) : Lib.BuilderAt T e B b p bs (w.iterAt k s pos') := by
  obtain ⟨h1, v, h2, h3, h4⟩ := h
  have hne : b ≠ k := by rintro rfl; rw [hk] at h2; cases h2
  refine ⟨h1, v, (Lib.iterAt_other w k b s pos' hne).trans h2, ⟨h3.1, ?_⟩, h4⟩
  rcases h3.2 with hn | ⟨g, cap, cur, hv, hbg, hg, rest⟩
  · exact .inl hn
  · have hkg : g ≠ k := by rintro rfl; rw [hk] at hg; cases hg
    exact .inr ⟨g, cap, cur, hv, hbg, (Lib.iterAt_other w k g s pos' hkg).trans hg, rest⟩
theorem Pr.iter {b : Nat} {x : List UInt8} {w : World} (h : Pr b x w) {k : Nat} {s : ByteArray} {pos : Nat} (hk : w.heap[k]? = some (.stringIter s pos)) (pos' : Nat) : Pr b x (w.iterAt k s pos') := by
  rcases h with h | h
  · exact .inl (BuilderAt_iter h hk pos')
  · exact .inr (BuilderAt_iter h hk pos')
theorem PFr.iter {b : Nat} {w v : World} (h : PFr b w v) (k : Nat) (hk : b ≤ k) (hw : w.heap.size ≤ k) (s : ByteArray) (pos : Nat) : PFr b w (v.iterAt k s pos) :=
  ⟨Lib.below_iterAt h.low hk s pos, fun i o hi h1 h2 => (Lib.iterAt_other v k i s pos (by have := (Array.getElem?_eq_some_iff.1 hi).1; omega)).trans (h.oth i o hi h1 h2)⟩
theorem dbl_next (s : ByteArray) (pos : Nat) (h : pos < s.size) : dbl ((bsN s).take (pos + 1)) = dbl ((bsN s).take pos) ++ (if s[pos] = 39 then [39, 39] else [s[pos]]) := by
  have hk : pos < (bsN s).length := by rw [bsN_length]; exact h
  have e := bsN_get s pos h
  rw [List.take_succ_eq_append_getElem hk, dbl_snoc, e]
/-- What the loop over a name's characters holds. -/
def NmL (w0 : World) (b k : Nat) (x : List UInt8) (s : ByteArray) (pos : Nat) (W : World) : Prop :=
  W.heap[k]? = some (.stringIter s pos) ∧ Pr b (x ++ 39 :: dbl ((bsN s).take pos)) W ∧ PFr b w0 W
set_option maxRecDepth 100000 in
set_option maxHeartbeats 4000000 in
theorem pname_any (b : Nat) (x : List UInt8) (s : ByteArray) (ha : ∀ i (h : i < s.size), s[i].toNat < 128) (h0 : 0 < s.size) (hs : s.size ≤ 1000) (w : World) (h : Pr b x w) (hl : x.length ≤ 8000000000) :
    Calls Tryd.prog 37 #[.pointer (some ⟨b, 0, none⟩), .string s] w fun e w' => e = .returned (.tuple #[]) ∧ Pr b (x ++ nmX (bsN s)) w' ∧ PFr b w w' := by
  have HB := Lib.hid (fun u => wbare_any s ha h0 hs u)
  have hlt := h.lt
  have hln := bsN_length s
  have hdl : ∀ k, (dbl ((bsN s).take k)).length ≤ 2 * s.size := fun k => by
    have h1 := dbl_len ((bsN s).take k)
    have h2 : ((bsN s).take k).length ≤ s.size := by rw [List.length_take, hln]; omega
    omega
  have HP := Lib.hid h
  have HA := Lib.hid ha
  have HD := Lib.hid hdl
  have HL := Lib.hid hln
  have HX := Lib.hid (show nmX (bsN s) = if plainN (bsN s) = true then bsN s else 39 :: (dbl (bsN s) ++ [39]) from rfl)
  clear h ha hdl hln
  cases hp : plainN (bsN s)
  · have HX2 := Lib.hid (show nmX (bsN s) = 39 :: (dbl (bsN s) ++ [39]) by rw [HX.out, hp]; rfl)
    rw [hp] at HB
    clear hp
    go_enter Tryd.func37, Tryd.ntmps37
    go_upto_region 2 with (go_at_call 47; (with_reducible refine (HB.out _).mono ?_); rintro e w1 ⟨rfl, hb⟩; have HB1 := Lib.hid hb; clear hb)
    have HP1 := Lib.hid (HP.out.below HB1.out)
    have HF1 := Lib.hid (PFr.of (Nat.le_of_lt hlt) HB1.out)
    go_upto_region 3 with (go_at_call 31; (with_reducible refine (pbyte_k b x 39 39 rfl _ HP1.out (by omega)).mono ?_); rintro e w2 ⟨rfl, hp2, hf2⟩; have HP2 := Lib.hid hp2; have HF2 := Lib.hid (HF1.out.trans hf2); clear hp2 hf2)
    have hlt2 := HP2.out.lt
    have hsz2 : w.heap.size ≤ w2.heap.size := HF2.out.low.size
    go_wp2_with fail
    go_loopw [] (fun wr => ∃ pos : Nat, Hid (NmL w b w2.heap.size x s pos wr) ∧ pos ≤ s.size) (fun wr => s.size - wr.iterPos w2.heap.size)
    case atStart =>
      refine ⟨0, Lib.hid ⟨?_, ?_, ?_⟩, Nat.zero_le _⟩
      · have := World.iter_heap w2 s 0
        simpa using this
      · have h9 := HP2.out.below ((Below.refl w2.heap.size w2).alloc (Nat.le_refl _) (.stringIter s 0))
        have e9 : x ++ 39 :: dbl ((bsN s).take 0) = x ++ [39] := by simp [dbl]
        rw [e9]
        exact h9
      · exact HF2.out.trans (PFr.of (Nat.le_of_lt hlt2) ((Below.refl w2.heap.size w2).alloc (Nat.le_refl _) (.stringIter s 0)))
    case round =>
      obtain ⟨pos, hR, hps⟩ := hrel
      obtain ⟨hit, hpr, hfr⟩ := hR.out
      clear hR
      by_cases hp : pos < s.size
      · have hnx : ∀ ty, (Instr.next (.pointer (some ⟨w2.heap.size, 0, none⟩)) true ty).run Tryd.prog wr = _ := fun ty => Lib.run_next_ascii_at wr w2.heap.size s pos ty hit hp (HA.out pos hp)
        have hit2 := Lib.iterAt_heap wr w2.heap.size s pos (pos + 1) hit
        have hpr2 := hpr.iter hit (pos + 1)
        have hfr2 := hfr.iter w2.heap.size (by omega) hsz2 s (pos + 1)
        have hmv : wr.iterPos w2.heap.size = pos := by simp only [World.iterPos, hit]
        have hdn := dbl_next s pos hp
        have hca := HA.out pos hp
        have hd1 := HD.out pos
        have HMV := Lib.hid hmv
        generalize wr.iterAt w2.heap.size s (pos + 1) = W at hnx hit2 hpr2 hfr2
        generalize s[pos] = c at hnx hdn hca
        have HIT := Lib.hid hit2
        have HPR := Lib.hid hpr2
        have HFR := Lib.hid hfr2
        have hlx : (x ++ 39 :: dbl ((bsN s).take pos)).length ≤ 8000010000 := by
          simp only [List.length_append, List.length_cons]
          omega
        obtain ⟨X, hX⟩ : ∃ X, x ++ 39 :: dbl ((bsN s).take pos) = X := ⟨_, rfl⟩
        rw [hX] at hlx HPR
        have HDN := Lib.hid (show x ++ 39 :: dbl ((bsN s).take (pos + 1)) = X ++ (if c = 39 then [39, 39] else [c]) by rw [hdn, ← hX]; simp)
        clear hit hpr hfr hit2 hpr2 hfr2 hmv hdn hX hd1
        by_cases hc : c = 39
        · subst hc
          have HDN2 := Lib.hid (show x ++ 39 :: dbl ((bsN s).take (pos + 1)) = X ++ [39] ++ [39] by rw [HDN.out]; simp)
          have hnx2 : ∀ ty, (Instr.next (.pointer (some ⟨w2.heap.size, 0, none⟩)) true ty).run Tryd.prog wr = .ok (.tuple #[.bool true, .int .i64 pos, .int .i32 39]) W := hnx
          clear hnx
          go_wp2_with (first
            | (go_at_call 31; (with_reducible refine (pbyte_k b X 39 39 rfl _ HPR.out (by omega)).mono ?_); rintro e w3 ⟨rfl, hp3, hf3⟩; have HP3 := Lib.hid hp3; have HF3 := Lib.hid hf3; clear hp3 hf3)
            | (go_at_call 48; (refine (prune_any b (X ++ [39]) 39 (by decide) _ HP3.out (by simp; omega)).mono ?_); rintro e w4 ⟨rfl, hp4, hf4⟩; have HP4 := Lib.hid hp4; have HF4 := Lib.hid (HF3.out.trans hf4); clear hp4 hf4))
          have HIT4 := Lib.hid (HF4.out.block HIT.out (by omega) (fun _ _ e => by cases e))
          go_roundw
          case rel => exact ⟨pos + 1, Lib.hid ⟨HIT4.out, by rw [HDN2.out]; exact HP4.out, HFR.out.trans HF4.out⟩, hp⟩
          case measure =>
            rw [HMV.out]
            simp only [World.iterPos, HIT4.out]
            omega
        · have HDN2 := Lib.hid (show x ++ 39 :: dbl ((bsN s).take (pos + 1)) = X ++ [c] by rw [HDN.out, if_neg hc])
          have hc2 : (((c.toNat : Nat) : Int) == 39) = false := by
            rw [beq_eq_false_iff_ne]
            intro e
            exact hc (UInt8.toNat_inj.1 (by have : c.toNat = 39 := by omega
                                            simpa using this))
          clear hc
          go_wp2_with (go_at_call 48; (with_reducible refine (prune_any b X c hca _ HPR.out (by omega)).mono ?_); rintro e w4 ⟨rfl, hp4, hf4⟩; have HP4 := Lib.hid hp4; have HF4 := Lib.hid hf4; clear hp4 hf4)
          have HIT4 := Lib.hid (HF4.out.block HIT.out (by omega) (fun _ _ e => by cases e))
          go_roundw
          case rel => exact ⟨pos + 1, Lib.hid ⟨HIT4.out, by rw [HDN2.out]; exact HP4.out, HFR.out.trans HF4.out⟩, hp⟩
          case measure =>
            rw [HMV.out]
            simp only [World.iterPos, HIT4.out]
            omega
      · have hnx : ∀ ty, (Instr.next (.pointer (some ⟨w2.heap.size, 0, none⟩)) true ty).run Tryd.prog wr = _ := fun ty => Lib.run_next_end_at wr w2.heap.size s pos ty hit hp
        have hd1 := HD.out pos
        have hpe : (bsN s).take pos = bsN s := by rw [show pos = (bsN s).length by rw [HL.out]; omega, List.take_length]
        rw [hpe] at hpr hd1
        have HPR := Lib.hid hpr
        have HFR := Lib.hid hfr
        have hlx : (x ++ 39 :: dbl (bsN s)).length ≤ 8000010000 := by
          simp only [List.length_append, List.length_cons]
          omega
        have HE := Lib.hid (show x ++ nmX (bsN s) = x ++ 39 :: dbl (bsN s) ++ [39] by rw [HX2.out]; simp)
        clear hit hpr hfr hd1 hpe
        go_wp2_with (go_at_call 31; (with_reducible refine (pbyte_k b _ 39 39 rfl _ HPR.out (by omega)).mono ?_); rintro e w3 ⟨rfl, hp3, hf3⟩; have HP3 := Lib.hid hp3; have HF3 := Lib.hid hf3; clear hp3 hf3)
        go_end0
        exact ⟨rfl, by rw [HE.out]; exact HP3.out, HFR.out.trans HF3.out⟩
  · have HX2 := Lib.hid (show nmX (bsN s) = bsN s by rw [HX.out, hp]; rfl)
    rw [hp] at HB
    clear hp
    go_enter Tryd.func37, Tryd.ntmps37
    go_upto_region 1 with (go_at_call 47; (with_reducible refine (HB.out _).mono ?_); rintro e w1 ⟨rfl, hb⟩; have HB1 := Lib.hid hb; clear hb)
    have HP1 := Lib.hid (HP.out.below HB1.out)
    have HF1 := Lib.hid (PFr.of (Nat.le_of_lt hlt) HB1.out)
    go_wp2_with (go_at_call 30; (with_reducible refine (pstr_b b x s _ HP1.out (by have := HL.out; omega)).mono ?_); rintro e w2 ⟨⟨m, rfl⟩, hp2, hf2⟩; have HP2 := Lib.hid hp2; have HF2 := Lib.hid (HF1.out.trans hf2); clear hp2 hf2)
    refine bodyPost_ret (results_none rfl _ _ _) rfl ?_
    exact ⟨rfl, by rw [HX2.out]; exact HP2.out, HF2.out⟩
end Go.Proofs.YtliapkajonbndaaDoor
