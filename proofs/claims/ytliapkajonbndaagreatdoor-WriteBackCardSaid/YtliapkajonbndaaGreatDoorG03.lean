/-
  What the rows' lists of variables give; a world that meets them.
  How long texts are.
  The program's isPair, isEmpty, isBare and name.
-/
import Derived.Test.YtliapkajonbndaaGreatDoorRows
import Derived.Test.YtliapkajonbndaaGreatDoorG02
import Derived.Stop.LaidErr
import Derived.LaidLaws
import Derived.Test.YtliapkajonbndaaGreatDoorG01
namespace Go.Proofs.YtliapkajonbndaaGreatDoor
open Go.RowKit

theorem Tryz.ownK : ownKnob Tryz.prog.godebug = none := by kernel_rfl
theorem Tryz.laidOutK : laidOutB Tryz.prog = true := by kernel_rfl
theorem gPW : Tryz.prog.globalNamed "internal/strconv.uint64pow10" = some 0 := by kernel_rfl
theorem gPWType : (Tryz.prog.globals[0]?).map (·.type) = some 147 := by kernel_rfl
theorem cellsU64 : Tryz.prog.cellsOf 132 = 1 := by kernel_rfl
theorem cellsA20 : Tryz.prog.cellsOf 147 = 20 := by kernel_rfl
theorem powTab : (Rows.laid_internal_strconv_uint64pow10 : DataW Unit) = Lib.tabData .u64 Lib.pow10Tab := by kernel_rfl
theorem pow_laid {W : World} (hL : laidMet Tryz.prog Rows.writeBackRow.laid W) : Pow W := by
  have h : laidMet Tryz.prog [("math/bits.deBruijn32tab", Rows.laid_math_bits_deBruijn32tab), ("math/bits.deBruijn64tab", Rows.laid_math_bits_deBruijn64tab), ("internal/strconv.uint64pow10", Rows.laid_internal_strconv_uint64pow10), ("strconv.ErrRange", Rows.laid_strconv_ErrRange), ("strconv.ErrSyntax", Rows.laid_strconv_ErrSyntax)] W := hL
  rw [powTab] at h
  exact Lib.tabIs_of_head gPW gPWType Tryz.underlying147 Tryz.underlying132 cellsU64 cellsA20 h.tail.tail
theorem gER : Tryz.prog.globalNamed "strconv.ErrRange" = some 5 := by kernel_rfl
theorem gERType : (Tryz.prog.globals[5]?).map (·.type) = some 66 := by kernel_rfl
theorem cellsES : Tryz.prog.cellsOf 190 = 1 := by kernel_rfl
theorem cellsStr : Tryz.prog.cellsOf 9 = 1 := by kernel_rfl
theorem starES : "*" ++ "errors.errorString" = "*errors.errorString" := by decide
theorem rowES (u : TypeId) (h : Tryz.prog.typeName? 3 u = some "*errors.errorString") : u = 188 :=
  typeName_ptr_named (nm := "errors.errorString") (by rw [starES]; kernel_rfl) (by kernel_rfl) (by decide) u (by rw [starES]; exact h)
theorem rng_laid {W : World} (hL : laidMet Tryz.prog Rows.writeBackRow.laid W) : Rng W := by
  have h : laidMet Tryz.prog [("math/bits.deBruijn32tab", Rows.laid_math_bits_deBruijn32tab), ("math/bits.deBruijn64tab", Rows.laid_math_bits_deBruijn64tab), ("internal/strconv.uint64pow10", Rows.laid_internal_strconv_uint64pow10), ("strconv.ErrRange", Rows.laid_strconv_ErrRange), ("strconv.ErrSyntax", Rows.laid_strconv_ErrSyntax)] W := hL
  obtain ⟨a1, s1, hv1, -, -, -⟩ := laid_sentinel h.tail.tail.tail gER gERType Tryz.underlying66 rowES Tryz.underlying188 Tryz.underlying190 rfl rfl Tryz.underlying9 cellsES cellsStr
  exact ⟨_, _, by have h0 := World.var?_cell gER hv1 0; simpa using h0⟩
/-- So many blocks has the settled world. -/
noncomputable def low : Nat := (World.holding Tryz.prog default ⟨#[], #[], []⟩).heap.size
/-- The settled world; the listed variables hold what their initialisers lay. -/
noncomputable def laidWorld (os : Os) : World :=
  let w0 := World.holding Tryz.prog os ⟨#[.cells #[.string ⟨#[105, 110, 118, 97, 108, 105, 100, 32, 115, 121, 110, 116, 97, 120]⟩] 190, .cells #[.string ⟨#[118, 97, 108, 117, 101, 32, 111, 117, 116, 32, 111, 102, 32, 114, 97, 110, 103, 101]⟩] 190], #[], []⟩
  { w0 with heap := (((((w0.heap.modify 4 (fun | .cells _ t frozen => .cells #[.iface 188 (.pointer (some ⟨low, 0, none⟩))] t frozen | o => o)).modify 5 (fun | .cells _ t frozen => .cells #[.iface 188 (.pointer (some ⟨low + 1, 0, none⟩))] t frozen | o => o)).modify 0 (fun | .cells _ t frozen => .cells #[.int .u64 1, .int .u64 10, .int .u64 100, .int .u64 1000, .int .u64 10000, .int .u64 100000, .int .u64 1000000, .int .u64 10000000, .int .u64 100000000, .int .u64 1000000000, .int .u64 10000000000, .int .u64 100000000000, .int .u64 1000000000000, .int .u64 10000000000000, .int .u64 100000000000000, .int .u64 1000000000000000, .int .u64 10000000000000000, .int .u64 100000000000000000, .int .u64 1000000000000000000, .int .u64 10000000000000000000] t frozen | o => o)).modify 2 (fun | .cells _ t frozen => .cells #[.int .u8 0, .int .u8 1, .int .u8 28, .int .u8 2, .int .u8 29, .int .u8 14, .int .u8 24, .int .u8 3, .int .u8 30, .int .u8 22, .int .u8 20, .int .u8 15, .int .u8 25, .int .u8 17, .int .u8 4, .int .u8 8, .int .u8 31, .int .u8 27, .int .u8 13, .int .u8 23, .int .u8 21, .int .u8 19, .int .u8 16, .int .u8 7, .int .u8 26, .int .u8 12, .int .u8 18, .int .u8 6, .int .u8 11, .int .u8 5, .int .u8 10, .int .u8 9] t frozen | o => o)).modify 3 (fun | .cells _ t frozen => .cells #[.int .u8 0, .int .u8 1, .int .u8 56, .int .u8 2, .int .u8 57, .int .u8 49, .int .u8 28, .int .u8 3, .int .u8 61, .int .u8 58, .int .u8 42, .int .u8 50, .int .u8 38, .int .u8 29, .int .u8 17, .int .u8 4, .int .u8 62, .int .u8 47, .int .u8 59, .int .u8 36, .int .u8 45, .int .u8 43, .int .u8 51, .int .u8 22, .int .u8 53, .int .u8 39, .int .u8 33, .int .u8 30, .int .u8 24, .int .u8 18, .int .u8 12, .int .u8 5, .int .u8 63, .int .u8 55, .int .u8 48, .int .u8 27, .int .u8 60, .int .u8 41, .int .u8 37, .int .u8 16, .int .u8 46, .int .u8 35, .int .u8 44, .int .u8 21, .int .u8 52, .int .u8 32, .int .u8 23, .int .u8 11, .int .u8 54, .int .u8 26, .int .u8 40, .int .u8 15, .int .u8 34, .int .u8 20, .int .u8 31, .int .u8 10, .int .u8 25, .int .u8 14, .int .u8 19, .int .u8 9, .int .u8 13, .int .u8 8, .int .u8 7, .int .u8 6] t frozen | o => o)) }
theorem laid_met (os : Os) (args : Array Value) : laidMet Tryz.prog Rows.writeBackRow.laid ((laidWorld os).forCall (fun _ _ => 0) ⟨#[], args, []⟩).memory :=
  laidMet_of_run' 8 (by kernel_rfl) (by kernel_rfl)
end Go.Proofs.YtliapkajonbndaaGreatDoor

namespace Go.Proofs.YtliapkajonbndaaGreatDoor
open Go.RowKit

theorem lim {a : Nat} (h : a ≤ 9000000000) : (9223372036854775807 < a) = False := by simp only [eq_iff_iff, iff_false]; omega
theorem wfw64 {n : Int} (hn : (Lit.int .i64 n).wf = true) : -9223372036854775808 ≤ n ∧ n ≤ 9223372036854775807 := by
  simp [Lit.wf, IntKind.min, IntKind.max, IntKind.signed, IntKind.bits] at hn
  omega
theorem dgz_len {n : Int} (h : (Lit.int .i64 n).wf = true) : (dgz n).length ≤ 21 := by
  have h2 := wfw64 h
  unfold dgz
  split
  · have := dgs_len 19 (-n).toNat (by omega)
    simp only [List.length_cons]
    omega
  · have := dgs_len 19 n.toNat (by omega)
    omega
theorem dbl_len : ∀ x : List UInt8, (dbl x).length ≤ 2 * x.length
  | [] => by simp [dbl]
  | c :: r => by
    have := dbl_len r
    rw [dbl]
    split <;> simp only [List.length_cons] <;> omega
theorem nmX_len (x : List UInt8) : (nmX x).length ≤ 2 * x.length + 2 := by
  have := dbl_len x
  unfold nmX
  split
  · omega
  · simp only [List.length_cons, List.length_append, List.length_nil]; omega
theorem cmX_len : ∀ l : List Tm, (∀ t ∈ l, (tx t).length ≤ 60 * t.size) → (cmX (wrs l)).length ≤ 60 * Tm.sizes l + l.length
  | [], _ => by simp [wrs, cmX, Tm.sizes]
  | t :: l, h => by
    have h1 := cmX_len l (fun u hu => h u (by simp [hu]))
    have h2 := h t (by simp)
    have e : cmX (wrs (t :: l)) = 44 :: (tx t ++ cmX (wrs l)) := rfl
    rw [e]
    simp only [List.length_cons, List.length_append, Tm.sizes]
    omega
theorem inn_each {w : World} {B : Nat} {l : List Tm} {sv : Value} (h : Tm.sliceIn w B l sv) : ∀ t ∈ l, ∃ sv, Tm.inn w B t sv := fun t ht => by
  obtain ⟨g, cap, rfl, _, _, h | ⟨b, off, rfl, hb, hr⟩⟩ := h
  · subst h; cases ht
  · obtain ⟨i, hi, rfl⟩ := List.getElem_of_mem ht
    obtain ⟨sv, _, _, _, _, h⟩ := Tm.rowIn_get hr i hi
    exact ⟨sv, h⟩
theorem inn_len : ∀ t : Tm, t.fair = true → ∀ (w : World) (B : Nat) (sv : Value), Tm.inn w B t sv → (tx t).length ≤ 60 * t.size ∧ (tl t).length ≤ 60 * t.size + 2 := Tm.ind fun k s n l ih hf w B sv hin => by
  simp only [Tm.fair, Bool.and_eq_true] at hf
  obtain ⟨⟨hs, hl⟩, hal⟩ := hf
  rw [Tm.fairs_all, List.all_eq_true] at hl
  obtain ⟨⟨_, _, hwf⟩, hsl⟩ := Tm.inn_mk.1 hin
  have hall : ∀ t ∈ l, (tx t).length ≤ 60 * t.size ∧ (tl t).length ≤ 60 * t.size + 2 := fun t ht => by
    obtain ⟨sv', h'⟩ := inn_each hsl t ht
    exact ih t ht (hl t ht) w B sv' h'
  have hn := dgz_len hwf
  have hx : (tx (.mk k s n l)).length ≤ 60 * (Tm.mk k s n l).size := by
    show (txO k (bsN s) n (wrs l)).length ≤ 60 * (Tm.sizes l + 1)
    unfold Tm.alone at hal
    unfold txO
    by_cases h1 : k = 1
    · rw [if_pos h1] at hal ⊢
      simp only [Bool.and_eq_true, decide_eq_true_eq] at hal
      have h2 := hal.1.1.1
      unfold dgz at hn
      rw [if_neg (by omega)] at hn
      simp only [List.length_cons]
      omega
    rw [if_neg h1] at hal ⊢
    by_cases h2 : k = 2
    · rw [if_pos h2]
      unfold dgz at hn
      omega
    rw [if_neg h2] at hal ⊢
    by_cases h3 : k = 3
    · rw [if_pos h3] at hal
      simp only [Bool.and_eq_true, decide_eq_true_eq] at hal
      obtain ⟨⟨⟨_, _⟩, a3⟩, a4⟩ := hal
      have hnm := nmX_len (bsN s)
      rw [bsN_length] at hnm
      cases l with
      | nil =>
        show (nmX (bsN s)).length ≤ _
        omega
      | cons a q =>
        rw [wrs]
        dsimp only
        have ha := (hall a (by simp)).1
        cases hd : dotO (bsN s) (wr a :: wrs q) with
        | none =>
          dsimp only
          have hc := cmX_len q (fun t ht => (hall t (by simp [ht])).1)
          simp only [List.length_append, List.length_cons, List.length_nil, Tm.sizes] at a4 ⊢
          have : (wr a).1 = tx a := rfl
          rw [this]
          omega
        | some xy =>
          cases q with
          | nil => simp [wrs, dotO] at hd
          | cons b q =>
            cases q with
            | nil =>
              have hb := (hall b (by simp)).2
              simp only [wrs, dotO] at hd
              split at hd
              · injection hd with hd
                subst hd
                dsimp only
                have e1 : (wr a).1 = tx a := rfl
                have e2 : (wr b).2 = tl b := rfl
                rw [e1, e2]
                simp only [List.length_append, List.length_cons, Tm.sizes]
                omega
              · cases hd
            | cons c q => simp [wrs, dotO] at hd
    · rw [if_neg h3] at hal
      cases hal
  refine ⟨hx, ?_⟩
  show (tlO k (bsN s) n (wrs l)).length ≤ 60 * (Tm.sizes l + 1) + 2
  have hx2 : (txO k (bsN s) n (wrs l)).length ≤ 60 * (Tm.sizes l + 1) := hx
  unfold tlO
  split
  · simp
  · split
    · rename_i x y hxy
      split at hxy
      · cases l with
        | nil => simp [wrs, dotO] at hxy
        | cons a q =>
          cases q with
          | nil => simp [wrs, dotO] at hxy
          | cons b q =>
            cases q with
            | nil =>
              have ha := (hall a (by simp)).1
              have hb := (hall b (by simp)).2
              simp only [wrs, dotO] at hxy
              split at hxy
              · injection hxy with hxy
                injection hxy with e1 e2
                subst e1 e2
                have e1 : (wr a).1 = tx a := rfl
                have e2 : (wr b).2 = tl b := rfl
                rw [e1, e2]
                simp only [List.length_append, List.length_cons, Tm.sizes]
                omega
              · cases hxy
            | cons c q => simp [wrs, dotO] at hxy
      · cases hxy
    · simp only [List.length_append, List.length_cons, List.length_nil]
      omega
end Go.Proofs.YtliapkajonbndaaGreatDoor

namespace Go.Proofs.YtliapkajonbndaaGreatDoor
open Go.RowKit

set_option maxRecDepth 100000 in
set_option maxHeartbeats 1000000 in
theorem wpair_any (k n : Int) (s : ByteArray) (g : Option Addr) (m c : Nat) (b : Bool) (hb : b = (decide (bsN s = [46]) && decide (m = 2))) (w : World) :
    Calls Tryz.prog 30 #[.agg #[.int .i64 k, .string s, .int .i64 n, .slice g m c]] w fun e w' => e = .returned (.bool b) ∧ Below w.heap.size w w' := by
  have kd : (s.toList == [46]) = decide (bsN s = [46]) := by rw [bsN_toList, Bool.eq_iff_iff, beq_iff_eq, decide_eq_true_eq]
  have km : ((m : Int) == 2) = decide (m = 2) := by rw [Bool.eq_iff_iff, beq_iff_eq, decide_eq_true_eq]; omega
  generalize decide (bsN s = [46]) = d at hb kd
  generalize decide (m = 2) = q at hb km
  have HB := Lib.hid ((Below.refl w.heap.size w).alloc (Nat.le_refl _) (.cells #[.int .i64 k, .string s, .int .i64 n, .slice g m c] 24))
  cases d <;> cases q
  all_goals
    obtain rfl := hb
    go_enter Tryz.func30, Tryz.ntmps30
    go_wp2_with fail
    go_ret
    exact ⟨rfl, HB.out⟩
set_option maxRecDepth 100000 in
set_option maxHeartbeats 1000000 in
theorem wempty_any (k n : Int) (s : ByteArray) (g : Option Addr) (m c : Nat) (b : Bool) (hb : b = (decide (bsN s = [91, 93]) && decide (m = 0))) (w : World) :
    Calls Tryz.prog 43 #[.agg #[.int .i64 k, .string s, .int .i64 n, .slice g m c]] w fun e w' => e = .returned (.bool b) ∧ Below w.heap.size w w' := by
  have kd : (s.toList == [91, 93]) = decide (bsN s = [91, 93]) := by rw [bsN_toList, Bool.eq_iff_iff, beq_iff_eq, decide_eq_true_eq]
  have km : ((m : Int) == 0) = decide (m = 0) := by rw [Bool.eq_iff_iff, beq_iff_eq, decide_eq_true_eq]; omega
  generalize decide (bsN s = [91, 93]) = d at hb kd
  generalize decide (m = 0) = q at hb km
  have HB := Lib.hid ((Below.refl w.heap.size w).alloc (Nat.le_refl _) (.cells #[.int .i64 k, .string s, .int .i64 n, .slice g m c] 24))
  cases d <;> cases q
  all_goals
    obtain rfl := hb
    go_enter Tryz.func43, Tryz.ntmps43
    go_wp2_with fail
    go_ret
    exact ⟨rfl, HB.out⟩
theorem wordN_is (x : List UInt8) (c : UInt8) (h : x.head? = some c) : wordN x = ((srt c == 1) && x.all isWord) := by
  cases x with
  | nil => cases h
  | cons d r =>
    obtain rfl : d = c := Option.some.inj h
    have hw : srt d = 1 → isWord d = true := fun h => by unfold isWord; rw [h]; rfl
    unfold wordN
    rw [Bool.eq_iff_iff]
    simp only [List.all_cons, Bool.and_eq_true, beq_iff_eq]
    constructor
    · rintro ⟨a1, a2⟩; exact ⟨a1, hw a1, a2⟩
    · rintro ⟨a1, _, a2⟩; exact ⟨a1, a2⟩
theorem head_get : ∀ (x : List UInt8) (h : 0 < x.length), x.head? = some (x[0]'h)
  | _ :: _, _ => rfl
theorem bsN_head (s : ByteArray) (h0 : 0 < s.size) : (bsN s).head? = some (s[0]'h0) :=
  (head_get (bsN s) (by rw [bsN_length]; exact h0)).trans (congrArg some (bsN_get s 0 h0))
/-- Whether a name needs no quotes, as the program asks. -/
theorem bare_is (s : ByteArray) (h0 : 0 < s.size) : plainN (bsN s) = (decide (bsN s = [33]) || decide (bsN s = [59]) || decide (bsN s = [91, 93]) || ((srt (s[0]'h0) == 1) && (bsN s).all isWord) || (bsN s).all (fun c => isSign c && c != 46)) := by
  have h2 := wordN_is (bsN s) _ (bsN_head s h0)
  have h1 : 0 < (bsN s).length := by rw [bsN_length]; exact h0
  have h4 : signN (bsN s) = (bsN s).all (fun c => isSign c && c != 46) := by
    unfold signN
    have : (bsN s).isEmpty = false := by cases hx : bsN s with
      | nil => rw [hx] at h1; simp at h1
      | cons a r => rfl
    rw [this]
    rfl
  unfold plainN
  rw [h2, h4]
  generalize decide (bsN s = [33]) = a1
  generalize decide (bsN s = [59]) = a2
  generalize decide (bsN s = [91, 93]) = a3
  generalize ((srt (s[0]'h0) == 1) && (bsN s).all isWord) = a4
  generalize (bsN s).all (fun c => isSign c && c != 46) = a5
  cases a1 <;> cases a2 <;> cases a3 <;> cases a4 <;> cases a5 <;> rfl
set_option maxRecDepth 100000 in
set_option maxHeartbeats 2000000 in
theorem wbare_any (s : ByteArray) (ha : ∀ i (h : i < s.size), s[i].toNat < 128) (h0 : 0 < s.size) (_hs : s.size ≤ 1000) (w : World) :
    Calls Tryz.prog 44 #[.string s] w fun e w' => e = .returned (.bool (plainN (bsN s))) ∧ Below w.heap.size w w' := by
  have e1 : (s.toList == [33]) = decide (bsN s = [33]) := by rw [bsN_toList, Bool.eq_iff_iff, beq_iff_eq, decide_eq_true_eq]
  have e2 : (s.toList == [59]) = decide (bsN s = [59]) := by rw [bsN_toList, Bool.eq_iff_iff, beq_iff_eq, decide_eq_true_eq]
  have e3 : (s.toList == [91, 93]) = decide (bsN s = [91, 93]) := by rw [bsN_toList, Bool.eq_iff_iff, beq_iff_eq, decide_eq_true_eq]
  rw [bare_is s h0]
  have HL := Lib.hid (fun u => wlow_any (s[0].toNat : Nat) _ (wlow_is s[0]).symm u)
  have HW := Lib.hid (fun u => wall_any tell_word s ha u)
  have HG := Lib.hid (fun u => wall_any tell_sign s ha u)
  have hlt := s[0].toNat_lt
  have kw : IntKind.i32.wrap ((s[0].toNat : Nat) : Int) = ((s[0].toNat : Nat) : Int) := by rw [IntKind.wrap_i32]; omega
  clear ha
  generalize decide (bsN s = [33]) = b1 at e1 ⊢
  generalize decide (bsN s = [59]) = b2 at e2 ⊢
  generalize decide (bsN s = [91, 93]) = b3 at e3 ⊢
  generalize (bsN s).all isWord = b5 at HW ⊢
  generalize (bsN s).all (fun c => isSign c && c != 46) = b6 at HG ⊢
  generalize (srt s[0] == 1) = b4 at HL ⊢
  cases b1
  case true =>
    go_enter Tryz.func44, Tryz.ntmps44
    go_wp2_with fail
    go_ret
    exact ⟨rfl, Below.refl _ _⟩
  cases b2
  case true =>
    go_enter Tryz.func44, Tryz.ntmps44
    go_wp2_with fail
    go_ret
    exact ⟨rfl, Below.refl _ _⟩
  cases b3
  case true =>
    go_enter Tryz.func44, Tryz.ntmps44
    go_wp2_with fail
    go_ret
    exact ⟨rfl, Below.refl _ _⟩
  cases b4
  · cases b6
    all_goals
      go_enter Tryz.func44, Tryz.ntmps44
      go_wp2_with (first
        | (go_at_call 52; (with_reducible refine (HL.out _).mono ?_); rintro e w1 ⟨rfl, rfl⟩)
        | (go_at_call 53; (with_reducible refine (HG.out _).mono ?_); rintro e w2 ⟨rfl, hb⟩; have HB2 := Lib.hid hb; clear hb))
      go_ret
      exact ⟨by cases b5 <;> rfl, HB2.out⟩
  · cases b5
    · cases b6
      all_goals
        go_enter Tryz.func44, Tryz.ntmps44
        go_wp2_with (first
          | (go_at_call 52; (with_reducible refine (HL.out _).mono ?_); rintro e w1 ⟨rfl, rfl⟩)
          | (go_at_call 53; (with_reducible refine (HW.out _).mono ?_); rintro e w2 ⟨rfl, hb⟩; have HB1 := Lib.hid hb; clear hb)
          | (go_at_call 53; (with_reducible refine (HG.out _).mono ?_); rintro e w3 ⟨rfl, hb⟩; have HB2 := Lib.hid hb; clear hb))
        go_ret
        exact ⟨rfl, HB1.out.trans (HB2.out.mono HB1.out.size)⟩
    · go_enter Tryz.func44, Tryz.ntmps44
      go_wp2_with (first
        | (go_at_call 52; (with_reducible refine (HL.out _).mono ?_); rintro e w1 ⟨rfl, rfl⟩)
        | (go_at_call 53; (with_reducible refine (HW.out _).mono ?_); rintro e w2 ⟨rfl, hb⟩; have HB1 := Lib.hid hb; clear hb))
      go_ret
      exact ⟨rfl, HB1.out⟩
/-! ### names -/
theorem pbyte_k (b : Nat) (x : List UInt8) (c : UInt8) (n : Int) (hn : n = (c.toNat : Nat)) (w : World) (h : Pr b x w) (hl : x.length ≤ 9000000000) :
    Calls Tryz.prog 26 #[.pointer (some ⟨b, 0, none⟩), .int .u8 n] w fun e w' => e = .returned .nilIface ∧ Pr b (x ++ [c]) w' ∧ PFr b w w' := hn ▸ pbyte_any b x c w h hl
theorem pstr_b (b : Nat) (x : List UInt8) (s : ByteArray) (w : World) (h : Pr b x w) (hl : x.length + (bsN s).length ≤ 9000000000) :
    Calls Tryz.prog 24 #[.pointer (some ⟨b, 0, none⟩), .string s] w fun e w' => (∃ m : Int, e = .returned (.tuple #[.int .i64 m, .nilIface])) ∧ Pr b (x ++ bsN s) w' ∧ PFr b w w' := by
  have h1 := pstr_any b x (bsN s) w h hl
  rw [bsN_arr] at h1
  exact h1.mono fun e w' h2 => ⟨⟨_, h2.1⟩, h2.2⟩
theorem BuilderAt_iter {T e : TypeId} {B b : Nat} {p : Value} {bs : List Value} {w : World} (h : Lib.BuilderAt T e B b p bs w) {k : Nat} {s : ByteArray} {pos : Nat} (hk : w.heap[k]? = some (.stringIter s pos)) (pos' : Nat) : Lib.BuilderAt T e B b p bs (w.iterAt k s pos') := by
  obtain ⟨h1, v, h2, h3, h4⟩ := h
  have hne : b ≠ k := by rintro rfl; rw [hk] at h2; cases h2
  refine ⟨h1, v, (Lib.iterAt_other w k b s pos' hne).trans h2, ⟨h3.1, ?_⟩, h4⟩
  rcases h3.2 with hn | ⟨g, cap, cur, hv, hbg, hg, rest⟩
  · exact .inl hn
  · have hkg : g ≠ k := by rintro rfl; rw [hk] at hg; cases hg
    exact .inr ⟨g, cap, cur, hv, hbg, (Lib.iterAt_other w k g s pos' hkg).trans hg, rest⟩
theorem Pr.iter {b : Nat} {x : List UInt8} {w : World} (h : Pr b x w) {k : Nat} {s : ByteArray} {pos : Nat} (hk : w.heap[k]? = some (.stringIter s pos)) (pos' : Nat) : Pr b x (w.iterAt k s pos') := by
  rcases h with h | h
  · exact .inl (BuilderAt_iter h hk pos')
  · exact .inr (BuilderAt_iter h hk pos')
theorem PFr.iter {b : Nat} {w v : World} (h : PFr b w v) (k : Nat) (hk : b ≤ k) (hw : w.heap.size ≤ k) (s : ByteArray) (pos : Nat) : PFr b w (v.iterAt k s pos) :=
  ⟨Lib.below_iterAt h.low hk s pos, fun i o hi h1 h2 => (Lib.iterAt_other v k i s pos (by have := (Array.getElem?_eq_some_iff.1 hi).1; omega)).trans (h.oth i o hi h1 h2)⟩
theorem dbl_next (s : ByteArray) (pos : Nat) (h : pos < s.size) : dbl ((bsN s).take (pos + 1)) = dbl ((bsN s).take pos) ++ (if s[pos] = 39 then [39, 39] else [s[pos]]) := by
  have hk : pos < (bsN s).length := by rw [bsN_length]; exact h
  have e := bsN_get s pos h
  rw [List.take_succ_eq_append_getElem hk, dbl_snoc, e]
/-- What the loop over a name's characters holds. -/
def NmL (w0 : World) (b k : Nat) (x : List UInt8) (s : ByteArray) (pos : Nat) (W : World) : Prop :=
  W.heap[k]? = some (.stringIter s pos) ∧ Pr b (x ++ 39 :: dbl ((bsN s).take pos)) W ∧ PFr b w0 W
set_option maxRecDepth 100000 in
set_option maxHeartbeats 4000000 in
theorem pname_any (b : Nat) (x : List UInt8) (s : ByteArray) (ha : ∀ i (h : i < s.size), s[i].toNat < 128) (h0 : 0 < s.size) (hs : s.size ≤ 1000) (w : World) (h : Pr b x w) (hl : x.length ≤ 8000000000) :
    Calls Tryz.prog 32 #[.pointer (some ⟨b, 0, none⟩), .string s] w fun e w' => e = .returned (.tuple #[]) ∧ Pr b (x ++ nmX (bsN s)) w' ∧ PFr b w w' := by
  have HB := Lib.hid (fun u => wbare_any s ha h0 hs u)
  have hlt := h.lt
  have hln := bsN_length s
  have hdl : ∀ k, (dbl ((bsN s).take k)).length ≤ 2 * s.size := fun k => by
    have h1 := dbl_len ((bsN s).take k)
    have h2 : ((bsN s).take k).length ≤ s.size := by rw [List.length_take, hln]; omega
    omega
  have HP := Lib.hid h
  have HA := Lib.hid ha
  have HD := Lib.hid hdl
  have HL := Lib.hid hln
  have HX := Lib.hid (show nmX (bsN s) = if plainN (bsN s) = true then bsN s else 39 :: (dbl (bsN s) ++ [39]) from rfl)
  clear h ha hdl hln
  cases hp : plainN (bsN s)
  · have HX2 := Lib.hid (show nmX (bsN s) = 39 :: (dbl (bsN s) ++ [39]) by rw [HX.out, hp]; rfl)
    rw [hp] at HB
    clear hp
    go_enter Tryz.func32, Tryz.ntmps32
    go_upto_region 2 with (go_at_call 44; (with_reducible refine (HB.out _).mono ?_); rintro e w1 ⟨rfl, hb⟩; have HB1 := Lib.hid hb; clear hb)
    have HP1 := Lib.hid (HP.out.below HB1.out)
    have HF1 := Lib.hid (PFr.of (Nat.le_of_lt hlt) HB1.out)
    go_upto_region 3 with (go_at_call 26; (with_reducible refine (pbyte_k b x 39 39 rfl _ HP1.out (by omega)).mono ?_); rintro e w2 ⟨rfl, hp2, hf2⟩; have HP2 := Lib.hid hp2; have HF2 := Lib.hid (HF1.out.trans hf2); clear hp2 hf2)
    have hlt2 := HP2.out.lt
    have hsz2 : w.heap.size ≤ w2.heap.size := HF2.out.low.size
    go_wp2_with fail
    go_loopw [] (fun wr => ∃ pos : Nat, Hid (NmL w b w2.heap.size x s pos wr) ∧ pos ≤ s.size) (fun wr => s.size - wr.iterPos w2.heap.size)
    case atStart =>
      refine ⟨0, Lib.hid ⟨?_, ?_, ?_⟩, Nat.zero_le _⟩
      · have := World.iter_heap w2 s 0
        simpa using this
      · have h9 := HP2.out.below ((Below.refl w2.heap.size w2).alloc (Nat.le_refl _) (.stringIter s 0))
        have e9 : x ++ 39 :: dbl ((bsN s).take 0) = x ++ [39] := by simp [dbl]
        rw [e9]
        exact h9
      · exact HF2.out.trans (PFr.of (Nat.le_of_lt hlt2) ((Below.refl w2.heap.size w2).alloc (Nat.le_refl _) (.stringIter s 0)))
    case round =>
      obtain ⟨pos, hR, hps⟩ := hrel
      obtain ⟨hit, hpr, hfr⟩ := hR.out
      clear hR
      by_cases hp : pos < s.size
      · have hnx : ∀ ty, (Instr.next (.pointer (some ⟨w2.heap.size, 0, none⟩)) true ty).run Tryz.prog wr = _ := fun ty => Lib.run_next_ascii_at wr w2.heap.size s pos ty hit hp (HA.out pos hp)
        have hit2 := Lib.iterAt_heap wr w2.heap.size s pos (pos + 1) hit
        have hpr2 := hpr.iter hit (pos + 1)
        have hfr2 := hfr.iter w2.heap.size (by omega) hsz2 s (pos + 1)
        have hmv : wr.iterPos w2.heap.size = pos := by simp only [World.iterPos, hit]
        have hdn := dbl_next s pos hp
        have hca := HA.out pos hp
        have hd1 := HD.out pos
        have HMV := Lib.hid hmv
        generalize wr.iterAt w2.heap.size s (pos + 1) = W at hnx hit2 hpr2 hfr2
        generalize s[pos] = c at hnx hdn hca
        have HIT := Lib.hid hit2
        have HPR := Lib.hid hpr2
        have HFR := Lib.hid hfr2
        have hlx : (x ++ 39 :: dbl ((bsN s).take pos)).length ≤ 8000010000 := by
          simp only [List.length_append, List.length_cons]
          omega
        obtain ⟨X, hX⟩ : ∃ X, x ++ 39 :: dbl ((bsN s).take pos) = X := ⟨_, rfl⟩
        rw [hX] at hlx HPR
        have HDN := Lib.hid (show x ++ 39 :: dbl ((bsN s).take (pos + 1)) = X ++ (if c = 39 then [39, 39] else [c]) by rw [hdn, ← hX]; simp)
        clear hit hpr hfr hit2 hpr2 hfr2 hmv hdn hX hd1
        by_cases hc : c = 39
        · subst hc
          have HDN2 := Lib.hid (show x ++ 39 :: dbl ((bsN s).take (pos + 1)) = X ++ [39] ++ [39] by rw [HDN.out]; simp)
          have hnx2 : ∀ ty, (Instr.next (.pointer (some ⟨w2.heap.size, 0, none⟩)) true ty).run Tryz.prog wr = .ok (.tuple #[.bool true, .int .i64 pos, .int .i32 39]) W := hnx
          clear hnx
          go_wp2_with (first
            | (go_at_call 26; (with_reducible refine (pbyte_k b X 39 39 rfl _ HPR.out (by omega)).mono ?_); rintro e w3 ⟨rfl, hp3, hf3⟩; have HP3 := Lib.hid hp3; have HF3 := Lib.hid hf3; clear hp3 hf3)
            | (go_at_call 45; (refine (prune_any b (X ++ [39]) 39 (by decide) _ HP3.out (by simp; omega)).mono ?_); rintro e w4 ⟨rfl, hp4, hf4⟩; have HP4 := Lib.hid hp4; have HF4 := Lib.hid (HF3.out.trans hf4); clear hp4 hf4))
          have HIT4 := Lib.hid (HF4.out.block HIT.out (by omega) (fun _ _ e => by cases e))
          go_roundw
          case rel => exact ⟨pos + 1, Lib.hid ⟨HIT4.out, by rw [HDN2.out]; exact HP4.out, HFR.out.trans HF4.out⟩, hp⟩
          case measure =>
            rw [HMV.out]
            simp only [World.iterPos, HIT4.out]
            omega
        · have HDN2 := Lib.hid (show x ++ 39 :: dbl ((bsN s).take (pos + 1)) = X ++ [c] by rw [HDN.out, if_neg hc])
          have hc2 : (((c.toNat : Nat) : Int) == 39) = false := by
            rw [beq_eq_false_iff_ne]
            intro e
            exact hc (UInt8.toNat_inj.1 (by have : c.toNat = 39 := by omega
                                            simpa using this))
          clear hc
          go_wp2_with (go_at_call 45; (with_reducible refine (prune_any b X c hca _ HPR.out (by omega)).mono ?_); rintro e w4 ⟨rfl, hp4, hf4⟩; have HP4 := Lib.hid hp4; have HF4 := Lib.hid hf4; clear hp4 hf4)
          have HIT4 := Lib.hid (HF4.out.block HIT.out (by omega) (fun _ _ e => by cases e))
          go_roundw
          case rel => exact ⟨pos + 1, Lib.hid ⟨HIT4.out, by rw [HDN2.out]; exact HP4.out, HFR.out.trans HF4.out⟩, hp⟩
          case measure =>
            rw [HMV.out]
            simp only [World.iterPos, HIT4.out]
            omega
      · have hnx : ∀ ty, (Instr.next (.pointer (some ⟨w2.heap.size, 0, none⟩)) true ty).run Tryz.prog wr = _ := fun ty => Lib.run_next_end_at wr w2.heap.size s pos ty hit hp
        have hd1 := HD.out pos
        have hpe : (bsN s).take pos = bsN s := by rw [show pos = (bsN s).length by rw [HL.out]; omega, List.take_length]
        rw [hpe] at hpr hd1
        have HPR := Lib.hid hpr
        have HFR := Lib.hid hfr
        have hlx : (x ++ 39 :: dbl (bsN s)).length ≤ 8000010000 := by
          simp only [List.length_append, List.length_cons]
          omega
        have HE := Lib.hid (show x ++ nmX (bsN s) = x ++ 39 :: dbl (bsN s) ++ [39] by rw [HX2.out]; simp)
        clear hit hpr hfr hd1 hpe
        go_wp2_with (go_at_call 26; (with_reducible refine (pbyte_k b _ 39 39 rfl _ HPR.out (by omega)).mono ?_); rintro e w3 ⟨rfl, hp3, hf3⟩; have HP3 := Lib.hid hp3; have HF3 := Lib.hid hf3; clear hp3 hf3)
        go_end0
        exact ⟨rfl, by rw [HE.out]; exact HP3.out, HFR.out.trans HF3.out⟩
  · have HX2 := Lib.hid (show nmX (bsN s) = bsN s by rw [HX.out, hp]; rfl)
    rw [hp] at HB
    clear hp
    go_enter Tryz.func32, Tryz.ntmps32
    go_upto_region 1 with (go_at_call 44; (with_reducible refine (HB.out _).mono ?_); rintro e w1 ⟨rfl, hb⟩; have HB1 := Lib.hid hb; clear hb)
    have HP1 := Lib.hid (HP.out.below HB1.out)
    have HF1 := Lib.hid (PFr.of (Nat.le_of_lt hlt) HB1.out)
    go_wp2_with (go_at_call 24; (with_reducible refine (pstr_b b x s _ HP1.out (by have := HL.out; omega)).mono ?_); rintro e w2 ⟨⟨m, rfl⟩, hp2, hf2⟩; have HP2 := Lib.hid hp2; have HF2 := Lib.hid (HF1.out.trans hf2); clear hp2 hf2)
    refine bodyPost_ret (results_none rfl _ _ _) rfl ?_
    exact ⟨rfl, by rw [HX2.out]; exact HP2.out, HF2.out⟩
end Go.Proofs.YtliapkajonbndaaGreatDoor
