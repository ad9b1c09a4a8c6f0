/-
  The library's SortFunc, SortedFunc of a row of places; rows of at most twelve are sorted by insertion.
-/
import Derived.Test.YtgbmmoioehmfgaaSortB
import Derived.Test.YtgbmmoioehmfgaaSeq
import Derived.Test.YtgbmmoioehmfgaaPureShift
import Derived.Sort.AssemblyPlain
namespace Go.Proofs.Ytgbmmoioehmfgaa
open Go.RowKit Go.Sort

theorem byte_wrap (x : UInt8) : wrap64 (wrap64 (x.toNat : Int)) = (x.toNat : Int) := by
  have := UInt8.toNat_lt x
  have h : wrap64 (x.toNat : Int) = x.toNat := wrap_in (by omega)
  rw [h, h]

set_option maxRecDepth 100000 in
theorem len64_any (n : Nat) (hn : n < 256) (w : World) : Calls Try.prog 70 #[.int .u64 n] w fun e w' => (∃ k : Nat, k < 256 ∧ e = .returned (.int .i64 k)) ∧ w = w' := by
  have h1 : ¬ (4294967296 : Int) ≤ n := by omega
  have h2 : ¬ (65536 : Int) ≤ n := by omega
  have h3 : ¬ (256 : Int) ≤ n := by omega
  go_enter Try.func70, Try.ntmps70
  go_wp2_with fail
  go_ret
  exact ⟨⟨_, UInt8.toNat_lt _, ret_int (byte_wrap _)⟩, rfl⟩
set_option maxRecDepth 100000 in
theorem len_any (n : Nat) (hn : n < 256) (w : World) : Calls Try.prog 60 #[.int .u64 n] w fun e w' => (∃ k : Nat, k < 256 ∧ e = .returned (.int .i64 k)) ∧ w = w' := by
  have h3 : (n : Int) < 256 := by omega
  go_enter Try.func60, Try.ntmps60
  go_wp2_with fail
  refine (len64_any n hn w).mono ?_
  rintro e w' ⟨⟨k, hk, rfl⟩, rfl⟩
  go_wp2_with fail
  go_ret
  exact ⟨⟨k, hk, rfl⟩, rfl⟩

/-- The places are sorted. -/
def SortedPost (l : List Tm) (d : Array Int) (w : World) (b : Nat) (e : Ending) (W' : World) : Prop :=
  e = .returned (.tuple #[]) ∧ ∃ d' : Array Int, PermIn 0 d.size d d' ∧ SortedIn (tlt l) 0 d.size d' ∧ RowSt w b l.length d' W'

theorem tlt_iff (l : List Tm) (x y : Int) : tlt l x y = true ↔ (keyAt l x).cmp (keyAt l y) = -1 := by
  have := cmp_rng (keyAt l x) (keyAt l y)
  unfold Rng at this
  simp only [tlt, decide_eq_true_eq]
  omega
theorem tlt_swo (l : List Tm) : SWO (tlt l) where
  irrefl x := by
    rw [Bool.eq_false_iff, ne_eq, tlt_iff, (cmp_eq0 _ _).2 rfl]; omega
  trans x y z h1 h2 := by
    rw [tlt_iff] at h1 h2 ⊢
    have := (cmp_tri (keyAt l x) (keyAt l y) (keyAt l z)).2.2 (by rw [h1, h2])
    omega
  ntrans x y z h1 h2 := by
    rw [tlt, decide_eq_false_iff_not] at h1 h2 ⊢
    have e1 := cmp_neg (keyAt l x) (keyAt l y)
    have e2 := cmp_neg (keyAt l y) (keyAt l z)
    have e3 := cmp_neg (keyAt l x) (keyAt l z)
    have := cmp_le_trans (t := keyAt l z) (u := keyAt l y) (v := keyAt l x) (by omega) (by omega)
    omega
set_option maxRecDepth 100000 in
set_option maxHeartbeats 1000000 in
theorem small_any (l : List Tm) (sv : Value) (d : Array Int) (g : Option Addr) (b cap limit : Nat) (w W : World) (hg : d.size = 0 ∨ g = some ⟨b, 0, none⟩) (hS : RowSt w b l.length d W) (hsl : Tm.sliceIn w w.heap.size l sv) (h12 : d.size ≤ 12) :
    Calls Try.prog 59 #[.slice g d.size cap, .int .i64 0, .int .i64 d.size, .int .i64 limit, .func (.func 29) #[sv] #[]] W fun e W' => SortedPost l d w b e W' := by
  have HS := Lib.hid hS
  have HSL := Lib.hid hsl
  have HG := Lib.hid hg
  clear hg
  have hd0 : ((d.size : Int) - 0 ≤ 12) := by omega
  have hd1 : ((d.size : Int) ≤ 12) := by omega
  clear hS hsl
  go_enter Try.func59, Try.ntmps59
  go_wp2_with fail
  refine wp_loop_rounds 1 ?_
  rw [rounds_succ]
  go_wp2_with fail
  refine (insertion_any l sv d g 0 d.size b cap w W HG.out HS.out HSL.out (Nat.zero_le _) (Nat.le_refl _) (by omega)).mono ?_
  rintro e W1 ⟨rfl, hr⟩
  have HR := Lib.hid hr
  clear hr
  go_wp2_with fail
  (try simp only [Exit.inBlock, Exit.then]); refine bodyPost_ret (results_none rfl _ _ _) rfl ?_
  obtain ⟨h1, h2⟩ := insertionSort_holds (tlt_swo l) d 0 d.size (Nat.zero_le _) (Nat.le_refl _)
  exact ⟨rfl, _, h1, h2, HR.out⟩
/-- The greatest row whose sorting is told here. -/
def rowMax : Nat := 12
theorem pdq_any (l : List Tm) (sv : Value) (d : Array Int) (g : Option Addr) (b cap limit : Nat) (w W : World) (hg : d.size = 0 ∨ g = some ⟨b, 0, none⟩) (hS : RowSt w b l.length d W) (hsl : Tm.sliceIn w w.heap.size l sv) (h12 : d.size ≤ rowMax) (_hl : limit < 256) :
    Calls Try.prog 59 #[.slice g d.size cap, .int .i64 0, .int .i64 d.size, .int .i64 limit, .func (.func 29) #[sv] #[]] W fun e W' => SortedPost l d w b e W' :=
  small_any l sv d g b cap limit w W hg hS hsl h12
theorem rowMax_le : rowMax ≤ 200 := by decide

set_option maxRecDepth 100000 in
theorem sortFunc_any (l : List Tm) (sv : Value) (d : Array Int) (g : Option Addr) (b cap : Nat) (w W : World) (hg : d.size = 0 ∨ g = some ⟨b, 0, none⟩) (hS : RowSt w b l.length d W) (hsl : Tm.sliceIn w w.heap.size l sv) (h12 : d.size ≤ rowMax) :
    Calls Try.prog 56 #[.slice g d.size cap, .func (.func 29) #[sv] #[]] W fun e W' => SortedPost l d w b e W' := by
  have HS := Lib.hid hS
  have HSL := Lib.hid hsl
  have HG := Lib.hid hg
  clear hg
  have hm := Nat.le_trans h12 rowMax_le
  clear hS hsl
  go_enter Try.func56, Try.ntmps56
  go_wp2_with fail
  refine (len_any d.size (by omega) W).mono ?_
  rintro e W1 ⟨⟨k, hk, rfl⟩, rfl⟩
  go_wp2_with fail
  refine (pdq_any l sv d g b cap k w W HG.out HS.out HSL.out h12 hk).mono ?_
  rintro e W1 ⟨rfl, d', h1, h2, hr⟩
  have HR := Lib.hid hr
  clear hr
  go_wp2_with fail
  go_end0
  exact ⟨rfl, d', h1, h2, HR.out⟩

/-- A new row of sorted places. -/
def SortedRow (l : List Tm) (zs : List Int) (w : World) (e : Ending) (W' : World) : Prop :=
  ∃ (g : Option Addr) (b cap : Nat) (d' : Array Int), e = .returned (.slice g zs.length cap) ∧ (zs.length = 0 ∨ g = some ⟨b, 0, none⟩) ∧ zs.length ≤ cap ∧ PermIn 0 zs.length zs.toArray d' ∧ SortedIn (tlt l) 0 zs.length d' ∧ RowSt w b l.length d' W'

theorem rowSt_of_owns {w W : World} {N : Nat} {zs : List Int} {v : Value} (h : W.ownsRow w.heap.size 3 1 v zs.length (zs.map (Value.int .i64))) (hb : RowKit.Below w.heap.size w W) (hr : ∀ x ∈ zs, 0 ≤ x ∧ x < N) :
    ∃ (g : Option Addr) (b cap : Nat), v = .slice g zs.length cap ∧ (zs.length = 0 ∨ g = some ⟨b, 0, none⟩) ∧ zs.length ≤ cap ∧ RowSt w b N zs.toArray W := by
  obtain ⟨hlen, h2⟩ := h
  rcases h2 with ⟨rfl, hx⟩ | ⟨b, cap, cur, rfl, hbase, hcur, hcap, _, hsize, htake⟩
  · obtain rfl : zs = [] := List.length_eq_zero_iff.1 hx
    exact ⟨none, w.heap.size, 0, rfl, .inl rfl, Nat.le_refl _, Nat.le_refl _, hb, fun i hi => by simp at hi, fun i hi => by simp at hi, fun i hi => by simp at hi⟩
  · refine ⟨_, b, cap, rfl, .inr rfl, hcap, hbase, hb, fun i hi => ?_, fun i hi => ?_, fun i hi => ?_⟩
    · have hi' : i < zs.length := by simpa using hi
      have h1 : cur[i]? = some (Value.int .i64 zs[i]) := by
        have h3 : (cur.toList.take (zs.length * 1))[i]? = some (Value.int .i64 zs[i]) := by rw [htake]; simp [hi']
        rw [List.getElem?_take_of_lt (by omega)] at h3
        simpa using h3
      have h4 : zs.toArray[i]! = zs[i] := by simp [hi']
      rw [h4]
      simp [World.cell?, hcur, h1]
    · simp [World.frozen?, hcur]
    · have hi' : i < zs.length := by simpa using hi
      have h4 : zs.toArray[i]! = zs[i] := by simp [hi']
      rw [h4]
      exact hr _ (List.getElem_mem hi')

set_option maxRecDepth 100000 in
set_option maxHeartbeats 1000000 in
theorem sortedFunc_any (l : List Tm) (sv : Value) (zs : List Int) (Bs : Nat) (g : Option Addr) (cap : Nat) (w : World) (hBs : Bs < w.heap.size) (hc : w.cell? ⟨Bs, 0, none⟩ = some (.slice g zs.length cap)) (hI : intsIn w w.heap.size zs (.slice g zs.length cap))
    (hz : zs.length ≤ rowMax) (hsl : Tm.sliceIn w w.heap.size l sv) (hr : ∀ x ∈ zs, 0 ≤ x ∧ x < l.length) :
    Calls Try.prog 44 #[.func (.func 57) #[] #[.pointer (some ⟨Bs, 0, none⟩)], .func (.func 29) #[sv] #[]] w
      fun e w' => SortedRow l zs w e w' := by
  have HI := Lib.hid hI
  have HC := Lib.hid hc
  have HR := Lib.hid hr
  have HSL := Lib.hid hsl
  have hm := Nat.le_trans hz rowMax_le
  clear hI hc hr hsl
  go_enter Try.func44, Try.ntmps44
  go_wp2_with fail
  refine (collect_any zs Bs g cap w hBs HC.out HI.out (by omega)).mono ?_
  rintro e w1 ⟨v, rfl, hrow, hb⟩
  obtain ⟨g', b, cap', rfl, hg', hcap', hst⟩ := rowSt_of_owns hrow hb HR.out
  have HST := Lib.hid hst
  have HG := Lib.hid hg'
  clear hrow hb hst hg'
  go_wp2_with fail
  have hs := sortFunc_any l sv zs.toArray g' b cap' w w1 (by simpa using HG.out) HST.out HSL.out (by simpa using hz)
  rw [List.size_toArray] at hs
  refine hs.mono ?_
  rintro e w2 ⟨rfl, d', h1, h2, hr2⟩
  rw [List.size_toArray] at h1 h2
  have H1 := Lib.hid h1
  have H2 := Lib.hid h2
  have HR2 := Lib.hid hr2
  clear h1 h2 hr2 hs
  go_wp2_with fail
  go_ret
  exact ⟨g', b, cap', d', rfl, HG.out, hcap', H1.out, H2.out, HR2.out⟩
end Go.Proofs.Ytgbmmoioehmfgaa
