/-
  The program's sorted: places in the order of their terms, each term once.
-/
import Derived.Test.YtgbmmoioehmfgaaCompactB
namespace Go.Proofs.Ytgbmmoioehmfgaa
open Go.RowKit Go.Sort

/-- A new row: of the places, those that are left, sorted. -/
def PlacesPost (l : List Tm) (zs : List Int) (w : World) (e : Ending) (W' : World) : Prop :=
  ∃ (d : Array Int) (g : Option Addr) (c : Nat), e = .returned (.slice g (keepsN l d zs.length).length c) ∧ PermIn 0 zs.length zs.toArray d ∧ SortedIn (tlt l) 0 zs.length d ∧ intsIn W' W'.heap.size (keepsN l d zs.length) (.slice g (keepsN l d zs.length).length c) ∧ RowKit.Below w.heap.size w W'

theorem first_below {w : World} {o1 o2 : Obj} (h : ∀ o1 o2 : Obj, RowKit.Below w.heap.size w ((w.alloc o1).alloc o2)) : RowKit.Below w.heap.size w (((w.alloc o1).alloc o2).drew) := (h o1 o2).drew

set_option maxRecDepth 100000 in
set_option maxHeartbeats 2000000 in
theorem sorted_any (l : List Tm) (sv : Value) (zs : List Int) (g : Option Addr) (cap : Nat) (w : World) (hI : intsIn w w.heap.size zs (.slice g zs.length cap))
    (hz : zs.length ≤ rowMax) (hsl : Tm.sliceIn w w.heap.size l sv) (hr : ∀ x ∈ zs, 0 ≤ x ∧ x < l.length) :
    Calls Try.prog 28 #[.slice g zs.length cap, .func (.func 29) #[sv] #[]] w
      fun e w' => PlacesPost l zs w e w' := by
  have HI := Lib.hid hI
  have HR := Lib.hid hr
  have HSL := Lib.hid hsl
  clear hI hr hsl
  go_enter Try.func28, Try.ntmps28
  go_wp2_with fail
  have hbw : ∀ o1 o2 : Obj, RowKit.Below w.heap.size w ((w.alloc o1).alloc o2) := fun o1 o2 => ((Below.refl _ w).alloc (Nat.le_refl _) _).alloc (by simp) _
  have HBW := Lib.hid hbw
  clear hbw
  go_region_with (first | (go_at_call 45; refine (values_any _ g zs.length cap _ rfl).mono ?_; rintro e w' ⟨rfl, rfl⟩) | (go_at_call 44; refine (sortedFunc_any l sv zs (w.heap.size + 1) g cap _ (by simp) (by go_simp) (intsIn_mono (intsIn_below HI.out (first_below HBW.out) (Nat.le_refl _)) (by simp; omega)) hz (Tm.sliceIn_mono (Tm.sliceIn_below HSL.out (first_below HBW.out) (Nat.le_refl _)) (by simp; omega)) HR.out).mono ?_; rintro e w' ⟨g', b, cap', d', rfl, hg, hc', hp, hs, hr2⟩))
  all_goals
    have hd : d'.size = zs.length := by have := hp.1; simpa using this
    have hcp := compact_any l sv d' g' b cap' w.heap.size _ w' (by rw [hd]; exact hg) hr2 (Tm.sliceIn_mono (Tm.sliceIn_below HSL.out (first_below HBW.out) (Nat.le_refl _)) (by simp; omega)) (by have := rowMax_le; omega) (by rw [hd]; exact hc') (by simp; omega) (by go_simp)
    rw [hd] at hcp
    have HCP := Lib.hid hcp
    have HP := Lib.hid hp
    have HS := Lib.hid hs
    have HD := Lib.hid hd
    clear hd hcp hg hp hs hr2 hc'
    go_wp2_with fail
    refine HCP.out.mono ?_
    rintro e w2 ⟨v, rfl, hin, hb2⟩
    obtain ⟨g2, c2, rfl, _⟩ := id hin
    have HIN := Lib.hid hin
    have HB2 := Lib.hid hb2
    clear hin hb2 HCP
    go_wp2_with fail
    go_ret
    have hin := HIN.out
    rw [HD.out] at hin ⊢
    exact ⟨d', g2, c2, rfl, HP.out, HS.out, hin, (first_below HBW.out).trans (HB2.out.mono (by simp; omega))⟩
end Go.Proofs.Ytgbmmoioehmfgaa
