/-
  The document's Sure, Goal and Goals.
-/
import Derived.Test.YtliapkajonbndaaDoorDwL
import Derived.Test.YtliapkajonbndaaDoorGlT
namespace Go.Proofs.YtliapkajonbndaaDoor
open Go.RowKit

/-- What the document's Right is to say. -/
def RightSays : Prop := ∀ (t : Tm) (w : World) (sv : Value), Tm.inn w w.heap.size t sv → t.size ≤ 1000000 → Calls Tryd.prog 8 #[.agg #[.int .i64 t.kind, .string t.name, .int .i64 t.n, sv]] w fun e w' => e = .returned (.bool t.right) ∧ Below w.heap.size w w'
theorem sureX_len (t : Tm) : (sureX t).length ≤ 8000 := by
  unfold sureX
  split
  · rename_i h; exact h.2
  · simp
set_option maxRecDepth 100000 in
set_option maxHeartbeats 4000000 in
theorem dsure_any (HR : RightSays) (t : Tm) (w : World) (sv : Value) (hin : Tm.inn w w.heap.size t sv) (hsz : t.size ≤ 1000000) :
    Calls Tryd.prog 12 #[.agg #[.int .i64 t.kind, .string t.name, .int .i64 t.n, sv]] w fun e w' => e = .returned (.string ⟨(sureX t).toArray⟩) ∧ Below w.heap.size w w' := by
  have hlx : t.right = true → (tx t).length ≤ 60 * t.size := fun h => by
    simp only [Tm.right, Bool.and_eq_true] at h
    exact (inn_len t h.1.1 w _ sv hin).1
  have htw : t.right = true → TmW t := fun h => by
    simp only [Tm.right, Bool.and_eq_true] at h
    exact dterm_any h.1.1 hsz
  obtain ⟨_, g, cap, rfl, _, _, _⟩ := Tm.inn_iff.1 hin
  have HX := Lib.hid (show sureX t = if t.right = true ∧ (tx t).length ≤ 8000 then tx t else [63] from rfl)
  obtain ⟨X, hX⟩ : ∃ X, tx t = X := ⟨_, rfl⟩
  rw [hX] at HX hlx
  have HTW := Lib.hid htw
  have HTX := Lib.hid hX
  clear htw hX
  have HIN := Lib.hid hin
  clear hin
  go_enter Tryd.func12, Tryd.ntmps12
  go_upto_region 1 with fail
  have hv := (Below.refl w.heap.size w).alloc (Nat.le_refl _) (.cells #[.int .i64 t.kind, .string t.name, .int .i64 t.n, .slice g t.args.length cap] 24)
  have hz := newBlk w (.cells #[.int .i64 t.kind, .string t.name, .int .i64 t.n, .slice g t.args.length cap] 24) w.heap.size rfl
  have hzl : w.heap.size < (w.alloc (.cells #[.int .i64 t.kind, .string t.name, .int .i64 t.n, .slice g t.args.length cap] 24)).heap.size := by simp
  obtain ⟨v, hv1⟩ : ∃ v, w.alloc (.cells #[.int .i64 t.kind, .string t.name, .int .i64 t.n, .slice g t.args.length cap] 24) = v := ⟨_, rfl⟩
  rw [hv1] at hv hz hzl ⊢
  clear hv1
  obtain ⟨⟨a0, a1, a2, a3⟩, -⟩ := row4 hz
  have HV := Lib.hid hv
  have HZ := Lib.hid hz
  have hi := Tm.inn_mono (Tm.inn_below HIN.out hv (Nat.le_refl _)) hv.size
  have hta : TA9 v w.heap.size 0 t (.slice g t.args.length cap) := ⟨a0, a1, a2, a3, hi⟩
  have hr := HR t v _ hi hsz
  have HRC := Lib.hid hr
  have HTA := Lib.hid hta
  clear hr hta hi hv hz
  cases hrt : t.right with
  | false =>
    rw [hrt] at HRC HX
    have HX2 := Lib.hid (show sureX t = [63] by rw [HX.out]; simp)
    clear hrt hlx
    go_wp2_with (go_at_call 8; (with_reducible refine (HRC.out.mono ?_)); rintro e w' ⟨rfl, hb⟩; have HB := Lib.hid hb; clear hb)
    go_ret
    exact ⟨congrArg (fun z : List UInt8 => Ending.returned (.string ⟨z.toArray⟩)) HX2.out.symm, HV.out.trans (HB.out.mono HV.out.size)⟩
  | true =>
    rw [hrt] at HRC HX
    have hXl := hlx hrt
    have htm := HTW.out hrt
    have hcall := fun W1 sv1 h => htm W1 sv1 h
    simp only [HTX.out] at hcall
    have HCA := Lib.hid hcall
    clear hrt hlx htm hcall
    go_upto_region 3 with (go_at_call 8; (with_reducible refine (HRC.out.mono ?_)); rintro e w1 ⟨rfl, hb⟩; have HB := Lib.hid hb; have HT1 := Lib.hid (HTA.out.next hb); clear hb)
    have x0 : w1.cell? ⟨w.heap.size, 0, none⟩ = some (.int .i64 t.kind) := HT1.out.c0
    have x1 : w1.cell? ⟨w.heap.size, 1, none⟩ = some (.string t.name) := HT1.out.c1
    have x2 : w1.cell? ⟨w.heap.size, 2, none⟩ = some (.int .i64 t.n) := HT1.out.c2
    have x3 : w1.cell? ⟨w.heap.size, 3, none⟩ = some (.slice g t.args.length cap) := HT1.out.c3
    have hbl := HT1.out.lt
    have HC1 := Lib.hid (HCA.out w1 _ HT1.out.hi)
    clear a0 a1 a2 a3
    by_cases hl : X.length ≤ 8000
    · have HX2 := Lib.hid (show sureX t = X by rw [HX.out]; simp [hl])
      have k1 : ((8000 : Int) < (X.length : Int)) = False := by simp only [eq_iff_iff, iff_false]; omega
      go_wp2_with (go_at_call 9; (with_reducible refine (HC1.out.mono ?_)); rintro e w2 ⟨rfl, hb⟩; have HB2 := Lib.hid hb; clear hb)
      go_ret
      exact ⟨congrArg (fun z : List UInt8 => Ending.returned (.string ⟨z.toArray⟩)) HX2.out.symm, (HV.out.trans (HB.out.mono HV.out.size)).trans (HB2.out.mono (HV.out.trans (HB.out.mono HV.out.size)).size)⟩
    · have HX2 := Lib.hid (show sureX t = [63] by rw [HX.out]; simp [hl])
      have k1 : ((8000 : Int) < (X.length : Int)) = True := by simp only [eq_iff_iff, iff_true]; omega
      go_wp2_with (go_at_call 9; (with_reducible refine (HC1.out.mono ?_)); rintro e w2 ⟨rfl, hb⟩; have HB2 := Lib.hid hb; clear hb)
      go_ret
      exact ⟨congrArg (fun z : List UInt8 => Ending.returned (.string ⟨z.toArray⟩)) HX2.out.symm, (HV.out.trans (HB.out.mono HV.out.size)).trans (HB2.out.mono (HV.out.trans (HB.out.mono HV.out.size)).size)⟩
end Go.Proofs.YtliapkajonbndaaDoor
