/-
  The document's own answers: the variables of a row of terms.
-/
import Derived.Test.YtpiflkgjmncijaaWith
namespace Go.Proofs.Ytpiflkgjmncijaa
open Go.RowKit

set_option maxHeartbeats 400000 in
theorem rvars_any (l : List Tm) (w : World) (B : Nat) (sv : Value) (hB : B ≤ w.heap.size) (hsl : Tm.sliceIn w B l sv) (hsz : Tm.sizes l ≤ 1000000) :
    Calls Try.prog 36 #[sv] w fun e w' => ∃ v, e = .returned v ∧ intsIn w' w'.heap.size (Tm.withs [] l) v ∧ Below w.heap.size w w' := by
  have hsl0 := hsl
  obtain ⟨g, cap, rfl, hcap, hlen, _⟩ := hsl0
  have HSL := Lib.hid hsl
  clear hsl
  go_enter Try.func36, Try.ntmps36
  go_wp2_with fail
  go_loopw [3, 4] (fun v i wr => ∃ k' : Nat, k' ≤ l.length ∧ i = .int .i64 k' ∧ Hid (intsIn wr wr.heap.size (Tm.withs [] (l.take k')) v) ∧ Below w.heap.size w wr) (fun _ i _ => l.length - (intOf i).toNat)
  case atStart => exact ⟨0, Nat.zero_le _, rfl, ⟨none, 0, by simp [Tm.withs], by simp [Tm.withs], by simp [Tm.withs], .inl (by simp [Tm.withs])⟩, Below.refl _ _⟩
  case round =>
    obtain ⟨k', hk', rfl, hv, hb⟩ := hrel
    have HV := Lib.hid hv.out
    have HB := Lib.hid hb
    by_cases hlt : k' < l.length
    · obtain ⟨b, off, sv, rfl, hbB, g0, g1, g2, g3, hin'⟩ := Tm.sliceIn_get (Tm.sliceIn_below HSL.out hb hB) k' hlt
      have hlen1 := withs_length (l.take k') []
      have hlen2 := Tm.sizes_take_succ l k' hlt
      have hlen3 := Tm.sizes_take_le l (k' + 1)
      have hs1 := hb.size
      have hih := Lib.hid (with_any l[k'] wr B sv _ _ (by omega) hin' HV.out (by simp at hlen1; omega))
      have HS := Lib.hid (withs_take_succ l [] k' hlt)
      clear hin' hlen1 hlen2 hlen3 hv hb
      go_wp2_with fail
      refine hih.out.mono ?_
      rintro e w1 ⟨v', rfl, hv1, hb1⟩
      have HB1 := Lib.hid hb1
      have HV1 := Lib.hid hv1
      clear hb1 hv1
      go_wp2_with fail
      go_roundw
      case rel =>
        refine ⟨k' + 1, by omega, by go_num, ?_, HB.out.trans (HB1.out.mono (by omega))⟩
        rw [HS.out]
        exact HV1.out
      case measure => simp [intOf]; omega
    · obtain rfl : k' = l.length := by omega
      rw [List.take_length] at HV
      clear hv hb
      go_wp2_with fail
      go_ret
      exact ⟨_, rfl, HV.out, HB.out⟩
end Go.Proofs.Ytpiflkgjmncijaa
