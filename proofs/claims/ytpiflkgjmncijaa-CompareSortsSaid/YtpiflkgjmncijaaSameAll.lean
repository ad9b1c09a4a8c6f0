/-
  The document's own answers: whether two rows of terms are alike.
-/
import Derived.Test.YtpiflkgjmncijaaRefC
import Derived.StillTailTactics
namespace Go.Proofs.Ytpiflkgjmncijaa
open Go.RowKit

set_option maxRecDepth 100000 in
set_option maxHeartbeats 400000 in
theorem sameall_any (l l' : List Tm) (w : World) (B : Nat) (sv sv' : Value) (hB : B ≤ w.heap.size) (h : Tm.sliceIn w B l sv) (h' : Tm.sliceIn w B l' sv') :
    Calls Try.prog 19 #[sv, sv'] w fun e w' => e = .returned (.bool (decide (l = l'))) ∧ Below w.heap.size w w' := by
  obtain ⟨g, cap, rfl, hcap, hlen, _⟩ := id h
  obtain ⟨g', cap', rfl, hcap', hlen', _⟩ := id h'
  have HA := Lib.hid h
  have HB := Lib.hid h'
  clear h h'
  by_cases hl : l.length = l'.length
  · obtain ⟨m, hm1, hm2⟩ : ∃ m, l.length = m ∧ l'.length = m := ⟨_, hl, rfl⟩
    rw [hm1] at hcap hlen ⊢
    rw [hm2] at hcap' hlen' ⊢
    have HL := Lib.hid hm1
    have HM := Lib.hid hm2
    clear hl hm1 hm2
    go_enter Try.func19, Try.ntmps19
    go_wp2_with fail
    go_loopw [5] (fun i wr => ∃ k : Nat, k ≤ m ∧ i = .int .i64 k ∧ Hid (l.take k = l'.take k) ∧ Hid (Below w.heap.size w wr)) (fun i _ => m - (intOf i).toNat)
    case atStart => exact ⟨0, Nat.zero_le _, rfl, (by simp [Hid]), Below.refl _ _⟩
    case round =>
      obtain ⟨k, hk, rfl, hp, hb⟩ := hrel
      by_cases hlt : k < m
      · have hA := HA.out
        have hBB := HB.out
        rw [HL.out] at hA
        rw [HM.out] at hBB
        obtain ⟨b, off, sv, rfl, hbB, g0, g1, g2, g3, hin⟩ := Tm.sliceIn_get (Tm.sliceIn_below hA hb.out hB) k (by rw [HL.out]; exact hlt)
        obtain ⟨b', off', sv', rfl, hbB', g0', g1', g2', g3', hin'⟩ := Tm.sliceIn_get (Tm.sliceIn_below hBB hb.out hB) k (by rw [HM.out]; exact hlt)
        have hst := Lib.hid (sames_take_succ (l := l) (l' := l') (by rw [HL.out, HM.out]) (k := k) (by rw [HL.out]; exact hlt) hp.out)
        have hws := hb.out.size
        have hih := Lib.hid (rsame_any (l[k]'(by rw [HL.out]; exact hlt)) (l'[k]'(by rw [HM.out]; exact hlt)) wr.drew B sv sv' (by simp; omega) (Tm.inn_below hin (n₀ := wr.heap.size) ((Below.refl _ _).drew) (by omega)) (Tm.inn_below hin' (n₀ := wr.heap.size) ((Below.refl _ _).drew) (by omega)))
        have HBB := Lib.hid hb.out
        clear hin hin' hA hBB hb
        go_wp2_with fail
        go_still_tail 8, (by kernel_rfl)
        go_wp2_with fail
        refine (hih.out).mono ?_
        rintro e w1 ⟨rfl, hb1⟩
        have hb2 : Below wr.heap.size wr w1 := ((Below.refl _ _).drew).trans hb1
        have HB2 := Lib.hid hb2
        clear hb1 hb2 hih
        cases hq : Tm.same (l[k]'(by rw [HL.out]; exact hlt)) (l'[k]'(by rw [HM.out]; exact hlt)) with
        | true =>
          have hr := Lib.hid (hst.out.1 hq)
          go_wp2_with fail
          go_roundw
          case rel => exact ⟨k + 1, by omega, by go_num, hr, HBB.out.trans (HB2.out.mono (by omega))⟩
          case measure => simp [intOf]; omega
        | false =>
          have hr := Lib.hid (decide_eq_false (hst.out.2 hq))
          go_wp2_with fail
          go_ret
          exact ⟨by rw [hr.out]; rfl, HBB.out.trans (HB2.out.mono (by omega))⟩
      · have : k = m := by omega
        have hll : l = l' := by
          have := hp.out
          rwa [List.take_of_length_le (by rw [HL.out]; omega), List.take_of_length_le (by rw [HM.out]; omega)] at this
        have hr := Lib.hid (decide_eq_true hll)
        have HBB := Lib.hid hb.out
        clear hll hb
        subst this
        go_wp2_with fail
        go_ret
        exact ⟨by rw [hr.out]; rfl, HBB.out⟩
  · have hr : decide (l = l') = false := decide_eq_false (fun e => hl (by rw [e]))
    have hr2 := Lib.hid hr
    have hl2 : ((l.length : Int) != (l'.length : Int)) = true := by rw [bne_iff_ne]; omega
    clear hr
    go_enter Try.func19, Try.ntmps19
    go_wp2_with fail
    go_ret
    exact ⟨by rw [hr2.out]; rfl, Below.refl _ _⟩
end Go.Proofs.Ytpiflkgjmncijaa
