/-
  The document's own answers: rows of numbers that are alike.
-/
import Derived.Test.YtkmaaaednbjjkaaVars
import Derived.StillTailTactics
namespace Go.Proofs.Ytkmaaaednbjjkaa
open Go.RowKit

set_option maxHeartbeats 400000 in
theorem numbers_any (l l' : List Int) (w : World) (B : Nat) (v v' : Value) (hB : B ≤ w.heap.size) (h : intsIn w B l v) (h' : intsIn w B l' v') :
    Calls Try.prog 18 #[v, v'] w fun e w' => e = .returned (.bool (decide (l = l'))) ∧ Below w.heap.size w w' := by
  obtain ⟨g, cap, rfl, hcap, hlen, _⟩ := id h
  obtain ⟨g', cap', rfl, hcap', hlen', _⟩ := id h'
  have HA := Lib.hid h
  have HB := Lib.hid h'
  clear h h'
  by_cases hl : l.length = l'.length
  · obtain ⟨m, hm1, hm2⟩ : ∃ m, l.length = m ∧ l'.length = m := ⟨_, hl, rfl⟩
    rw [hm1] at hcap hlen ⊢
    rw [hm2] at hcap' hlen' ⊢
    have HL := Lib.hid hm1
    have HM := Lib.hid hm2
    clear hl hm1 hm2
    go_enter Try.func18, Try.ntmps18
    go_wp2_with fail
    go_loopw [5] (fun i wr => ∃ k : Nat, k ≤ m ∧ i = .int .i64 k ∧ Hid (l.take k = l'.take k) ∧ Hid (Below w.heap.size w wr)) (fun i _ => m - (intOf i).toNat)
    case atStart => exact ⟨0, Nat.zero_le _, rfl, (by simp [Hid]), Below.refl _ _⟩
    case round =>
      obtain ⟨k, hk, rfl, hp, hb⟩ := hrel
      by_cases hlt : k < m
      · have hA := HA.out
        have hBB := HB.out
        rw [HL.out] at hA
        rw [HM.out] at hBB
        obtain ⟨b, off, rfl, hbB, g0⟩ := intsIn_get (intsIn_below hA hb.out hB) k (by rw [HL.out]; exact hlt)
        obtain ⟨b', off', rfl, hbB', g0'⟩ := intsIn_get (intsIn_below hBB hb.out hB) k (by rw [HM.out]; exact hlt)
        clear hA hBB
        have t1 : l.take (k + 1) = l.take k ++ [l[k]'(by rw [HL.out]; exact hlt)] := List.take_succ_eq_append_getElem _
        have t2 : l'.take (k + 1) = l'.take k ++ [l'[k]'(by rw [HM.out]; exact hlt)] := List.take_succ_eq_append_getElem _
        have T1 := Lib.hid t1
        have T2 := Lib.hid t2
        clear t1 t2
        by_cases hq : l[k]'(by rw [HL.out]; exact hlt) = l'[k]'(by rw [HM.out]; exact hlt)
        · have hr : Hid (l.take (k + 1) = l'.take (k + 1)) := by
            show l.take (k + 1) = l'.take (k + 1)
            rw [T1.out, T2.out, hp.out, hq]
          have hqb : (l[k]'(by rw [HL.out]; exact hlt) != l'[k]'(by rw [HM.out]; exact hlt)) = false := by simpa using hq
          clear hq T1 T2
          go_wp2_with fail
          go_still_tail 8, (by kernel_rfl)
          go_wp2_with fail
          go_roundw
          case rel => exact ⟨k + 1, by omega, by go_num, hr, hb.out.drew⟩
          case measure => simp [intOf]; omega
        · have hr : decide (l = l') = false := decide_eq_false (fun e => hq (by subst e; rfl))
          have HR := Lib.hid hr
          have hqb : (l[k]'(by rw [HL.out]; exact hlt) != l'[k]'(by rw [HM.out]; exact hlt)) = true := by rw [bne_iff_ne]; exact hq
          clear hq T1 T2 hr
          go_wp2_with fail
          go_still_tail 8, (by kernel_rfl)
          go_wp2_with fail
          go_ret
          exact ⟨by rw [HR.out]; rfl, hb.out.drew⟩
      · have : k = m := by omega
        have hll : l = l' := by
          have := hp.out
          rwa [List.take_of_length_le (by rw [HL.out]; omega), List.take_of_length_le (by rw [HM.out]; omega)] at this
        have hr := Lib.hid (decide_eq_true hll)
        clear hll
        subst this
        go_wp2_with fail
        go_ret
        exact ⟨by rw [hr.out]; rfl, hb.out⟩
  · have hr : decide (l = l') = false := decide_eq_false (fun e => hl (by rw [e]))
    have hr2 := Lib.hid hr
    clear hr
    have hl2 : ((l.length : Int) != (l'.length : Int)) = true := by rw [bne_iff_ne]; omega
    go_enter Try.func18, Try.ntmps18
    go_wp2_with fail
    go_ret
    exact ⟨by rw [hr2.out]; rfl, Below.refl _ _⟩
end Go.Proofs.Ytkmaaaednbjjkaa
