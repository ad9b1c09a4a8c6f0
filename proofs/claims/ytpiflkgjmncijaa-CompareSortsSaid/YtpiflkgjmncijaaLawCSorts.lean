/-
  The statement CompareSorts, walked: for any row of terms that lies in memory the call returns true, and nothing that was there has turned.
-/
import Derived.Test.YtpiflkgjmncijaaKnows2
import Derived.Test.YtpiflkgjmncijaaRVar
import Derived.Test.YtpiflkgjmncijaaRSort
import Derived.Test.YtpiflkgjmncijaaCSort
import Derived.Test.YtpiflkgjmncijaaRefB
import Derived.Test.YtpiflkgjmncijaaSameAll
namespace Go.Proofs.Ytpiflkgjmncijaa
open Go.RowKit

theorem some_len {l : List Tm} (h : Tm.someB l = true) : l.length ≤ 100 := by
  simp only [Tm.someB, Bool.and_eq_true, decide_eq_true_eq] at h
  exact h.2

set_option maxRecDepth 100000 in
set_option maxHeartbeats 8000000 in
theorem csorts_rows (hrow : 100 ≤ rowMax) (l : List Tm) (w : World) (sv : Value) (hsl : Tm.sliceIn w w.heap.size l sv) :
    Calls Try.prog 4 #[sv] w fun e w' => e = .returned (.bool true) ∧ Below w.heap.size w w' := by
  obtain ⟨g, cap, rfl, _⟩ := id hsl
  have HSL := Lib.hid hsl
  clear hsl
  go_enter Try.func4, Try.ntmps4
  go_wp2_with fail
  refine (some_any l w _ _ (Nat.le_refl _) HSL.out).mono ?_
  rintro e W1 ⟨rfl, hb1⟩
  have HB1 := Lib.hid hb1
  clear hb1
  cases hs : Tm.someB l with
  | false =>
    clear hs
    go_wp2_with fail
    refine (knows2_any W1).mono ?_
    rintro e W2 ⟨rfl, hb2⟩
    have HB2 := Lib.hid (HB1.out.trans (hb2.mono HB1.out.size))
    clear hb2
    go_wp2_with fail
    go_ret
    exact ⟨rfl, HB2.out⟩
  | true =>
    have hsz := some_sizes hs
    have HLEN := Lib.hid (Nat.le_trans (some_len hs) hrow)
    have hl100 := some_len hs
    have HSZ := Lib.hid (fun t (ht : t ∈ l) => Nat.le_trans (Tm.some_size hs ht) (show 4000 ≤ 1000000 by omega))
    clear hs
    have hs1 := HB1.out.size
    have HSL1 := Lib.hid (Tm.sliceIn_mono (Tm.sliceIn_below HSL.out HB1.out (Nat.le_refl _)) hs1)
    go_wp2_with fail
    refine (csort_any l W1 _ HSL1.out HLEN.out (by omega)).mono ?_
    rintro e W2 ⟨⟨gs, cs, rfl, hss⟩, hb2⟩
    have hs2 := hb2.size
    have HB2 := Lib.hid (HB1.out.trans (hb2.mono hs1))
    clear hb2 HSL1 hsz
    have hw2 : w.heap.size ≤ W2.heap.size := by omega
    cases hall : l.all Tm.right with
    | false =>
      have he : srtErr l = 1 := by simp [srtErr, hall]
      have ht : srtTms l = [] := by simp [srtTms, hall]
      rw [he, ht]
      have HALL := Lib.hid hall
      clear he ht hss hall
      go_wp2_with fail
      go_loopw [5] (fun i wr => ∃ k : Nat, k ≤ l.length ∧ i = .int .i64 k ∧ Hid (∀ j (h : j < l.length), j < k → l[j].right = true) ∧ Hid (Below w.heap.size w wr)) (fun i _ => l.length - (intOf i).toNat)
      case atStart => exact ⟨0, Nat.zero_le _, rfl, fun j _ h => absurd h (by omega), HB2⟩
      case round =>
        obtain ⟨k, hk, rfl, hp, hb⟩ := hrel
        have hbs := hb.out.size
        by_cases hlt : k < l.length
        · obtain ⟨b, off, sv, rfl, hat⟩ := TmAt.of HSL.out k hlt
          obtain ⟨e0, e1, e2, e3, hin⟩ := hat.next hb.out
          have HIN := Lib.hid hin
          clear hin hat
          go_wp2_with fail
          cases hq : l[k].right with
          | true =>
            refine (rright_true hq _ _ HIN.out (HSZ.out _ (List.getElem_mem hlt))).mono ?_
            rintro e w1 ⟨rfl, hb1⟩
            have HBN := Lib.hid (hb.out.trans (hb1.mono hbs))
            have HPN := Lib.hid (fun j (h : j < l.length) (hj : j < k + 1) => show l[j].right = true by
              by_cases e : j = k
              · subst e
                exact hq
              · exact hp.out j h (by omega))
            clear hb1 e0 e1 e2 e3 hp hb HIN hq
            go_wp2_with fail
            go_roundw
            case rel => exact ⟨k + 1, by omega, by go_num, HPN, HBN⟩
            case measure => simp [intOf]; omega
          | false =>
            refine (rright_false hq _ _ HIN.out (HSZ.out _ (List.getElem_mem hlt))).mono ?_
            rintro e w1 ⟨rfl, hb1⟩
            have HBN := Lib.hid (hb.out.trans (hb1.mono hbs))
            clear hb1 e0 e1 e2 e3 hp hb HIN hq
            go_wp2_with fail
            refine (knows2_any w1).mono ?_
            rintro e w2 ⟨rfl, hb2⟩
            have HBM := Lib.hid (HBN.out.trans (hb2.mono HBN.out.size))
            clear hb2
            go_wp2_with fail
            go_ret
            exact ⟨rfl, HBM.out⟩
        · exfalso
          have := HALL.out
          rw [List.all_eq_false] at this
          obtain ⟨t, ht, hn⟩ := this
          obtain ⟨j, hj, rfl⟩ := List.getElem_of_mem ht
          exact hn (hp.out j hj (by omega))
    | true =>
      have he : srtErr l = 0 := by simp [srtErr, hall]
      have ht : srtTms l = sortTm l := by simp [srtTms, hall]
      rw [ht] at hss
      rw [he, ht]
      have HALL := Lib.hid (fun t (ht : t ∈ l) => List.all_eq_true.1 hall t ht)
      have HSS := Lib.hid hss
      clear he ht hss hall
      go_wp2_with fail
      go_loopw [5] (fun i wr => ∃ k : Nat, k ≤ l.length ∧ i = .int .i64 k ∧ Hid (Below W2.heap.size W2 wr)) (fun i _ => l.length - (intOf i).toNat)
      case atStart => exact ⟨0, Nat.zero_le _, rfl, Below.refl _ _⟩
      case round =>
        obtain ⟨k, hk, rfl, hb⟩ := hrel
        have hbs := hb.out.size
        have HBW := Lib.hid (HB2.out.trans (hb.out.mono hw2))
        by_cases hlt : k < l.length
        · obtain ⟨b, off, sv, rfl, hat⟩ := TmAt.of HSL.out k hlt
          obtain ⟨e0, e1, e2, e3, hin⟩ := hat.next HBW.out
          have HIN := Lib.hid hin
          clear hin hat
          go_wp2_with fail
          refine (rright_true (HALL.out _ (List.getElem_mem hlt)) _ _ HIN.out (HSZ.out _ (List.getElem_mem hlt))).mono ?_
          rintro e w1 ⟨rfl, hb1⟩
          have HBN := Lib.hid (hb.out.trans (hb1.mono hbs))
          clear hb1 e0 e1 e2 e3 hb HIN HBW
          go_wp2_with fail
          go_roundw
          case rel => exact ⟨k + 1, by omega, by go_num, HBN⟩
          case measure => simp [intOf]; omega
        · have hw3 : w.heap.size ≤ wr.heap.size := by omega
          have HSL3 := Lib.hid (Tm.sliceIn_mono (Tm.sliceIn_below HSL.out HBW.out (Nat.le_refl _)) hw3)
          have HSS3 := Lib.hid (Tm.sliceIn_mono (Tm.sliceIn_below HSS.out hb.out (Nat.le_refl _)) hbs)
          clear HB2 hb
          go_wp2_with fail
          refine (rsort_any l (fun t ht => right_fair (HALL.out t ht)) (by omega) wr _ HSL3.out).mono ?_
          rintro e w4 ⟨g4, c4, ⟨rfl, hs4⟩, hb4⟩
          have hz4 := hb4.size
          have HSS4 := Lib.hid (Tm.sliceIn_mono (Tm.sliceIn_below HSS3.out hb4 (Nat.le_refl _)) hz4)
          have HS4 := Lib.hid hs4
          have HB4 := Lib.hid (HBW.out.trans (hb4.mono hw3))
          have hw4 : w.heap.size ≤ w4.heap.size := by omega
          clear hs4 hb4 HSS3 HSL3 HBW
          go_wp2_with fail
          have hsame := sameall_any (sortTm l) (sortTm l) w4 w4.heap.size _ _ (Nat.le_refl _) HSS4.out HS4.out
          rw [decide_eq_true rfl] at hsame
          refine hsame.mono ?_
          rintro e w5 ⟨rfl, hb5⟩
          have HB5 := Lib.hid (HB4.out.trans (hb5.mono hw4))
          clear hb5 hsame
          go_wp2_with fail
          refine (knows2_any w5).mono ?_
          rintro e w6 ⟨rfl, hb6⟩
          have HB6 := Lib.hid (HB5.out.trans (hb6.mono HB5.out.size))
          clear hb6
          go_wp2_with fail
          go_ret
          exact ⟨rfl, HB6.out⟩
theorem csorts_any (l : List Tm) (w : World) (sv : Value) (hsl : Tm.sliceIn w w.heap.size l sv) :
    Calls Try.prog 4 #[sv] w fun e w' => e = .returned (.bool true) ∧ Below w.heap.size w w' := csorts_rows (by decide) l w sv hsl
end Go.Proofs.Ytpiflkgjmncijaa
