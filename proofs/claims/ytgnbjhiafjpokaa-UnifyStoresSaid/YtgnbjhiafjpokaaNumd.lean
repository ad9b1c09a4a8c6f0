/-
  The document's Numbered: terms with their variables numbered anew, all together.
  The document's own answers: whether two rows of terms are alike.
-/
import Derived.Test.YtgnbjhiafjpokaaPureNum
import Derived.Test.YtgnbjhiafjpokaaTurn
import Derived.Test.YtgnbjhiafjpokaaWith
import Derived.Test.YtgnbjhiafjpokaaRef
import Derived.StillTailTactics
namespace Go.Proofs.Ytgnbjhiafjpokaa
open Go.RowKit

set_option maxRecDepth 100000 in
set_option maxHeartbeats 4000000 in
theorem numbered_any (l : List Tm) (hall : l.all Tm.right = true) (w : World) (sv : Value) (hsl : Tm.sliceIn w w.heap.size l sv) (hsz : Tm.sizes l ≤ 1000000) :
    Calls Try.prog 42 #[sv] w fun e w' => (∃ g c, e = .returned (.slice g (numTms l).length c) ∧ Tm.sliceIn w' w'.heap.size (numTms l) (.slice g (numTms l).length c)) ∧ Below w.heap.size w w' := by
  obtain ⟨g, cap, rfl, hcap, hlen, _⟩ := id hsl
  have hvl : (varsOf l).length ≤ 1000000 := Nat.le_trans (varsOf_length l) hsz
  have hll : l.length ≤ 1000000 := Nat.le_trans (Tm.length_le_sizes l) hsz
  have hrv := rvars_any l w w.heap.size _ (Nat.le_refl _) hsl hsz
  rw [withs_vars l (by rw [Tm.plain_all, List.all_eq_true]; exact fun t ht => right_noArgs (List.all_eq_true.1 hall t ht))] at hrv
  have HRV := Lib.hid hrv
  have HALL := Lib.hid hall
  have HSL := Lib.hid hsl
  obtain ⟨i0, hi, hz0, hz1, hz2⟩ := info_parts Try.infoTm
  clear hrv hall hsl
  go_enter Try.func42, Try.ntmps42
  go_wp2_with fail
  refine HRV.out.mono ?_
  rintro e w7 ⟨vv, rfl, hvf, hb7⟩
  obtain ⟨gf, cf, rfl, _, _, _⟩ := id hvf
  have HVF := Lib.hid hvf
  have HB7 := Lib.hid hb7
  have hs7 := hb7.size
  clear hvf hb7 HRV
  go_wp2_with fail
  go_loopw [4, 5] (fun to i wq => ∃ k : Nat, k ≤ (varsOf l).length ∧ i = .int .i64 (k : Nat) ∧ Hid (ownInts wq w7.heap.size to (places k)) ∧ Hid (Below w7.heap.size w7 wq)) (fun _ i _ => (varsOf l).length - (intOf i).toNat)
  case atStart => exact ⟨0, Nat.zero_le _, rfl, World.ownsRow_nil _ _ _ _, Below.refl _ _⟩
  case round =>
    obtain ⟨wq, rfl⟩ : ∃ x, x = wr := ⟨_, rfl⟩
    obtain ⟨k, hk, rfl, hown, hb⟩ := hrel
    have HOWN := Lib.hid hown.out
    have HBQ := Lib.hid hb.out
    have hbz := hb.out.size
    clear hown hb
    by_cases hlt : k < (varsOf l).length
    · go_wp2_with (at_builtin; refine wpList_append_ints rfl _ _ rfl w7.heap.size u4 (places k) rfl (HOWN.out.alloc _) [(k : Int)] (some ⟨wq.heap.size, 0, none⟩) 1 rfl (src1 _ rfl) (by rw [places_length]; simp; omega) (by simp; omega) ?_; intro v' w8 hown' hgrow hlow)
      go_roundw
      case rel => exact ⟨k + 1, by omega, by go_num, by rw [places_succ]; exact hown', (HBQ.out.alloc hbz _).grown hgrow (by simp; omega) hlow⟩
      case measure => simp [intOf]; omega
    · obtain rfl : k = (varsOf l).length := by omega
      obtain ⟨gt, ct, hgt⟩ := owns_slice (show wq.ownsRow _ _ _ _ _ _ from HOWN.out)
      rw [places_length] at hgt
      subst hgt
      have HT := Lib.hid (ints_of_own HOWN.out (by rw [places_length]; omega))
      have HF := Lib.hid (intsIn_mono (intsIn_below HVF.out HBQ.out (Nat.le_refl _)) HBQ.out.size)
      have HBW := Lib.hid (HB7.out.trans (HBQ.out.mono hs7))
      have hwq := HBW.out.size
      clear HOWN HVF
      go_wp2_with fail
      go_loopw [6, 7] (fun want i wz => ∃ k : Nat, k ≤ l.length ∧ i = .int .i64 (k : Nat) ∧ Hid (∃ xs, wz.ownsRow wq.heap.size 27 4 want k xs ∧ Tm.cellsP wz (okRow wq.heap.size wz want) ((l.take k).map fun t => t.ren (toOf (varsOf l) (places (varsOf l).length))) xs) ∧ Hid (Below wq.heap.size wq wz)) (fun _ i _ => l.length - (intOf i).toNat)
      case atStart => exact ⟨0, Nat.zero_le _, rfl, ⟨[], World.ownsRow_nil _ _ _ _, by simp [Tm.cellsP]⟩, Below.refl _ _⟩
      case round =>
        obtain ⟨wz, rfl⟩ : ∃ x, x = wr := ⟨_, rfl⟩
        obtain ⟨k, hk, rfl, hrow, hb⟩ := hrel
        have HROW := Lib.hid hrow.out
        have HBZ := Lib.hid hb.out
        have hbz2 := hb.out.size
        have HTZ := Lib.hid (intsIn_mono (intsIn_below HT.out hb.out (Nat.le_refl _)) hb.out.size)
        have HFZ := Lib.hid (intsIn_mono (intsIn_below HF.out hb.out (Nat.le_refl _)) hb.out.size)
        have HSZ := Lib.hid (HBW.out.trans (hb.out.mono hwq))
        clear hrow hb
        by_cases hlt : k < l.length
        · obtain ⟨b, off, sv, hgx, hbB, g0, g1, g2, g3, hin'⟩ := Tm.sliceIn_get (Tm.sliceIn_below HSL.out HSZ.out (Nat.le_refl _)) k hlt
          subst hgx
          obtain ⟨_, ga, ca, rfl, _, _, _⟩ := Tm.inn_iff.1 hin'
          have hcall := turn_any (varsOf l) (places (varsOf l).length) (by rw [places_length]; exact Nat.le_refl _) (places_wf (by omega)) l[k] wz _ _ _ _ (Nat.le_refl _) (Tm.inn_mono hin' HSZ.out.size) HFZ.out HTZ.out (vars_cover (List.getElem_mem hlt))
          have hM : (l.take (k + 1)).map (fun t => t.ren (toOf (varsOf l) (places (varsOf l).length))) = (l.take k).map (fun t => t.ren (toOf (varsOf l) (places (varsOf l).length))) ++ [l[k].ren (toOf (varsOf l) (places (varsOf l).length))] := by
            rw [List.take_succ_eq_append_getElem hlt, List.map_append]; rfl
          obtain ⟨u, hu⟩ : ∃ u, l[k].ren (toOf (varsOf l) (places (varsOf l).length)) = u := ⟨_, rfl⟩
          unfold TurnPost at hcall
          rw [hu] at hcall hM
          have HCALL := Lib.hid hcall
          have HM := Lib.hid hM
          obtain ⟨xs, hown, hcells⟩ := HROW.out
          have HOWN := Lib.hid hown
          have HCELLS := Lib.hid hcells
          have hbw : b < wz.heap.size := by have := HSZ.out.size; omega
          clear hin' hown hcells HROW hcall hM hu
          go_wp2_with fail
          refine HCALL.out.mono ?_
          rintro e w9 ⟨g9, c9, rfl, hp9, hb9⟩
          have HP9 := Lib.hid hp9
          have HB9 := Lib.hid hb9
          have hs9 := hb9.size
          have hown2 := Lib.hid (ownsRow_below HOWN.out hb9)
          clear hp9 hb9 HCALL g0 g1 g2 g3
          go_wp2_with (at_builtin; refine wpList_append_sep _ rfl _ _ 25 rfl wq.heap.size 27 i0 _ 4 56 Try.underlying25 hi hz0 hz1 hz2 rfl (by decide) u6 k xs rfl (hown2.out.alloc _) ⟨w9.heap.size, 0, none⟩ 1 1 [.int .i64 u.kind, .string u.name, .int .i64 u.n, .slice g9 u.args.length c9] rfl (by decide) rfl news4 one4 (by unfold maxLen; omega) (by omega) (by simp; omega) ?_; intro v' w10 hown3 hgrow hsep)
          go_roundw
          case rel => exact ⟨k + 1, by omega, by go_num, ⟨_, hown3, by rw [HM.out]; exact row_step HOWN.out HCELLS.out HB9.out (by omega) HP9.out hgrow hsep⟩, ((HBZ.out.trans (HB9.out.mono hbz2)).alloc (by omega) _).grown hgrow (by simp; omega) (fun j e => (HOWN.out.lt j e).1)⟩
          case measure => simp [intOf]; omega
        · obtain rfl : k = l.length := by omega
          obtain ⟨xs, hown, hcells⟩ := HROW.out
          obtain ⟨gw, cw, rfl⟩ := owns_slice hown
          rw [List.take_length, turn_places HALL.out] at hcells
          have hnl : (numTms l).length = l.length := by unfold numTms; rw [if_pos HALL.out, Tm.rens_length]
          have hsp := Tm.sliceP_of_owns (ok' := fun b => b < wz.heap.size) (v := .slice gw l.length cw) (l := numTms l) (by rw [hnl]; exact hown) hcells (by omega) (fun b hb => hb.2.1) (fun b hb => (hown.lt b hb).2)
          have hfin : (∃ g c, Ending.returned (Value.slice gw l.length cw) = .returned (.slice g (numTms l).length c) ∧ Tm.sliceIn wz wz.heap.size (numTms l) (.slice g (numTms l).length c)) ∧ Below w.heap.size w wz :=
            ⟨⟨gw, cw, by rw [hnl], by rw [hnl]; exact Tm.sliceIn_of_P (fun b hb => hb) hsp⟩, HSZ.out⟩
          have HFIN := Lib.hid hfin
          clear hown hcells HROW hsp hfin hnl
          go_wp2_with fail
          go_ret
          exact HFIN.out
end Go.Proofs.Ytgnbjhiafjpokaa

namespace Go.Proofs.Ytgnbjhiafjpokaa
open Go.RowKit

set_option maxRecDepth 100000 in
set_option maxHeartbeats 400000 in
theorem sameall_any (l l' : List Tm) (w : World) (B : Nat) (sv sv' : Value) (hB : B ≤ w.heap.size) (h : Tm.sliceIn w B l sv) (h' : Tm.sliceIn w B l' sv') :
    Calls Try.prog 36 #[sv, sv'] w fun e w' => e = .returned (.bool (decide (l = l'))) ∧ Below w.heap.size w w' := by
  obtain ⟨g, cap, rfl, hcap, hlen, _⟩ := id h
  obtain ⟨g', cap', rfl, hcap', hlen', _⟩ := id h'
  have HA := Lib.hid h
  have HB := Lib.hid h'
  clear h h'
  by_cases hl : l.length = l'.length
  · obtain ⟨m, hm1, hm2⟩ : ∃ m, l.length = m ∧ l'.length = m := ⟨_, hl, rfl⟩
    rw [hm1] at hcap hlen ⊢
    rw [hm2] at hcap' hlen' ⊢
    have HL := Lib.hid hm1
    have HM := Lib.hid hm2
    clear hl hm1 hm2
    go_enter Try.func36, Try.ntmps36
    go_wp2_with fail
    go_loopw [5] (fun i wr => ∃ k : Nat, k ≤ m ∧ i = .int .i64 k ∧ Hid (l.take k = l'.take k) ∧ Hid (Below w.heap.size w wr)) (fun i _ => m - (intOf i).toNat)
    case atStart => exact ⟨0, Nat.zero_le _, rfl, (by simp [Hid]), Below.refl _ _⟩
    case round =>
      obtain ⟨k, hk, rfl, hp, hb⟩ := hrel
      by_cases hlt : k < m
      · have hA := HA.out
        have hBB := HB.out
        rw [HL.out] at hA
        rw [HM.out] at hBB
        obtain ⟨b, off, sv, rfl, hbB, g0, g1, g2, g3, hin⟩ := Tm.sliceIn_get (Tm.sliceIn_below hA hb.out hB) k (by rw [HL.out]; exact hlt)
        obtain ⟨b', off', sv', rfl, hbB', g0', g1', g2', g3', hin'⟩ := Tm.sliceIn_get (Tm.sliceIn_below hBB hb.out hB) k (by rw [HM.out]; exact hlt)
        have hst := Lib.hid (sames_take_succ (l := l) (l' := l') (by rw [HL.out, HM.out]) (k := k) (by rw [HL.out]; exact hlt) hp.out)
        have hws := hb.out.size
        have hih := Lib.hid (rsame_any (l[k]'(by rw [HL.out]; exact hlt)) (l'[k]'(by rw [HM.out]; exact hlt)) wr.drew B sv sv' (by simp; omega) (Tm.inn_below hin (n₀ := wr.heap.size) ((Below.refl _ _).drew) (by omega)) (Tm.inn_below hin' (n₀ := wr.heap.size) ((Below.refl _ _).drew) (by omega)))
        have HBB := Lib.hid hb.out
        clear hin hin' hA hBB hb
        go_wp2_with fail
        go_still_tail 8, (by kernel_rfl)
        go_wp2_with fail
        refine (hih.out).mono ?_
        rintro e w1 ⟨rfl, hb1⟩
        have hb2 : Below wr.heap.size wr w1 := ((Below.refl _ _).drew).trans hb1
        have HB2 := Lib.hid hb2
        clear hb1 hb2 hih
        cases hq : Tm.same (l[k]'(by rw [HL.out]; exact hlt)) (l'[k]'(by rw [HM.out]; exact hlt)) with
        | true =>
          have hr := Lib.hid (hst.out.1 hq)
          go_wp2_with fail
          go_roundw
          case rel => exact ⟨k + 1, by omega, by go_num, hr, HBB.out.trans (HB2.out.mono (by omega))⟩
          case measure => simp [intOf]; omega
        | false =>
          have hr := Lib.hid (decide_eq_false (hst.out.2 hq))
          go_wp2_with fail
          go_ret
          exact ⟨by rw [hr.out]; rfl, HBB.out.trans (HB2.out.mono (by omega))⟩
      · have : k = m := by omega
        have hll : l = l' := by
          have := hp.out
          rwa [List.take_of_length_le (by rw [HL.out]; omega), List.take_of_length_le (by rw [HM.out]; omega)] at this
        have hr := Lib.hid (decide_eq_true hll)
        have HBB := Lib.hid hb.out
        clear hll hb
        subst this
        go_wp2_with fail
        go_ret
        exact ⟨by rw [hr.out]; rfl, HBB.out⟩
  · have hr : decide (l = l') = false := decide_eq_false (fun e => hl (by rw [e]))
    have hr2 := Lib.hid hr
    have hl2 : ((l.length : Int) != (l'.length : Int)) = true := by rw [bne_iff_ne]; omega
    clear hr
    go_enter Try.func36, Try.ntmps36
    go_wp2_with fail
    go_ret
    exact ⟨by rw [hr2.out]; rfl, Below.refl _ _⟩
end Go.Proofs.Ytgnbjhiafjpokaa
