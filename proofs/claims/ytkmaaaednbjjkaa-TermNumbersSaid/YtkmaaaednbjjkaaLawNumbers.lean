/-
  The statement TermNumbers, walked: for any terms that lie in memory and any number the call returns true, and nothing that was there has turned.
-/
import Derived.Test.YtkmaaaednbjjkaaPureNum
import Derived.Test.YtkmaaaednbjjkaaSameAll
import Derived.Test.YtkmaaaednbjjkaaLawShifts
namespace Go.Proofs.Ytkmaaaednbjjkaa
open Go.RowKit

theorem shift_allP (t : Tm) (b : Int) (w : World) (sv : Value) (hin : Tm.inn w w.heap.size t sv) (hsz : t.size ≤ 1000000) :
    Calls Try.prog 20 #[.agg #[.int .i64 t.kind, .string t.name, .int .i64 t.n, sv], .int .i64 b] w fun e w' =>
      (∃ g c, e = .returned (.tuple #[.agg #[.int .i64 (shiftTm t b).kind, .string (shiftTm t b).name, .int .i64 (shiftTm t b).n, .slice g (shiftTm t b).args.length c], .int .i64 (shiftErr t b)]) ∧ Tm.innP w' (fun x => w.heap.size ≤ x ∧ x < w'.heap.size) (shiftTm t b) (.slice g (shiftTm t b).args.length c)) ∧ Below w.heap.size w w' := by
  refine (tshift_any t b w sv hin hsz).mono ?_
  rintro e w' ⟨hb, ⟨hne, rfl⟩ | ⟨h0, sv', rfl, hp⟩⟩
  · refine ⟨⟨none, 0, ?_, ?_⟩, hb⟩
    · rw [show shiftTm t b = kZ by unfold shiftTm; rw [if_neg hne]]
      rfl
    · rw [show shiftTm t b = kZ by unfold shiftTm; rw [if_neg hne]]
      exact Tm.innP_mk.2 ⟨⟨by decide, Nat.zero_le _, by decide⟩, none, 0, rfl, Nat.le_refl _, by simp, .inl rfl⟩
  · have hx : shiftTm t b = t.ren (fun v => wrap64 (v + b)) := by unfold shiftTm; rw [if_pos h0]
    obtain ⟨_, g, c, rfl, _, _, _⟩ := Tm.innP_iff.1 hp
    refine ⟨⟨g, c, ?_, ?_⟩, hb⟩
    · rw [hx, h0]
    · rw [hx]
      exact hp
def hiAt (l : List Tm) (m : Int) (k : Nat) : Bool := (l.take k).any fun t => shiftErr t m != 0
theorem hiAt_succ (l : List Tm) (m : Int) (k : Nat) (h : k < l.length) : hiAt l m (k + 1) = (hiAt l m k || (shiftErr l[k] m != 0)) := by
  unfold hiAt
  rw [List.take_succ_eq_append_getElem h, List.any_append]; simp
theorem map_take_succ {β : Type} (l : List Tm) (f : Tm → β) (k : Nat) (h : k < l.length) : (l.take (k + 1)).map f = (l.take k).map f ++ [f l[k]] := by
  rw [List.take_succ_eq_append_getElem h, List.map_append]; rfl
theorem news4' {w : World} {a b c d : Value} {t : TypeId} (H : Nat) (hH : w.heap.size = H) : ∀ (j : Nat) (u : Value), [a, b, c, d][j]? = some u → (w.alloc (.cells #[a, b, c, d] t)).cell? ((⟨H, 0, none⟩ : Addr).add j) = some u := by
  subst hH
  exact news4
theorem row_in {W : World} {base : Nat} {e : TypeId} {v : Value} {l : List Tm} {xs : List Value} (h : W.ownsRow base e 4 v l.length xs) (hc : Tm.cellsP W (okRow base W v) l xs) (hlen : l.length ≤ 2513169434900) : Tm.sliceIn W W.heap.size l v :=
  Tm.sliceIn_of_P (fun _ h => h) (Tm.sliceP_of_owns h hc hlen (ok' := (· < W.heap.size)) (fun _ hb => hb.2.1) (fun b hb => (h.lt b hb).2))
/-- What stays while the rows are made: the numbered terms, the shifted ones. -/
structure NSt (w : World) (xs us : List Tm) (svx svu : Value) (W : World) : Prop where
  bl : Below w.heap.size w W
  x : Tm.sliceIn W W.heap.size xs svx
  u : Tm.sliceIn W W.heap.size us svu
theorem slice_next {W W' : World} {l : List Tm} {sv : Value} (h : Tm.sliceIn W W.heap.size l sv) (hb : Below W.heap.size W W') : Tm.sliceIn W' W'.heap.size l sv := Tm.sliceIn_mono (Tm.sliceIn_below h hb (Nat.le_refl _)) hb.size
theorem ints_next {W W' : World} {l : List Int} {v : Value} (h : intsIn W W.heap.size l v) (hb : Below W.heap.size W W') : intsIn W' W'.heap.size l v := intsIn_mono (intsIn_below h hb (Nat.le_refl _)) hb.size
theorem NSt.next {w : World} {xs us : List Tm} {svx svu : Value} {W W' : World} (h : NSt w xs us svx svu W) (hb : Below W.heap.size W W') : NSt w xs us svx svu W' := ⟨h.bl.trans (hb.mono h.bl.size), slice_next h.x hb, slice_next h.u hb⟩
theorem innP_mono {W W' : World} {t : Tm} {sv : Value} {lo lo' : Nat} (h : Tm.innP W (fun x => lo ≤ x ∧ x < W.heap.size) t sv) (hlo : lo' ≤ lo) (hb : Below W.heap.size W W') : Tm.innP W' (fun x => lo' ≤ x ∧ x < W'.heap.size) t sv :=
  Tm.innP_same (fun b hb' => ⟨Nat.le_trans hlo hb'.1, Nat.lt_of_lt_of_le hb'.2 hb.size⟩) (fun b o u hb' hc => (hb.cell (p := ⟨b, o, none⟩) hb'.2).trans hc) _ _ h

set_option maxRecDepth 100000 in
set_option maxHeartbeats 8000000 in
theorem numbers2_any (l : List Tm) (m : Int) (w : World) (sv : Value) (hsl : Tm.sliceIn w w.heap.size l sv) (hm : 0 ≤ m ∧ m ≤ 65535) :
    Calls Try.prog 6 #[sv, .int .u16 m] w fun e w' => e = .returned (.bool true) ∧ Below w.heap.size w w' := by
  obtain ⟨g, cap, rfl, hcap, hlen, _⟩ := id hsl
  have HSL := Lib.hid hsl
  clear hsl
  obtain ⟨i0, hi, hz0, hz1, hz2⟩ := info_parts Try.infoTm
  go_enter Try.func6, Try.ntmps6
  go_wp2_with fail
  refine (some_any l w _ _ (Nat.le_refl _) HSL.out).mono ?_
  rintro e W1 ⟨rfl, hb1⟩
  have HB1 := Lib.hid hb1
  clear hb1
  cases hs : Tm.someB l with
  | false =>
    clear hs
    go_wp2_with fail
    refine (knows_any W1).mono ?_
    rintro e W2 ⟨rfl, hb2⟩
    go_wp2_with fail
    go_ret
    exact ⟨rfl, HB1.out.trans (hb2.mono HB1.out.size)⟩
  | true =>
    have hsz := some_sizes hs
    have hl100 : l.length ≤ 100 := by
      simp only [Tm.someB, Bool.and_eq_true, decide_eq_true_eq] at hs
      exact hs.2
    clear hs
    go_wp2_with fail
    refine (number_all l W1 _ (Tm.sliceIn_mono (Tm.sliceIn_below HSL.out HB1.out (Nat.le_refl _)) HB1.out.size) (by omega)).mono ?_
    rintro e W2 ⟨⟨gx, cx, rfl, hslx⟩, hb2⟩
    have HSX := Lib.hid hslx
    have HB2 := Lib.hid (HB1.out.trans (hb2.mono HB1.out.size))
    clear hslx hb2 HB1
    have hs2 := HB2.out.size
    go_wp2_with fail
    go_loopw [8, 9, 10] (fun up hi i wr => ∃ k : Nat, k ≤ l.length ∧ i = .int .i64 k ∧ hi = .bool (hiAt l m k) ∧ Hid (∀ j (h : j < l.length), j < k → l[j].right = true) ∧ Hid (∃ xs, wr.ownsRow W2.heap.size 24 4 up k xs ∧ Tm.cellsP wr (okRow W2.heap.size wr up) ((l.take k).map fun t => shiftTm t m) xs) ∧ Below W2.heap.size W2 wr) (fun _ _ i _ => l.length - (intOf i).toNat)
    case atStart => exact ⟨0, Nat.zero_le _, rfl, by simp [hiAt], fun j _ h => by omega, ⟨[], World.ownsRow_nil _ _ _ _, by simp [Tm.cellsP]⟩, Below.refl _ _⟩
    case round =>
      obtain ⟨k, hk, rfl, rfl, hp, hrow, hb⟩ := hrel
      have HB := Lib.hid hb
      have HROW := Lib.hid hrow.out
      have hws := hb.size
      have HBW := Lib.hid (HB2.out.trans (hb.mono HB2.out.size))
      by_cases hlt : k < l.length
      · obtain ⟨b, off, sv, rfl, hbB, g0, g1, g2, g3, hin'⟩ := Tm.sliceIn_get (Tm.sliceIn_below HSL.out HBW.out (Nat.le_refl _)) k hlt
        obtain ⟨_, ga, ca, rfl, _, _, _⟩ := Tm.inn_iff.1 hin'
        have hone : l[k].size ≤ 1000000 := by have := Tm.size_mem_le (List.getElem_mem hlt); omega
        have HIN := Lib.hid (Tm.inn_mono hin' HBW.out.size)
        clear hin' hrow hb
        go_wp2_with fail
        refine (rright_any l[k] wr _ _ (Nat.le_refl _) HIN.out hone).mono ?_
        rintro e w3 ⟨rfl, hb3⟩
        cases hr : l[k].right with
        | false =>
          have hall : l.all Tm.right = false := by
            rw [Bool.eq_false_iff]
            intro h
            rw [all_right h _ (List.getElem_mem hlt)] at hr
            cases hr
          rw [show (numTms l).length = 0 by unfold numTms; rw [if_neg (by simp [hall])]; rfl, show numN l = 0 by unfold numN; rw [if_neg (by simp [hall])], show numErr l = 1 by unfold numErr; rw [if_neg (by simp [hall])]]
          have HB3 := Lib.hid (HBW.out.trans (hb3.mono HBW.out.size))
          clear hr hall hb3
          go_wp2_with fail
          refine (knows_any w3).mono ?_
          rintro e w4 ⟨rfl, hb4⟩
          have HB4 := Lib.hid (HB3.out.trans (hb4.mono HB3.out.size))
          clear hb4
          go_wp2_with fail
          go_ret
          exact ⟨rfl, HB4.out⟩
        | true =>
          have HR := Lib.hid hr
          have hltb : b < wr.heap.size := Nat.lt_of_lt_of_le hbB HBW.out.size
          have d0 := (hb3.cell (p := ⟨b, off + k * 4, none⟩) hltb).trans g0
          have d1 := (hb3.cell (p := ⟨b, off + k * 4 + 1, none⟩) hltb).trans g1
          have d2 := (hb3.cell (p := ⟨b, off + k * 4 + 2, none⟩) hltb).trans g2
          have d3 := (hb3.cell (p := ⟨b, off + k * 4 + 3, none⟩) hltb).trans g3
          have HB3 := Lib.hid hb3
          clear hr g0 g1 g2 g3 hb3
          go_wp2_with fail
          refine (shift_allP l[k] m w3 _ (Tm.inn_mono (Tm.inn_below HIN.out HB3.out (Nat.le_refl _)) HB3.out.size) hone).mono ?_
          rintro e w4 ⟨⟨gs, cs, rfl, hps⟩, hb4⟩
          have hw3 := HB3.out.size
          have hw4 := hb4.size
          have hb5 := HB3.out.trans (hb4.mono hw3)
          have HB5 := Lib.hid (hb5.alloc (by omega) (Obj.cells #[.int .i64 (shiftTm l[k] m).kind, .string (shiftTm l[k] m).name, .int .i64 (shiftTm l[k] m).n, .slice gs (shiftTm l[k] m).args.length cs] 24 (0, 0)))
          have HPS := Lib.hid (innP_mono hps hw3 ((Below.refl _ _).alloc (Nat.le_refl _) (Obj.cells #[.int .i64 (shiftTm l[k] m).kind, .string (shiftTm l[k] m).name, .int .i64 (shiftTm l[k] m).n, .slice gs (shiftTm l[k] m).args.length cs] 24 (0, 0))))
          obtain ⟨xs, hown, hcells⟩ := HROW.out
          have HOWN := Lib.hid hown
          have HCELLS := Lib.hid hcells
          have hown2 := Lib.hid (ownsRow_below hown HB5.out)
          have HM := Lib.hid (map_take_succ l (fun t => shiftTm t m) k hlt)
          have HH := Lib.hid (hiAt_succ l m k hlt)
          clear hps hb4 hb5 hown hcells d0 d1 d2 d3
          cases hh : hiAt l m k with
          | true =>
            go_wp2_with (at_builtin; refine wpList_append_sep _ rfl _ _ 22 rfl W2.heap.size 24 i0 _ 4 56 Try.underlying22 hi hz0 hz1 hz2 rfl (by decide) u8 k xs rfl (hown2.out.alloc _) ⟨w4.heap.size + 1, 0, none⟩ 1 1 [.int .i64 (shiftTm l[k] m).kind, .string (shiftTm l[k] m).name, .int .i64 (shiftTm l[k] m).n, .slice gs (shiftTm l[k] m).args.length cs] rfl (by decide) rfl (news4' _ (by simp)) one4 (by unfold maxLen; omega) (by omega) (by simp; omega) ?_; intro v' w6 hown3 hgrow hsep)
            refine ⟨⟨k + 1, by omega, by go_num, by rw [HH.out, hh]; simp, fun j hj hjk => ?_, ⟨_, hown3, by rw [HM.out]; exact row_step HOWN.out HCELLS.out HB5.out (by omega) HPS.out hgrow hsep⟩, ((HB.out.trans (HB5.out.mono hws)).alloc (by simp; omega) _).grown hgrow (by simp; omega) (fun j e => (HOWN.out.lt j e).1)⟩, ?_⟩
            · by_cases hjj : j < k
              · exact hp.out j hj hjj
              · obtain rfl : j = k := by omega
                exact HR.out
            · simp [intOf]
              omega
          | false =>
            go_wp2_with (at_builtin; refine wpList_append_sep _ rfl _ _ 22 rfl W2.heap.size 24 i0 _ 4 56 Try.underlying22 hi hz0 hz1 hz2 rfl (by decide) u8 k xs rfl (hown2.out.alloc _) ⟨w4.heap.size + 1, 0, none⟩ 1 1 [.int .i64 (shiftTm l[k] m).kind, .string (shiftTm l[k] m).name, .int .i64 (shiftTm l[k] m).n, .slice gs (shiftTm l[k] m).args.length cs] rfl (by decide) rfl (news4' _ (by simp)) one4 (by unfold maxLen; omega) (by omega) (by simp; omega) ?_; intro v' w6 hown3 hgrow hsep)
            refine ⟨⟨k + 1, by omega, by go_num, by rw [HH.out, hh]; simp, fun j hj hjk => ?_, ⟨_, hown3, by rw [HM.out]; exact row_step HOWN.out HCELLS.out HB5.out (by omega) HPS.out hgrow hsep⟩, ((HB.out.trans (HB5.out.mono hws)).alloc (by simp; omega) _).grown hgrow (by simp; omega) (fun j e => (HOWN.out.lt j e).1)⟩, ?_⟩
            · by_cases hjj : j < k
              · exact hp.out j hj hjj
              · obtain rfl : j = k := by omega
                exact HR.out
            · simp [intOf]
              omega
      · obtain rfl : k = l.length := by omega
        have hall : l.all Tm.right = true := by
          rw [List.all_eq_true]
          intro t ht
          obtain ⟨j, hj, rfl⟩ := List.getElem_of_mem ht
          exact hp.out j hj hj
        have HALL := Lib.hid hall
        have hv4 : (varsOf l).length ≤ 4000 := by have := varsOf_length l; omega
        obtain ⟨xs, hown, hcells⟩ := HROW.out
        rw [List.take_length] at hcells
        have hup := row_in (l := l.map fun t => shiftTm t m) (by rw [List.length_map]; exact hown) hcells (by simp; omega)
        obtain ⟨gu, cu, hgu⟩ := owns_slice hown
        subst hgu
        have hn := NSt.mk HBW.out (slice_next HSX.out hb) hup
        rw [show numN l = ((varsOf l).length : Int) by unfold numN; rw [if_pos hall], show numErr l = 0 by unfold numErr; rw [if_pos hall]]
        clear hup hown hcells HROW hrow hb hp hall
        go_wp2_with fail
        refine (rvars_any l wr _ _ HBW.out.size (Tm.sliceIn_below HSL.out HBW.out (Nat.le_refl _)) (by omega)).mono ?_
        rintro e w7 ⟨vf, rfl, hvf, hb7⟩
        rw [withs_vars l ((plain_iff l).2 fun j hj => right_noArgs (all_right HALL.out _ (List.getElem_mem hj)))] at hvf
        obtain ⟨gf, cf, rfl, _, _, _⟩ := id hvf
        have HN7 := Lib.hid (hn.next hb7)
        have HVF := Lib.hid hvf
        clear hn hb7 hvf
        go_wp2_with fail
        go_loopw [14, 15] (fun to i wq => ∃ k : Nat, k ≤ (varsOf l).length ∧ i = .int .i64 k ∧ Hid (ownInts wq w7.heap.size to (places k)) ∧ Below w7.heap.size w7 wq) (fun _ i _ => (varsOf l).length - (intOf i).toNat)
        case atStart => exact ⟨0, Nat.zero_le _, rfl, World.ownsRow_nil _ _ _ _, Below.refl _ _⟩
        case round =>
          obtain ⟨wq, rfl⟩ : ∃ x, x = wr := ⟨_, rfl⟩
          obtain ⟨k, hk, rfl, hown, hb⟩ := hrel
          have HOWN := Lib.hid hown.out
          have HBQ := Lib.hid hb
          have hbz := hb.size
          clear hown hb
          by_cases hlt : k < (varsOf l).length
          · go_wp2_with (at_builtin; refine wpList_append_ints rfl _ _ rfl w7.heap.size u14 (places k) rfl (HOWN.out.alloc _) [(k : Int)] (some ⟨wq.heap.size, 0, none⟩) 1 rfl (src1 _ rfl) (by rw [places_length]; simp; omega) (by simp; omega) ?_; intro v' w8 hown' hgrow hlow)
            go_roundw
            case rel => exact ⟨k + 1, by omega, by go_num, by rw [places_succ]; exact hown', (HBQ.out.alloc hbz _).grown hgrow (by simp; omega) hlow⟩
            case measure => simp [intOf]; omega
          · obtain rfl : k = (varsOf l).length := by omega
            obtain ⟨gt, ct, hgt⟩ := owns_slice (show wq.ownsRow _ _ _ _ _ _ from HOWN.out)
            rw [places_length] at hgt
            subst hgt
            have HT := Lib.hid (ints_of_own HOWN.out (by rw [places_length]; omega))
            have HF := Lib.hid (ints_next HVF.out HBQ.out)
            have HN := Lib.hid (HN7.out.next HBQ.out)
            have hqz := HN.out.bl.size
            clear HOWN HVF HN7
            go_wp2_with fail
            go_loopw [16, 17] (fun want i wz => ∃ k : Nat, k ≤ l.length ∧ i = .int .i64 k ∧ Hid (∃ xs, wz.ownsRow wq.heap.size 24 4 want k xs ∧ Tm.cellsP wz (okRow wq.heap.size wz want) ((l.take k).map fun t => t.ren (toOf (varsOf l) (places (varsOf l).length))) xs) ∧ Below wq.heap.size wq wz) (fun _ i _ => l.length - (intOf i).toNat)
            case atStart => exact ⟨0, Nat.zero_le _, rfl, ⟨[], World.ownsRow_nil _ _ _ _, by simp [Tm.cellsP]⟩, Below.refl _ _⟩
            case round =>
              obtain ⟨wz, rfl⟩ : ∃ x, x = wr := ⟨_, rfl⟩
              obtain ⟨k, hk, rfl, hrow, hb⟩ := hrel
              have HROW := Lib.hid hrow.out
              have HBZ := Lib.hid hb
              have hbz2 := hb.size
              have HNZ := Lib.hid (HN.out.next hb)
              have HTZ := Lib.hid (ints_next HT.out hb)
              have HFZ := Lib.hid (ints_next HF.out hb)
              clear hrow hb
              by_cases hlt : k < l.length
              · obtain ⟨b, off, sv, rfl, hbB, g0, g1, g2, g3, hin'⟩ := Tm.sliceIn_get (Tm.sliceIn_below HSL.out HNZ.out.bl (Nat.le_refl _)) k hlt
                obtain ⟨_, ga, ca, rfl, _, _, _⟩ := Tm.inn_iff.1 hin'
                have hcall := Lib.hid (turn_any (varsOf l) (places (varsOf l).length) (by rw [places_length]; exact Nat.le_refl _) (places_wf (by omega)) l[k] wz _ _ _ _ (Nat.le_refl _) (Tm.inn_mono hin' HNZ.out.bl.size) HFZ.out HTZ.out (vars_cover (List.getElem_mem hlt)))
                obtain ⟨xs, hown, hcells⟩ := HROW.out
                have HOWN := Lib.hid hown
                have HCELLS := Lib.hid hcells
                have HM := Lib.hid (map_take_succ l (fun t => t.ren (toOf (varsOf l) (places (varsOf l).length))) k hlt)
                clear hin' hown hcells HROW
                go_wp2_with fail
                refine hcall.out.mono ?_
                rintro e w9 ⟨g9, c9, rfl, hp9, hb9⟩
                have HP9 := Lib.hid hp9
                have HB9 := Lib.hid hb9
                have hs9 := hb9.size
                have hown2 := Lib.hid (ownsRow_below HOWN.out hb9)
                clear hp9 hb9 hcall g0 g1 g2 g3
                go_wp2_with (at_builtin; refine wpList_append_sep _ rfl _ _ 22 rfl wq.heap.size 24 i0 _ 4 56 Try.underlying22 hi hz0 hz1 hz2 rfl (by decide) u16 k xs rfl (hown2.out.alloc _) ⟨w9.heap.size, 0, none⟩ 1 1 [.int .i64 (l[k].ren (toOf (varsOf l) (places (varsOf l).length))).kind, .string (l[k].ren (toOf (varsOf l) (places (varsOf l).length))).name, .int .i64 (l[k].ren (toOf (varsOf l) (places (varsOf l).length))).n, .slice g9 (l[k].ren (toOf (varsOf l) (places (varsOf l).length))).args.length c9] rfl (by decide) rfl news4 one4 (by unfold maxLen; omega) (by omega) (by simp; omega) ?_; intro v' w10 hown3 hgrow hsep)
                go_roundw
                case rel => exact ⟨k + 1, by omega, by go_num, ⟨_, hown3, by rw [HM.out]; exact row_step HOWN.out HCELLS.out HB9.out (by omega) HP9.out hgrow hsep⟩, ((HBZ.out.trans (HB9.out.mono hbz2)).alloc (by omega) _).grown hgrow (by simp; omega) (fun j e => (HOWN.out.lt j e).1)⟩
                case measure => simp [intOf]; omega
              · obtain rfl : k = l.length := by omega
                obtain ⟨xs, hown, hcells⟩ := HROW.out
                rw [List.take_length, turn_places HALL.out] at hcells
                have hnl : (numTms l).length = l.length := by unfold numTms; rw [if_pos HALL.out, Tm.rens_length]
                have hwant := row_in (l := numTms l) (by rw [hnl]; exact hown) hcells (by rw [hnl]; omega)
                obtain ⟨gw, cw, hgw⟩ := owns_slice hown
                subst hgw
                obtain ⟨ha1, ha2, ha3⟩ := numbered_again HALL.out (by omega)
                rw [show numN l = ((varsOf l).length : Int) by unfold numN; rw [if_pos HALL.out]] at ha2
                have HW := Lib.hid hwant
                have HA1 := Lib.hid ha1
                have HA2 := Lib.hid ha2
                have HA3 := Lib.hid ha3
                have hxs : Tm.sizes (numTms l) ≤ 4000 := by
                  unfold numTms
                  rw [if_pos HALL.out, Tm.rens_map, sizes_map l _ fun t ht => size_ren _ t (right_noArgs (all_right HALL.out t ht))]
                  exact hsz
                have hus : Tm.sizes (l.map fun t => shiftTm t m) ≤ 4000 := by
                  have : ∀ l : List Tm, (∀ t ∈ l, t.right = true) → Tm.sizes (l.map fun t => shiftTm t m) ≤ Tm.sizes l := by
                    intro l
                    induction l with
                    | nil => intro _; exact Nat.le_refl _
                    | cons t r ih =>
                      intro h
                      have h1 := shift_size (h t (by simp)) m
                      have h2 := ih fun u hu => h u (by simp [hu])
                      simp only [List.map_cons, Tm.sizes]
                      omega
                  exact Nat.le_trans (this l (all_right HALL.out)) hsz
                clear hown hcells HROW hwant ha1 ha2 ha3 hnl
                go_wp2_with fail
                refine (number_all (numTms l) wz _ HNZ.out.x (by omega)).mono ?_
                rintro e Z1 ⟨⟨gy, cy, rfl, hy⟩, hz1⟩
                rw [HA1.out] at hy ⊢
                rw [HA2.out, HA3.out]
                have HY := Lib.hid hy
                have HN1 := Lib.hid (HNZ.out.next hz1)
                have HW1 := Lib.hid (slice_next HW.out hz1)
                clear hy hz1 HNZ HW
                go_wp2_with fail
                refine (sameall_any (numTms l) (numTms l) Z1 _ _ _ (Nat.le_refl _) HN1.out.x HW1.out).mono ?_
                rintro e Z2 ⟨rfl, hz2⟩
                rw [decide_eq_true rfl]
                have HY2 := Lib.hid (slice_next HY.out hz2)
                have HN2 := Lib.hid (HN1.out.next hz2)
                clear hz2 HN1 HY HW1
                go_wp2_with fail
                refine (sameall_any (numTms l) (numTms l) Z2 _ _ _ (Nat.le_refl _) HY2.out HN2.out.x).mono ?_
                rintro e Z3 ⟨rfl, hz3⟩
                rw [decide_eq_true rfl]
                have HN3 := Lib.hid (HN2.out.next hz3)
                clear hz3 HN2 HY2
                go_wp2_with fail
                refine (number_all (l.map fun t => shiftTm t m) Z3 _ HN3.out.u (by omega)).mono ?_
                rintro e Z4 ⟨⟨gz, cz, rfl, hz⟩, hz4⟩
                have HZ := Lib.hid hz
                have HN4 := Lib.hid (HN3.out.next hz4)
                clear hz hz4 HN3
                cases hh : hiAt l m l.length with
                | true =>
                  go_wp2_with fail
                  refine (knows_any Z4).mono ?_
                  rintro e Z5 ⟨rfl, hz5⟩
                  have HN5 := Lib.hid (HN4.out.bl.trans (hz5.mono HN4.out.bl.size))
                  clear hz5
                  go_wp2_with fail
                  go_ret
                  exact ⟨rfl, HN5.out⟩
                | false =>
                  have hall0 : ∀ t ∈ l, shiftErr t m = 0 := by
                    intro t ht
                    unfold hiAt at hh
                    rw [List.take_length, List.any_eq_false] at hh
                    have := hh t ht
                    simpa using this
                  obtain ⟨hn1, hn2, hn3⟩ := numbered_shifted HALL.out hall0
                  rw [show numN l = ((varsOf l).length : Int) by unfold numN; rw [if_pos HALL.out]] at hn2
                  rw [hn1, hn2, hn3]
                  have hz := HZ.out
                  rw [hn1] at hz
                  have HZ2 := Lib.hid hz
                  clear hz hn1 hn2 hn3 hall0 HZ
                  go_wp2_with fail
                  refine (sameall_any (numTms l) (numTms l) Z4 _ _ _ (Nat.le_refl _) HZ2.out HN4.out.x).mono ?_
                  rintro e Z5 ⟨rfl, hz5⟩
                  rw [decide_eq_true rfl]
                  have HN5 := Lib.hid (HN4.out.bl.trans (hz5.mono HN4.out.bl.size))
                  clear hz5
                  go_wp2_with fail
                  refine (knows_any Z5).mono ?_
                  rintro e Z6 ⟨rfl, hz6⟩
                  have HN6 := Lib.hid (HN5.out.trans (hz6.mono HN5.out.size))
                  clear hz6
                  go_wp2_with fail
                  go_ret
                  exact ⟨rfl, HN6.out⟩
end Go.Proofs.Ytkmaaaednbjjkaa
