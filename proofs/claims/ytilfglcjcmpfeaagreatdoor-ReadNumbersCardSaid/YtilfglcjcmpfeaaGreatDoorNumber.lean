/-
  The program's Number.
-/
import Derived.Test.YtilfglcjcmpfeaaGreatDoorVars
import Derived.Test.YtilfglcjcmpfeaaGreatDoorRen
import Derived.Maps.OwnOps
namespace Go.Proofs.YtilfglcjcmpfeaaGreatDoor
open Go.RowKit Go.Shelf Go.Maps

theorem addV_nodup (ks : List Key) : ∀ vs : List Int, vs.Nodup → (ks.foldl addV vs).Nodup := by
  induction ks with
  | nil => intro vs h; exact h
  | cons x r ih =>
    intro vs h
    refine ih _ ?_
    unfold addV
    split
    · rename_i hx
      exact List.nodup_append.2 ⟨h, by simp, fun a ha b hb => by simp at hb; subst hb; exact fun e => hx.2 (e ▸ ha)⟩
    · exact h
theorem varsOf_nodup (l : List Tm) : (varsOf l).Nodup := addV_nodup _ _ List.nodup_nil

/-- The number that a variable gets. -/
def posOf (vs : List Int) (v : Int) : Int := if v ∈ vs then (vs.idxOf v : Int) else 0
theorem posOf_wf (vs : List Int) (h : vs.length ≤ 1000000) (v : Int) : (Lit.int .i64 (posOf vs v)).wf = true := by
  refine WalkArith.wf_i64 ?_
  unfold posOf
  split
  · rename_i hm
    have := List.idxOf_lt_length_of_mem hm
    omega
  · omega

/-- The map when k variables have got their numbers. -/
def numD (vs : List Int) : Nat → DataW Unit
  | 0 => .map []
  | k + 1 => (numD vs k).put (.int .i64 (vs.getD k 0)) (.lit (.int .i64 (k : Int)))
theorem numD_isMap (vs : List Int) : ∀ k, IsMap (numD vs k)
  | 0 => isMap_empty
  | k + 1 => (numD_isMap vs k).put _ _
theorem numD_at (vs : List Int) (hn : vs.Nodup) (v : Int) : ∀ k, k ≤ vs.length → (numD vs k).atKey (.int .i64 v) (.lit (.int .i64 0)) = .lit (.int .i64 (if v ∈ vs.take k then (vs.idxOf v : Int) else 0))
  | 0, _ => by simp [numD, DataW.atKey]
  | k + 1, hk => by
    have hlt : k < vs.length := by omega
    have ih := numD_at vs hn v k (by omega)
    have hg : vs.getD k 0 = vs[k] := by simp [List.getD, hlt]
    simp only [numD, hg]
    by_cases e : v = vs[k]
    · subst e
      rw [atKey_put_same (numD_isMap vs k) (by simp [WideAt.IsKeyLit])]
      have : vs[k] ∈ vs.take (k + 1) := by
        rw [List.take_succ_eq_append_getElem hlt]; exact List.mem_append.2 (.inr (List.mem_singleton.2 rfl))
      rw [if_pos this, List.Nodup.idxOf_getElem hn]
    · rw [atKey_put_other (fun e' => e (by cases e'; rfl)), ih]
      have : (v ∈ vs.take (k + 1)) ↔ v ∈ vs.take k := by
        rw [List.take_succ_eq_append_getElem hlt, List.mem_append, List.mem_singleton]
        exact ⟨fun h => h.elim id (fun e' => absurd e' e), .inl⟩
      simp only [this]
theorem numD_pos (vs : List Int) (hn : vs.Nodup) (v : Int) : (numD vs vs.length).atKey (.int .i64 v) (.lit (.int .i64 0)) = .lit (.int .i64 (posOf vs v)) := by
  rw [numD_at vs hn v _ (Nat.le_refl _), List.take_length]; rfl

theorem numD_has (vs : List Int) (x : Int) : ∀ k, k ≤ vs.length → has (numD vs k) (.int .i64 x) = decide (x ∈ vs.take k)
  | 0, _ => by simp [numD, has]
  | k + 1, hk => by
    have hlt : k < vs.length := by omega
    have ih := numD_has vs x k (by omega)
    have hg : vs.getD k 0 = vs[k] := by simp [List.getD, hlt]
    simp only [numD, hg]
    rw [Bool.eq_iff_iff, List.take_succ_eq_append_getElem hlt]
    by_cases e : x = vs[k]
    · subst e
      rw [has_put_same (numD_isMap vs k) (by simp [WideAt.IsKeyLit])]
      simp only [decide_eq_true_eq, List.mem_append, List.mem_singleton, or_true]
    · rw [has_put_other (fun e' => e (by cases e'; rfl)), ih]
      simp only [decide_eq_true_eq, List.mem_append, List.mem_singleton, e, or_false]
theorem numD_tidy (vs : List Int) : ∀ k, Tidy (numD vs k)
  | 0 => tidy_empty
  | k + 1 => (numD_tidy vs k).put (by simp [WideAt.IsKeyLit]) _
theorem numD_size (vs : List Int) (hn : vs.Nodup) : ∀ k, k ≤ vs.length → size (numD vs k) = k
  | 0, _ => rfl
  | k + 1, hk => by
    have hlt : k < vs.length := by omega
    have ih := numD_size vs hn k (by omega)
    have hg : vs.getD k 0 = vs[k] := by simp [List.getD, hlt]
    have hno : vs[k] ∉ vs.take k := by
      intro hm
      obtain ⟨j, hj, e⟩ := List.getElem_of_mem hm
      rw [List.getElem_take] at e
      have := (List.getElem_inj hn).1 e
      simp at hj
      omega
    simp only [numD, hg]
    rw [size_put (numD_tidy vs k), numD_has vs _ k (by omega), decide_eq_false hno, ih]
    simp

theorem Tryz.zeroInt (w : World) : (zeroValue 3).run Tryz.prog w = .ok (.int .i64 0) w := by kernel_rfl

/-- The closure's captured variable leads to the map. -/
def NumTo (Bm b : Nat) (vs : List Int) (W : World) : Prop := Boxed W Bm 78 (.map (some b)) ∧ W.ownsMap Tryz.prog 3 (plainElem (H := Unit) Tryz.prog 3) b vs.length (numD vs vs.length)
theorem NumTo.below {Bm b : Nat} {vs : List Int} {W W' : World} (h : NumTo Bm b vs W) (hb : Below W.heap.size W W') : NumTo Bm b vs W' := by
  refine ⟨(hb.block _ h.1.lt).trans h.1, ?_⟩
  obtain ⟨es, ck, hm, r⟩ := h.2
  exact ⟨es, ck, (hb.block _ (Array.getElem?_eq_some_iff.1 hm).1).trans hm, r⟩

theorem NumTo.grown {Bm b : Nat} {vs : List Int} {W W' : World} {row : Option Nat} (h : NumTo Bm b vs W) (hg : W.grownBy W' row) (hr : ∀ r, row = some r → Bm ≠ r ∧ b ≠ r) : NumTo Bm b vs W' :=
  ⟨h.1.kept hg (fun e => (hr Bm e.symm).1 rfl), h.2.kept hg (fun e => (hr b e.symm).2 rfl)⟩
theorem NumTo.alloc {Bm b : Nat} {vs : List Int} {W : World} (h : NumTo Bm b vs W) (o : Obj) : NumTo Bm b vs (W.alloc o) := ⟨h.1.alloc o, h.2.alloc o⟩

set_option maxHeartbeats 400000 in
theorem number1_any (vs : List Int) (hn : vs.Nodup) (Bm b : Nat) (v : Int) (w : World) (hT : NumTo Bm b vs w) (hv : (Lit.int .i64 v).wf = true) :
    Calls Tryz.prog 24 #[.int .i64 v, .pointer (some ⟨Bm, 0, none⟩)] w fun e w' => e = .returned (.int .i64 (posOf vs v)) ∧ Below w.heap.size w w' := by
  have hc := hT.1.cell
  have hown := Lib.hid hT.2
  have hp := Lib.hid (numD_pos vs hn v)
  clear hT
  go_enter Tryz.func24, Tryz.ntmps24
  go_wp2_with (at_lookup; refine wpList_lookup_own_int _ rfl _ _ 78 rfl 3 3 .i64 (Maps.int_keyed Tryz.underlying3) Tryz.underlying78 Tryz.underlying3 (Tryz.zeroInt _) b vs.length _ rfl hown.out _ _ rfl (Maps.keyOf_int_mk Tryz.underlying3 hv) ?_; intro c hat hwc)
  go_ret
  have e := hp.out
  rw [hat] at e
  refine ⟨?_, Below.refl _ _⟩
  cases e
  rfl

/-- What Number tells. -/
def NumberPost (l : List Tm) (w : World) (e : Ending) (w' : World) : Prop :=
  Below w.heap.size w w' ∧ ((l.all Tm.right = false ∧ e = .returned (.tuple #[.slice none 0 0, .int .i64 0, .int .i64 1])) ∨
    (l.all Tm.right = true ∧ ∃ sv', e = .returned (.tuple #[sv', .int .i64 (varsOf l).length, .int .i64 0]) ∧ Tm.sliceP w' (fun x => w.heap.size ≤ x ∧ x < w'.heap.size) (Tm.rens (posOf (varsOf l)) l) sv'))

set_option maxRecDepth 100000 in
set_option maxHeartbeats 4000000 in
theorem tnumber_any (l : List Tm) (w : World) (sv : Value) (hsl : Tm.sliceIn w w.heap.size l sv) (hsz : Tm.sizes l ≤ 1000000) :
    Calls Tryz.prog 13 #[sv] w fun e w' => NumberPost l w e w' := by
  have hsl0 := hsl
  obtain ⟨g, cap, rfl, hcap, hlen, _⟩ := hsl0
  have HSL := Lib.hid hsl
  have hmm := @run_makeMap Tryz.prog
  have HSZ := Lib.hid (fun (t : Tm) (ht : t ∈ l) => Nat.le_trans (Tm.size_mem_le ht) hsz)
  clear hsl
  go_enter Tryz.func13, Tryz.ntmps13
  go_wp2_with fail
  go_loopw [6, 15] (fun _ i wr => ∃ k : Nat, k ≤ l.length ∧ i = .int .i64 k ∧ Hid (∀ j (h : j < l.length), j < k → l[j].right = true) ∧ Hid (Below w.heap.size w wr)) (fun _ i _ => l.length - (intOf i).toNat)
  case atStart => exact ⟨0, Nat.zero_le _, rfl, fun j _ h => by omega, Below.refl _ _⟩
  case round =>
    obtain ⟨k, hk, rfl, hp, hb⟩ := hrel
    have hbs := hb.out.size
    by_cases hlt : k < l.length
    · obtain ⟨b, off, sv, rfl, hbB, g0, g1, g2, g3, hin'⟩ := Tm.sliceIn_get (Tm.sliceIn_below HSL.out hb.out (Nat.le_refl _)) k hlt
      obtain ⟨_, ga, capa, rfl, _, _, _⟩ := Tm.inn_iff.1 hin'
      have HIN := Lib.hid hin'
      clear hin'
      go_wp2_with fail
      refine (tright_any l[k] _ _ (Tm.inn_mono (Tm.inn_below HIN.out (n₀ := wr.heap.size) ((Below.refl _ _).alloc (Nat.le_refl _) _) hbs) (by simp; omega)) (HSZ.out _ (List.getElem_mem hlt))).mono ?_
      rintro e w1 ⟨rfl, hb1⟩
      have HB1 := Lib.hid (hb.out.trans ((((Below.refl wr.heap.size wr).alloc (Nat.le_refl _) _).trans (hb1.mono (by simp))).mono hbs))
      clear hb1
      cases hq : l[k].right with
      | true =>
        have HQ := Lib.hid hq
        clear hq
        go_wp2_with fail
        go_roundw
        case rel =>
          refine ⟨k + 1, by omega, by go_num, fun j hj hjk => ?_, HB1⟩
          by_cases hjj : j < k
          · exact hp.out j hj hjj
          · obtain rfl : j = k := by omega
            exact HQ.out
        case measure => simp [intOf]; omega
      | false =>
        have hf : l.all Tm.right = false := by
          rw [Bool.eq_false_iff]
          intro h
          have := List.all_eq_true.1 h _ (List.getElem_mem hlt)
          rw [hq] at this
          cases this
        have HF := Lib.hid hf
        clear hf hq
        go_wp2_with fail
        go_ret3
        exact ⟨HB1.out, .inl ⟨HF.out, rfl⟩⟩
    · have hall : l.all Tm.right = true := by
        rw [List.all_eq_true]
        intro x hx
        obtain ⟨j, hj, rfl⟩ := List.getElem_of_mem hx
        exact hp.out j hj (by omega)
      have HALL := Lib.hid hall
      obtain rfl : k = l.length := by omega
      clear hall hp
      go_wp2_with fail
      refine (tvars_any l _ _ (Tm.sliceIn_mono (Tm.sliceIn_below HSL.out (hb.out.trans ((((Below.refl wr.heap.size wr).alloc (Nat.le_refl _) (.map #[] 0)).alloc (by simp) (.cells #[.map (some wr.heap.size)] 78)).mono hbs)) (Nat.le_refl _)) (by simp; omega)) hsz).mono ?_
      rintro e w1 ⟨v, rfl, hvs, hb1, hwf⟩
      obtain ⟨vs, hvs0⟩ : ∃ vs, varsOf l = vs := ⟨_, rfl⟩
      rw [hvs0] at hvs hwf
      have HVS0 := Lib.hid hvs0
      have HNOD := Lib.hid (hvs0 ▸ varsOf_nodup l)
      obtain ⟨gv, cv, rfl, hv1, hv2, _⟩ := id hvs
      have bM : Boxed w1 (wr.heap.size + 1) 78 (.map (some wr.heap.size)) := (hb1.block _ (by simp)).trans (newBlk _ _ _ (by simp))
      have hmap : w1.ownsMap Tryz.prog 3 (plainElem (H := Unit) Tryz.prog 3) wr.heap.size 0 (.map []) := by
        obtain ⟨es, ck, hm, r⟩ := (World.ownsMap_made wr Tryz.prog 3 (plainElem (H := Unit) Tryz.prog 3)).alloc (.cells #[.map (some wr.heap.size)] 78)
        exact ⟨es, ck, (hb1.block _ (Array.getElem?_eq_some_iff.1 hm).1).trans hm, r⟩
      have hb2 := hb.out.trans (((((Below.refl wr.heap.size wr).alloc (Nat.le_refl _) (.map #[] 0)).alloc (by simp) (.cells #[.map (some wr.heap.size)] 78)).trans (hb1.mono (by simp; omega))).mono hbs)
      have hs1 := hb1.size
      simp only [World.size_alloc] at hs1
      have HVS := Lib.hid hvs
      have HWF := Lib.hid hwf
      have BM := Lib.hid bM
      have HMAP := Lib.hid hmap
      have HB2 := Lib.hid hb2
      clear hvs0 hvs hwf bM hmap hb1 hb2 hb
      go_wp2_with fail
      obtain ⟨m0, hm0⟩ : ∃ m0, wr.heap.size = m0 := ⟨_, rfl⟩
      rw [hm0] at BM HMAP hs1 hbs ⊢
      clear hm0
      go_loopw [8, 9, 27] (fun _ _ i wq => ∃ k : Nat, k ≤ vs.length ∧ i = .int .i64 k ∧ Hid (Boxed wq (m0 + 1) 78 (.map (some m0)) ∧ wq.ownsMap Tryz.prog 3 (plainElem (H := Unit) Tryz.prog 3) m0 k (numD vs k) ∧ intsIn wq w1.heap.size vs (.slice gv vs.length cv) ∧ Below w.heap.size w wq ∧ m0 + 2 ≤ wq.heap.size ∧ w1.heap.size ≤ wq.heap.size)) (fun _ _ i _ => vs.length - (intOf i).toNat)
      case atStart => exact ⟨0, Nat.zero_le _, rfl, BM.out, HMAP.out, HVS.out, HB2.out, hs1, Nat.le_refl _⟩
      case round =>
        obtain ⟨k, hk, rfl, hinv⟩ := hrel
        obtain ⟨bM, hmap, hvs, hb, hsq, hsw⟩ := hinv.out
        have cM := bM.cell
        have BMq := Lib.hid bM
        have HMq := Lib.hid hmap
        have HVq := Lib.hid hvs
        have HBq := Lib.hid hb
        by_cases hlt : k < vs.length
        · obtain ⟨b, off, rfl, hbB, g0⟩ := intsIn_get hvs k hlt
          have hkw := Lib.hid (HWF.out _ (List.getElem_mem hlt))
          have hkm : k < maxLen := by unfold maxLen; omega
          have hiw : (Lit.int .i64 (k : Int)).wf = true := WalkArith.wf_i64 (by omega)
          have HIW := Lib.hid hiw
          clear hinv bM hmap hvs hb hiw
          go_wp2_with (at_mapUpdate; refine wpList_mapUpdate_own _ rfl _ _ _ 78 rfl 3 3 (Maps.int_keyed Tryz.underlying3) Tryz.underlying78 _ m0 k _ rfl HMq.out hkm _ _ _ rfl rfl (Maps.keyOf_int_mk Tryz.underlying3 hkw.out) _ [] (plainElem_int Tryz.underlying3 HIW.out) ?_; intro w2 hown2 hgrow2)
          go_roundw
          case rel =>
            have hme : ∃ es ck, wr.heap[m0]? = some (Obj.map es ck) := by
              obtain ⟨es, ck, hm, _⟩ := HMq.out
              exact ⟨es, ck, hm⟩
            refine ⟨k + 1, by omega, by go_num, BMq.out.kept hgrow2 (by simp), ?_, intsIn_map HVq.out hgrow2 hme, HBq.out.grown hgrow2 (by omega) (fun j e => by cases e; omega), by have := hgrow2.size; omega, by have := hgrow2.size; omega⟩
            have hg : vs.getD k 0 = vs[k] := by simp [List.getD, hlt]
            simp only [numD, hg]
            exact hown2
          case measure => simp [intOf]; omega
        · obtain rfl : k = vs.length := by omega
          clear hinv bM hmap hvs hb
          have hvl : vs.length ≤ 1000000 := by
            rw [← HVS0.out]
            exact Nat.le_trans (varsOf_length l) hsz
          have HPW := Lib.hid (posOf_wf vs hvl)
          obtain ⟨i0, hi, hz0, hz1, hz2⟩ := info_parts Tryz.infoTm
          obtain ⟨s2, hs2⟩ : ∃ s2, wr.heap.size = s2 := ⟨_, rfl⟩
          have HT : Hid (NumTo (m0 + 1) m0 vs wr) := ⟨BMq.out, HMq.out⟩
          have hsq' : m0 + 2 ≤ s2 := by omega
          have HS2 := Lib.hid (Nat.le_of_eq hs2.symm)
          have hws2 : w.heap.size ≤ s2 := by have := HBq.out.size; omega
          clear hs2 BMq HMq HVq cM
          go_wp2_with fail
          go_loopw [10, 12, 38] (fun v _ i wq => ∃ k : Nat, k ≤ l.length ∧ i = .int .i64 k ∧ Hid (∃ xs, wq.ownsRow s2 33 4 v k xs ∧ Tm.cellsP wq (okRow s2 wq v) (Tm.rens (posOf vs) (l.take k)) xs) ∧ Hid (NumTo (m0 + 1) m0 vs wq) ∧ Hid (Below w.heap.size w wq) ∧ s2 ≤ wq.heap.size) (fun _ _ i _ => l.length - (intOf i).toNat)
          case atStart => exact ⟨0, Nat.zero_le _, rfl, ⟨[], World.ownsRow_nil _ _ _ _, by simp [Tm.rens, Tm.cellsP]⟩, HT, HBq, HS2.out⟩
          case round =>
            obtain ⟨k, hk, rfl, hrow, hT, hb, hbs2⟩ := hrel
            by_cases hlt : k < l.length
            · obtain ⟨b, off, sv, rfl, hbB, g0, g1, g2, g3, hin'⟩ := Tm.sliceIn_get (Tm.sliceIn_below HSL.out hb.out (Nat.le_refl _)) k hlt
              obtain ⟨_, ga, capa, rfl, _, _, _⟩ := Tm.inn_iff.1 hin'
              have HIN := Lib.hid hin'
              have HM := Lib.hid (Tm.rens_take_succ (posOf vs) l k hlt)
              clear hin'
              go_wp2_with fail
              refine (rename_number (NumTo (m0 + 1) m0 vs) (fun W W' h hb => h.below hb) (.pointer (some ⟨m0 + 1, 0, none⟩)) (posOf vs) HPW.out (fun v W hT hv => number1_any vs HNOD.out (m0 + 1) m0 v W hT hv) l[k] _ w.heap.size _ (hT.out.alloc _) (by simp; omega) (Tm.inn_below HIN.out (n₀ := wr.heap.size) ((Below.refl _ _).alloc (Nat.le_refl _) _) (by omega))).mono ?_
              rintro e w2 ⟨sv', rfl, hp, hb2⟩
              obtain ⟨_, ga', capa', rfl, hc2, hl2, _⟩ := Tm.innP_iff.1 hp
              have hb2' : Below wr.heap.size wr w2 := ((Below.refl _ _).alloc (Nat.le_refl _) _).trans (hb2.mono (by simp))
              have HP := Lib.hid (Tm.innP_same (ok' := fun b => wr.heap.size ≤ b ∧ b < w2.heap.size) (fun b hb' => ⟨by have := hb'.1; simp at this; omega, hb'.2⟩) (fun _ _ _ _ h => h) _ _ hp)
              have HB2 := Lib.hid hb2'
              have HT2 := Lib.hid (hT.out.below hb2')
              have hsz2 := hb2'.size
              obtain ⟨xs, hown, hcells⟩ := hrow.out
              have HOWN := Lib.hid hown
              have HCELLS := Lib.hid hcells
              have hown2 := Lib.hid (ownsRow_below hown hb2')
              clear hp hb2 hb2' hown hcells
              go_wp2_with (at_builtin; refine wpList_append_sep _ rfl _ _ 31 rfl s2 33 i0 _ 4 56 Tryz.underlying31 hi hz0 hz1 hz2 rfl (by decide) u10 k xs rfl (hown2.out.alloc _) ⟨w2.heap.size, 0, none⟩ 1 1 [.int .i64 (l[k].ren (posOf vs)).kind, .string (l[k].ren (posOf vs)).name, .int .i64 (l[k].ren (posOf vs)).n, .slice ga' (l[k].ren (posOf vs)).args.length capa'] rfl (by decide) rfl news4 one4 (by unfold maxLen; omega) (by omega) (by simp; omega) ?_; intro v' w3 hown3 hgrow hsep)
              go_roundw
              case rel =>
                have hlo : ∀ j, u10.ownBlock = some j → s2 ≤ j := fun j e => (HOWN.out.lt j e).1
                refine ⟨k + 1, by omega, by go_num, ⟨_, hown3, ?_⟩, (HT2.out.alloc _).grown hgrow (fun r e => ⟨fun e' => by have := hlo r e; omega, fun e' => by have := hlo r e; omega⟩), ((hb.out.trans (HB2.out.mono (by omega))).alloc (by omega) _).grown hgrow (by simp; omega) (fun j e => by have := hlo j e; omega), by have := hgrow.size; simp at this; omega⟩
                rw [HM.out]
                exact row_step HOWN.out HCELLS.out HB2.out hbs2 HP.out hgrow hsep
              case measure => simp [intOf]; omega
            · obtain rfl : k = l.length := by omega
              obtain ⟨xs, hown, hcells⟩ := hrow.out
              obtain ⟨gr, cr, rfl⟩ := owns_slice hown
              rw [List.take_length] at hcells
              have HOWN := Lib.hid hown
              have HCELLS := Lib.hid hcells
              have cM := hT.out.1.cell
              have HSZD := Lib.hid (numD_size vs HNOD.out vs.length (Nat.le_refl _))
              clear hown hcells hrow
              go_wp2_with (at_len; refine wpList_len_own _ rfl _ 78 rfl 3 3 Tryz.underlying78 (plainElem (H := Unit) Tryz.prog 3) m0 vs.length _ rfl hT.out.2 ?_; rw [HSZD.out])
              go_ret3
              refine ⟨hb.out, .inr ⟨HALL.out, _, by rw [HVS0.out]; rfl, ?_⟩⟩
              rw [HVS0.out]
              have hll := Tm.rens_length (posOf vs) l
              exact sliceP_done (wr := wr) (lo := s2) (xs := xs) (by rw [hll]; exact HOWN.out) HCELLS.out (by omega) hws2 (Nat.le_refl _) (fun _ _ _ => rfl)
end Go.Proofs.YtilfglcjcmpfeaaGreatDoor
