/-
  The program's Number.
  What shifted, numbered and turned terms are, purely: no program here.
  Terms in boxes of their own, rows of one and of two terms, in memory; whether two terms are alike, by the program's Same.
  Two terms in boxes of their own, the first ones behind a world.
-/
import Derived.Test.YtliapkajonbndaaGreatDoorG24
import Derived.Test.YtliapkajonbndaaGreatDoorG25
import Derived.Maps.OwnOps
import Derived.Test.YtliapkajonbndaaGreatDoorG07
namespace Go.Proofs.YtliapkajonbndaaGreatDoor
open Go.RowKit Go.Shelf Go.Maps

theorem addV_nodup (ks : List Key) : ∀ vs : List Int, vs.Nodup → (ks.foldl addV vs).Nodup := by
  induction ks with
  | nil => intro vs h; exact h
  | cons x r ih =>
    intro vs h
    refine ih _ ?_
    unfold addV
    split
    · rename_i hx
      exact List.nodup_append.2 ⟨h, by simp, fun a ha b hb => by simp at hb; subst hb; exact fun e => hx.2 (e ▸ ha)⟩
    · exact h
theorem varsOf_nodup (l : List Tm) : (varsOf l).Nodup := addV_nodup _ _ List.nodup_nil

/-- The number that a variable gets. -/
def posOf (vs : List Int) (v : Int) : Int := if v ∈ vs then (vs.idxOf v : Int) else 0
theorem posOf_wf (vs : List Int) (h : vs.length ≤ 1000000) (v : Int) : (Lit.int .i64 (posOf vs v)).wf = true := by
  refine WalkArith.wf_i64 ?_
  unfold posOf
  split
  · rename_i hm
    have := List.idxOf_lt_length_of_mem hm
    omega
  · omega

/-- The map when k variables have got their numbers. -/
def numD (vs : List Int) : Nat → DataW Unit
  | 0 => .map []
  | k + 1 => (numD vs k).put (.int .i64 (vs.getD k 0)) (.lit (.int .i64 (k : Int)))
theorem numD_isMap (vs : List Int) : ∀ k, IsMap (numD vs k)
  | 0 => isMap_empty
  | k + 1 => (numD_isMap vs k).put _ _
theorem numD_at (vs : List Int) (hn : vs.Nodup) (v : Int) : ∀ k, k ≤ vs.length → (numD vs k).atKey (.int .i64 v) (.lit (.int .i64 0)) = .lit (.int .i64 (if v ∈ vs.take k then (vs.idxOf v : Int) else 0))
  | 0, _ => by simp [numD, DataW.atKey]
  | k + 1, hk => by
    have hlt : k < vs.length := by omega
    have ih := numD_at vs hn v k (by omega)
    have hg : vs.getD k 0 = vs[k] := by simp [List.getD, hlt]
    simp only [numD, hg]
    by_cases e : v = vs[k]
    · subst e
      rw [atKey_put_same (numD_isMap vs k) (by simp [WideAt.IsKeyLit])]
      have : vs[k] ∈ vs.take (k + 1) := by
        rw [List.take_succ_eq_append_getElem hlt]; exact List.mem_append.2 (.inr (List.mem_singleton.2 rfl))
      rw [if_pos this, List.Nodup.idxOf_getElem hn]
    · rw [atKey_put_other (fun e' => e (by cases e'; rfl)), ih]
      have : (v ∈ vs.take (k + 1)) ↔ v ∈ vs.take k := by
        rw [List.take_succ_eq_append_getElem hlt, List.mem_append, List.mem_singleton]
        exact ⟨fun h => h.elim id (fun e' => absurd e' e), .inl⟩
      simp only [this]
theorem numD_pos (vs : List Int) (hn : vs.Nodup) (v : Int) : (numD vs vs.length).atKey (.int .i64 v) (.lit (.int .i64 0)) = .lit (.int .i64 (posOf vs v)) := by
  rw [numD_at vs hn v _ (Nat.le_refl _), List.take_length]; rfl

theorem numD_has (vs : List Int) (x : Int) : ∀ k, k ≤ vs.length → has (numD vs k) (.int .i64 x) = decide (x ∈ vs.take k)
  | 0, _ => by simp [numD, has]
  | k + 1, hk => by
    have hlt : k < vs.length := by omega
    have ih := numD_has vs x k (by omega)
    have hg : vs.getD k 0 = vs[k] := by simp [List.getD, hlt]
    simp only [numD, hg]
    rw [Bool.eq_iff_iff, List.take_succ_eq_append_getElem hlt]
    by_cases e : x = vs[k]
    · subst e
      rw [has_put_same (numD_isMap vs k) (by simp [WideAt.IsKeyLit])]
      simp only [decide_eq_true_eq, List.mem_append, List.mem_singleton, or_true]
    · rw [has_put_other (fun e' => e (by cases e'; rfl)), ih]
      simp only [decide_eq_true_eq, List.mem_append, List.mem_singleton, e, or_false]
theorem numD_tidy (vs : List Int) : ∀ k, Tidy (numD vs k)
  | 0 => tidy_empty
  | k + 1 => (numD_tidy vs k).put (by simp [WideAt.IsKeyLit]) _
theorem numD_size (vs : List Int) (hn : vs.Nodup) : ∀ k, k ≤ vs.length → size (numD vs k) = k
  | 0, _ => rfl
  | k + 1, hk => by
    have hlt : k < vs.length := by omega
    have ih := numD_size vs hn k (by omega)
    have hg : vs.getD k 0 = vs[k] := by simp [List.getD, hlt]
    have hno : vs[k] ∉ vs.take k := by
      intro hm
      obtain ⟨j, hj, e⟩ := List.getElem_of_mem hm
      rw [List.getElem_take] at e
      have := (List.getElem_inj hn).1 e
      simp at hj
      omega
    simp only [numD, hg]
    rw [size_put (numD_tidy vs k), numD_has vs _ k (by omega), decide_eq_false hno, ih]
    simp

theorem Tryz.zeroInt (w : World) : (zeroValue 3).run Tryz.prog w = .ok (.int .i64 0) w := by kernel_rfl

/-- The closure's captured variable leads to the map. -/
def NumTo (Bm b : Nat) (vs : List Int) (W : World) : Prop := Boxed W Bm 60 (.map (some b)) ∧ W.ownsMap Tryz.prog 3 (plainElem (H := Unit) Tryz.prog 3) b vs.length (numD vs vs.length)
theorem NumTo.below {Bm b : Nat} {vs : List Int} {W W' : World} (h : NumTo Bm b vs W) (hb : Below W.heap.size W W') : NumTo Bm b vs W' := by
  refine ⟨(hb.block _ h.1.lt).trans h.1, ?_⟩
  obtain ⟨es, ck, hm, r⟩ := h.2
  exact ⟨es, ck, (hb.block _ (Array.getElem?_eq_some_iff.1 hm).1).trans hm, r⟩

theorem NumTo.grown {Bm b : Nat} {vs : List Int} {W W' : World} {row : Option Nat} (h : NumTo Bm b vs W) (hg : W.grownBy W' row) (hr : ∀ r, row = some r → Bm ≠ r ∧ b ≠ r) : NumTo Bm b vs W' :=
  ⟨h.1.kept hg (fun e => (hr Bm e.symm).1 rfl), h.2.kept hg (fun e => (hr b e.symm).2 rfl)⟩
theorem NumTo.alloc {Bm b : Nat} {vs : List Int} {W : World} (h : NumTo Bm b vs W) (o : Obj) : NumTo Bm b vs (W.alloc o) := ⟨h.1.alloc o, h.2.alloc o⟩

set_option maxHeartbeats 400000 in
theorem number1_any (vs : List Int) (hn : vs.Nodup) (Bm b : Nat) (v : Int) (w : World) (hT : NumTo Bm b vs w) (hv : (Lit.int .i64 v).wf = true) :
    Calls Tryz.prog 22 #[.int .i64 v, .pointer (some ⟨Bm, 0, none⟩)] w fun e w' => e = .returned (.int .i64 (posOf vs v)) ∧ Below w.heap.size w w' := by
  have hc := hT.1.cell
  have hown := Lib.hid hT.2
  have hp := Lib.hid (numD_pos vs hn v)
  clear hT
  go_enter Tryz.func22, Tryz.ntmps22
  go_wp2_with (at_lookup; refine wpList_lookup_own_int _ rfl _ _ 60 rfl 3 3 .i64 (Maps.int_keyed Tryz.underlying3) Tryz.underlying60 Tryz.underlying3 (Tryz.zeroInt _) b vs.length _ rfl hown.out _ _ rfl (Maps.keyOf_int_mk Tryz.underlying3 hv) ?_; intro c hat hwc)
  go_ret
  have e := hp.out
  rw [hat] at e
  refine ⟨?_, Below.refl _ _⟩
  cases e
  rfl

/-- What Number tells. -/
def NumberPost (l : List Tm) (w : World) (e : Ending) (w' : World) : Prop :=
  Below w.heap.size w w' ∧ ((l.all Tm.right = false ∧ e = .returned (.tuple #[.slice none 0 0, .int .i64 0, .int .i64 1])) ∨
    (l.all Tm.right = true ∧ ∃ sv', e = .returned (.tuple #[sv', .int .i64 (varsOf l).length, .int .i64 0]) ∧ Tm.sliceP w' (fun x => w.heap.size ≤ x ∧ x < w'.heap.size) (Tm.rens (posOf (varsOf l)) l) sv'))

set_option maxRecDepth 100000 in
set_option maxHeartbeats 4000000 in
theorem tnumber_any (l : List Tm) (w : World) (sv : Value) (hsl : Tm.sliceIn w w.heap.size l sv) (hsz : Tm.sizes l ≤ 1000000) :
    Calls Tryz.prog 9 #[sv] w fun e w' => NumberPost l w e w' := by
  have hsl0 := hsl
  obtain ⟨g, cap, rfl, hcap, hlen, _⟩ := hsl0
  have HSL := Lib.hid hsl
  have hmm := @run_makeMap Tryz.prog
  have HSZ := Lib.hid (fun (t : Tm) (ht : t ∈ l) => Nat.le_trans (Tm.size_mem_le ht) hsz)
  clear hsl
  go_enter Tryz.func9, Tryz.ntmps9
  go_wp2_with fail
  go_loopw [6, 15] (fun _ i wr => ∃ k : Nat, k ≤ l.length ∧ i = .int .i64 k ∧ Hid (∀ j (h : j < l.length), j < k → l[j].right = true) ∧ Hid (Below w.heap.size w wr)) (fun _ i _ => l.length - (intOf i).toNat)
  case atStart => exact ⟨0, Nat.zero_le _, rfl, fun j _ h => by omega, Below.refl _ _⟩
  case round =>
    obtain ⟨k, hk, rfl, hp, hb⟩ := hrel
    have hbs := hb.out.size
    by_cases hlt : k < l.length
    · obtain ⟨b, off, sv, rfl, hbB, g0, g1, g2, g3, hin'⟩ := Tm.sliceIn_get (Tm.sliceIn_below HSL.out hb.out (Nat.le_refl _)) k hlt
      obtain ⟨_, ga, capa, rfl, _, _, _⟩ := Tm.inn_iff.1 hin'
      have HIN := Lib.hid hin'
      clear hin'
      go_wp2_with fail
      refine (tright_any l[k] _ _ (Tm.inn_mono (Tm.inn_below HIN.out (n₀ := wr.heap.size) ((Below.refl _ _).alloc (Nat.le_refl _) _) hbs) (by simp; omega)) (HSZ.out _ (List.getElem_mem hlt))).mono ?_
      rintro e w1 ⟨rfl, hb1⟩
      have HB1 := Lib.hid (hb.out.trans ((((Below.refl wr.heap.size wr).alloc (Nat.le_refl _) _).trans (hb1.mono (by simp))).mono hbs))
      clear hb1
      cases hq : l[k].right with
      | true =>
        have HQ := Lib.hid hq
        clear hq
        go_wp2_with fail
        go_roundw
        case rel =>
          refine ⟨k + 1, by omega, by go_num, fun j hj hjk => ?_, HB1⟩
          by_cases hjj : j < k
          · exact hp.out j hj hjj
          · obtain rfl : j = k := by omega
            exact HQ.out
        case measure => simp [intOf]; omega
      | false =>
        have hf : l.all Tm.right = false := by
          rw [Bool.eq_false_iff]
          intro h
          have := List.all_eq_true.1 h _ (List.getElem_mem hlt)
          rw [hq] at this
          cases this
        have HF := Lib.hid hf
        clear hf hq
        go_wp2_with fail
        go_ret3
        exact ⟨HB1.out, .inl ⟨HF.out, rfl⟩⟩
    · have hall : l.all Tm.right = true := by
        rw [List.all_eq_true]
        intro x hx
        obtain ⟨j, hj, rfl⟩ := List.getElem_of_mem hx
        exact hp.out j hj (by omega)
      have HALL := Lib.hid hall
      obtain rfl : k = l.length := by omega
      clear hall hp
      go_wp2_with fail
      refine (tvars_any l _ _ (Tm.sliceIn_mono (Tm.sliceIn_below HSL.out (hb.out.trans ((((Below.refl wr.heap.size wr).alloc (Nat.le_refl _) (.map #[] 0)).alloc (by simp) (.cells #[.map (some wr.heap.size)] 60)).mono hbs)) (Nat.le_refl _)) (by simp; omega)) hsz).mono ?_
      rintro e w1 ⟨v, rfl, hvs, hb1, hwf⟩
      obtain ⟨vs, hvs0⟩ : ∃ vs, varsOf l = vs := ⟨_, rfl⟩
      rw [hvs0] at hvs hwf
      have HVS0 := Lib.hid hvs0
      have HNOD := Lib.hid (hvs0 ▸ varsOf_nodup l)
      obtain ⟨gv, cv, rfl, hv1, hv2, _⟩ := id hvs
      have bM : Boxed w1 (wr.heap.size + 1) 60 (.map (some wr.heap.size)) := (hb1.block _ (by simp)).trans (newBlk _ _ _ (by simp))
      have hmap : w1.ownsMap Tryz.prog 3 (plainElem (H := Unit) Tryz.prog 3) wr.heap.size 0 (.map []) := by
        obtain ⟨es, ck, hm, r⟩ := (World.ownsMap_made wr Tryz.prog 3 (plainElem (H := Unit) Tryz.prog 3)).alloc (.cells #[.map (some wr.heap.size)] 60)
        exact ⟨es, ck, (hb1.block _ (Array.getElem?_eq_some_iff.1 hm).1).trans hm, r⟩
      have hb2 := hb.out.trans (((((Below.refl wr.heap.size wr).alloc (Nat.le_refl _) (.map #[] 0)).alloc (by simp) (.cells #[.map (some wr.heap.size)] 60)).trans (hb1.mono (by simp; omega))).mono hbs)
      have hs1 := hb1.size
      simp only [World.size_alloc] at hs1
      have HVS := Lib.hid hvs
      have HWF := Lib.hid hwf
      have BM := Lib.hid bM
      have HMAP := Lib.hid hmap
      have HB2 := Lib.hid hb2
      clear hvs0 hvs hwf bM hmap hb1 hb2 hb
      go_wp2_with fail
      obtain ⟨m0, hm0⟩ : ∃ m0, wr.heap.size = m0 := ⟨_, rfl⟩
      rw [hm0] at BM HMAP hs1 hbs ⊢
      clear hm0
      go_loopw [8, 9, 27] (fun _ _ i wq => ∃ k : Nat, k ≤ vs.length ∧ i = .int .i64 k ∧ Hid (Boxed wq (m0 + 1) 60 (.map (some m0)) ∧ wq.ownsMap Tryz.prog 3 (plainElem (H := Unit) Tryz.prog 3) m0 k (numD vs k) ∧ intsIn wq w1.heap.size vs (.slice gv vs.length cv) ∧ Below w.heap.size w wq ∧ m0 + 2 ≤ wq.heap.size ∧ w1.heap.size ≤ wq.heap.size)) (fun _ _ i _ => vs.length - (intOf i).toNat)
      case atStart => exact ⟨0, Nat.zero_le _, rfl, BM.out, HMAP.out, HVS.out, HB2.out, hs1, Nat.le_refl _⟩
      case round =>
        obtain ⟨k, hk, rfl, hinv⟩ := hrel
        obtain ⟨bM, hmap, hvs, hb, hsq, hsw⟩ := hinv.out
        have cM := bM.cell
        have BMq := Lib.hid bM
        have HMq := Lib.hid hmap
        have HVq := Lib.hid hvs
        have HBq := Lib.hid hb
        by_cases hlt : k < vs.length
        · obtain ⟨b, off, rfl, hbB, g0⟩ := intsIn_get hvs k hlt
          have hkw := Lib.hid (HWF.out _ (List.getElem_mem hlt))
          have hkm : k < maxLen := by unfold maxLen; omega
          have hiw : (Lit.int .i64 (k : Int)).wf = true := WalkArith.wf_i64 (by omega)
          have HIW := Lib.hid hiw
          clear hinv bM hmap hvs hb hiw
          go_wp2_with (at_mapUpdate; refine wpList_mapUpdate_own _ rfl _ _ _ 60 rfl 3 3 (Maps.int_keyed Tryz.underlying3) Tryz.underlying60 _ m0 k _ rfl HMq.out hkm _ _ _ rfl rfl (Maps.keyOf_int_mk Tryz.underlying3 hkw.out) _ [] (plainElem_int Tryz.underlying3 HIW.out) ?_; intro w2 hown2 hgrow2)
          go_roundw
          case rel =>
            have hme : ∃ es ck, wr.heap[m0]? = some (Obj.map es ck) := by
              obtain ⟨es, ck, hm, _⟩ := HMq.out
              exact ⟨es, ck, hm⟩
            refine ⟨k + 1, by omega, by go_num, BMq.out.kept hgrow2 (by simp), ?_, intsIn_map HVq.out hgrow2 hme, HBq.out.grown hgrow2 (by omega) (fun j e => by cases e; omega), by have := hgrow2.size; omega, by have := hgrow2.size; omega⟩
            have hg : vs.getD k 0 = vs[k] := by simp [List.getD, hlt]
            simp only [numD, hg]
            exact hown2
          case measure => simp [intOf]; omega
        · obtain rfl : k = vs.length := by omega
          clear hinv bM hmap hvs hb
          have hvl : vs.length ≤ 1000000 := by
            rw [← HVS0.out]
            exact Nat.le_trans (varsOf_length l) hsz
          have HPW := Lib.hid (posOf_wf vs hvl)
          obtain ⟨i0, hi, hz0, hz1, hz2⟩ := info_parts Tryz.infoTm
          obtain ⟨s2, hs2⟩ : ∃ s2, wr.heap.size = s2 := ⟨_, rfl⟩
          have HT : Hid (NumTo (m0 + 1) m0 vs wr) := ⟨BMq.out, HMq.out⟩
          have hsq' : m0 + 2 ≤ s2 := by omega
          have HS2 := Lib.hid (Nat.le_of_eq hs2.symm)
          have hws2 : w.heap.size ≤ s2 := by have := HBq.out.size; omega
          clear hs2 BMq HMq HVq cM
          go_wp2_with fail
          go_loopw [10, 12, 38] (fun v _ i wq => ∃ k : Nat, k ≤ l.length ∧ i = .int .i64 k ∧ Hid (∃ xs, wq.ownsRow s2 24 4 v k xs ∧ Tm.cellsP wq (okRow s2 wq v) (Tm.rens (posOf vs) (l.take k)) xs) ∧ Hid (NumTo (m0 + 1) m0 vs wq) ∧ Hid (Below w.heap.size w wq) ∧ s2 ≤ wq.heap.size) (fun _ _ i _ => l.length - (intOf i).toNat)
          case atStart => exact ⟨0, Nat.zero_le _, rfl, ⟨[], World.ownsRow_nil _ _ _ _, by simp [Tm.rens, Tm.cellsP]⟩, HT, HBq, HS2.out⟩
          case round =>
            obtain ⟨k, hk, rfl, hrow, hT, hb, hbs2⟩ := hrel
            by_cases hlt : k < l.length
            · obtain ⟨b, off, sv, rfl, hbB, g0, g1, g2, g3, hin'⟩ := Tm.sliceIn_get (Tm.sliceIn_below HSL.out hb.out (Nat.le_refl _)) k hlt
              obtain ⟨_, ga, capa, rfl, _, _, _⟩ := Tm.inn_iff.1 hin'
              have HIN := Lib.hid hin'
              have HM := Lib.hid (Tm.rens_take_succ (posOf vs) l k hlt)
              clear hin'
              go_wp2_with fail
              refine (rename_number (NumTo (m0 + 1) m0 vs) (fun W W' h hb => h.below hb) (.pointer (some ⟨m0 + 1, 0, none⟩)) (posOf vs) HPW.out (fun v W hT hv => number1_any vs HNOD.out (m0 + 1) m0 v W hT hv) l[k] _ w.heap.size _ (hT.out.alloc _) (by simp; omega) (Tm.inn_below HIN.out (n₀ := wr.heap.size) ((Below.refl _ _).alloc (Nat.le_refl _) _) (by omega))).mono ?_
              rintro e w2 ⟨sv', rfl, hp, hb2⟩
              obtain ⟨_, ga', capa', rfl, hc2, hl2, _⟩ := Tm.innP_iff.1 hp
              have hb2' : Below wr.heap.size wr w2 := ((Below.refl _ _).alloc (Nat.le_refl _) _).trans (hb2.mono (by simp))
              have HP := Lib.hid (Tm.innP_same (ok' := fun b => wr.heap.size ≤ b ∧ b < w2.heap.size) (fun b hb' => ⟨by have := hb'.1; simp at this; omega, hb'.2⟩) (fun _ _ _ _ h => h) _ _ hp)
              have HB2 := Lib.hid hb2'
              have HT2 := Lib.hid (hT.out.below hb2')
              have hsz2 := hb2'.size
              obtain ⟨xs, hown, hcells⟩ := hrow.out
              have HOWN := Lib.hid hown
              have HCELLS := Lib.hid hcells
              have hown2 := Lib.hid (ownsRow_below hown hb2')
              clear hp hb2 hb2' hown hcells
              go_wp2_with (at_builtin; refine wpList_append_sep _ rfl _ _ 22 rfl s2 24 i0 _ 4 56 Tryz.underlying22 hi hz0 hz1 hz2 rfl (by decide) u10 k xs rfl (hown2.out.alloc _) ⟨w2.heap.size, 0, none⟩ 1 1 [.int .i64 (l[k].ren (posOf vs)).kind, .string (l[k].ren (posOf vs)).name, .int .i64 (l[k].ren (posOf vs)).n, .slice ga' (l[k].ren (posOf vs)).args.length capa'] rfl (by decide) rfl news4 one4 (by unfold maxLen; omega) (by omega) (by simp; omega) ?_; intro v' w3 hown3 hgrow hsep)
              go_roundw
              case rel =>
                have hlo : ∀ j, u10.ownBlock = some j → s2 ≤ j := fun j e => (HOWN.out.lt j e).1
                refine ⟨k + 1, by omega, by go_num, ⟨_, hown3, ?_⟩, (HT2.out.alloc _).grown hgrow (fun r e => ⟨fun e' => by have := hlo r e; omega, fun e' => by have := hlo r e; omega⟩), ((hb.out.trans (HB2.out.mono (by omega))).alloc (by omega) _).grown hgrow (by simp; omega) (fun j e => by have := hlo j e; omega), by have := hgrow.size; simp at this; omega⟩
                rw [HM.out]
                exact row_step HOWN.out HCELLS.out HB2.out hbs2 HP.out hgrow hsep
              case measure => simp [intOf]; omega
            · obtain rfl : k = l.length := by omega
              obtain ⟨xs, hown, hcells⟩ := hrow.out
              obtain ⟨gr, cr, rfl⟩ := owns_slice hown
              rw [List.take_length] at hcells
              have HOWN := Lib.hid hown
              have HCELLS := Lib.hid hcells
              have cM := hT.out.1.cell
              have HSZD := Lib.hid (numD_size vs HNOD.out vs.length (Nat.le_refl _))
              clear hown hcells hrow
              go_wp2_with (at_len; refine wpList_len_own _ rfl _ 60 rfl 3 3 Tryz.underlying60 (plainElem (H := Unit) Tryz.prog 3) m0 vs.length _ rfl hT.out.2 ?_; rw [HSZD.out])
              go_ret3
              refine ⟨hb.out, .inr ⟨HALL.out, _, by rw [HVS0.out]; rfl, ?_⟩⟩
              rw [HVS0.out]
              have hll := Tm.rens_length (posOf vs) l
              exact sliceP_done (wr := wr) (lo := s2) (xs := xs) (by rw [hll]; exact HOWN.out) HCELLS.out (by omega) hws2 (Nat.le_refl _) (fun _ _ _ => rfl)
end Go.Proofs.YtliapkajonbndaaGreatDoor

namespace Go.Proofs.YtliapkajonbndaaGreatDoor
open Go.RowKit

theorem wrap_in {n : Int} (h : -9223372036854775808 ≤ n ∧ n ≤ 9223372036854775807) : wrap64 n = n := by
  rw [← IntWalk.i64_left]; exact IntWalk.i64_in n h

theorem same_self (a : Tm) : a.same a = true := (Tm.same_iff a a).2 rfl
theorem fair_noArgs : ∀ t : Tm, t.fair = true → t.noArgs = true := Tm.ind fun k s n l ih h => by
  simp only [Tm.fair, Bool.and_eq_true] at h
  simp only [Tm.noArgs, Bool.and_eq_true]
  refine ⟨?_, ?_⟩
  · split
    · rename_i hk
      have h2 := h.2
      simp only [Tm.alone, if_pos hk.1, Bool.and_eq_true, beq_iff_eq] at h2
      omega
    · rfl
  · rw [Tm.plain_all, List.all_eq_true]
    intro t ht
    exact ih t ht (by have := h.1.2; rw [Tm.fairs_all, List.all_eq_true] at this; exact this t ht)
theorem right_fair {t : Tm} (h : t.right = true) : t.fair = true := by
  simp only [Tm.right, Bool.and_eq_true] at h
  exact h.1.1
theorem right_noArgs {t : Tm} (h : t.right = true) : t.noArgs = true := fair_noArgs t (right_fair h)

theorem nodesL_of {l : List Tm} {d : Int} {x : Key} (h : x ∈ Tm.nodesL l d) : ∃ t ∈ l, x ∈ t.nodes d := by
  induction l with
  | nil => simp [Tm.nodesL] at h
  | cons t r ih =>
    simp only [Tm.nodesL, List.mem_append] at h
    rcases h with h | h
    · exact ⟨t, by simp, h⟩
    · obtain ⟨u, hu, hx⟩ := ih h
      exact ⟨u, by simp [hu], hx⟩
theorem nodesL_to {l : List Tm} {d : Int} {x : Key} {t : Tm} (ht : t ∈ l) (h : x ∈ t.nodes d) : x ∈ Tm.nodesL l d := by
  obtain ⟨k, hk, rfl⟩ := List.getElem_of_mem ht
  exact nodesL_mem hk h
/-- The depth changes no node's kind and number. -/
theorem nodes_kn : ∀ (t : Tm) (d d' : Int) (x : Key), x ∈ t.nodes d → ∃ y ∈ t.nodes d', y.k = x.k ∧ y.n = x.n := Tm.ind fun k s n l ih d d' x hx => by
  simp only [Tm.nodes, List.mem_cons] at hx ⊢
  rcases hx with rfl | hx
  · exact ⟨_, .inl rfl, rfl, rfl⟩
  · obtain ⟨t, ht, hx⟩ := nodesL_of hx
    obtain ⟨y, hy, h1, h2⟩ := ih t ht (d + 1) (d' + 1) x hx
    exact ⟨y, .inr (nodesL_to ht hy), h1, h2⟩
theorem addV_mem (ks : List Key) : ∀ (vs : List Int) (n : Int), n ∈ ks.foldl addV vs ↔ n ∈ vs ∨ ∃ x ∈ ks, x.k = 1 ∧ x.n = n := by
  induction ks with
  | nil => intro vs n; simp
  | cons x r ih =>
    intro vs n
    simp only [List.foldl_cons, ih, List.mem_cons, exists_eq_or_imp, addV]
    by_cases hk : x.k = 1
    · by_cases hm : x.n ∈ vs
      · simp only [hk, hm, not_true_eq_false, and_false, if_false, true_and]
        constructor
        · rintro (h | h)
          · exact .inl h
          · exact .inr (.inr h)
        · rintro (h | h | h)
          · exact .inl h
          · subst h; exact .inl hm
          · exact .inr h
      · simp only [hk, hm, not_false_eq_true, and_self, if_true, List.mem_append, List.mem_singleton, true_and]
        constructor
        · rintro ((h | h) | h)
          · exact .inl h
          · exact .inr (.inl h.symm)
          · exact .inr (.inr h)
        · rintro (h | h | h)
          · exact .inl (.inl h)
          · exact .inl (.inr h.symm)
          · exact .inr h
    · simp [hk]
theorem vars_mem (l : List Tm) (n : Int) : n ∈ varsOf l ↔ ∃ x ∈ Tm.nodesL l 1, x.k = 1 ∧ x.n = n := by
  rw [varsOf, addV_mem]; simp
/-- Every variable's number is among the variables. -/
theorem vars_cover {l : List Tm} {t : Tm} (ht : t ∈ l) : ∀ d, ∀ x ∈ t.nodes d, x.k = 1 → x.n ∈ varsOf l := fun d x hx hk => by
  obtain ⟨y, hy, h1, h2⟩ := nodes_kn t d 1 x hx
  rw [vars_mem]
  exact ⟨y, nodesL_to ht hy, h1.trans hk, h2⟩
theorem fair_range : ∀ t : Tm, t.fair = true → ∀ d, ∀ x ∈ t.nodes d, x.k = 1 → 0 ≤ x.n ∧ x.n < 1000000 := Tm.ind fun k s n l ih h d x hx hk => by
  simp only [Tm.fair, Bool.and_eq_true] at h
  simp only [Tm.nodes, List.mem_cons] at hx
  rcases hx with rfl | hx
  · have h2 := h.2
    simp only at hk
    subst hk
    simp only [Tm.alone, if_true, Bool.and_eq_true, decide_eq_true_eq] at h2
    exact ⟨h2.1.1.1, h2.1.1.2⟩
  · obtain ⟨t, ht, hx⟩ := nodesL_of hx
    exact ih t ht (by have := h.1.2; rw [Tm.fairs_all, List.all_eq_true] at this; exact this t ht) (d + 1) x hx hk
theorem vars_range {l : List Tm} (h : ∀ t ∈ l, t.right = true) : ∀ n ∈ varsOf l, 0 ≤ n ∧ n < 1000000 := fun n hn => by
  obtain ⟨x, hx, hk, rfl⟩ := (vars_mem l n).1 hn
  obtain ⟨t, ht, hx⟩ := nodesL_of hx
  exact fair_range t (right_fair (h t ht)) 1 x hx hk

theorem ren_congr (f g : Int → Int) : ∀ t : Tm, (∀ d, ∀ x ∈ t.nodes d, x.k = 1 → f x.n = g x.n) → t.ren f = t.ren g := Tm.ind fun k s n l ih h => by
  simp only [Tm.ren]
  split
  · rename_i hk
    rw [h 0 ⟨k, s, n, l.length, 0⟩ (by simp [Tm.nodes]) hk]
  · congr 1
    rw [Tm.rens_map, Tm.rens_map]
    refine List.map_congr_left fun t ht => ih t ht fun d x hx hk => h (d - 1) x ?_ hk
    simp only [Tm.nodes]
    exact List.mem_cons_of_mem _ (nodesL_to ht (by rw [show d - 1 + 1 = d by omega]; exact hx))
theorem ren_ren (f g : Int → Int) : ∀ t : Tm, (t.ren f).ren g = t.ren (fun v => g (f v)) := Tm.ind fun k s n l ih => by
  simp only [Tm.ren]
  split
  · simp [Tm.ren]
  · rename_i hk
    simp only [Tm.ren, if_neg hk]
    congr 1
    rw [Tm.rens_map, Tm.rens_map, Tm.rens_map, List.map_map]
    exact List.map_congr_left fun t ht => ih t ht

theorem sizes_map (l : List Tm) (f : Tm → Tm) (h : ∀ t ∈ l, (f t).size = t.size) : Tm.sizes (l.map f) = Tm.sizes l := by
  induction l with
  | nil => rfl
  | cons t r ih => simp only [List.map_cons, Tm.sizes]; rw [h t (by simp), ih fun u hu => h u (by simp [hu])]
theorem deeps_map (l : List Tm) (f : Tm → Tm) (h : ∀ t ∈ l, (f t).deep = t.deep) : Tm.deeps (l.map f) = Tm.deeps l := by
  induction l with
  | nil => rfl
  | cons t r ih => simp only [List.map_cons, Tm.deeps]; rw [h t (by simp), ih fun u hu => h u (by simp [hu])]
theorem args_nil {k : Int} {s : ByteArray} {n : Int} {l : List Tm} (h : (Tm.mk k s n l).noArgs = true) (hk : k = 1) : l = [] := by
  simp only [Tm.noArgs, Bool.and_eq_true] at h
  cases l with
  | nil => rfl
  | cons a r => simp [hk] at h
theorem args_noArgs {k : Int} {s : ByteArray} {n : Int} {l : List Tm} (h : (Tm.mk k s n l).noArgs = true) : ∀ t ∈ l, t.noArgs = true := by
  simp only [Tm.noArgs, Bool.and_eq_true] at h
  have := h.2
  rw [Tm.plain_all, List.all_eq_true] at this
  exact this
theorem size_ren (f : Int → Int) : ∀ t : Tm, t.noArgs = true → (t.ren f).size = t.size := Tm.ind fun k s n l ih h => by
  simp only [Tm.ren]
  split
  · rename_i hk
    rw [args_nil h hk]
    simp [Tm.size, Tm.sizes]
  · simp only [Tm.size, Tm.rens_map]
    rw [sizes_map l _ fun t ht => ih t ht (args_noArgs h t ht)]
theorem deep_ren (f : Int → Int) : ∀ t : Tm, t.noArgs = true → (t.ren f).deep = t.deep := Tm.ind fun k s n l ih h => by
  simp only [Tm.ren]
  split
  · rename_i hk
    rw [args_nil h hk]
    simp [Tm.deep, Tm.deeps]
  · simp only [Tm.deep, Tm.rens_map]
    rw [deeps_map l _ fun t ht => ih t ht (args_noArgs h t ht)]
theorem fair_ren (f : Int → Int) : ∀ t : Tm, t.fair = true → (∀ d, ∀ x ∈ t.nodes d, x.k = 1 → 0 ≤ f x.n ∧ f x.n < 1000000) → (t.ren f).fair = true := Tm.ind fun k s n l ih h hf => by
  simp only [Tm.ren]
  split
  · rename_i hk
    have := hf 0 ⟨k, s, n, l.length, 0⟩ (by simp [Tm.nodes]) hk
    simp only at this
    have he : (ByteArray.mk #[]).toList = [] := by rw [ByteArray.toList_eq]
    simp [Tm.fair, Tm.nameOk, Tm.fairs, Tm.alone, this.1, this.2, he]
  · rename_i hk
    simp only [Tm.fair, Bool.and_eq_true] at h ⊢
    refine ⟨⟨h.1.1, ?_⟩, by rw [Tm.rens_length]; exact h.2⟩
    have h12 := h.1.2
    rw [Tm.fairs_all, List.all_eq_true] at h12 ⊢
    intro u hu
    rw [Tm.rens_map] at hu
    obtain ⟨t, ht, rfl⟩ := List.mem_map.1 hu
    refine ih t ht (h12 t ht) fun d x hx hk1 => hf (d - 1) x ?_ hk1
    simp only [Tm.nodes]
    exact List.mem_cons_of_mem _ (nodesL_to ht (by rw [show d - 1 + 1 = d by omega]; exact hx))
theorem right_ren {f : Int → Int} {t : Tm} (h : t.right = true) (hf : ∀ d, ∀ x ∈ t.nodes d, x.k = 1 → 0 ≤ f x.n ∧ f x.n < 1000000) : (t.ren f).right = true := by
  have hn := right_noArgs h
  have h0 := right_fair h
  simp only [Tm.right, Bool.and_eq_true] at h ⊢
  rw [size_ren f t hn, deep_ren f t hn]
  exact ⟨⟨fair_ren f t h0 hf, h.1.2⟩, h.2⟩
/-- The variables of a term whose variables got other numbers. -/
theorem nodes_ren (f : Int → Int) : ∀ t : Tm, t.noArgs = true → ∀ d, ((t.ren f).nodes d).map (fun x => (x.k, x.n)) = (t.nodes d).map (fun x => (x.k, if x.k = 1 then f x.n else x.n)) := Tm.ind fun k s n l ih h d => by
  simp only [Tm.ren]
  split
  · rename_i hk
    subst hk
    rw [args_nil h rfl]
    simp [Tm.nodes, Tm.nodesL]
  · rename_i hk
    simp only [Tm.nodes, List.map_cons, if_neg hk, Tm.rens_map]
    congr 1
    have hl := args_noArgs h
    clear h hk
    induction l with
    | nil => rfl
    | cons t r ihr =>
      simp only [List.map_cons, Tm.nodesL, List.map_append]
      rw [ih t (by simp) (hl t (by simp)) (d + 1), ihr (fun u hu => ih u (by simp [hu])) (fun u hu => hl u (by simp [hu]))]
end Go.Proofs.YtliapkajonbndaaGreatDoor

namespace Go.Proofs.YtliapkajonbndaaGreatDoor
open Go.RowKit

def kZ : Tm := .mk 0 ⟨#[]⟩ 0 []
theorem kZ_right : kZ.right = false := by kernel_rfl
theorem kZ_size : kZ.size = 1 := by kernel_rfl
theorem inn_leaf {w : World} {B : Nat} {n : Int} (hn : (Lit.int .i64 n).wf = true) : Tm.inn w B (.mk 1 ⟨#[]⟩ n []) (.slice none 0 0) :=
  Tm.inn_mk.2 ⟨⟨by decide, Nat.zero_le _, hn⟩, none, 0, rfl, Nat.le_refl _, Nat.zero_le _, .inl rfl⟩
/-- One term in a row of its own. -/
theorem one_slice1 {W : World} {t : Tm} {sv : Value} {b : Nat} (hb : W.heap[b]? = some (Obj.cells #[.int .i64 t.kind, .string t.name, .int .i64 t.n, sv] 24 (0, 0))) (ht : Tm.inn W W.heap.size t sv) : Tm.sliceIn W W.heap.size [t] (.slice (some ⟨b, 0, none⟩) 1 1) := by
  refine ⟨_, 1, rfl, Nat.le_refl _, by simp, .inr ⟨b, 0, rfl, (Array.getElem?_eq_some_iff.1 hb).1, ?_⟩⟩
  simp only [Tm.rowIn]
  refine ⟨⟨sv, ?_, ?_, ?_, ?_, ht⟩, trivial⟩ <;> simp [World.cell?, hb]
theorem some_sizes {l : List Tm} (h : Tm.someB l = true) : Tm.sizes l ≤ 4000 := by
  simp only [Tm.someB, Bool.and_eq_true, decide_eq_true_eq] at h
  have := Tm.fews_says l (fun t _ m d => Tm.few_says t m d) _ _ h.1
  omega
theorem one_sub {W : World} {b off c : Nat} {t : Tm} {sv : Value} (h0 : W.cell? ⟨b, off, none⟩ = some (.int .i64 t.kind)) (h1 : W.cell? ⟨b, off + 1, none⟩ = some (.string t.name)) (h2 : W.cell? ⟨b, off + 2, none⟩ = some (.int .i64 t.n)) (h3 : W.cell? ⟨b, off + 3, none⟩ = some sv)
    (ht : Tm.inn W W.heap.size t sv) (hc : 1 ≤ c) : Tm.sliceIn W W.heap.size [t] (.slice (some ⟨b, off, none⟩) 1 c) := by
  refine ⟨_, c, rfl, hc, by simp, .inr ⟨b, off, rfl, World.block_lt_of_cell? _ _ h0, ?_⟩⟩
  simp only [Tm.rowIn]
  exact ⟨⟨sv, h0, h1, h2, h3, ht⟩, trivial⟩
theorem two_slice {W : World} {a b : Tm} {sva svb : Value} {n : Nat} (hb : W.heap[n]? = some (Obj.cells #[.int .i64 a.kind, .string a.name, .int .i64 a.n, sva, .int .i64 b.kind, .string b.name, .int .i64 b.n, svb] 24 (0, 0)))
    (ha : Tm.inn W W.heap.size a sva) (hb' : Tm.inn W W.heap.size b svb) : Tm.sliceIn W W.heap.size [a, b] (.slice (some ⟨n, 0, none⟩) 2 2) := by
  refine ⟨_, 2, rfl, Nat.le_refl _, by simp, .inr ⟨n, 0, rfl, (Array.getElem?_eq_some_iff.1 hb).1, ?_⟩⟩
  simp only [Tm.rowIn]
  refine ⟨⟨sva, ?_, ?_, ?_, ?_, ha⟩, ⟨svb, ?_, ?_, ?_, ?_, hb'⟩, trivial⟩ <;> simp [World.cell?, hb]
/-- A term in a box of its own. -/
def TmBox (W : World) (B : Nat) (t : Tm) (sv : Value) : Prop := W.heap[B]? = some (Obj.cells #[.int .i64 t.kind, .string t.name, .int .i64 t.n, sv] 24 (0, 0)) ∧ Tm.inn W W.heap.size t sv
theorem TmBox.next {W W' : World} {B : Nat} {t : Tm} {sv : Value} (h : TmBox W B t sv) (hb : Below W.heap.size W W') : TmBox W' B t sv :=
  ⟨(hb.block _ (Array.getElem?_eq_some_iff.1 h.1).1).trans h.1, Tm.inn_mono (Tm.inn_below h.2 hb (Nat.le_refl _)) hb.size⟩
theorem TmBox.alloc {W : World} {B : Nat} {t : Tm} {sv : Value} (h : TmBox W B t sv) (o : Obj) : TmBox (W.alloc o) B t sv := h.next ((Below.refl _ _).alloc (Nat.le_refl _) _)
theorem TmBox.lt {W : World} {B : Nat} {t : Tm} {sv : Value} (h : TmBox W B t sv) : B < W.heap.size := (Array.getElem?_eq_some_iff.1 h.1).1
theorem TmBox.cells {W : World} {B : Nat} {t : Tm} {sv : Value} (h : TmBox W B t sv) : W.cell? ⟨B, 0, none⟩ = some (.int .i64 t.kind) ∧ W.cell? ⟨B, 1, none⟩ = some (.string t.name) ∧ W.cell? ⟨B, 2, none⟩ = some (.int .i64 t.n) ∧ W.cell? ⟨B, 3, none⟩ = some sv := (row4 h.1).1
/-- A term that a call returned, in a new box. -/
theorem TmBox.new {W : World} {t : Tm} {sv : Value} (h : Tm.inn W W.heap.size t sv) : TmBox (W.alloc (Obj.cells #[.int .i64 t.kind, .string t.name, .int .i64 t.n, sv] 24 (0, 0))) W.heap.size t sv :=
  ⟨newBlk _ _ _ rfl, Tm.inn_mono (Tm.inn_below h ((Below.refl _ _).alloc (Nat.le_refl _) _) (Nat.le_refl _)) (by simp)⟩
/-- A term at any place. -/
structure TmAt (W : World) (b o : Nat) (t : Tm) (sv : Value) : Prop where
  c0 : W.cell? ⟨b, o, none⟩ = some (.int .i64 t.kind)
  c1 : W.cell? ⟨b, o + 1, none⟩ = some (.string t.name)
  c2 : W.cell? ⟨b, o + 2, none⟩ = some (.int .i64 t.n)
  c3 : W.cell? ⟨b, o + 3, none⟩ = some sv
  inn : Tm.inn W W.heap.size t sv
theorem TmAt.lt {W : World} {b o : Nat} {t : Tm} {sv : Value} (h : TmAt W b o t sv) : b < W.heap.size := World.block_lt_of_cell? _ _ h.c0
theorem TmAt.next {W W' : World} {b o : Nat} {t : Tm} {sv : Value} (h : TmAt W b o t sv) (hb : Below W.heap.size W W') : TmAt W' b o t sv :=
  ⟨(hb.cell (p := ⟨b, o, none⟩) h.lt).trans h.c0, (hb.cell (p := ⟨b, o + 1, none⟩) h.lt).trans h.c1, (hb.cell (p := ⟨b, o + 2, none⟩) h.lt).trans h.c2, (hb.cell (p := ⟨b, o + 3, none⟩) h.lt).trans h.c3, Tm.inn_mono (Tm.inn_below h.inn hb (Nat.le_refl _)) hb.size⟩
theorem TmAt.of {W : World} {l : List Tm} {g : Option Addr} {n c : Nat} (h : Tm.sliceIn W W.heap.size l (.slice g n c)) (i : Nat) (hi : i < l.length) : ∃ b o sv, g = some ⟨b, o, none⟩ ∧ TmAt W b (o + i * 4) l[i] sv := by
  obtain ⟨b, off, sv, e, _, g0, g1, g2, g3, hin⟩ := Tm.sliceIn_get h i hi
  exact ⟨b, off, sv, e, g0, g1, g2, g3, hin⟩
theorem TmBox.at {W : World} {B : Nat} {t : Tm} {sv : Value} (h : TmBox W B t sv) : TmAt W B 0 t sv := by
  obtain ⟨h0, h1, h2, h3⟩ := h.cells
  exact ⟨h0, h1, h2, h3, h.2⟩
theorem ret_pair {j k : IntKind} {a a' b b' : Int} (h : a = a') (h' : b = b') : Ending.returned (.tuple #[.int j a, .int k b]) = .returned (.tuple #[.int j a', .int k b']) := by rw [h, h']
theorem below_drewN {B : Nat} {a w : World} (h : Below B a w) (n : Nat) : Below B a (w.drewN n) := ⟨h.os, h.tape, h.output, h.size, h.block⟩
end Go.Proofs.YtliapkajonbndaaGreatDoor

namespace Go.Proofs.YtliapkajonbndaaGreatDoor
open Go.RowKit

/-- What lies in memory while the statement is asked: the two terms in their boxes. -/
structure TSt (w : World) (a b : Tm) (sva svb : Value) (W : World) : Prop where
  ka : W.heap[w.heap.size]? = some (Obj.cells #[.int .i64 a.kind, .string a.name, .int .i64 a.n, sva] 24 (0, 0))
  kb : W.heap[w.heap.size + 1]? = some (Obj.cells #[.int .i64 b.kind, .string b.name, .int .i64 b.n, svb] 24 (0, 0))
  ia : Tm.inn W W.heap.size a sva
  ib : Tm.inn W W.heap.size b svb
  below : Below w.heap.size w W
theorem TSt.next {w : World} {a b : Tm} {sva svb : Value} {W W' : World} (h : TSt w a b sva svb W) (hb : Below W.heap.size W W') : TSt w a b sva svb W' where
  ka := (hb.block _ (Array.getElem?_eq_some_iff.1 h.ka).1).trans h.ka
  kb := (hb.block _ (Array.getElem?_eq_some_iff.1 h.kb).1).trans h.kb
  ia := Tm.inn_mono (Tm.inn_below h.ia hb (Nat.le_refl _)) hb.size
  ib := Tm.inn_mono (Tm.inn_below h.ib hb (Nat.le_refl _)) hb.size
  below := h.below.trans (hb.mono h.below.size)
/-- .. said of the cells. -/
theorem TSt.cells {w : World} {a b : Tm} {sva svb : Value} {W : World} (h : TSt w a b sva svb W) :
    W.cell? ⟨w.heap.size, 0, none⟩ = some (.int .i64 a.kind) ∧ W.cell? ⟨w.heap.size, 1, none⟩ = some (.string a.name) ∧ W.cell? ⟨w.heap.size, 2, none⟩ = some (.int .i64 a.n) ∧ W.cell? ⟨w.heap.size, 3, none⟩ = some sva ∧
    W.cell? ⟨w.heap.size + 1, 0, none⟩ = some (.int .i64 b.kind) ∧ W.cell? ⟨w.heap.size + 1, 1, none⟩ = some (.string b.name) ∧ W.cell? ⟨w.heap.size + 1, 2, none⟩ = some (.int .i64 b.n) ∧ W.cell? ⟨w.heap.size + 1, 3, none⟩ = some svb ∧ TSt w a b sva svb W := by
  obtain ⟨⟨a0, a1, a2, a3⟩, _⟩ := row4 h.ka
  obtain ⟨⟨b0, b1, b2, b3⟩, _⟩ := row4 h.kb
  exact ⟨a0, a1, a2, a3, b0, b1, b2, b3, h⟩
theorem TSt.step {w : World} {a b : Tm} {sva svb : Value} {W W' : World} {p1 p2 p3 p4 p5 p6 p7 p8 : Prop} (hb : Below W.heap.size W W') (h : p1 ∧ p2 ∧ p3 ∧ p4 ∧ p5 ∧ p6 ∧ p7 ∧ p8 ∧ TSt w a b sva svb W) :
    W'.cell? ⟨w.heap.size, 0, none⟩ = some (.int .i64 a.kind) ∧ W'.cell? ⟨w.heap.size, 1, none⟩ = some (.string a.name) ∧ W'.cell? ⟨w.heap.size, 2, none⟩ = some (.int .i64 a.n) ∧ W'.cell? ⟨w.heap.size, 3, none⟩ = some sva ∧
    W'.cell? ⟨w.heap.size + 1, 0, none⟩ = some (.int .i64 b.kind) ∧ W'.cell? ⟨w.heap.size + 1, 1, none⟩ = some (.string b.name) ∧ W'.cell? ⟨w.heap.size + 1, 2, none⟩ = some (.int .i64 b.n) ∧ W'.cell? ⟨w.heap.size + 1, 3, none⟩ = some svb ∧ TSt w a b sva svb W' := (h.2.2.2.2.2.2.2.2.next hb).cells
theorem TSt.a' {w : World} {a b : Tm} {sva svb : Value} {W : World} {p1 p2 p3 p4 p5 p6 p7 p8 : Prop} (h : p1 ∧ p2 ∧ p3 ∧ p4 ∧ p5 ∧ p6 ∧ p7 ∧ p8 ∧ TSt w a b sva svb W) : Tm.inn W W.heap.size a sva := h.2.2.2.2.2.2.2.2.ia
theorem TSt.b' {w : World} {a b : Tm} {sva svb : Value} {W : World} {p1 p2 p3 p4 p5 p6 p7 p8 : Prop} (h : p1 ∧ p2 ∧ p3 ∧ p4 ∧ p5 ∧ p6 ∧ p7 ∧ p8 ∧ TSt w a b sva svb W) : Tm.inn W W.heap.size b svb := h.2.2.2.2.2.2.2.2.ib
/-- The start: both terms are put into boxes. -/
theorem TSt.start {w : World} {a b : Tm} {sva svb : Value} (ha : Tm.inn w w.heap.size a sva) (hb : Tm.inn w w.heap.size b svb) :
    TSt w a b sva svb ((w.alloc (Obj.cells #[.int .i64 a.kind, .string a.name, .int .i64 a.n, sva] 24 (0, 0))).alloc (Obj.cells #[.int .i64 b.kind, .string b.name, .int .i64 b.n, svb] 24 (0, 0))) := by
  have hB0 : Below w.heap.size w ((w.alloc (Obj.cells #[.int .i64 a.kind, .string a.name, .int .i64 a.n, sva] 24 (0, 0))).alloc (Obj.cells #[.int .i64 b.kind, .string b.name, .int .i64 b.n, svb] 24 (0, 0))) := ((Below.refl _ w).alloc (Nat.le_refl _) _).alloc (by simp) _
  refine ⟨?_, ?_, Tm.inn_mono (Tm.inn_below ha hB0 (Nat.le_refl _)) hB0.size, Tm.inn_mono (Tm.inn_below hb hB0 (Nat.le_refl _)) hB0.size, hB0⟩
  · rw [Below.heap_alloc _ _ _ (by simp)]; exact newBlk _ _ _ rfl
  · exact newBlk _ _ _ (by simp)
theorem TSt.size {w : World} {a b : Tm} {sva svb : Value} {W : World} (h : TSt w a b sva svb W) : w.heap.size + 1 < W.heap.size := (Array.getElem?_eq_some_iff.1 h.kb).1
end Go.Proofs.YtliapkajonbndaaGreatDoor
