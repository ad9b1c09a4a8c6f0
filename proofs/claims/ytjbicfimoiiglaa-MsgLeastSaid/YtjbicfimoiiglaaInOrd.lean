/-
  The program's inOrder: the places, each behind those that it leads to.
-/
import Derived.Test.YtjbicfimoiiglaaKst
import Derived.Test.YtjbicfimoiiglaaVarsN
import Derived.Test.YtjbicfimoiiglaaRRight
namespace Go.Proofs.Ytjbicfimoiiglaa
open Go.RowKit Go.Shelf Go.Maps

/-- What inOrder tells. -/
def OrderPost (l : List Bd) (w : World) (e : Ending) (w' : World) : Prop := ∃ os v, e = .returned v ∧ intsIn w' w'.heap.size (nums os) v ∧ Kahn l os ∧ Below w.heap.size w w'
def pairsAt (l : List Bd) (k : Nat) (vs : List Int) (m : Nat) : List Pr := pairsTo l k ++ ((vs.take m).filterMap (place l)).map fun q => (k, q)
theorem pairsAt_zero (l : List Bd) (k : Nat) (vs : List Int) : pairsAt l k vs 0 = pairsTo l k := by simp [pairsAt]
theorem pairsAt_end {l : List Bd} {k : Nat} {vs : List Int} (h : deps l k = vs.filterMap (place l)) : pairsAt l k vs vs.length = pairsTo l (k + 1) := by rw [pairsAt, List.take_length, ← h, pairsTo]
theorem pairsAt_some {l : List Bd} {k m p : Nat} {vs : List Int} (hm : m < vs.length) (h : place l vs[m] = some p) : pairsAt l k vs (m + 1) = pairsAt l k vs m ++ [(k, p)] := by
  rw [pairsAt, List.take_succ_eq_append_getElem hm, List.filterMap_append]
  simp [h, pairsAt]
theorem pairsAt_none {l : List Bd} {k m : Nat} {vs : List Int} (hm : m < vs.length) (h : place l vs[m] = none) : pairsAt l k vs (m + 1) = pairsAt l k vs m := by
  rw [pairsAt, List.take_succ_eq_append_getElem hm, List.filterMap_append]
  simp [h, pairsAt]
theorem pairsAt_length {l : List Bd} (k : Nat) (vs : List Int) (m : Nat) : (pairsAt l k vs m).length ≤ (pairsTo l k).length + vs.length := by
  simp only [pairsAt, List.length_append, List.length_map]
  have h1 := List.length_filterMap_le (place l) (vs.take m)
  have h2 : (vs.take m).length ≤ vs.length := List.length_take_le' _ _
  omega
theorem ownInts_append {W : World} {lo n : Nat} {v : Value} {l : List Int} {x : Int} (h : W.ownsRow lo 3 1 v (n + 1) (l.map (Value.int .i64) ++ [.int .i64 x])) (hn : l.length = n) : ownInts W lo v (l ++ [x]) := by
  unfold ownInts
  rw [List.length_append, List.map_append, hn]
  exact h
def noF : Pr → Bool := fun _ => false

set_option maxRecDepth 100000 in
set_option maxHeartbeats 4000000 in
theorem inOrder_any (l : List Bd) (w : World) (sv : Value) (m0 : Nat) (hsl : bdsIn w w.heap.size l sv) (hmax : l.length ≤ 1000) (hsz : szB l ≤ 1000000) (hok : okL l) (hat : AtMap l m0 w) :
    Calls Try.prog 74 #[sv, .map (some m0)] w fun e w' => OrderPost l w e w' := by
  have hsl0 := hsl
  obtain ⟨g, cap, rfl, hcap, hlen, _, _⟩ := hsl0
  have hml : m0 < w.heap.size := World.ownsMap.lt hat
  have HSL := Lib.hid hsl
  have HSZ := Lib.hid hsz
  have HOK := Lib.hid hok
  have HAT := Lib.hid hat
  have HND := Lib.hid (nodup_place hok)
  clear hsl hsz hok hat
  have hmk1 := run_make_row' (P := Try.prog) 58 3 (.int .i64 0) 8 Try.underlying58 Try.infoInt rfl .i64 .i64 l.length (by omega) (by omega)
  have hmk2 := run_make_row' (P := Try.prog) 103 58 (.slice none 0 0) 24 Try.underlying103 Try.infoInts rfl .i64 .i64 l.length (by omega) (by omega)
  obtain ⟨i0, hi, hz0, hz1, hz2⟩ := info_parts Try.infoInt
  go_enter Try.func74, Try.ntmps74
  go_wp2_with fail
  have hst0 := Lib.hid (KSt.start w l.length)
  go_loopw [7, 8, 10, 11, 12, 27, 37] (fun _ _ _ _ _ ii _ wr => ∃ k : Nat, k ≤ l.length ∧ ii = .int .i64 k ∧ Hid (∃ hs, KSt wr w.heap.size l.length w.heap.size (w.heap.size + 1) (cntP (pairsTo l k) noF) hs (behP (pairsTo l k))) ∧ Hid (Below w.heap.size w wr) ∧ w.heap.size + 2 ≤ wr.heap.size) (fun _ _ _ _ _ ii _ _ => l.length - (intOf ii).toNat)
  case atStart => exact ⟨0, Nat.zero_le _, rfl, ⟨_, hst0.out⟩, al2 _ _ _, by simp⟩
  case round =>
    obtain ⟨w1, rfl⟩ : ∃ x, x = wr := ⟨_, rfl⟩
    obtain ⟨k, hk, rfl, hst, hb, hbs⟩ := hrel
    have HST := Lib.hid hst.out
    have HB := Lib.hid hb.out
    clear hst hb hst0
    by_cases hlt : k < l.length
    · obtain ⟨b, off, sv, hg, hbB, g0, g1, g2, g3, g4, hin'⟩ := bdsIn_get (bdsIn_below HSL.out HB.out (Nat.le_refl _)) k hlt
      subst hg
      obtain ⟨_, ga, capa, rfl, _, _, _⟩ := Tm.inn_iff.1 hin'
      have hright := (HOK.out k hlt).2.2.2
      have HIN := Lib.hid hin'
      have HRT := Lib.hid hright
      clear hin' hright hmk1 hmk2
      go_wp2_with fail
      have hal := al2 w1 (.cells #[.int .i64 l[k].v, .int .i64 l[k].t.kind, .string l[k].t.name, .int .i64 l[k].t.n, .slice ga l[k].t.args.length capa] 49) (.cells #[.int .i64 l[k].t.kind, .string l[k].t.name, .int .i64 l[k].t.n, .slice ga l[k].t.args.length capa] 24)
      have hin2 := Tm.inn_mono (Tm.inn_below HIN.out hal (by omega)) (B' := ((w1.alloc (.cells #[.int .i64 l[k].v, .int .i64 l[k].t.kind, .string l[k].t.name, .int .i64 l[k].t.n, .slice ga l[k].t.args.length capa] 49)).alloc (.cells #[.int .i64 l[k].t.kind, .string l[k].t.name, .int .i64 l[k].t.n, .slice ga l[k].t.args.length capa] 24)).heap.size) (by simp; omega)
      have hone := one_slice (newBlk (w1.alloc (.cells #[.int .i64 l[k].v, .int .i64 l[k].t.kind, .string l[k].t.name, .int .i64 l[k].t.n, .slice ga l[k].t.args.length capa] 49)) _ (w1.heap.size + 1) (by simp)) hin2
      have hts : Tm.sizes [l[k].t] = l[k].t.size := by simp [Tm.sizes]
      have hszk := szB_mem hlt
      have htv := tvars_new [l[k].t] _ _ hone (by have := HSZ.out; omega)
      have hdk : deps l k = (varsOf [l[k].t]).filterMap (place l) := by rw [deps, tAt_get hlt]
      have hvl := varsOf_length [l[k].t]
      obtain ⟨vs, hvs0⟩ : ∃ vs, varsOf [l[k].t] = vs := ⟨_, rfl⟩
      rw [hvs0] at htv hdk hvl
      have hvl' : vs.length ≤ 1000000 := by have := HSZ.out; omega
      have HTV := Lib.hid htv
      have HDK := Lib.hid hdk
      have HAL := Lib.hid hal
      clear hal hin2 hone hts hszk htv hdk hvl hvs0 g0 g1 g2 g3 g4
      refine HTV.out.mono ?_
      rintro e w5 ⟨vv, rfl, hints, hb5, hvwf, hnew⟩
      obtain ⟨gv, cv, rfl, hcv, hlv, _⟩ := id hints
      have hs5 : w1.heap.size + 2 ≤ w5.heap.size := by have := hb5.size; simpa using this
      have hbb5 : Below w1.heap.size w1 w5 := HAL.out.trans (hb5.mono (by simp; omega))
      have hrow5 : rowAt w5 w1.heap.size w5.heap.size vs gv := rowAt.of hints (fun b o e => by have := hnew b o vs.length cv (by rw [e]); simp at this; omega)
      obtain ⟨hs0, hst1⟩ := HST.out
      have hst5 := hst1.next hbb5
      have hfar0 : ∀ q, q < l.length → ∀ b, (hs0 q).ownBlock = some b → b < w1.heap.size ∨ w5.heap.size ≤ b := fun q hq b hb => .inl ((hst1.own q hq).lt b hb).2
      have HB5 := Lib.hid (HB.out.trans (hbb5.mono (by omega)))
      have HROW5 := Lib.hid hrow5
      have HST5 := Lib.hid hst5
      have HFAR0 := Lib.hid hfar0
      have HVWF := Lib.hid hvwf
      clear hints hb5 hvwf hnew hbb5 hrow5 hst1 hst5 hfar0 HTV HST HAL
      go_wp2_with fail
      go_loopw [10, 11, 12, 37] (fun _ _ _ mm wr => ∃ m : Nat, m ≤ vs.length ∧ mm = .int .i64 m ∧ Hid (∃ hs, KSt wr w.heap.size l.length w.heap.size (w.heap.size + 1) (cntP (pairsAt l k vs m) noF) hs (behP (pairsAt l k vs m)) ∧ ∀ q, q < l.length → ∀ b, (hs q).ownBlock = some b → b < w1.heap.size ∨ w5.heap.size ≤ b) ∧
        Hid (Below w.heap.size w wr) ∧ Hid (rowAt wr w1.heap.size w5.heap.size vs gv) ∧ w5.heap.size ≤ wr.heap.size) (fun _ _ _ mm _ => vs.length - (intOf mm).toNat)
      case atStart => exact ⟨0, Nat.zero_le _, rfl, ⟨hs0, by rw [pairsAt_zero]; exact HST5.out, HFAR0.out⟩, HB5.out, HROW5.out, Nat.le_refl _⟩
      case round =>
        obtain ⟨w6, rfl⟩ : ∃ x, x = wr := ⟨_, rfl⟩
        obtain ⟨m, hm, rfl, hst6, hb6, hrow6, hs6⟩ := hrel
        obtain ⟨hs, hst6, hfar6⟩ := hst6.out
        have HST6 := Lib.hid hst6
        have HFAR6 := Lib.hid hfar6
        have HB6 := Lib.hid hb6.out
        have HROW6 := Lib.hid hrow6.out
        clear hst6 hb6 hrow6 hfar6 HROW5 HST5 HFAR0
        by_cases hmlt : m < vs.length
        · obtain ⟨bv, ov, hgv, hbv1, hbv2, gc⟩ := HROW6.out.get hmlt
          subst hgv
          have hvw := Lib.hid (HVWF.out _ (List.getElem_mem hmlt))
          have hat6 := Lib.hid (HAT.out.next HB6.out hml)
          cases hpl : place l vs[m] with
          | none =>
            have HPL := Lib.hid hpl
            have HPN := Lib.hid (pairsAt_none (k := k) hmlt hpl)
            clear hpl
            go_wp2_with (at_lookup; refine wpList_lookup_at _ rfl _ _ rfl l HND.out m0 rfl hat6.out vs[m] rfl hvw.out 0 false (.inr ⟨rfl, HPL.out, rfl⟩) ?_)
            go_roundw
            case rel => exact ⟨m + 1, by omega, by go_num, ⟨hs, by rw [HPN.out]; exact HST6.out, HFAR6.out⟩, HB6.out, HROW6.out, hs6⟩
            case measure => simp [intOf]; omega
          | some p =>
            have HPL := Lib.hid hpl
            have HPN := Lib.hid (pairsAt_some (k := k) hmlt hpl)
            obtain ⟨hplt, _, _⟩ := place_some hpl
            have hplen := pairsAt_length (l := l) k vs m
            have hpb := pairs_bound hmax (n := k) (by omega)
            obtain ⟨P, hP⟩ : ∃ P, pairsAt l k vs m = P := ⟨_, rfl⟩
            rw [hP] at hplen
            have HST6' := HST6.out
            rw [hP] at HST6'
            have HPN' := HPN.out
            rw [hP] at HPN'
            have hcl := cntP_le P noF k
            have hbl := behP_length P p
            have cw := HST6'.waits.cell hlt
            have fw := HST6'.waits.frozen k
            have lw := HST6'.waits.lt
            have ch := HST6'.heads.cell hplt
            have fh := HST6'.heads.frozen p
            have lh := HST6'.heads.lt
            obtain ⟨gp, cp, hsp⟩ := HST6'.head_slice hplt
            rw [hsp] at ch
            have HK6 := Lib.hid HST6'
            have HPN'' := Lib.hid HPN'
            have HSP := Lib.hid hsp
            have hneWH : w.heap.size ≠ w.heap.size + 1 := by omega
            obtain ⟨c, hc⟩ : ∃ c, cntP P noF k = c := ⟨_, rfl⟩
            rw [hc] at cw hcl
            have HC := Lib.hid hc
            have hc2 : c ≤ 2000000 := by omega
            have hbl2 : (behP P p).length ≤ 2000000 := by omega
            have HPLEN := Lib.hid hbl
            have hset := HK6.out.setW k (c + 1)
            have HSET := Lib.hid hset
            clear hset hcl hbl
            clear hpl hplen hpb HST6' HPN' hsp hP hc HPN HST6
            go_wp2_with (first
              | (at_lookup; refine wpList_lookup_at _ rfl _ _ rfl l HND.out m0 rfl hat6.out vs[m] rfl hvw.out (p : Int) true (.inl ⟨rfl, p, HPL.out, rfl⟩) ?_)
              | (at_builtin; refine wpList_append_sep _ rfl _ _ 58 rfl w.heap.size 3 i0 _ 1 8 Try.underlying58 hi hz0 hz1 hz2 rfl (by decide) (.slice gp (behP P p).length cp) (behP P p).length ((nums (behP P p)).map (Value.int .i64)) rfl (by have h := HSET.out.own p hplt; rw [HSP.out] at h; unfold ownInts at h; rw [nums_length] at h; exact h.alloc _) ⟨w6.heap.size, 0, none⟩ 1 1 [.int .i64 (k : Int)] rfl (by decide) rfl (news1h _ (by simp)) (by simp [Value.oneCell']) (by unfold maxLen; omega) (by omega) (by simp; omega) ?_; intro v' w7 hown7 hgrow hsep; obtain ⟨g7, c7, rfl⟩ := owns_slice hown7; have hh7 := HSET.out.heads_grown hplt (by rw [HSP.out]; exact hgrow); have ch7 := hh7.cell hplt; have fh7 := hh7.frozen p; have lh7 := hh7.lt))
            go_roundw
            case rel =>
              have hown' := ownInts_append hown7 (nums_length _)
              have hgrow' := hgrow
              rw [← HSP.out] at hgrow' hsep
              have hk6lt : ∀ j, (hs p).ownBlock = some j → w.heap.size ≤ j := fun j e => ((HK6.out.own p hplt).lt j e).1
              have hs7 := hgrow'.size
              simp at hs7
              refine ⟨m + 1, by omega, by go_num, ⟨_, (HSET.out.push hplt (i := k) hown' hgrow' hsep).congr (fun j _ => ?_) (fun j _ => ?_), fun q hq bb hb => ?_⟩, ((((HB6.out.setCell (p := ⟨w.heap.size, k, none⟩) (Nat.le_refl _) _).alloc (by simp; omega) _).grown hgrow' (by simp; omega) hk6lt).setCell (p := ⟨w.heap.size + 1, p, none⟩) (by simp) _), HROW6.out.kept (fun bb h1 h2 => ?_), by simp; omega⟩
              · rw [HPN''.out]
                unfold noF
                rw [cntP_snoc]
                by_cases e : j = k
                · subst e
                  have := HC.out
                  unfold noF at this
                  simp [this]
                · simp [e]
              · rw [HPN''.out, behP_snoc]
                by_cases e : j = p
                · subst e; simp
                · simp [e]
              · by_cases e : q = p
                · subst e
                  simp only [if_true] at hb
                  rcases hsep with e2 | e2
                  · rw [e2] at hb
                    exact HFAR6.out q hq bb hb
                  · have := e2 bb hb
                    simp at this
                    exact .inr (by omega)
                · simp only [e, if_false] at hb
                  exact HFAR6.out q hq bb hb
              · rw [Below.heap_setCell _ _ _ _ (by simp; omega), hgrow'.block bb (by simp; omega) (fun e => by have := HFAR6.out p hplt bb e.symm; omega), Below.heap_alloc _ _ _ (by simp; omega), Below.heap_setCell _ _ _ _ (by simp; omega)]
            case measure => simp [intOf]; omega
        · obtain rfl : m = vs.length := by omega
          have HPE := Lib.hid (pairsAt_end (k := k) HDK.out)
          go_wp2_with fail
          go_roundw
          case rel => exact ⟨k + 1, by omega, by go_num, ⟨hs, by rw [← HPE.out]; exact HST6.out⟩, HB6.out, by omega⟩
          case measure => simp [intOf]; omega
    · obtain rfl : k = l.length := by omega
      obtain ⟨hs, hst1⟩ := HST.out
      have hlow : KLow w1.heap.size l.length w.heap.size (w.heap.size + 1) hs := fun b hb => hst1.low hb
      have HK1 := Lib.hid hst1
      have HLOW := Lib.hid hlow
      clear HST hst1 hlow hmk1 hmk2
      go_wp2_with fail
      go_loopw [13, 14, 15, 68] (fun v _ _ ii wr => ∃ k : Nat, k ≤ l.length ∧ ii = .int .i64 k ∧ Hid (ownInts wr w1.heap.size v (nums (firsts l k))) ∧ Hid (Below w1.heap.size w1 wr)) (fun _ _ _ ii _ => l.length - (intOf ii).toNat)
      case atStart => exact ⟨0, Nat.zero_le _, rfl, World.ownsRow_nil _ _ _ _, Below.refl _ _⟩
      case round =>
        obtain ⟨w2, rfl⟩ : ∃ x, x = wr := ⟨_, rfl⟩
        obtain ⟨k, hk, rfl, how, hb2⟩ := hrel
        have HOW := Lib.hid how.out
        have HB2 := Lib.hid hb2.out
        have hs2 := hb2.out.size
        have HK2 := Lib.hid (HK1.out.far HLOW.out hb2.out)
        clear how hb2
        by_cases hlt : k < l.length
        · have cw := HK2.out.waits.cell hlt
          have lw := HK2.out.waits.lt
          have HFS := Lib.hid (firsts_succ l k)
          have hfl := firsts_length l k
          obtain ⟨c, hc⟩ : ∃ c, cntP (pairsTo l l.length) noF k = c := ⟨_, rfl⟩
          rw [hc] at cw
          have HC := Lib.hid hc
          clear hc
          by_cases hz : c = 0
          · have hzb : ((c : Int) == 0) = true := by simp [hz]
            have HZ := Lib.hid hz
            clear hz
            go_wp2_with (at_builtin; refine wpList_append_ints rfl _ _ rfl w1.heap.size u13 (nums (firsts l k)) rfl (HOW.out.alloc _) [(k : Int)] (some ⟨w2.heap.size, 0, none⟩) 1 rfl (src1 _ rfl) (by rw [nums_length]; simp; omega) (by simp; omega) ?_; intro v' w3 hown' hgrow hlo)
            go_roundw
            case rel =>
              refine ⟨k + 1, by omega, by go_num, ?_, (HB2.out.alloc (by omega) _).grown hgrow (by simp; omega) hlo⟩
              have hc0 := HC.out
              rw [HZ.out] at hc0
              rw [HFS.out, if_pos (show cntP (pairsL l) (fun _ => false) k = 0 from hc0), nums_snoc]
              exact hown'
            case measure => simp [intOf]; omega
          · have hzb : ((c : Int) == 0) = false := by simp; omega
            have HZ := Lib.hid hz
            clear hz
            go_wp2_with fail
            go_roundw
            case rel =>
              refine ⟨k + 1, by omega, by go_num, ?_, HB2.out⟩
              rw [HFS.out, if_neg (show ¬ cntP (pairsL l) (fun _ => false) k = 0 from fun h => HZ.out (by rw [← HC.out]; exact h))]
              exact HOW.out
            case measure => simp [intOf]; omega
        · obtain rfl : k = l.length := by omega
          have hki := KInv.start l
          have hpb := pairs_bound hmax (Nat.le_refl l.length)
          have HKI := Lib.hid hki
          have HPB := Lib.hid hpb
          clear hki hpb
          go_wp2_with fail
          go_loopw [13, 16, 18, 94] (fun v nn _ _ wr => ∃ j : Nat, nn = .int .i64 j ∧ j ≤ l.length ∧ Hid (∃ os, KInv l os (fun p => decide (p.2 ∈ os.take j)) ∧ j ≤ os.length ∧ ownInts wr w1.heap.size v (nums os) ∧
              KSt wr w.heap.size l.length w.heap.size (w.heap.size + 1) (cntP (pairsL l) (fun p => decide (p.2 ∈ os.take j))) hs (behP (pairsL l))) ∧ Hid (Below w.heap.size w wr) ∧ w1.heap.size ≤ wr.heap.size) (fun _ nn _ _ _ => l.length - (intOf nn).toNat)
          case atStart =>
            refine ⟨0, rfl, Nat.zero_le _, ⟨firsts l l.length, HKI.out.congr (fun p _ => by simp), Nat.zero_le _, HOW.out, HK2.out.congr (fun i _ => cntP_congr (fun p _ => by simp [noF]) i) (fun _ _ => rfl)⟩, HB.out.trans (HB2.out.mono (by omega)), hs2⟩
          case round =>
            obtain ⟨w3, rfl⟩ : ∃ x, x = wr := ⟨_, rfl⟩
            obtain ⟨j, rfl, hjl, hst, hb3, hs3⟩ := hrel
            obtain ⟨os, hki, hjos, how3, hk3⟩ := hst.out
            obtain ⟨go, co, rfl⟩ := own_slice how3
            have hosl := hki.length
            have HKI3 := Lib.hid hki
            have HOW3 := Lib.hid how3
            have HK3 := Lib.hid hk3
            have HB3 := Lib.hid hb3.out
            clear hst hki how3 hk3 hb3
            by_cases hjlt : j < os.length
            · obtain ⟨bo, hgo, hbo, co1⟩ := own_get HOW3.out rfl hjlt
              subst hgo
              have hkkl := HKI3.out.lt _ (List.getElem_mem hjlt)
              have hjs : os[j]? = some os[j] := List.getElem?_eq_getElem hjlt
              obtain ⟨kk, hkk⟩ : ∃ kk, os[j] = kk := ⟨_, rfl⟩
              rw [hkk] at co1 hkkl hjs
              obtain ⟨gk, ck, hsk⟩ := HK3.out.head_slice hkkl
              have ch := HK3.out.heads.cell hkkl
              have lh := HK3.out.heads.lt
              rw [hsk] at ch
              have hbl := behP_length (pairsL l) kk
              have hbl2 : (behP (pairsL l) kk).length ≤ 1000000 := Nat.le_trans hbl HPB.out
              have HSK := Lib.hid hsk
              have HJS := Lib.hid hjs
              clear hkk hsk hjs hbl
              go_wp2_with fail
              obtain ⟨S, hS⟩ : ∃ S, os.take j = S := ⟨_, rfl⟩
              have hki0 : KInv l os (doneF l S kk 0) := HKI3.out.congr (fun p _ => by rw [doneF_zero, hS])
              have hk0 : KSt w3 w.heap.size l.length w.heap.size (w.heap.size + 1) (cntP (pairsL l) (doneF l S kk 0)) hs (behP (pairsL l)) := HK3.out.congr (fun i _ => cntP_congr (fun p _ => by rw [doneF_zero, hS]) i) (fun _ _ => rfl)
              have HS0 := Lib.hid hS
              have HKI0 := Lib.hid hki0
              have HK0 := Lib.hid hk0
              clear hS hki0 hk0
              go_loopw [13, 18, 94] (fun v _ mm wr => ∃ m : Nat, mm = .int .i64 m ∧ m ≤ (behP (pairsL l) kk).length ∧ Hid (∃ os, os[j]? = some kk ∧ os.take j = S ∧ KInv l os (doneF l S kk m) ∧ ownInts wr w1.heap.size v (nums os) ∧
                  KSt wr w.heap.size l.length w.heap.size (w.heap.size + 1) (cntP (pairsL l) (doneF l S kk m)) hs (behP (pairsL l))) ∧ Hid (Below w.heap.size w wr) ∧ w1.heap.size ≤ wr.heap.size) (fun _ _ mm _ => (behP (pairsL l) kk).length - (intOf mm).toNat)
              case atStart => exact ⟨0, rfl, Nat.zero_le _, ⟨os, HJS.out, HS0.out, HKI0.out, HOW3.out, HK0.out⟩, HB3.out, hs3⟩
              case round =>
                obtain ⟨w4, rfl⟩ : ∃ x, x = wr := ⟨_, rfl⟩
                obtain ⟨m, rfl, hml, hst, hb4, hs4⟩ := hrel
                obtain ⟨os4, hjs4, hS4, hki4, how4, hk4⟩ := hst.out
                have hosl4 := hki4.length
                have HB4 := Lib.hid hb4.out
                have HJS4 := Lib.hid hjs4
                have HS4 := Lib.hid hS4
                have HKI4 := Lib.hid hki4
                have HOW4 := Lib.hid how4
                have HK4 := Lib.hid hk4
                clear hst hb4 hjs4 hS4 hki4 how4 hk4 HKI0 HK0 HKI3 HOW3 HK3
                by_cases hmlt : m < (behP (pairsL l) kk).length
                · obtain ⟨bk, hgk, hbk, ck1⟩ := HK4.out.row_get hkkl HSK.out hmlt
                  subst hgk
                  have hki' : KInv l os4 (doneF l (os4.take j) kk m) := by rw [HS4.out]; exact HKI4.out
                  have hstep := hki'.step' HJS4.out hmlt
                  rw [HS4.out] at hstep
                  obtain ⟨i0', hi0⟩ : ∃ i, (behP (pairsL l) kk)[m] = i := ⟨_, rfl⟩
                  rw [hi0] at hstep ck1
                  obtain ⟨hd, hil, hyes, hnot⟩ := hstep
                  have hd0 := hd i0'
                  simp only [if_true] at hd0
                  obtain ⟨c, hc⟩ : ∃ c, cntP (pairsL l) (doneF l S kk (m + 1)) i0' = c := ⟨_, rfl⟩
                  rw [hc] at hd0 hyes hnot
                  have hcb := cntP_le (pairsL l) (doneF l S kk (m + 1)) i0'
                  rw [hc] at hcb
                  have hcb2 : c ≤ 1000000 := Nat.le_trans hcb HPB.out
                  have cw := HK4.out.waits.cell hil
                  rw [← hd0] at cw
                  have fw := HK4.out.waits.frozen i0'
                  have lw := HK4.out.waits.lt
                  have hset := (HK4.out.setW i0' c).congr (wt' := cntP (pairsL l) (doneF l S kk (m + 1))) (bh' := behP (pairsL l)) (fun a _ => by
                    have := hd a
                    by_cases e : a = i0'
                    · subst e; simp only [if_true]; exact hc.symm
                    · simp only [e, if_false] at this ⊢; omega) (fun _ _ => rfl)
                  have hwne : w.heap.size < w1.heap.size := by omega
                  have hown' : ownInts (w4.setCell ⟨w.heap.size, i0', none⟩ (.int .i64 (c : Nat))) w1.heap.size u13 (nums os4) := ownInts_set HOW4.out (fun e => by have := (World.ownsRow.lt HOW4.out _ e).1; omega) _ _
                  have HSET := Lib.hid hset
                  have HOWN := Lib.hid hown'
                  have HYES := Lib.hid hyes
                  have HNOT := Lib.hid hnot
                  clear hki' hi0 hd hyes hnot hd0 hc hcb hset hown'
                  by_cases hz : c = 0
                  · have hzb : ((c : Int) == 0) = true := by simp [hz]
                    have HZ := Lib.hid hz
                    clear hz
                    go_wp2_with (at_builtin; refine wpList_append_ints rfl _ _ rfl w1.heap.size u13 (nums os4) rfl (HOWN.out.alloc _) [(i0' : Int)] (some ⟨w4.heap.size, 0, none⟩) 1 rfl (src1 _ (by simp)) (by rw [nums_length]; simp; omega) (by simp; omega) ?_; intro v' w5 hown5 hgrow hlo)
                    go_roundw
                    case rel =>
                      have hlt4 : j < os4.length := (List.getElem?_eq_some_iff.1 HJS4.out).1
                      have hs5 := hgrow.size
                      simp at hs5
                      refine ⟨m + 1, by go_num, by omega, ⟨os4 ++ [i0'], ?_, ?_, HYES.out HZ.out, ?_, HSET.out.far HLOW.out (((Below.refl _ _).alloc (by simp; omega) _).grown hgrow (by simp; omega) hlo)⟩, ((HB4.out.setCell (p := ⟨w.heap.size, i0', none⟩) (Nat.le_refl _) _).alloc (by simp; omega) _).grown hgrow (by simp; omega) (fun b e => by have := hlo b e; omega), by omega⟩
                      · rw [List.getElem?_append_left hlt4]
                        exact HJS4.out
                      · rw [List.take_append_of_le_length (by omega)]
                        exact HS4.out
                      · rw [nums_snoc]
                        exact hown5
                    case measure => simp [intOf]; omega
                  · have hzb : ((c : Int) == 0) = false := by simp; omega
                    have HZ := Lib.hid hz
                    clear hz
                    go_wp2_with fail
                    go_roundw
                    case rel => exact ⟨m + 1, by go_num, by omega, ⟨os4, HJS4.out, HS4.out, HNOT.out HZ.out, HOWN.out, HSET.out⟩, HB4.out.setCell (p := ⟨w.heap.size, i0', none⟩) (Nat.le_refl _) _, by simp; omega⟩
                    case measure => simp [intOf]; omega
                · have hlt4 : j < os4.length := (List.getElem?_eq_some_iff.1 HJS4.out).1
                  have hde := doneF_end (l := l) HJS4.out (m := m) (by omega)
                  rw [HS4.out] at hde
                  have hkn : KInv l os4 (fun p => decide (p.2 ∈ os4.take (j + 1))) := HKI4.out.congr hde
                  have hkst : KSt w4 w.heap.size l.length w.heap.size (w.heap.size + 1) (cntP (pairsL l) (fun p => decide (p.2 ∈ os4.take (j + 1)))) hs (behP (pairsL l)) := HK4.out.congr (fun i _ => cntP_congr hde i) (fun _ _ => rfl)
                  have HKN := Lib.hid hkn
                  have HKST := Lib.hid hkst
                  clear hde hkn hkst
                  go_wp2_with fail
                  go_roundw
                  case rel => exact ⟨j + 1, by go_num, by omega, ⟨os4, HKN.out, by omega, HOW4.out, HKST.out⟩, HB4.out, hs4⟩
                  case measure => simp [intOf]; omega
            · obtain rfl : j = os.length := by omega
              go_wp2_with fail
              go_ret
              exact ⟨os, _, rfl, ints_of_own HOW3.out (by rw [nums_length]; omega), KInv.done HKI3.out, HB3.out⟩
end Go.Proofs.Ytjbicfimoiiglaa
