/-
  The program's Sort.
-/
import Derived.Test.YtgbmmoioehmfgaaSorted
import Derived.Test.YtgbmmoioehmfgaaPlaces
import Derived.Test.YtgbmmoioehmfgaaApart
import Derived.Test.YtgbmmoioehmfgaaWith
import Derived.Test.YtgbmmoioehmfgaaTermC
namespace Go.Proofs.Ytgbmmoioehmfgaa
open Go.RowKit Go.Sort

/-- What Sort answers. -/
def srtTms (l : List Tm) : List Tm := if l.all Tm.right = true then sortTm l else []
def srtErr (l : List Tm) : Int := if l.all Tm.right = true then 0 else 1
def SortPost (l : List Tm) (w : World) (e : Ending) (w' : World) : Prop :=
  (∃ g c, e = .returned (.tuple #[.slice g (srtTms l).length c, .int .i64 (srtErr l)]) ∧ Tm.sliceIn w' w'.heap.size (srtTms l) (.slice g (srtTms l).length c)) ∧ RowKit.Below w.heap.size w w'

set_option maxRecDepth 100000 in
set_option maxHeartbeats 4000000 in
theorem csort_any (l : List Tm) (w : World) (sv : Value) (hsl : Tm.sliceIn w w.heap.size l sv) (hmax : l.length ≤ rowMax) (hsz : Tm.sizes l ≤ 1000000) :
    Calls Try.prog 14 #[sv] w fun e w' => SortPost l w e w' := by
  have hm200 := Nat.le_trans hmax rowMax_le
  have hsl0 := hsl
  obtain ⟨g, cap, rfl, hcap, hlen, _⟩ := hsl0
  have HSL := Lib.hid hsl
  have HSZ := Lib.hid (fun t (ht : t ∈ l) => Nat.le_trans (Tm.size_mem_le ht) hsz)
  clear hsl
  go_enter Try.func14, Try.ntmps14
  go_wp2_with fail
  go_loopw [4, 5, 6, 12] (fun v _ _ i wr => ∃ k : Nat, k ≤ l.length ∧ i = .int .i64 k ∧ Hid (∀ j (h : j < l.length), j < k → l[j].right = true) ∧ Hid (RowKit.Below w.heap.size w wr) ∧ Hid (ownInts wr w.heap.size v ((places l.length).take k))) (fun _ _ _ i _ => l.length - (intOf i).toNat)
  case atStart => exact ⟨0, Nat.zero_le _, rfl, fun j _ h => by omega, RowKit.Below.refl _ _, World.ownsRow_nil _ _ _ _⟩
  case round =>
    obtain ⟨k, hk, rfl, hp, hb, hown⟩ := hrel
    have hbs := hb.out.size
    have hkl : ((places l.length).take k).length = k := by rw [List.length_take, places_length]; omega
    by_cases hlt : k < l.length
    · obtain ⟨b, off, sv, rfl, hbB, g0, g1, g2, g3, hin'⟩ := Tm.sliceIn_get (Tm.sliceIn_below HSL.out hb.out (Nat.le_refl _)) k hlt
      obtain ⟨_, ga, capa, rfl, _, _, _⟩ := Tm.inn_iff.1 hin'
      have HIN := Lib.hid hin'
      have HKL := Lib.hid hkl
      clear hin' hkl
      go_wp2_with fail
      refine (tright_any l[k] _ _ (Tm.inn_mono (Tm.inn_below HIN.out (n₀ := wr.heap.size) ((RowKit.Below.refl _ _).alloc (Nat.le_refl _) _) hbs) (by simp; omega)) (HSZ.out _ (List.getElem_mem hlt))).mono ?_
      rintro e w1 ⟨rfl, hb1⟩
      have hbw : RowKit.Below wr.heap.size wr w1 := ((RowKit.Below.refl wr.heap.size wr).alloc (Nat.le_refl _) _).trans (hb1.mono (by simp))
      have HBW := Lib.hid hbw
      have HB1 := Lib.hid (hb.out.trans (hbw.mono hbs))
      have HOWN := Lib.hid (ownInts_below hown.out hbw)
      have hs1 := hbw.size
      clear hb1 hbw hown hb
      cases hq : l[k].right with
      | true =>
        have HQ := Lib.hid hq
        have HPT := Lib.hid (places_take l.length k hlt)
        clear hq
        go_wp2_with (at_builtin; refine wpList_append_ints rfl _ _ rfl w.heap.size u4 ((places l.length).take k) rfl (HOWN.out.alloc _) [(k : Int)] (some ⟨w1.heap.size, 0, none⟩) 1 rfl (src1 _ rfl) (by rw [HKL.out]; simp; omega) (by simp; omega) ?_; intro v' w' hown' hgrow hlow)
        go_roundw
        case rel =>
          refine ⟨k + 1, by omega, by go_num, fun j hj hjk => ?_, ?_, by rw [HPT.out]; exact hown'⟩
          · by_cases hjj : j < k
            · exact hp.out j hj hjj
            · obtain rfl : j = k := by omega
              exact HQ.out
          · exact (HB1.out.alloc (by omega) _).grown hgrow (by simp; omega) (fun j e => hlow j e)
        case measure => simp [intOf]; omega
      | false =>
        have hf : l.all Tm.right = false := by
          rw [Bool.eq_false_iff]
          intro h
          have := List.all_eq_true.1 h _ (List.getElem_mem hlt)
          rw [hq] at this
          cases this
        have h1 : srtTms l = [] := by rw [srtTms, if_neg (by rw [hf]; simp)]
        have h2 : srtErr l = 1 := by rw [srtErr, if_neg (by rw [hf]; simp)]
        have H1 := Lib.hid h1
        have H2 := Lib.hid h2
        clear hf hq h1 h2
        go_wp2_with fail
        go_ret2
        refine ⟨⟨none, 0, by rw [H1.out, H2.out]; rfl, by rw [H1.out]; exact ⟨none, 0, rfl, Nat.le_refl _, Nat.zero_le _, .inl rfl⟩⟩, HB1.out⟩
    · have hall : l.all Tm.right = true := by
        rw [List.all_eq_true]
        intro x hx
        obtain ⟨j, hj, rfl⟩ := List.getElem_of_mem hx
        exact hp.out j hj (by omega)
      have h1 : srtTms l = sortTm l := by rw [srtTms, if_pos hall]
      have h2 : srtErr l = 0 := by rw [srtErr, if_pos hall]
      have H1 := Lib.hid h1
      have H2 := Lib.hid h2
      obtain rfl : k = l.length := by omega
      rw [List.take_of_length_le (by rw [places_length]; omega)] at hown hkl
      obtain ⟨gp, cp, rfl⟩ := owns_slice hown.out
      have hints := ints_of_own hown.out (by rw [hkl]; omega)
      have HINTS := Lib.hid hints
      have HKL := Lib.hid hkl
      have hso := sorted_any l (.slice g l.length cap) (places l.length) gp cp wr hints (by rw [hkl]; exact hmax) (Tm.sliceIn_mono (Tm.sliceIn_below HSL.out hb.out (Nat.le_refl _)) hbs) (places_rng _)
      have HSO := Lib.hid hso
      clear hall h1 h2 hp hints hown hso hkl
      go_wp2_with fail
      refine HSO.out.mono ?_
      rintro e w2 ⟨d, g2, c2, rfl, hperm, hsorted, hin, hb2⟩
      rw [HKL.out] at hperm hsorted hin
      simp only [HKL.out]
      have hks := sorted_places hperm hsorted
      have hkr := keeps_rng (l := l) (d := d) (N := l.length) (n := l.length) (perm_rng hperm)
      have hkn := keepsN_le l d l.length
      obtain ⟨ks, hks0⟩ : ∃ ks, keepsN l d l.length = ks := ⟨_, rfl⟩
      rw [hks0] at hks hkr hkn hin ⊢
      have HKS := Lib.hid hks
      have HKR := Lib.hid hkr
      have HINS := Lib.hid hin
      have HB2 := Lib.hid (hb.out.trans (hb2.mono hbs))
      have hbs2 := hb2.size
      clear hperm hsorted hin hks hkr hks0 hb2 HSO HINTS HKL
      obtain ⟨i0, hi, hz0, hz1, hz2⟩ := info_parts Try.infoTm
      have hws2 : w.heap.size ≤ w2.heap.size := by omega
      go_wp2_with fail
      go_loopw [7, 9, 30] (fun v _ i wq => ∃ k : Nat, k ≤ ks.length ∧ i = .int .i64 k ∧ Hid (∃ xs, wq.ownsRow w2.heap.size 24 4 v k xs ∧ Tm.cellsP wq (okRow w2.heap.size wq v) ((ks.take k).map (keyAt l)) xs) ∧ Hid (RowKit.Below w2.heap.size w2 wq)) (fun _ _ i _ => ks.length - (intOf i).toNat)
      case atStart => exact ⟨0, Nat.zero_le _, rfl, ⟨[], World.ownsRow_nil _ _ _ _, by simp [Tm.cellsP]⟩, RowKit.Below.refl _ _⟩
      case round =>
        obtain ⟨k, hk, rfl, hrow, hbq⟩ := hrel
        have hbq2 := hbq.out.size
        by_cases hlt : k < ks.length
        · obtain ⟨bi, oi, rfl, hbiB, gi⟩ := intsIn_get (intsIn_below HINS.out hbq.out (Nat.le_refl _)) k hlt
          have hkb := HKR.out _ (List.getElem_mem hlt)
          obtain ⟨j, hj⟩ : ∃ j : Nat, ks[k] = (j : Int) := ⟨ks[k].toNat, by omega⟩
          have hjl : j < l.length := by omega
          have hmap : (ks.take (k + 1)).map (keyAt l) = (ks.take k).map (keyAt l) ++ [l[j]] := by
            rw [List.take_succ_eq_append_getElem hlt, List.map_append, List.map_cons, List.map_nil, hj, keyAt_get hjl]
          have HM := Lib.hid hmap
          rw [hj] at gi
          have hin0 := Tm.sliceIn_below HSL.out (HB2.out.trans (hbq.out.mono hws2)) (Nat.le_refl _)
          obtain ⟨b, off, sv, rfl, hbB, g0, g1, g2, g3, hin'⟩ := Tm.sliceIn_get hin0 j hjl
          obtain ⟨_, ga, capa, rfl, _, _, _⟩ := Tm.inn_iff.1 hin'
          have HIN := Lib.hid hin'
          clear hin' hin0 hmap hkb hj
          go_wp2_with fail
          refine (apart_any l[j] wr w.heap.size _ (by omega) HIN.out).mono ?_
          rintro e w3 ⟨sv', rfl, hp, hb3⟩
          obtain ⟨_, ga', capa', rfl, hc2, hl2, _⟩ := Tm.innP_iff.1 hp
          have HP := Lib.hid hp
          have HB3 := Lib.hid hb3
          have hsz3 := hb3.size
          obtain ⟨xs, hown, hcells⟩ := hrow.out
          have HOWN := Lib.hid hown
          have HCELLS := Lib.hid hcells
          have hown2 := Lib.hid (ownsRow_below hown hb3)
          clear hp hb3 hown hcells hrow
          go_wp2_with (at_builtin; refine wpList_append_sep _ rfl _ _ 22 rfl w2.heap.size 24 i0 _ 4 56 Try.underlying22 hi hz0 hz1 hz2 rfl (by decide) u7 k xs rfl (hown2.out.alloc _) ⟨w3.heap.size, 0, none⟩ 1 1 [.int .i64 l[j].kind, .string l[j].name, .int .i64 l[j].n, .slice ga' l[j].args.length capa'] rfl (by decide) rfl news4 one4 (by unfold maxLen; omega) (by omega) (by simp; omega) ?_; intro v' w4 hown3 hgrow hsep)
          go_roundw
          case rel =>
            refine ⟨k + 1, by omega, by go_num, ⟨_, hown3, ?_⟩, ((hbq.out.trans (HB3.out.mono (by omega))).alloc (by omega) _).grown hgrow (by simp; omega) (fun j e => (HOWN.out.lt j e).1)⟩
            rw [HM.out]
            exact row_step HOWN.out HCELLS.out HB3.out hbq2 HP.out hgrow hsep
          case measure => simp [intOf]; omega
        · obtain rfl : k = ks.length := by omega
          obtain ⟨xs, hown, hcells⟩ := hrow.out
          obtain ⟨gr, cr, rfl⟩ := owns_slice hown
          rw [List.take_length, HKS.out] at hcells
          have hkl : ks.length = (sortTm l).length := by rw [← HKS.out, List.length_map]
          have HKL := Lib.hid hkl
          have HOWN := Lib.hid hown
          have HCELLS := Lib.hid hcells
          clear hown hcells hrow hkl
          go_wp2_with fail
          go_ret2
          have hs := sliceP_done (wr := wr) (wf := wr) (lo := w2.heap.size) (base := w2.heap.size) (xs := xs) (by rw [← HKL.out]; exact HOWN.out) HCELLS.out (by have := sortTm_length l; omega) (Nat.le_refl _) (Nat.le_refl _) (fun _ _ _ => rfl)
          refine ⟨⟨gr, cr, ?_, ?_⟩, HB2.out.trans (hbq.out.mono hws2)⟩
          · rw [H1.out, H2.out, ← HKL.out]; rfl
          · rw [H1.out, ← HKL.out]
            exact Tm.sliceIn_of_P (fun b hb => hb.2) hs
end Go.Proofs.Ytgbmmoioehmfgaa
