/-
  The library's SortFunc, SortedFunc of a row of places.
  The program's sorted: places in the order of their terms, each term once.
  The program's Sort.
-/
import Derived.Test.YtpiflkgjmncijaaPdqI
import Derived.Test.YtpiflkgjmncijaaSeq
import Derived.Test.YtpiflkgjmncijaaCompactB
import Derived.Test.YtpiflkgjmncijaaPlaces
import Derived.Test.YtpiflkgjmncijaaApart
import Derived.Test.YtpiflkgjmncijaaWith
import Derived.Test.YtpiflkgjmncijaaTermC
namespace Go.Proofs.Ytpiflkgjmncijaa
open Go.RowKit Go.Sort

/-- The greatest row whose sorting is told here. -/
def rowMax : Nat := 100
theorem rowMax_le : rowMax ≤ 200 := by decide
theorem pdq_any (l : List Tm) (sv : Value) (d : Array Int) (g : Option Addr) (b cap limit : Nat) (w W : World) (hg : d.size = 0 ∨ g = some ⟨b, 0, none⟩) (hS : RowSt w b l.length d W) (hsl : Tm.sliceIn w w.heap.size l sv) (h12 : d.size ≤ rowMax) (hl : limit < 256) :
    Calls Try.prog 80 #[.slice g d.size cap, .int .i64 0, .int .i64 d.size, .int .i64 limit, .func (.func 45) #[sv] #[]] W fun e W' => SortedPost l d w b e W' := by
  rcases hg with h0 | rfl
  · exact small_any l sv d g b cap limit w W (.inl h0) hS hsl (by omega)
  · have hm := Nat.le_trans h12 rowMax_le
    have hB : Go.Sort.Below (tlt l) 0 d.size d := .inl rfl
    have hc := pdqs_any l sv b cap w hsl (d.size + 1) 0 d.size limit d W (by omega) hS (Nat.zero_le _) (Nat.le_refl _) (by omega) hl hB
    refine hc.mono ?_
    rintro e W1 ⟨rfl, h1⟩
    obtain ⟨p1, p2⟩ := pdq_sorts (tlt l) (tlt_swo l) d 0 d.size limit true true (Nat.zero_le _) (Nat.le_refl _) hB
    exact ⟨rfl, _, p1, p2, h1⟩

set_option maxRecDepth 100000 in
theorem sortFunc_any (l : List Tm) (sv : Value) (d : Array Int) (g : Option Addr) (b cap : Nat) (w W : World) (hg : d.size = 0 ∨ g = some ⟨b, 0, none⟩) (hS : RowSt w b l.length d W) (hsl : Tm.sliceIn w w.heap.size l sv) (h12 : d.size ≤ rowMax) :
    Calls Try.prog 77 #[.slice g d.size cap, .func (.func 45) #[sv] #[]] W fun e W' => SortedPost l d w b e W' := by
  have HS := Lib.hid hS
  have HSL := Lib.hid hsl
  have HG := Lib.hid hg
  clear hg
  have hm := Nat.le_trans h12 rowMax_le
  clear hS hsl
  go_enter Try.func77, Try.ntmps77
  go_wp2_with fail
  refine (len_any d.size (by omega) W).mono ?_
  rintro e W1 ⟨⟨k, hk, rfl⟩, rfl⟩
  go_wp2_with fail
  refine (pdq_any l sv d g b cap k w W HG.out HS.out HSL.out h12 hk).mono ?_
  rintro e W1 ⟨rfl, d', h1, h2, hr⟩
  have HR := Lib.hid hr
  clear hr
  go_wp2_with fail
  go_end0
  exact ⟨rfl, d', h1, h2, HR.out⟩

/-- A new row of sorted places. -/
def SortedRow (l : List Tm) (zs : List Int) (w : World) (e : Ending) (W' : World) : Prop :=
  ∃ (g : Option Addr) (b cap : Nat) (d' : Array Int), e = .returned (.slice g zs.length cap) ∧ (zs.length = 0 ∨ g = some ⟨b, 0, none⟩) ∧ zs.length ≤ cap ∧ PermIn 0 zs.length zs.toArray d' ∧ SortedIn (tlt l) 0 zs.length d' ∧ RowSt w b l.length d' W'

theorem rowSt_of_owns {w W : World} {N : Nat} {zs : List Int} {v : Value} (h : W.ownsRow w.heap.size 3 1 v zs.length (zs.map (Value.int .i64))) (hb : RowKit.Below w.heap.size w W) (hr : ∀ x ∈ zs, 0 ≤ x ∧ x < N) :
    ∃ (g : Option Addr) (b cap : Nat), v = .slice g zs.length cap ∧ (zs.length = 0 ∨ g = some ⟨b, 0, none⟩) ∧ zs.length ≤ cap ∧ RowSt w b N zs.toArray W := by
  obtain ⟨hlen, h2⟩ := h
  rcases h2 with ⟨rfl, hx⟩ | ⟨b, cap, cur, rfl, hbase, hcur, hcap, _, hsize, htake⟩
  · obtain rfl : zs = [] := List.length_eq_zero_iff.1 hx
    exact ⟨none, w.heap.size, 0, rfl, .inl rfl, Nat.le_refl _, Nat.le_refl _, hb, fun i hi => by simp at hi, fun i hi => by simp at hi, fun i hi => by simp at hi⟩
  · refine ⟨_, b, cap, rfl, .inr rfl, hcap, hbase, hb, fun i hi => ?_, fun i hi => ?_, fun i hi => ?_⟩
    · have hi' : i < zs.length := by simpa using hi
      have h1 : cur[i]? = some (Value.int .i64 zs[i]) := by
        have h3 : (cur.toList.take (zs.length * 1))[i]? = some (Value.int .i64 zs[i]) := by rw [htake]; simp [hi']
        rw [List.getElem?_take_of_lt (by omega)] at h3
        simpa using h3
      have h4 : zs.toArray[i]! = zs[i] := by simp [hi']
      rw [h4]
      simp [World.cell?, hcur, h1]
    · simp [World.frozen?, hcur]
    · have hi' : i < zs.length := by simpa using hi
      have h4 : zs.toArray[i]! = zs[i] := by simp [hi']
      rw [h4]
      exact hr _ (List.getElem_mem hi')

set_option maxRecDepth 100000 in
set_option maxHeartbeats 1000000 in
theorem sortedFunc_any (l : List Tm) (sv : Value) (zs : List Int) (Bs : Nat) (g : Option Addr) (cap : Nat) (w : World) (hBs : Bs < w.heap.size) (hc : w.cell? ⟨Bs, 0, none⟩ = some (.slice g zs.length cap)) (hI : intsIn w w.heap.size zs (.slice g zs.length cap))
    (hz : zs.length ≤ rowMax) (hsl : Tm.sliceIn w w.heap.size l sv) (hr : ∀ x ∈ zs, 0 ≤ x ∧ x < l.length) :
    Calls Try.prog 62 #[.func (.func 78) #[] #[.pointer (some ⟨Bs, 0, none⟩)], .func (.func 45) #[sv] #[]] w
      fun e w' => SortedRow l zs w e w' := by
  have HI := Lib.hid hI
  have HC := Lib.hid hc
  have HR := Lib.hid hr
  have HSL := Lib.hid hsl
  have hm := Nat.le_trans hz rowMax_le
  clear hI hc hr hsl
  go_enter Try.func62, Try.ntmps62
  go_wp2_with fail
  refine (collect_any zs Bs g cap w hBs HC.out HI.out (by omega)).mono ?_
  rintro e w1 ⟨v, rfl, hrow, hb⟩
  obtain ⟨g', b, cap', rfl, hg', hcap', hst⟩ := rowSt_of_owns hrow hb HR.out
  have HST := Lib.hid hst
  have HG := Lib.hid hg'
  clear hrow hb hst hg'
  go_wp2_with fail
  have hs := sortFunc_any l sv zs.toArray g' b cap' w w1 (by simpa using HG.out) HST.out HSL.out (by simpa using hz)
  rw [List.size_toArray] at hs
  refine hs.mono ?_
  rintro e w2 ⟨rfl, d', h1, h2, hr2⟩
  rw [List.size_toArray] at h1 h2
  have H1 := Lib.hid h1
  have H2 := Lib.hid h2
  have HR2 := Lib.hid hr2
  clear h1 h2 hr2 hs
  go_wp2_with fail
  go_ret
  exact ⟨g', b, cap', d', rfl, HG.out, hcap', H1.out, H2.out, HR2.out⟩


/-- A new row: of the places, those that are left, sorted. -/
def PlacesPost (l : List Tm) (zs : List Int) (w : World) (e : Ending) (W' : World) : Prop :=
  ∃ (d : Array Int) (g : Option Addr) (c : Nat), e = .returned (.slice g (keepsN l d zs.length).length c) ∧ PermIn 0 zs.length zs.toArray d ∧ SortedIn (tlt l) 0 zs.length d ∧ intsIn W' W'.heap.size (keepsN l d zs.length) (.slice g (keepsN l d zs.length).length c) ∧ RowKit.Below w.heap.size w W'

theorem first_below {w : World} {o1 o2 : Obj} (h : ∀ o1 o2 : Obj, RowKit.Below w.heap.size w ((w.alloc o1).alloc o2)) : RowKit.Below w.heap.size w (((w.alloc o1).alloc o2).drew) := (h o1 o2).drew

set_option maxRecDepth 100000 in
set_option maxHeartbeats 2000000 in
theorem sorted_any (l : List Tm) (sv : Value) (zs : List Int) (g : Option Addr) (cap : Nat) (w : World) (hI : intsIn w w.heap.size zs (.slice g zs.length cap))
    (hz : zs.length ≤ rowMax) (hsl : Tm.sliceIn w w.heap.size l sv) (hr : ∀ x ∈ zs, 0 ≤ x ∧ x < l.length) :
    Calls Try.prog 44 #[.slice g zs.length cap, .func (.func 45) #[sv] #[]] w
      fun e w' => PlacesPost l zs w e w' := by
  have HI := Lib.hid hI
  have HR := Lib.hid hr
  have HSL := Lib.hid hsl
  clear hI hr hsl
  go_enter Try.func44, Try.ntmps44
  go_wp2_with fail
  have hbw : ∀ o1 o2 : Obj, RowKit.Below w.heap.size w ((w.alloc o1).alloc o2) := fun o1 o2 => ((Below.refl _ w).alloc (Nat.le_refl _) _).alloc (by simp) _
  have HBW := Lib.hid hbw
  clear hbw
  go_region_with (first | (go_at_call 63; refine (values_any _ g zs.length cap _ rfl).mono ?_; rintro e w' ⟨rfl, rfl⟩) | (go_at_call 62; refine (sortedFunc_any l sv zs (w.heap.size + 1) g cap _ (by simp) (by go_simp) (intsIn_mono (intsIn_below HI.out (first_below HBW.out) (Nat.le_refl _)) (by simp; omega)) hz (Tm.sliceIn_mono (Tm.sliceIn_below HSL.out (first_below HBW.out) (Nat.le_refl _)) (by simp; omega)) HR.out).mono ?_; rintro e w' ⟨g', b, cap', d', rfl, hg, hc', hp, hs, hr2⟩))
  all_goals
    have hd : d'.size = zs.length := by have := hp.1; simpa using this
    have hcp := compact_any l sv d' g' b cap' w.heap.size _ w' (by rw [hd]; exact hg) hr2 (Tm.sliceIn_mono (Tm.sliceIn_below HSL.out (first_below HBW.out) (Nat.le_refl _)) (by simp; omega)) (by have := rowMax_le; omega) (by rw [hd]; exact hc') (by simp; omega) (by go_simp)
    rw [hd] at hcp
    have HCP := Lib.hid hcp
    have HP := Lib.hid hp
    have HS := Lib.hid hs
    have HD := Lib.hid hd
    clear hd hcp hg hp hs hr2 hc'
    go_wp2_with fail
    refine HCP.out.mono ?_
    rintro e w2 ⟨v, rfl, hin, hb2⟩
    obtain ⟨g2, c2, rfl, _⟩ := id hin
    have HIN := Lib.hid hin
    have HB2 := Lib.hid hb2
    clear hin hb2 HCP
    go_wp2_with fail
    go_ret
    have hin := HIN.out
    rw [HD.out] at hin ⊢
    exact ⟨d', g2, c2, rfl, HP.out, HS.out, hin, (first_below HBW.out).trans (HB2.out.mono (by simp; omega))⟩


/-- What Sort answers. -/
def srtTms (l : List Tm) : List Tm := if l.all Tm.right = true then sortTm l else []
def srtErr (l : List Tm) : Int := if l.all Tm.right = true then 0 else 1
def SortPost (l : List Tm) (w : World) (e : Ending) (w' : World) : Prop :=
  (∃ g c, e = .returned (.tuple #[.slice g (srtTms l).length c, .int .i64 (srtErr l)]) ∧ Tm.sliceIn w' w'.heap.size (srtTms l) (.slice g (srtTms l).length c)) ∧ RowKit.Below w.heap.size w w'

set_option maxRecDepth 100000 in
set_option maxHeartbeats 4000000 in
theorem csort_any (l : List Tm) (w : World) (sv : Value) (hsl : Tm.sliceIn w w.heap.size l sv) (hmax : l.length ≤ rowMax) (hsz : Tm.sizes l ≤ 1000000) :
    Calls Try.prog 18 #[sv] w fun e w' => SortPost l w e w' := by
  have hm200 := Nat.le_trans hmax rowMax_le
  have hsl0 := hsl
  obtain ⟨g, cap, rfl, hcap, hlen, _⟩ := hsl0
  have HSL := Lib.hid hsl
  have HSZ := Lib.hid (fun t (ht : t ∈ l) => Nat.le_trans (Tm.size_mem_le ht) hsz)
  clear hsl
  go_enter Try.func18, Try.ntmps18
  go_wp2_with fail
  go_loopw [4, 5, 6, 12] (fun v _ _ i wr => ∃ k : Nat, k ≤ l.length ∧ i = .int .i64 k ∧ Hid (∀ j (h : j < l.length), j < k → l[j].right = true) ∧ Hid (RowKit.Below w.heap.size w wr) ∧ Hid (ownInts wr w.heap.size v ((places l.length).take k))) (fun _ _ _ i _ => l.length - (intOf i).toNat)
  case atStart => exact ⟨0, Nat.zero_le _, rfl, fun j _ h => by omega, RowKit.Below.refl _ _, World.ownsRow_nil _ _ _ _⟩
  case round =>
    obtain ⟨k, hk, rfl, hp, hb, hown⟩ := hrel
    have hbs := hb.out.size
    have hkl : ((places l.length).take k).length = k := by rw [List.length_take, places_length]; omega
    by_cases hlt : k < l.length
    · obtain ⟨b, off, sv, rfl, hbB, g0, g1, g2, g3, hin'⟩ := Tm.sliceIn_get (Tm.sliceIn_below HSL.out hb.out (Nat.le_refl _)) k hlt
      obtain ⟨_, ga, capa, rfl, _, _, _⟩ := Tm.inn_iff.1 hin'
      have HIN := Lib.hid hin'
      have HKL := Lib.hid hkl
      clear hin' hkl
      go_wp2_with fail
      refine (tright_any l[k] _ _ (Tm.inn_mono (Tm.inn_below HIN.out (n₀ := wr.heap.size) ((RowKit.Below.refl _ _).alloc (Nat.le_refl _) _) hbs) (by simp; omega)) (HSZ.out _ (List.getElem_mem hlt))).mono ?_
      rintro e w1 ⟨rfl, hb1⟩
      have hbw : RowKit.Below wr.heap.size wr w1 := ((RowKit.Below.refl wr.heap.size wr).alloc (Nat.le_refl _) _).trans (hb1.mono (by simp))
      have HBW := Lib.hid hbw
      have HB1 := Lib.hid (hb.out.trans (hbw.mono hbs))
      have HOWN := Lib.hid (ownInts_below hown.out hbw)
      have hs1 := hbw.size
      clear hb1 hbw hown hb
      cases hq : l[k].right with
      | true =>
        have HQ := Lib.hid hq
        have HPT := Lib.hid (places_take l.length k hlt)
        clear hq
        go_wp2_with (at_builtin; refine wpList_append_ints rfl _ _ rfl w.heap.size u4 ((places l.length).take k) rfl (HOWN.out.alloc _) [(k : Int)] (some ⟨w1.heap.size, 0, none⟩) 1 rfl (src1 _ rfl) (by rw [HKL.out]; simp; omega) (by simp; omega) ?_; intro v' w' hown' hgrow hlow)
        go_roundw
        case rel =>
          refine ⟨k + 1, by omega, by go_num, fun j hj hjk => ?_, ?_, by rw [HPT.out]; exact hown'⟩
          · by_cases hjj : j < k
            · exact hp.out j hj hjj
            · obtain rfl : j = k := by omega
              exact HQ.out
          · exact (HB1.out.alloc (by omega) _).grown hgrow (by simp; omega) (fun j e => hlow j e)
        case measure => simp [intOf]; omega
      | false =>
        have hf : l.all Tm.right = false := by
          rw [Bool.eq_false_iff]
          intro h
          have := List.all_eq_true.1 h _ (List.getElem_mem hlt)
          rw [hq] at this
          cases this
        have h1 : srtTms l = [] := by rw [srtTms, if_neg (by rw [hf]; simp)]
        have h2 : srtErr l = 1 := by rw [srtErr, if_neg (by rw [hf]; simp)]
        have H1 := Lib.hid h1
        have H2 := Lib.hid h2
        clear hf hq h1 h2
        go_wp2_with fail
        go_ret2
        refine ⟨⟨none, 0, by rw [H1.out, H2.out]; rfl, by rw [H1.out]; exact ⟨none, 0, rfl, Nat.le_refl _, Nat.zero_le _, .inl rfl⟩⟩, HB1.out⟩
    · have hall : l.all Tm.right = true := by
        rw [List.all_eq_true]
        intro x hx
        obtain ⟨j, hj, rfl⟩ := List.getElem_of_mem hx
        exact hp.out j hj (by omega)
      have h1 : srtTms l = sortTm l := by rw [srtTms, if_pos hall]
      have h2 : srtErr l = 0 := by rw [srtErr, if_pos hall]
      have H1 := Lib.hid h1
      have H2 := Lib.hid h2
      obtain rfl : k = l.length := by omega
      rw [List.take_of_length_le (by rw [places_length]; omega)] at hown hkl
      obtain ⟨gp, cp, rfl⟩ := owns_slice hown.out
      have hints := ints_of_own hown.out (by rw [hkl]; omega)
      have HINTS := Lib.hid hints
      have HKL := Lib.hid hkl
      have hso := sorted_any l (.slice g l.length cap) (places l.length) gp cp wr hints (by rw [hkl]; exact hmax) (Tm.sliceIn_mono (Tm.sliceIn_below HSL.out hb.out (Nat.le_refl _)) hbs) (places_rng _)
      have HSO := Lib.hid hso
      clear hall h1 h2 hp hints hown hso hkl
      go_wp2_with fail
      refine HSO.out.mono ?_
      rintro e w2 ⟨d, g2, c2, rfl, hperm, hsorted, hin, hb2⟩
      rw [HKL.out] at hperm hsorted hin
      simp only [HKL.out]
      have hks := sorted_places hperm hsorted
      have hkr := keeps_rng (l := l) (d := d) (N := l.length) (n := l.length) (perm_rng hperm)
      have hkn := keepsN_le l d l.length
      obtain ⟨ks, hks0⟩ : ∃ ks, keepsN l d l.length = ks := ⟨_, rfl⟩
      rw [hks0] at hks hkr hkn hin ⊢
      have HKS := Lib.hid hks
      have HKR := Lib.hid hkr
      have HINS := Lib.hid hin
      have HB2 := Lib.hid (hb.out.trans (hb2.mono hbs))
      have hbs2 := hb2.size
      clear hperm hsorted hin hks hkr hks0 hb2 HSO HINTS HKL
      obtain ⟨i0, hi, hz0, hz1, hz2⟩ := info_parts Try.infoTm
      have hws2 : w.heap.size ≤ w2.heap.size := by omega
      go_wp2_with fail
      go_loopw [7, 9, 30] (fun v _ i wq => ∃ k : Nat, k ≤ ks.length ∧ i = .int .i64 k ∧ Hid (∃ xs, wq.ownsRow w2.heap.size 24 4 v k xs ∧ Tm.cellsP wq (okRow w2.heap.size wq v) ((ks.take k).map (keyAt l)) xs) ∧ Hid (RowKit.Below w2.heap.size w2 wq)) (fun _ _ i _ => ks.length - (intOf i).toNat)
      case atStart => exact ⟨0, Nat.zero_le _, rfl, ⟨[], World.ownsRow_nil _ _ _ _, by simp [Tm.cellsP]⟩, RowKit.Below.refl _ _⟩
      case round =>
        obtain ⟨k, hk, rfl, hrow, hbq⟩ := hrel
        have hbq2 := hbq.out.size
        by_cases hlt : k < ks.length
        · obtain ⟨bi, oi, rfl, hbiB, gi⟩ := intsIn_get (intsIn_below HINS.out hbq.out (Nat.le_refl _)) k hlt
          have hkb := HKR.out _ (List.getElem_mem hlt)
          obtain ⟨j, hj⟩ : ∃ j : Nat, ks[k] = (j : Int) := ⟨ks[k].toNat, by omega⟩
          have hjl : j < l.length := by omega
          have hmap : (ks.take (k + 1)).map (keyAt l) = (ks.take k).map (keyAt l) ++ [l[j]] := by
            rw [List.take_succ_eq_append_getElem hlt, List.map_append, List.map_cons, List.map_nil, hj, keyAt_get hjl]
          have HM := Lib.hid hmap
          rw [hj] at gi
          have hin0 := Tm.sliceIn_below HSL.out (HB2.out.trans (hbq.out.mono hws2)) (Nat.le_refl _)
          obtain ⟨b, off, sv, rfl, hbB, g0, g1, g2, g3, hin'⟩ := Tm.sliceIn_get hin0 j hjl
          obtain ⟨_, ga, capa, rfl, _, _, _⟩ := Tm.inn_iff.1 hin'
          have HIN := Lib.hid hin'
          clear hin' hin0 hmap hkb hj
          go_wp2_with fail
          refine (apart_any l[j] wr w.heap.size _ (by omega) HIN.out).mono ?_
          rintro e w3 ⟨sv', rfl, hp, hb3⟩
          obtain ⟨_, ga', capa', rfl, hc2, hl2, _⟩ := Tm.innP_iff.1 hp
          have HP := Lib.hid hp
          have HB3 := Lib.hid hb3
          have hsz3 := hb3.size
          obtain ⟨xs, hown, hcells⟩ := hrow.out
          have HOWN := Lib.hid hown
          have HCELLS := Lib.hid hcells
          have hown2 := Lib.hid (ownsRow_below hown hb3)
          clear hp hb3 hown hcells hrow
          go_wp2_with (at_builtin; refine wpList_append_sep _ rfl _ _ 22 rfl w2.heap.size 24 i0 _ 4 56 Try.underlying22 hi hz0 hz1 hz2 rfl (by decide) u7 k xs rfl (hown2.out.alloc _) ⟨w3.heap.size, 0, none⟩ 1 1 [.int .i64 l[j].kind, .string l[j].name, .int .i64 l[j].n, .slice ga' l[j].args.length capa'] rfl (by decide) rfl news4 one4 (by unfold maxLen; omega) (by omega) (by simp; omega) ?_; intro v' w4 hown3 hgrow hsep)
          go_roundw
          case rel =>
            refine ⟨k + 1, by omega, by go_num, ⟨_, hown3, ?_⟩, ((hbq.out.trans (HB3.out.mono (by omega))).alloc (by omega) _).grown hgrow (by simp; omega) (fun j e => (HOWN.out.lt j e).1)⟩
            rw [HM.out]
            exact row_step HOWN.out HCELLS.out HB3.out hbq2 HP.out hgrow hsep
          case measure => simp [intOf]; omega
        · obtain rfl : k = ks.length := by omega
          obtain ⟨xs, hown, hcells⟩ := hrow.out
          obtain ⟨gr, cr, rfl⟩ := owns_slice hown
          rw [List.take_length, HKS.out] at hcells
          have hkl : ks.length = (sortTm l).length := by rw [← HKS.out, List.length_map]
          have HKL := Lib.hid hkl
          have HOWN := Lib.hid hown
          have HCELLS := Lib.hid hcells
          clear hown hcells hrow hkl
          go_wp2_with fail
          go_ret2
          have hs := sliceP_done (wr := wr) (wf := wr) (lo := w2.heap.size) (base := w2.heap.size) (xs := xs) (by rw [← HKL.out]; exact HOWN.out) HCELLS.out (by have := sortTm_length l; omega) (Nat.le_refl _) (Nat.le_refl _) (fun _ _ _ => rfl)
          refine ⟨⟨gr, cr, ?_, ?_⟩, HB2.out.trans (hbq.out.mono hws2)⟩
          · rw [H1.out, H2.out, ← HKL.out]; rfl
          · rw [H1.out, ← HKL.out]
            exact Tm.sliceIn_of_P (fun b hb => hb.2) hs
end Go.Proofs.Ytpiflkgjmncijaa
