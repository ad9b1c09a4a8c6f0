/-
  The statement SubstEnds, walked: for any row of binds and any term that lie in memory the call returns true, and nothing that was there has turned.
-/
import Derived.Test.YtpiflkgjmncijaaLawSApp
namespace Go.Proofs.Ytpiflkgjmncijaa
open Go.RowKit Go.Shelf Go.Maps

theorem placeI_neg {l : List Bd} {v : Int} : placeI l v < 0 ↔ place l v = none := by
  unfold placeI
  cases hp : place l v with
  | none => simp
  | some p => simp
theorem vs_one (t : Tm) (v : Int) : v ∈ varsOf [t] ↔ v ∈ t.vs := by rw [vars_vs]; simp

set_option maxRecDepth 100000 in
set_option maxHeartbeats 8000000 in
theorem sends_any (l : List Bd) (t : Tm) (w : World) (svl svt : Value) (hsl : bdsIn w w.heap.size l svl) (hin : Tm.inn w w.heap.size t svt) :
    Calls Try.prog 10 #[svl, .agg #[.int .i64 t.kind, .string t.name, .int .i64 t.n, svt]] w fun e w' => e = .returned (.bool true) ∧ Below w.heap.size w w' := by
  obtain ⟨gl, cl, rfl, _, _, _, _⟩ := id hsl
  obtain ⟨_, g, cap, rfl, hcap, hlen, _⟩ := Tm.inn_iff.1 hin
  obtain ⟨σ, hσ⟩ := sol_any l
  have HS := Lib.hid hσ
  have A0 := Lib.hid (ASt.start hsl hin)
  clear hσ hsl hin
  go_enter Try.func10, Try.ntmps10
  go_wp2_with fail
  refine (bsome_any l _ _ A0.out.bl).mono ?_
  rintro e W1 ⟨q, rfl, hq, hb1⟩
  have A1 := Lib.hid (A0.out.next hb1)
  have HQ := Lib.hid hq
  obtain ⟨c0, c1, c2, c3⟩ := A1.out.bt.cells
  clear hb1 hq A0
  cases q with
  | false =>
    go_wp2_with fail
    refine (knows3_any W1).mono ?_
    rintro e W2 ⟨rfl, hb2⟩
    have HB := Lib.hid (A1.out.next hb2).hb
    clear hb2
    go_wp2_with fail
    go_ret
    exact ⟨rfl, HB.out⟩
  | true =>
    obtain ⟨hl60, hl4⟩ := HQ.out rfl
    go_wp2_with fail
    have hone := one_slice (newBlk W1 _ _ rfl) ((A1.out.alloc (.cells #[.int .i64 t.kind, .string t.name, .int .i64 t.n, .slice g t.args.length cap] 24)).bt.2)
    refine (some_any [t] _ _ _ (Nat.le_refl _) hone).mono ?_
    rintro e W2 ⟨rfl, hb2⟩
    have A2 := Lib.hid ((A1.out.alloc _).next hb2)
    obtain ⟨d0, d1, d2, d3⟩ := A2.out.bt.cells
    clear hb2 hone c0 c1 c2 c3 A1
    cases hs : Tm.someB [t] with
    | false =>
      clear hs
      go_wp2_with fail
      refine (knows3_any W2).mono ?_
      rintro e W3 ⟨rfl, hb3⟩
      have HB := Lib.hid (A2.out.next hb3).hb
      clear hb3
      go_wp2_with fail
      go_ret
      exact ⟨rfl, HB.out⟩
    | true =>
      have hsz := Tm.some_size hs (t := t) (by simp)
      clear hs
      go_wp2_with fail
      refine (apply_any l σ HS.out t W2 _ _ A2.out.bl A2.out.bt.2 (by omega) (by omega) (by omega)).mono ?_
      rintro e W3 ⟨X, E, gx, cx, rfl, hinx, hb3, hspec⟩
      have A3 := Lib.hid ((A2.out.next hb3).alloc (.cells #[.int .i64 X.kind, .string X.name, .int .i64 X.n, .slice gx X.args.length cx] 24))
      have B3 := Lib.hid (TmBox.new hinx)
      have HSP := Lib.hid hspec
      clear hinx hb3 hspec d0 d1 d2 d3 A2
      by_cases hE : E = 0
      · subst hE
        have hgood : (RightL l ∧ t.right = true) ∧ X = t.bnd σ ∧ X.right = true := by
          rcases HSP.out with ⟨_, _, h2⟩ | ⟨h, ⟨_, _, h2⟩ | ⟨h1, h2, _⟩⟩
          · cases h2
          · cases h2
          · exact ⟨h, h2, by rw [h2]; exact h1⟩
        obtain ⟨⟨hR, hT⟩, hX, hXr⟩ := hgood
        have hσ := HS.out hR
        have htf := right_fair hT
        have hXnone : ∀ u ∈ X.vs, place l u = none := by rw [hX]; exact hσ.noneT t
        have hXsame : X.bnd σ = X := hσ.same (right_fair hXr) hXnone
        have hfree : (∀ u ∈ t.vs, place l u = none) → X = t := fun h => by rw [hX]; exact hσ.same htf h
        have hXsz : X.size ≤ 3000 := by
          simp only [Tm.right, Bool.and_eq_true, decide_eq_true_eq] at hXr
          exact hXr.1.2
        have HR := Lib.hid hR
        have HT := Lib.hid hT
        have HXR := Lib.hid hXr
        have HXN := Lib.hid hXnone
        have HXS := Lib.hid hXsame
        have HFR := Lib.hid hfree
        clear hR hT hX hXr hσ htf hXnone hXsame hfree HSP
        go_wp2_with fail
        have hone3 := one_slice (newBlk (W3.alloc (.cells #[.int .i64 X.kind, .string X.name, .int .i64 X.n, .slice gx X.args.length cx] 24)) _ (W3.heap.size + 1) (by simp)) ((B3.out.alloc (.cells #[.int .i64 X.kind, .string X.name, .int .i64 X.n, .slice gx X.args.length cx] 24)).2)
        refine (tvars_any [X] _ _ hone3 (by simp [Tm.sizes]; omega)).mono ?_
        rintro e W4 ⟨vv, rfl, hints, hb4, hwfv⟩
        obtain ⟨gv, cv, rfl, hcv, hlv, _⟩ := id hints
        have A4 := Lib.hid ((A3.out.alloc _).next hb4)
        have B4 := Lib.hid ((B3.out.alloc _).next hb4)
        have hvn : ∀ v ∈ varsOf [X], place l v = none := fun v hv => HXN.out v ((vs_one X v).1 hv)
        have hvl : (varsOf [X]).length ≤ 3000 := by have := varsOf_length [X]; simp [Tm.sizes] at this; omega
        obtain ⟨vs, hvs⟩ : ∃ vs, varsOf [X] = vs := ⟨_, rfl⟩
        rw [hvs] at hints hcv hvn hvl ⊢
        have HI := Lib.hid hints
        have HVN := Lib.hid hvn
        clear hone3 hb4 hints hvn hvs hwfv hlv A3 B3
        go_wp2_with fail
        go_loop [8] (fun ii => ∃ k : Nat, k ≤ vs.length ∧ ii = .int .i64 k) (fun ii => vs.length - (intOf ii).toNat)
        case atStart => exact ⟨0, Nat.zero_le _, rfl⟩
        case round =>
          obtain ⟨k, hk, rfl⟩ := hrel
          by_cases hlt : k < vs.length
          · obtain ⟨bv, ov, hgv, hbv, gc⟩ := intsIn_get HI.out k hlt
            subst hgv
            have hpn := HVN.out _ (List.getElem_mem hlt)
            have hpi : placeI l vs[k] = -1 := by simp [placeI, hpn]
            have hpa := place_any l vs[k] W4 _ A4.out.bl (by omega)
            rw [hpi] at hpa
            have HPA := Lib.hid hpa
            clear hpn hpi hpa
            go_wp2_with fail
            refine HPA.out.mono ?_
            rintro e w' ⟨rfl, rfl⟩
            go_wp2_with fail
            go_round
            case rel => exact ⟨k + 1, by omega, by go_num⟩
            case measure => simp [intOf]; omega
          · obtain rfl : k = vs.length := by omega
            obtain ⟨x0, x1, x2, x3⟩ := B4.out.cells
            have hxl := B4.out.lt
            clear HI HVN
            go_wp2_with fail
            refine (apply_any l σ HS.out X W4 _ _ A4.out.bl B4.out.2 (by omega) (by omega) (by omega)).mono ?_
            rintro e W5 ⟨Y, E2, gy, cy, rfl, hiny, hb5, hspec2⟩
            have hYE : Y = X ∧ E2 = 0 := by
              rcases hspec2 with ⟨h, _⟩ | ⟨_, ⟨h, _⟩ | ⟨_, h1, h2⟩⟩
              · exact absurd ⟨HR.out, HXR.out⟩ h
              · rw [HXS.out, HXR.out] at h; cases h
              · exact ⟨by rw [h1, HXS.out], h2⟩
            obtain ⟨rfl, rfl⟩ := hYE
            have A5 := Lib.hid ((A4.out.next hb5).alloc (.cells #[.int .i64 Y.kind, .string Y.name, .int .i64 Y.n, .slice gy Y.args.length cy] 24))
            have B5 := Lib.hid ((B4.out.next hb5).alloc (.cells #[.int .i64 Y.kind, .string Y.name, .int .i64 Y.n, .slice gy Y.args.length cy] 24))
            have C5 := Lib.hid (TmBox.new hiny)
            obtain ⟨c0, c1, c2, c3⟩ := (A4.out.next hb5).bt.cells
            have hlw := (A4.out.next hb5).bt.lt
            clear hb5 hiny hspec2 x0 x1 x2 x3 A4 B4
            go_wp2_with fail
            have hone5 := one_slice (newBlk (W5.alloc (.cells #[.int .i64 Y.kind, .string Y.name, .int .i64 Y.n, .slice gy Y.args.length cy] 24)) _ (W5.heap.size + 1) (by simp)) ((A5.out.alloc (.cells #[.int .i64 t.kind, .string t.name, .int .i64 t.n, .slice g t.args.length cap] 24)).bt.2)
            have hwv := withs_vars [t] (by rw [Tm.plain_all]; simp [right_noArgs HT.out])
            have hrv := rvars_any [t] _ _ _ (Nat.le_refl _) hone5 (by simp [Tm.sizes]; omega)
            rw [hwv] at hrv
            have HRV := Lib.hid hrv
            clear hone5 hwv hrv
            refine HRV.out.mono ?_
            rintro e W6 ⟨vv, rfl, hints, hb6⟩
            obtain ⟨gw, cw, rfl, hcw, hlw2, _⟩ := id hints
            have A6 := Lib.hid ((A5.out.alloc _).next hb6)
            have B6 := Lib.hid ((B5.out.alloc _).next hb6)
            have C6 := Lib.hid ((C5.out.alloc _).next hb6)
            have hvl2 : (varsOf [t]).length ≤ 4000 := by have := varsOf_length [t]; simp [Tm.sizes] at this; omega
            have hmem : (∀ v ∈ varsOf [t], place l v = none) → Y = t := fun h => HFR.out fun u hu => h u ((vs_one t u).2 hu)
            obtain ⟨us, hus⟩ : ∃ us, varsOf [t] = us := ⟨_, rfl⟩
            rw [hus] at hints hcw hvl2 hmem ⊢
            have HI6 := Lib.hid hints
            have HMEM := Lib.hid hmem
            clear hb6 hints hus hmem hlw2 HRV A5 B5 C5 c0 c1 c2 c3
            go_wp2_with fail
            go_loop [11, 13] (fun fv ii => ∃ (k : Nat) (fb : Bool), k ≤ us.length ∧ ii = .int .i64 k ∧ fv = .bool fb ∧ Hid (fb = true → ∀ j (h : j < us.length), j < k → place l us[j] = none)) (fun _ ii => us.length - (intOf ii).toNat)
            case atStart => exact ⟨0, true, Nat.zero_le _, rfl, rfl, fun _ j _ h => by omega⟩
            case round =>
              obtain ⟨k, fb, hk, rfl, rfl, hfb⟩ := hrel
              by_cases hlt : k < us.length
              · cases fb with
                | false =>
                  go_wp2_with fail
                  go_round
                  case rel => exact ⟨k + 1, false, by omega, by go_num, rfl, (fun h => by cases h)⟩
                  case measure => simp [intOf]; omega
                | true =>
                  obtain ⟨bv, ov, hgv, hbv, gc⟩ := intsIn_get HI6.out k hlt
                  subst hgv
                  have hpa := place_any l us[k] W6 _ A6.out.bl (by omega)
                  cases hp : place l us[k] with
                  | none =>
                    have hpi : placeI l us[k] = -1 := by simp [placeI, hp]
                    rw [hpi] at hpa
                    have HPA := Lib.hid hpa
                    have HP := Lib.hid hp
                    clear hpi hpa hp
                    go_wp2_with fail
                    refine HPA.out.mono ?_
                    rintro e w' ⟨rfl, rfl⟩
                    go_wp2_with fail
                    go_round
                    case rel =>
                      refine ⟨k + 1, true, by omega, by go_num, rfl, fun _ j hj hjk => ?_⟩
                      by_cases hjj : j < k
                      · first | exact hfb.out rfl j hj hjj | exact hfb.out trivial j hj hjj
                      · obtain rfl : j = k := by omega
                        exact HP.out
                    case measure => simp [intOf]; omega
                  | some p =>
                    have hpi : placeI l us[k] = (p : Int) := by simp [placeI, hp]
                    rw [hpi] at hpa
                    have HPA := Lib.hid hpa
                    clear hpi hpa hp
                    go_wp2_with fail
                    refine HPA.out.mono ?_
                    rintro e w' ⟨rfl, rfl⟩
                    go_wp2_with fail
                    go_round
                    case rel => exact ⟨k + 1, false, by omega, by go_num, rfl, (fun h => by cases h)⟩
                    case measure => simp [intOf]; omega
              · obtain rfl : k = us.length := by omega
                have hss := Lib.hid (same_self Y)
                obtain ⟨q0, q1, q2, q3⟩ := B6.out.cells
                obtain ⟨r0, r1, r2, r3⟩ := C6.out.cells
                clear HI6
                cases fb with
                | false =>
                  go_wp2_with fail
                  refine (rsame_any Y Y W6 _ _ _ (Nat.le_refl _) B6.out.2 C6.out.2).mono ?_
                  rintro e W7 ⟨rfl, hb7⟩
                  rw [hss.out]
                  have A7 := Lib.hid (A6.out.next hb7)
                  clear hb7 q0 q1 q2 q3 r0 r1 r2 r3
                  go_wp2_with fail
                  refine (knows3_any W7).mono ?_
                  rintro e W8 ⟨rfl, hb8⟩
                  have HB := Lib.hid (A7.out.next hb8).hb
                  clear hb8
                  go_wp2_with fail
                  go_ret
                  exact ⟨rfl, HB.out⟩
                | true =>
                  obtain rfl : Y = t := HMEM.out fun v hv => by
                    obtain ⟨j, hj, rfl⟩ := List.getElem_of_mem hv
                    first | exact hfb.out rfl j hj hj | exact hfb.out trivial j hj hj
                  go_wp2_with fail
                  refine (rsame_any Y Y W6 _ _ _ (Nat.le_refl _) B6.out.2 C6.out.2).mono ?_
                  rintro e W7 ⟨rfl, hb7⟩
                  rw [hss.out]
                  have A7 := Lib.hid (A6.out.next hb7)
                  have B7 := Lib.hid (B6.out.next hb7)
                  obtain ⟨m0, m1, m2, m3⟩ := B7.out.cells
                  obtain ⟨n0, n1, n2, n3⟩ := A7.out.bt.cells
                  clear hb7 q0 q1 q2 q3 r0 r1 r2 r3
                  go_wp2_with fail
                  refine (rsame_any Y Y W7 _ _ _ (Nat.le_refl _) B7.out.2 A7.out.bt.2).mono ?_
                  rintro e W8 ⟨rfl, hb8⟩
                  rw [hss.out]
                  have A8 := Lib.hid (A7.out.next hb8)
                  clear hb8 m0 m1 m2 m3 n0 n1 n2 n3
                  go_wp2_with fail
                  refine (knows3_any W8).mono ?_
                  rintro e W9 ⟨rfl, hb9⟩
                  have HB := Lib.hid (A8.out.next hb9).hb
                  clear hb9
                  go_wp2_with fail
                  go_ret
                  exact ⟨rfl, HB.out⟩
      · have hXZ : X = kZ := by
          rcases HSP.out with ⟨_, h1, _⟩ | ⟨_, ⟨_, h1, _⟩ | ⟨_, _, h2⟩⟩
          · exact h1
          · exact h1
          · exact absurd h2 hE
        subst hXZ
        have hEb : (E != 0) = true := by simpa using hE
        have hss := Lib.hid (same_self kZ)
        clear hE
        go_wp2_with fail
        refine (rsame_any kZ kZ _ _ _ _ (Nat.le_refl _) B3.out.2 (inn_kZ _ _)).mono ?_
        rintro e W5 ⟨rfl, hb5⟩
        rw [hss.out]
        have A5 := Lib.hid (A3.out.next hb5)
        clear hb5
        go_wp2_with fail
        refine (knows3_any W5).mono ?_
        rintro e W6 ⟨rfl, hb6⟩
        have HB := Lib.hid (A5.out.next hb6).hb
        clear hb6
        go_wp2_with fail
        go_ret
        exact ⟨rfl, HB.out⟩
end Go.Proofs.Ytpiflkgjmncijaa
