/-
  The document's Term.
-/
import Derived.Test.YtilfglcjcmpfeaaGreatDoorRdL
namespace Go.Proofs.YtilfglcjcmpfeaaGreatDoor
open Go.RowKit

set_option maxRecDepth 100000 in
set_option maxHeartbeats 8000000 in
theorem term_any (f : Nat) (IH : ∀ f', f' < f → TermC f' ∧ RestC f' ∧ RowC f' ∧ NameC f') : TermC f := by
  intro X W rb s L lv x p deep hS hst hroom hp hdeep
  cases x with
  | error e => exact term_bad X W rb s L lv e p deep hst
  | ok x =>
  obtain ⟨ts, ns⟩ := x
  obtain ⟨a, ets, hrd⟩ := hst.is
  obtain rfl : ts = L.drop a := ets
  have hroom' := hroom _ _ rfl
  obtain ⟨f, rfl⟩ : ∃ q, f = q + 1 := ⟨f - 1, by omega⟩
  obtain ⟨R, hR⟩ : ∃ R, termE (bs s) (f + 1) p deep (.ok (L.drop a, ns)) = R := ⟨_, rfl⟩
  rw [hR]
  have hlt := hst.lt
  obtain ⟨tg, tcap, rfl, _⟩ := id hrd.toks
  obtain ⟨nv, pl, hblk, hnsm⟩ := hrd.cells
  obtain ⟨⟨c0, c1, c2, c3, c4, c5⟩, f0, f1, f2, f3, f4, f5⟩ := row6 hblk
  have hlen := hS.len
  have hle := hrd.le
  have HIH := Lib.hid (IH f (by omega))
  have HS := Lib.hid hS
  have HR := Lib.hid hR
  have HB := Lib.hid (TmB.start hst)
  have HRD := Lib.hid hrd
  have HX := Lib.hid hst.own
  have HROOM := Lib.hid hroom'
  clear IH hS hR hst hroom hroom' hblk hnsm hrd
  go_enter Tryz.func20, Tryz.ntmps20
  by_cases hd : 999 < deep
  · have hRe : R = .error (3, placeT (bs s) (L.drop a)) := by
      rw [← HR.out]
      show rdTerm (bs s) (f + 1) p deep (L.drop a) ns = _
      rw [rdTerm.eq_def]
      dsimp only
      rw [if_pos hd]
    subst hRe
    go_upto_region 5 with fail
    obtain ⟨V, hV⟩ : ∃ V, ((W.alloc zeroT).alloc zeroT) = V := ⟨_, rfl⟩
    have HRV : Hid (Rdr (X2 X W.heap.size) V rb s L (.slice tg L.length tcap) a ns) := Lib.hid (by
      obtain ⟨a', e, h⟩ := HB.out.st.is
      rw [hV] at h
      exact Rdr.same_at h e HRD.out.le)
    rw [hV] at HB ⊢
    clear hV c0 c1 c2 c3 c4 c5 f0 f1 f2 f3 f4 f5
    have HFA := Lib.hid (fail_any (X := X2 X W.heap.size) V rb s L _ a ns 3 HRV.out HS.out.size HS.out.len)
    go_upto_region 6 with (go_at_call 21; (refine (HFA.out).mono ?_); rintro e U ⟨rfl, hg, hbad⟩; have HG := Lib.hid hg; have HBAD := Lib.hid hbad; clear hg hbad)
    have hb9 : TmB X W rb s L _ (.error ((3, placeT (bs s) (L.drop a)))) U := HB.out.grow hlt ⟨.inl HX.out, fun b hb => Nat.lt_of_lt_of_le (HB.out.st.old b hb) HG.out.size, HBAD.out, .inr rfl⟩ HG.out
    have HB9 := Lib.hid hb9
    obtain ⟨⟨r0, r1, r2, r3⟩, rf0, rf1, rf2, rf3⟩ := row4 hb9.rs
    obtain ⟨⟨n0, n1, n2, n3⟩, nf0, nf1, nf2, nf3⟩ := row4 hb9.no
    clear hb9
    go_wp2_with fail
    have HF := Lib.hid (tm_fin (y := .error (((3, placeT (bs s) (L.drop a))))) HX.out hlt HB9.out tm_none)
    have hz := set4_blk HB9.out.rs 0 ⟨#[]⟩ 0 (.slice none 0 0)
    change bodyPost _ _ _ _ _ (set4 U W.heap.size 0 ⟨#[]⟩ 0 (.slice none 0 0))
    obtain ⟨V', hV'⟩ : ∃ V', set4 U W.heap.size 0 ⟨#[]⟩ 0 (.slice none 0 0) = V' := ⟨_, rfl⟩
    rw [hV'] at HF hz ⊢
    obtain ⟨⟨z0, z1, z2, z3⟩, zf0, zf1, zf2, zf3⟩ := row4 hz
    clear hV' hz r0 r1 r2 r3 rf0 rf1 rf2 rf3 n0 n1 n2 n3 nf0 nf1 nf2 nf3 zf0 zf1 zf2 zf3
    refine bodyPost_ret (v := .agg #[.int .i64 0, .string ⟨#[]⟩, .int .i64 0, .slice none 0 0]) (by simp [results, Tryz.results20, go_sem, z0, z1, z2, z3]) rfl ?_
    exact HF.out
  · by_cases ha : a < L.length
    · obtain ⟨z, hz⟩ : ∃ z, L[a] = z := ⟨_, rfl⟩
      have HDR := Lib.hid (show L.drop a = z :: L.drop (a + 1) by rw [List.drop_eq_getElem_cons ha, hz])
      have HZ := Lib.hid (HS.out.tok z (by rw [← hz]; exact List.getElem_mem _))
      have HXZ := Lib.hid hz
      have hgc : ((a : Int) ≥ (L.length : Int)) = False := by simp only [ge_iff_le, eq_iff_iff, iff_false, Int.not_le]; omega
      go_upto_region 7 with fail
      obtain ⟨V, hV⟩ : ∃ V, ((W.alloc zeroT).alloc zeroT) = V := ⟨_, rfl⟩
      have HRV : Hid (Rdr (X2 X W.heap.size) V rb s L (.slice tg L.length tcap) a ns) := Lib.hid (by
        obtain ⟨a', e, h⟩ := HB.out.st.is
        rw [hV] at h
        exact Rdr.same_at h e HRD.out.le)
      rw [hV] at HB ⊢
      clear hV c0 c1 c2 c3 c4 c5 f0 f1 f2 f3 f4 f5
      obtain ⟨nv, pl, hblk, hnsm⟩ := HRV.out.cells
      obtain ⟨⟨c0, c1, c2, c3, c4, c5⟩, f0, f1, f2, f3, f4, f5⟩ := row6 hblk
      clear hblk hnsm
      go_quiet (fail)
      obtain ⟨V2, hV⟩ : ∃ V2, V.drewN nq = V2 := ⟨_, rfl⟩
      replace HB := Lib.hid (HB.out.dn nq)
      replace HRV := Lib.hid (HRV.out.dn nq)
      rw [hV] at HB HRV ⊢
      clear hV c0 c1 c2 c3 c4 c5 f0 f1 f2 f3 f4 f5 hgc
      obtain ⟨b, off, cap', e1, hb, x0, x1, x2, x3, x4⟩ := toksP_at HRV.out.toks a ha
      injection e1 with e1 _ e3
      subst e1 e3
      rw [hz] at x0 x1 x2 x3 x4
      obtain ⟨nv, pl, hblk, hnsm⟩ := HRV.out.cells
      obtain ⟨⟨c0, c1, c2, c3, c4, c5⟩, f0, f1, f2, f3, f4, f5⟩ := row6 hblk
      clear hblk hnsm
      have hrbV := HRV.out.lt
      have hb2 : b < V2.heap.size := hb.2
      have j0 : (0 : Int) ≤ (a : Int) := by omega
      have j1 : (a : Int) < (L.length : Int) := by omega
      have jw : IntKind.i64.wrap (a : Int) = (a : Int) := by rw [IntKind.wrap_i64]; omega
      clear hb hz
      go_upto_region 10 with fail
      go_region
      have hVU : Below V2.heap.size V2 ((V2.alloc (.cells #[.int .i64 (z.1.kind : Nat), .string ⟨z.1.text.toArray⟩, .int .i64 (z.1.n : Nat), .int .i64 (z.2 : Nat), .bool z.1.opn] 75)).drew) := ((Below.refl _ _).alloc (Nat.le_refl _) _).drew
      have hxb : ((V2.alloc (.cells #[.int .i64 (z.1.kind : Nat), .string ⟨z.1.text.toArray⟩, .int .i64 (z.1.n : Nat), .int .i64 (z.2 : Nat), .bool z.1.opn] 75)).drew).heap[V2.heap.size]? = some (.cells #[.int .i64 (z.1.kind : Nat), .string ⟨z.1.text.toArray⟩, .int .i64 (z.1.n : Nat), .int .i64 (z.2 : Nat), .bool z.1.opn] 75 (0, 0)) := newBlk V2 _ _ rfl
      obtain ⟨U, hU⟩ : ∃ U, (V2.alloc (.cells #[.int .i64 (z.1.kind : Nat), .string ⟨z.1.text.toArray⟩, .int .i64 (z.1.n : Nat), .int .i64 (z.2 : Nat), .bool z.1.opn] 75)).drew = U := ⟨_, rfl⟩
      rw [hU] at hVU hxb ⊢
      replace HB := Lib.hid (HB.out.next hVU)
      replace HRV := Lib.hid (HRV.out.next hVU)
      obtain ⟨xb, hxe⟩ : ∃ xb, V2.heap.size = xb := ⟨_, rfl⟩
      have hrx : rb < xb := by omega
      rw [hxe] at hxb ⊢
      clear hU hVU hxe c0 c1 c2 c3 c4 c5 f0 f1 f2 f3 f4 f5 x0 x1 x2 x3 x4 hb2 hrbV j0 j1 jw
      obtain ⟨⟨x0, x1, x2, x3, x4⟩, -⟩ := row5t hxb
      have hxl : xb < U.heap.size := (Array.getElem?_eq_some_iff.1 hxb).1
      have jw1 : IntKind.i64.wrap ((a : Int) + 1) = (a : Int) + 1 := by rw [IntKind.wrap_i64]; omega
      have hRE : R = rdTerm (bs s) (f + 1) p deep (z :: L.drop (a + 1)) ns := by rw [← HR.out, HDR.out]; rfl
      rw [rdTerm.eq_def] at hRE
      dsimp only at hRE
      rw [if_neg hd] at hRE
      have hroom1 : Room f 3 (.ok (L.drop (a + 1), ns)) := fun ts' ns' e => by
        injection e with e
        injection e with e1 e2
        subst e1 e2
        have h0 := HROOM.out
        rw [HDR.out, List.length_cons] at h0
        exact ⟨by omega, by omega⟩
      have HRM1 := Lib.hid hroom1
      obtain ⟨K, hK⟩ : ∃ K, z.1.kind = K := ⟨_, rfl⟩
      rw [hK] at x0 hRE
      have HK := Lib.hid hK
      have HXB := Lib.hid hxb
      clear hxb hroom1 hK
      by_cases k3 : K = 3
      · subst k3
        have hRe : R = restE (bs s) f 0 p deep (.ok (numT z.1.n, L.drop (a + 1), ns)) := hRE
        subst hRe
        clear hRE
        obtain ⟨nv, pl, hblk, hnsm⟩ := HRV.out.cells
        obtain ⟨⟨c0, c1, c2, c3, c4, c5⟩, f0, f1, f2, f3, f4, f5⟩ := row6 hblk
        clear hblk hnsm
        go_upto_region 13 with fail
        have hb1 : TmB X W rb s L (.slice (some ⟨b, off, none⟩) L.length tcap) (.ok (L.drop (a + 1), ns)) (U.setCell ⟨rb, 2, none⟩ (.int .i64 ((a : Int) + 1))) := HB.out.grow hlt (St.of (HRV.out.step (a' := a + 1) (by omega))) (grown_set _ _ _ _)
        have hxb1 := ((grown_set U rb 2 (.int .i64 ((a : Int) + 1))).block xb hxl (fun e => by injection e; omega)).trans HXB.out
        have hr1 : Rdr (X2 X W.heap.size) (U.setCell ⟨rb, 2, none⟩ (.int .i64 ((a : Int) + 1))) rb s L (.slice (some ⟨b, off, none⟩) L.length tcap) (a + 1) ns := HRV.out.step (a' := a + 1) (by omega)
        obtain ⟨U1, hU⟩ : ∃ U1, U.setCell ⟨rb, 2, none⟩ (.int .i64 ((a : Int) + 1)) = U1 := ⟨_, rfl⟩
        rw [hU] at hb1 hxb1 hr1 ⊢
        have HB1 := Lib.hid hb1
        have HXB1 := Lib.hid hxb1
        have HR1 := Lib.hid hr1
        clear hU hb1 hr1 c0 c1 c2 c3 c4 c5 f0 f1 f2 f3 f4 f5 x0 x1 x2 x3 x4 hxl
        obtain ⟨⟨x0, x1, x2, x3, x4⟩, -⟩ := row5t hxb1
        have hxl : xb < U1.heap.size := (Array.getElem?_eq_some_iff.1 hxb1).1
        rw [HK.out] at x0
        clear hxb1
        have HT : Hid (Calls Tryz.prog 36 #[.pointer (some ⟨rb, 0, none⟩), .agg #[.int .i64 2, .string ⟨#[]⟩, .int .i64 (z.1.n : Nat), .slice none 0 0], .int .i64 0, .int .i64 (p : Nat), .int .i64 (deep : Nat)] U1 fun e W' => TermPost (X2 X W.heap.size) U1 rb s L (.slice (some ⟨b, off, none⟩) L.length tcap) (restE (bs s) f 0 p deep (.ok (numT z.1.n, L.drop (a + 1), ns))) e W') :=
          Lib.hid (HIH.out.2.1 (X2 X W.heap.size) U1 rb s L _ (.ok (numT z.1.n, L.drop (a + 1), ns)) 2 ⟨#[]⟩ z.1.n none 0 0 0 p deep HS.out HB1.out.st (TV.atom (numT z.1.n) rfl (wf64 (show (-9223372036854775808 : Int) ≤ 2 by omega) (show (2 : Int) ≤ 9223372036854775807 by omega)) (wf64 (show -9223372036854775808 ≤ (z.1.n : Int) by omega) (show (z.1.n : Int) ≤ 9223372036854775807 by have := HZ.out.2.1; omega)) (by show (0 : Nat) ≤ maxLen; omega)) HRM1.out (by omega) hp hdeep)
        go_wp2_with fail
        with_reducible refine (HT.out).mono ?_
        rintro e U9 ⟨k9, nm9, n9, g9, m9, c9, rfl, hg9, hst9, htv9⟩
        have hb9 := HB1.out.grow hlt hst9 hg9
        have HB9 := Lib.hid hb9
        have HF := Lib.hid (tm_fin (y := (restE (bs s) f 0 p deep (.ok (numT z.1.n, L.drop (a + 1), ns)))) HX.out hlt hb9 htv9)
        obtain ⟨⟨r0, r1, r2, r3⟩, rf0, rf1, rf2, rf3⟩ := row4 hb9.rs
        clear hb9 hst9 htv9 hg9 x0 x1 x2 x3 x4
        go_wp2_with fail
        have hz := set4_blk HB9.out.rs k9 nm9 n9 (.slice g9 m9 c9)
        change bodyPost _ _ _ _ _ (set4 U9 W.heap.size k9 nm9 n9 (.slice g9 m9 c9))
        obtain ⟨V', hV'⟩ : ∃ V', set4 U9 W.heap.size k9 nm9 n9 (.slice g9 m9 c9) = V' := ⟨_, rfl⟩
        rw [hV'] at HF hz ⊢
        obtain ⟨⟨z0, z1, z2, z3⟩, zf0, zf1, zf2, zf3⟩ := row4 hz
        clear hV' hz r0 r1 r2 r3 rf0 rf1 rf2 rf3 zf0 zf1 zf2 zf3
        refine bodyPost_ret (v := .agg #[.int .i64 k9, .string nm9, .int .i64 n9, .slice g9 m9 c9]) (by simp [results, Tryz.results20, go_sem, z0, z1, z2, z3]) rfl ?_
        exact HF.out
      · by_cases k2 : K = 2
        · subst k2
          obtain ⟨v, ns2, hv⟩ : ∃ v ns2, varN ns z.1.text = (v, ns2) := ⟨_, _, rfl⟩
          have hv1 : v ≤ ns.length := by have := varN_le ns z.1.text; rw [hv] at this; exact this
          have hv2 : ns2.length ≤ ns.length + 1 := by have := varN_len ns z.1.text; rw [hv] at this; exact this
          have hRe : R = restE (bs s) f 0 p deep (.ok (varT v, L.drop (a + 1), ns2)) := by
            rw [hv] at hRE
            exact hRE
          subst hRe
          clear hRE
          have h0 := HROOM.out
          rw [HDR.out, List.length_cons] at h0
          have hnl : ns.length ≤ 2000000 := by omega
          have HRM2 : Hid (Room f 3 (.ok (L.drop (a + 1), ns2))) := Lib.hid (fun ts' ns' e => by
            injection e with e
            injection e with e1 e2
            subst e1 e2
            exact ⟨by omega, by omega⟩)
          clear h0
          obtain ⟨nv, pl, hblk, hnsm⟩ := HRV.out.cells
          obtain ⟨⟨c0, c1, c2, c3, c4, c5⟩, f0, f1, f2, f3, f4, f5⟩ := row6 hblk
          clear hblk hnsm
          go_upto_region 16 with fail
          have hb1 : TmB X W rb s L (.slice (some ⟨b, off, none⟩) L.length tcap) (.ok (L.drop (a + 1), ns)) (U.setCell ⟨rb, 2, none⟩ (.int .i64 ((a : Int) + 1))) := HB.out.grow hlt (St.of (HRV.out.step (a' := a + 1) (by omega))) (grown_set _ _ _ _)
          have hxb1 := ((grown_set U rb 2 (.int .i64 ((a : Int) + 1))).block xb hxl (fun e => by injection e; omega)).trans HXB.out
          have hr1 : Rdr (X2 X W.heap.size) (U.setCell ⟨rb, 2, none⟩ (.int .i64 ((a : Int) + 1))) rb s L (.slice (some ⟨b, off, none⟩) L.length tcap) (a + 1) ns := HRV.out.step (a' := a + 1) (by omega)
          obtain ⟨U1, hU⟩ : ∃ U1, U.setCell ⟨rb, 2, none⟩ (.int .i64 ((a : Int) + 1)) = U1 := ⟨_, rfl⟩
          rw [hU] at hb1 hxb1 hr1 ⊢
          have HB1 := Lib.hid hb1
          have HXB1 := Lib.hid hxb1
          have HR1 := Lib.hid hr1
          clear hU hb1 hr1 c0 c1 c2 c3 c4 c5 f0 f1 f2 f3 f4 f5 x0 x1 x2 x3 x4 hxl
          obtain ⟨⟨x0, x1, x2, x3, x4⟩, -⟩ := row5t hxb1
          have hxl : xb < U1.heap.size := (Array.getElem?_eq_some_iff.1 hxb1).1
          rw [HK.out] at x0
          clear hxb1
          have hva := variable_any U1 rb s L _ (a + 1) ns z.1.text HR1.out hnl
          rw [hv] at hva
          have HVA := Lib.hid hva
          clear hva hv
          go_wp2_with fail
          with_reducible refine (HVA.out).mono ?_
          rintro e U2 ⟨rfl, hg2, hr2⟩
          replace HB1 := Lib.hid (HB1.out.grow hlt (St.of hr2) hg2)
          clear hg2 hr2
          have HT : Hid (Calls Tryz.prog 36 #[.pointer (some ⟨rb, 0, none⟩), .agg #[.int .i64 1, .string ⟨#[]⟩, .int .i64 (v : Nat), .slice none 0 0], .int .i64 0, .int .i64 (p : Nat), .int .i64 (deep : Nat)] U2 fun e W' => TermPost (X2 X W.heap.size) U2 rb s L (.slice (some ⟨b, off, none⟩) L.length tcap) (restE (bs s) f 0 p deep (.ok (varT v, L.drop (a + 1), ns2))) e W') :=
            Lib.hid (HIH.out.2.1 (X2 X W.heap.size) U2 rb s L _ (.ok (varT v, L.drop (a + 1), ns2)) 1 ⟨#[]⟩ v none 0 0 0 p deep HS.out HB1.out.st (TV.atom (varT v) rfl (wf64 (show (-9223372036854775808 : Int) ≤ 1 by omega) (show (1 : Int) ≤ 9223372036854775807 by omega)) (wf64 (show -9223372036854775808 ≤ (v : Int) by omega) (show (v : Int) ≤ 9223372036854775807 by omega)) (by show (0 : Nat) ≤ maxLen; omega)) HRM2.out (by omega) hp hdeep)
          go_wp2_with fail
          with_reducible refine (HT.out).mono ?_
          rintro e U9 ⟨k9, nm9, n9, g9, m9, c9, rfl, hg9, hst9, htv9⟩
          have hb9 := HB1.out.grow hlt hst9 hg9
          have HB9 := Lib.hid hb9
          have HF := Lib.hid (tm_fin (y := (restE (bs s) f 0 p deep (.ok (varT v, L.drop (a + 1), ns2)))) HX.out hlt hb9 htv9)
          obtain ⟨⟨r0, r1, r2, r3⟩, rf0, rf1, rf2, rf3⟩ := row4 hb9.rs
          clear hb9 hst9 htv9 hg9 x0 x1 x2 x3 x4
          go_wp2_with fail
          have hz := set4_blk HB9.out.rs k9 nm9 n9 (.slice g9 m9 c9)
          change bodyPost _ _ _ _ _ (set4 U9 W.heap.size k9 nm9 n9 (.slice g9 m9 c9))
          obtain ⟨V', hV'⟩ : ∃ V', set4 U9 W.heap.size k9 nm9 n9 (.slice g9 m9 c9) = V' := ⟨_, rfl⟩
          rw [hV'] at HF hz ⊢
          obtain ⟨⟨z0, z1, z2, z3⟩, zf0, zf1, zf2, zf3⟩ := row4 hz
          clear hV' hz r0 r1 r2 r3 rf0 rf1 rf2 rf3 zf0 zf1 zf2 zf3
          refine bodyPost_ret (v := .agg #[.int .i64 k9, .string nm9, .int .i64 n9, .slice g9 m9 c9]) (by simp [results, Tryz.results20, go_sem, z0, z1, z2, z3]) rfl ?_
          exact HF.out
        · by_cases k1 : K = 1
          · subst k1
            have hRe : R = restE2 (bs s) f p deep (rdName (bs s) f z p deep (L.drop (a + 1)) ns) := by
              rw [hRE, if_neg (by decide), if_neg (by decide), if_pos rfl]
              cases rdName (bs s) f z p deep (L.drop (a + 1)) ns <;> rfl
            clear hRE
            have h0 := HROOM.out
            rw [HDR.out, List.length_cons, List.length_drop] at h0
            have hnm := HIH.out.2.2.2 (X2 X W.heap.size) U rb s L _ a ns ha p deep HS.out HRV.out (by rw [HXZ.out, HK.out]) (by omega) (by omega) hp (by omega)
            rw [HXZ.out, HK.out] at hnm
            have HNM : Hid (Calls Tryz.prog 38 #[.pointer (some ⟨rb, 0, none⟩), .agg #[.int .i64 1, .string ⟨z.1.text.toArray⟩, .int .i64 (z.1.n : Nat), .int .i64 (z.2 : Nat), .bool z.1.opn], .int .i64 (p : Nat), .int .i64 (deep : Nat)] U fun e W' => NamePostR (X2 X W.heap.size) U rb s L (.slice (some ⟨b, off, none⟩) L.length tcap) (rdName (bs s) f z p deep (L.drop (a + 1)) ns) e W') := Lib.hid hnm
            clear hnm
            go_wp2_with fail
            with_reducible refine (HNM.out).mono ?_
            rintro e U2 ⟨k5, nm5, n5, g5, m5, c5, q5, rfl, hq5, hg5, hst5, htv5, hv5⟩
            have hb5 := HB.out.grow hlt hst5 hg5
            cases hn : rdName (bs s) f z p deep (L.drop (a + 1)) ns with
            | error e =>
              obtain ⟨cd, pl5⟩ := e
              rw [hn] at hst5 hb5 hRe
              obtain ⟨⟨s', lv', a', nv', hblk⟩, hcd⟩ := hst5.is
              obtain ⟨⟨c0, c1, c2, c3, c4, c5'⟩, -⟩ := row6 hblk
              have hcd2 : ((cd : Int) == 0) = false := by rw [beq_eq_false_iff_ne]; omega
              have hcd3 : ((cd : Int) != 0) = true := by simp [bne, hcd2]
              have hrb2 := hst5.lt
              have hRe' : R = .error (cd, pl5) := hRe
              have HB5 := Lib.hid hb5
              subst hRe'
              clear hRe h0 hst5 htv5 hv5 hg5 hblk hcd hb5 x0 x1 x2 x3 x4
              go_upto_region 20 with fail
              have hb9 := HB5.out.next ((Below.refl U2.heap.size U2).alloc (Nat.le_refl _) (.cells #[.int .i64 k5, .string nm5, .int .i64 n5, .slice g5 m5 c5] 33))
              obtain ⟨U, hU⟩ : ∃ U, U2.alloc (.cells #[.int .i64 k5, .string nm5, .int .i64 n5, .slice g5 m5 c5] 33) = U := ⟨_, rfl⟩
              rw [hU] at hb9 ⊢
              clear hU c0 c1 c2 c3 c4 c5'
              have HB9 := Lib.hid hb9
              obtain ⟨⟨r0, r1, r2, r3⟩, rf0, rf1, rf2, rf3⟩ := row4 hb9.rs
              obtain ⟨⟨n0, n1, n2, n3⟩, nf0, nf1, nf2, nf3⟩ := row4 hb9.no
              clear hb9
              go_wp2_with fail
              have HF := Lib.hid (tm_fin (y := .error ((cd, pl5))) HX.out hlt HB9.out tm_none)
              have hz := set4_blk HB9.out.rs 0 ⟨#[]⟩ 0 (.slice none 0 0)
              change bodyPost _ _ _ _ _ (set4 U W.heap.size 0 ⟨#[]⟩ 0 (.slice none 0 0))
              obtain ⟨V', hV'⟩ : ∃ V', set4 U W.heap.size 0 ⟨#[]⟩ 0 (.slice none 0 0) = V' := ⟨_, rfl⟩
              rw [hV'] at HF hz ⊢
              obtain ⟨⟨z0, z1, z2, z3⟩, zf0, zf1, zf2, zf3⟩ := row4 hz
              clear hV' hz r0 r1 r2 r3 rf0 rf1 rf2 rf3 n0 n1 n2 n3 nf0 nf1 nf2 nf3 zf0 zf1 zf2 zf3
              refine bodyPost_ret (v := .agg #[.int .i64 0, .string ⟨#[]⟩, .int .i64 0, .slice none 0 0]) (by simp [results, Tryz.results20, go_sem, z0, z1, z2, z3]) rfl ?_
              exact HF.out
            | ok y =>
              obtain ⟨⟨t, q⟩, r1, ns1⟩ := y
              have hwent := (rd_went (bs s) f).2.2.1 _ _ _ _ _ _ _ _ hn
              rw [hn] at hst5 hb5 hRe htv5 hv5
              obtain rfl : q5 = q := hv5 _ rfl
              obtain ⟨a', e', hrd5⟩ := hst5.is
              obtain ⟨nv5, pl5, hblk, -⟩ := hrd5.cells
              obtain ⟨⟨c0, c1, c2, c3, c4, c5'⟩, -⟩ := row6 hblk
              have hrb2 := hst5.lt
              have hRe' : R = restE (bs s) f q5 p deep (.ok (t, r1, ns1)) := hRe
              have hl0 := hwent.len
              have hl1 := hwent.nms
              rw [List.length_drop] at hl0 hl1
              have HRM2 : Hid (Room f 3 (.ok (r1, ns1))) := Lib.hid (fun ts' ns' e => by
                injection e with e
                injection e with e1 e2
                subst e1 e2
                exact ⟨by omega, by omega⟩)
              have hb55 := (Below.refl U2.heap.size U2).alloc (Nat.le_refl _) (.cells #[.int .i64 k5, .string nm5, .int .i64 n5, .slice g5 m5 c5] 33)
              have HB1 := Lib.hid (hb5.next hb55)
              have HT : Hid (Calls Tryz.prog 36 #[.pointer (some ⟨rb, 0, none⟩), .agg #[.int .i64 k5, .string nm5, .int .i64 n5, .slice g5 m5 c5], .int .i64 (q5 : Nat), .int .i64 (p : Nat), .int .i64 (deep : Nat)] (U2.alloc (.cells #[.int .i64 k5, .string nm5, .int .i64 n5, .slice g5 m5 c5] 33)) fun e W' => TermPost (X2 X W.heap.size) (U2.alloc (.cells #[.int .i64 k5, .string nm5, .int .i64 n5, .slice g5 m5 c5] 33)) rb s L (.slice (some ⟨b, off, none⟩) L.length tcap) (restE (bs s) f q5 p deep (.ok (t, r1, ns1))) e W') :=
                Lib.hid (HIH.out.2.1 (X2 X W.heap.size) _ rb s L _ (.ok (t, r1, ns1)) k5 nm5 n5 g5 m5 c5 q5 p deep HS.out HB1.out.st (htv5.ext hb55 (fun _ hx => .inl hx)) HRM2.out hq5 hp hdeep)
              subst hRe'
              clear hRe h0 hst5 htv5 hv5 hg5 hblk hb5 hb55 hl0 hl1 hwent hn hrd5 e'
              go_wp2_with fail
              with_reducible refine (HT.out).mono ?_
              rintro e U9 ⟨k9, nm9, n9, g9, m9, c9, rfl, hg9, hst9, htv9⟩
              have hb9 := HB1.out.grow hlt hst9 hg9
              have HB9 := Lib.hid hb9
              have HF := Lib.hid (tm_fin (y := (restE (bs s) f q5 p deep (.ok (t, r1, ns1)))) HX.out hlt hb9 htv9)
              obtain ⟨⟨r0, r1, r2, r3⟩, rf0, rf1, rf2, rf3⟩ := row4 hb9.rs
              clear hb9 hst9 htv9 hg9 x0 x1 x2 x3 x4
              go_wp2_with fail
              have hz := set4_blk HB9.out.rs k9 nm9 n9 (.slice g9 m9 c9)
              change bodyPost _ _ _ _ _ (set4 U9 W.heap.size k9 nm9 n9 (.slice g9 m9 c9))
              obtain ⟨V', hV'⟩ : ∃ V', set4 U9 W.heap.size k9 nm9 n9 (.slice g9 m9 c9) = V' := ⟨_, rfl⟩
              rw [hV'] at HF hz ⊢
              obtain ⟨⟨z0, z1, z2, z3⟩, zf0, zf1, zf2, zf3⟩ := row4 hz
              clear hV' hz r0 r1 r2 r3 rf0 rf1 rf2 rf3 zf0 zf1 zf2 zf3
              refine bodyPost_ret (v := .agg #[.int .i64 k9, .string nm9, .int .i64 n9, .slice g9 m9 c9]) (by simp [results, Tryz.results20, go_sem, z0, z1, z2, z3]) rfl ?_
              exact HF.out
          · rw [if_neg k3, if_neg k2, if_neg k1] at hRE
            have HSEE := Lib.hid (see_any U rb s L (.slice (some ⟨b, off, none⟩) L.length tcap) a ns 40 HRV.out hlen)
            have e3 : ((K : Int) == 3) = false := by rw [beq_eq_false_iff_ne]; omega
            have e2 : ((K : Int) == 2) = false := by rw [beq_eq_false_iff_ne]; omega
            have e1 : ((K : Int) == 1) = false := by rw [beq_eq_false_iff_ne]; omega
            clear k3 k2 k1
            cases hs : seeT 40 (L.drop a) with
            | true =>
              rw [← HDR.out, if_pos hs] at hRE
              rw [hs] at HSEE
              have hRe : R = restE (bs s) f 0 p deep (parE (bs s) f deep (.ok (L.drop (a + 1), ns))) := by
                rw [hRE, parE_eq]
                cases rdTerm (bs s) f 1200 (deep + 1) (L.drop (a + 1)) ns with
                | error e => rfl
                | ok y =>
                  obtain ⟨t, r1, ns1⟩ := y
                  dsimp only
                  cases needT (bs s) 41 r1 <;> rfl
              subst hRe
              clear hRE hs
              go_upto_region 23 with (go_at_call 39; (with_reducible refine (HSEE.out).mono ?_); rintro e W' ⟨rfl, k5, rfl⟩)
              replace HB := Lib.hid (HB.out.dn k5)
              replace HRV := Lib.hid (HRV.out.dn k5)
              replace HXB : Hid ((U.drewN k5).heap[xb]? = _) := HXB
              replace hxl : xb < (U.drewN k5).heap.size := hxl
              obtain ⟨U0, hU0⟩ : ∃ U0, U.drewN k5 = U0 := ⟨_, rfl⟩
              rw [hU0] at HB HRV HXB hxl ⊢
              clear hU0 HSEE
              obtain ⟨U, hU0⟩ : ∃ U, U0 = U := ⟨_, rfl⟩
              rw [hU0] at HB HRV HXB hxl ⊢
              clear hU0
              obtain ⟨nv, pl, hblk, hnsm⟩ := HRV.out.cells
              obtain ⟨⟨c0, c1, c2, c3, c4, c5⟩, f0, f1, f2, f3, f4, f5⟩ := row6 hblk
              clear hblk hnsm
              go_upto_region 24 with fail
              have hb1 : TmB X W rb s L (.slice (some ⟨b, off, none⟩) L.length tcap) (.ok (L.drop (a + 1), ns)) (U.setCell ⟨rb, 2, none⟩ (.int .i64 ((a : Int) + 1))) := HB.out.grow hlt (St.of (HRV.out.step (a' := a + 1) (by omega))) (grown_set _ _ _ _)
              have hxb1 := ((grown_set U rb 2 (.int .i64 ((a : Int) + 1))).block xb hxl (fun e => by injection e; omega)).trans HXB.out
              have hr1 : Rdr (X2 X W.heap.size) (U.setCell ⟨rb, 2, none⟩ (.int .i64 ((a : Int) + 1))) rb s L (.slice (some ⟨b, off, none⟩) L.length tcap) (a + 1) ns := HRV.out.step (a' := a + 1) (by omega)
              obtain ⟨U1, hU⟩ : ∃ U1, U.setCell ⟨rb, 2, none⟩ (.int .i64 ((a : Int) + 1)) = U1 := ⟨_, rfl⟩
              rw [hU] at hb1 hxb1 hr1 ⊢
              have HB1 := Lib.hid hb1
              have HXB1 := Lib.hid hxb1
              have HR1 := Lib.hid hr1
              clear hU hb1 hr1 c0 c1 c2 c3 c4 c5 f0 f1 f2 f3 f4 f5 x0 x1 x2 x3 x4 hxl
              obtain ⟨⟨x0, x1, x2, x3, x4⟩, -⟩ := row5t hxb1
              have hxl : xb < U1.heap.size := (Array.getElem?_eq_some_iff.1 hxb1).1
              rw [HK.out] at x0
              clear hxb1
              have hdd : deep ≤ 999 := by omega
              have jd : IntKind.i64.wrap ((deep : Int) + 1) = (deep : Int) + 1 := by rw [IntKind.wrap_i64]; omega
              have HTM : Hid (Calls Tryz.prog 20 #[.pointer (some ⟨rb, 0, none⟩), .int .i64 1200, .int .i64 ((deep : Int) + 1)] U1 fun e W' => TermPost (X2 X W.heap.size) U1 rb s L (.slice (some ⟨b, off, none⟩) L.length tcap) (termE (bs s) f 1200 (deep + 1) (.ok (L.drop (a + 1), ns))) e W') :=
                Lib.hid (HIH.out.1 (X2 X W.heap.size) U1 rb s L _ (.ok (L.drop (a + 1), ns)) 1200 (deep + 1) HS.out HB1.out.st HRM1.out (by omega) (by omega))
              go_wp2_with fail
              with_reducible refine (HTM.out).mono ?_
              rintro e U2 ⟨k5, nm5, n5, g5, m5, c5, rfl, hg5, hst5, htv5⟩
              have hb55 := (Below.refl U2.heap.size U2).alloc (Nat.le_refl _) (.cells #[.int .i64 k5, .string nm5, .int .i64 n5, .slice g5 m5 c5] 33)
              have hb5 := (HB1.out.grow hlt hst5 hg5).next hb55
              have htv6 := htv5.ext (X' := X2 X W.heap.size) hb55 (fun _ hx => .inl hx)
              have hbx := newBlk U2 (.cells #[.int .i64 k5, .string nm5, .int .i64 n5, .slice g5 m5 c5] 33) U2.heap.size rfl
              have hu2 := hst5.lt
              have HND := Lib.hid (need_c _ rb s L (.slice (some ⟨b, off, none⟩) L.length tcap) _ 41 HS.out hb5.st)
              have HB5 := Lib.hid hb5
              have HTV6 := Lib.hid htv6
              have HBX := Lib.hid hbx
              have HSZ := Lib.hid hb55.size
              clear hg5 hst5 htv5 hb55 hb5 htv6 hbx hxl
              go_wp2_with fail
              with_reducible refine (HND.out).mono ?_
              rintro e U3 ⟨rfl, hg6, hst6⟩
              replace HB1 := Lib.hid (HB5.out.grow hlt hst6 hg6)
              have hbx3 := (hg6.block U2.heap.size (by simp) (fun e => by injection e; omega)).trans HBX.out
              obtain ⟨⟨l0, l1, l2, l3⟩, -⟩ := row4 hbx3
              have HT : Hid (Calls Tryz.prog 36 #[.pointer (some ⟨rb, 0, none⟩), .agg #[.int .i64 k5, .string nm5, .int .i64 n5, .slice g5 m5 c5], .int .i64 0, .int .i64 (p : Nat), .int .i64 (deep : Nat)] U3 fun e W' => TermPost (X2 X W.heap.size) U3 rb s L (.slice (some ⟨b, off, none⟩) L.length tcap) (restE (bs s) f 0 p deep (parE (bs s) f deep (.ok (L.drop (a + 1), ns)))) e W') :=
                Lib.hid (HIH.out.2.1 (X2 X W.heap.size) U3 rb s L _ (parE (bs s) f deep (.ok (L.drop (a + 1), ns))) k5 nm5 n5 g5 m5 c5 0 p deep HS.out (by rw [parE_st]; exact HB1.out.st) ((HTV6.out.grown HB5.out.st.own hg6).sub (fun t ht => parE_val ht)) (by rw [parE_st]; exact par_room HRM1.out) (by omega) hp hdeep)
              clear hg6 hst6 hbx3
              go_wp2_with fail
              with_reducible refine (HT.out).mono ?_
              rintro e U9 ⟨k9, nm9, n9, g9, m9, c9, rfl, hg9, hst9, htv9⟩
              have hb9 := HB1.out.grow hlt hst9 hg9
              have HB9 := Lib.hid hb9
              have HF := Lib.hid (tm_fin (y := (restE (bs s) f 0 p deep (parE (bs s) f deep (.ok (L.drop (a + 1), ns))))) HX.out hlt hb9 htv9)
              obtain ⟨⟨r0, r1, r2, r3⟩, rf0, rf1, rf2, rf3⟩ := row4 hb9.rs
              clear hb9 hst9 htv9 hg9 x0 x1 x2 x3 x4
              go_wp2_with fail
              have hz := set4_blk HB9.out.rs k9 nm9 n9 (.slice g9 m9 c9)
              change bodyPost _ _ _ _ _ (set4 U9 W.heap.size k9 nm9 n9 (.slice g9 m9 c9))
              obtain ⟨V', hV'⟩ : ∃ V', set4 U9 W.heap.size k9 nm9 n9 (.slice g9 m9 c9) = V' := ⟨_, rfl⟩
              rw [hV'] at HF hz ⊢
              obtain ⟨⟨z0, z1, z2, z3⟩, zf0, zf1, zf2, zf3⟩ := row4 hz
              clear hV' hz r0 r1 r2 r3 rf0 rf1 rf2 rf3 zf0 zf1 zf2 zf3
              refine bodyPost_ret (v := .agg #[.int .i64 k9, .string nm9, .int .i64 n9, .slice g9 m9 c9]) (by simp [results, Tryz.results20, go_sem, z0, z1, z2, z3]) rfl ?_
              exact HF.out
            | false =>
              rw [← HDR.out, if_neg (by rw [hs]; simp)] at hRE
              rw [hs] at HSEE
              clear hs
              go_upto_region 27 with (go_at_call 39; (with_reducible refine (HSEE.out).mono ?_); rintro e W' ⟨rfl, k5, rfl⟩)
              replace HB := Lib.hid (HB.out.dn k5)
              replace HRV := Lib.hid (HRV.out.dn k5)
              replace HXB : Hid ((U.drewN k5).heap[xb]? = _) := HXB
              replace hxl : xb < (U.drewN k5).heap.size := hxl
              obtain ⟨U0, hU0⟩ : ∃ U0, U.drewN k5 = U0 := ⟨_, rfl⟩
              rw [hU0] at HB HRV HXB hxl ⊢
              clear hU0 HSEE x0 x1 x2 x3 x4
              have HSEE2 := Lib.hid (see_any U0 rb s L (.slice (some ⟨b, off, none⟩) L.length tcap) a ns 91 HRV.out hlen)
              cases hs : seeT 91 (L.drop a) with
              | true =>
                rw [if_pos hs] at hRE
                rw [hs] at HSEE2
                have hRe : R = restE (bs s) f 0 p deep (lstE (bs s) f deep (.ok (L.drop (a + 1), ns))) := by rw [hRE, lstE_eq]; rfl
                subst hRe
                clear hRE hs
                have HRM4 : Hid (Room f 4 (.ok (L.drop (a + 1), ns))) := Lib.hid (fun ts' ns' e => by
                  injection e with e
                  injection e with e1 e2
                  subst e1 e2
                  have h0 := HROOM.out
                  rw [HDR.out, List.length_cons] at h0
                  exact ⟨by omega, by omega⟩)
                go_upto_region 28 with (go_at_call 39; (with_reducible refine (HSEE2.out).mono ?_); rintro e W' ⟨rfl, k6, rfl⟩)
                replace HB := Lib.hid (HB.out.dn k6)
                replace HRV := Lib.hid (HRV.out.dn k6)
                replace HXB : Hid ((U0.drewN k6).heap[xb]? = _) := HXB
                replace hxl : xb < (U0.drewN k6).heap.size := hxl
                obtain ⟨U, hU1⟩ : ∃ U, U0.drewN k6 = U := ⟨_, rfl⟩
                rw [hU1] at HB HRV HXB hxl ⊢
                clear hU1 HSEE2
                obtain ⟨⟨x0, x1, x2, x3, x4⟩, -⟩ := row5t HXB.out
                obtain ⟨nv, pl, hblk, hnsm⟩ := HRV.out.cells
                obtain ⟨⟨c0, c1, c2, c3, c4, c5⟩, f0, f1, f2, f3, f4, f5⟩ := row6 hblk
                clear hblk hnsm
                go_upto_region 29 with fail
                have hb1 : TmB X W rb s L (.slice (some ⟨b, off, none⟩) L.length tcap) (.ok (L.drop (a + 1), ns)) (U.setCell ⟨rb, 2, none⟩ (.int .i64 ((a : Int) + 1))) := HB.out.grow hlt (St.of (HRV.out.step (a' := a + 1) (by omega))) (grown_set _ _ _ _)
                have hxb1 := ((grown_set U rb 2 (.int .i64 ((a : Int) + 1))).block xb hxl (fun e => by injection e; omega)).trans HXB.out
                have hr1 : Rdr (X2 X W.heap.size) (U.setCell ⟨rb, 2, none⟩ (.int .i64 ((a : Int) + 1))) rb s L (.slice (some ⟨b, off, none⟩) L.length tcap) (a + 1) ns := HRV.out.step (a' := a + 1) (by omega)
                obtain ⟨U1, hU⟩ : ∃ U1, U.setCell ⟨rb, 2, none⟩ (.int .i64 ((a : Int) + 1)) = U1 := ⟨_, rfl⟩
                rw [hU] at hb1 hxb1 hr1 ⊢
                have HB1 := Lib.hid hb1
                have HXB1 := Lib.hid hxb1
                have HR1 := Lib.hid hr1
                clear hU hb1 hr1 c0 c1 c2 c3 c4 c5 f0 f1 f2 f3 f4 f5 x0 x1 x2 x3 x4 hxl
                obtain ⟨⟨x0, x1, x2, x3, x4⟩, -⟩ := row5t hxb1
                have hxl : xb < U1.heap.size := (Array.getElem?_eq_some_iff.1 hxb1).1
                rw [HK.out] at x0
                clear hxb1
                have hdd : deep ≤ 999 := by omega
                have jd : IntKind.i64.wrap ((deep : Int) + 1) = (deep : Int) + 1 := by rw [IntKind.wrap_i64]; omega
                have HRW := Lib.hid (HIH.out.2.2.1 (X2 X W.heap.size) U1 rb s L (.slice (some ⟨b, off, none⟩) L.length tcap) (.ok (L.drop (a + 1), ns)) deep HS.out HB1.out.st HRM4.out hdd)
                obtain ⟨RW, hRW⟩ : ∃ RW, rowE (bs s) f deep (.ok (L.drop (a + 1), ns)) = RW := ⟨_, rfl⟩
                rw [hRW] at HRW
                have HRWE := Lib.hid hRW
                clear hRW x0 x1 x2 x3 x4 hxl
                go_upto_region 30 with (go_at_call 41; (with_reducible refine (HRW.out).mono ?_); rintro e U2 ⟨m, sv, rfl, hg2, hst2, hm1, hm2, hrj, hvl⟩; obtain ⟨eb, eo, ec, rfl, -⟩ := id hrj; have HE := Lib.hid (show Els (X2 X W.heap.size) U2 (valOf RW) m eb eo ec from ⟨hrj, hvl⟩); have HB2 := Lib.hid (HB1.out.grow hlt hst2 hg2); clear hg2 hst2 hrj hvl)
                go_upto_region 31 with fail
                have hls := LsB.start HB2.out 3 ⟨#[91, 93]⟩ 0 (.slice none 0 0)
                have hel := HE.out.grow (X' := X3 X W.heap.size U2.heap.size) (grown_allc U2 (.cells #[.int .i64 3, .string ⟨#[91, 93]⟩, .int .i64 0, .slice none 0 0] 33) none) (fun b e => by cases e) (fun b hx => hx.imp id (fun e => by rw [e]; exact Nat.le_refl _))
                have hbl : Below U2.heap.size U2 (U2.alloc (.cells #[.int .i64 3, .string ⟨#[91, 93]⟩, .int .i64 0, .slice none 0 0] 33)) := (Below.refl _ _).alloc (Nat.le_refl _) _
                obtain ⟨lb, hlb⟩ : ∃ lb, U2.heap.size = lb := ⟨_, rfl⟩
                have hlb2 : W.heap.size + 2 ≤ lb := by have := hls.lo; omega
                rw [hlb] at hls hel ⊢
                obtain ⟨V, hV⟩ : ∃ V, U2.alloc (.cells #[.int .i64 3, .string ⟨#[91, 93]⟩, .int .i64 0, .slice none 0 0] 33) = V := ⟨_, rfl⟩
                rw [hV] at hls hel ⊢
                have HLS := Lib.hid hls
                replace HE := Lib.hid hel
                clear hls hel hbl hV hlb HB2 HB1 HRW
                have HTN := Lib.hid (TV.atom (X := X3 X W.heap.size lb) (W := V) (funT ⟨#[91, 93]⟩ []) rfl (wf64 (show (-9223372036854775808 : Int) ≤ 3 by omega) (show (3 : Int) ≤ 9223372036854775807 by omega)) (wf64 (show (-9223372036854775808 : Int) ≤ 0 by omega) (show (0 : Int) ≤ 9223372036854775807 by omega)) (by decide))
                have HSE := Lib.hid (see_c V rb s L (.slice (some ⟨b, off, none⟩) L.length tcap) (stOf RW) 124 HS.out HLS.out.st)
                obtain ⟨TL, hTL⟩ : ∃ TL, tlE (bs s) f deep (stOf RW) = TL := ⟨_, rfl⟩
                have HTL := Lib.hid hTL
                have HRWW : Hid (∀ ts' ns', stOf RW = .ok (ts', ns') → ts'.length + 1 ≤ (L.drop (a + 1)).length ∧ ns'.length + ts'.length ≤ ns.length + (L.drop (a + 1)).length) := Lib.hid (fun ts' ns' e => by
                  rw [← HRWE.out] at e
                  simp only [rowE] at e
                  cases hr : rdRow (bs s) f deep (L.drop (a + 1)) ns with
                  | error e' => rw [hr] at e; cases e
                  | ok q =>
                    obtain ⟨u, r1, n1⟩ := q
                    rw [hr] at e
                    injection e with e
                    injection e with e1 e2
                    subst e1 e2
                    have h1 := (rd_went (bs s) f).2.2.2 _ _ _ _ _ _ hr
                    exact ⟨h1.len, h1.nms⟩)
                cases hs9 : seeE 124 (stOf RW) with
                | true =>
                  cases hst9 : stOf RW with
                  | error e => rw [hst9] at hs9; cases hs9
                  | ok q =>
                    obtain ⟨ts9, ns9⟩ := q
                    have hTe : TL = termE (bs s) f 999 (deep + 1) (.ok (ts9.tail, ns9)) := by
                      rw [← hTL, tlE, if_pos hs9, hst9]
                      rfl
                    have h9 := HRWW.out _ _ hst9
                    have hls := HLS.out
                    rw [hst9] at hls hs9
                    obtain ⟨a9, ets9, hrd9⟩ := hls.st.is
                    obtain rfl : ts9 = L.drop a9 := ets9
                    have ha9 : a9 < L.length := by
                      by_cases ha : a9 < L.length
                      · exact ha
                      · have h0 : L.drop a9 = [] := List.drop_eq_nil_of_le (by omega)
                        rw [show seeE 124 (.ok (L.drop a9, ns9)) = seeT 124 (L.drop a9) from rfl, h0] at hs9
                        cases hs9
                    rw [List.tail_drop] at hTe
                    rw [List.length_drop, List.length_drop] at h9
                    rw [hst9] at HSE
                    rw [hs9] at HSE
                    have HRV9 := Lib.hid hrd9
                    have jw9 : IntKind.i64.wrap ((a9 : Int) + 1) = (a9 : Int) + 1 := by rw [IntKind.wrap_i64]; omega
                    have HRM9 : Hid (Room f 3 (.ok (L.drop (a9 + 1), ns9))) := Lib.hid (fun ts' ns' e => by
                      injection e with e
                      injection e with e1 e2
                      subst e1 e2
                      have h0 := HROOM.out
                      rw [HDR.out, List.length_cons, List.length_drop] at h0
                      rw [List.length_drop]
                      exact ⟨by omega, by omega⟩)
                    have HTe := Lib.hid hTe
                    have HST9 := Lib.hid hst9
                    clear hs9 hls hrd9 h9 hTL hTe hst9
                    go_upto_region 32 with (go_at_call 39; (with_reducible refine (HSE.out).mono ?_); rintro e W' ⟨rfl, k7, rfl⟩)
                    replace HLS := Lib.hid (HLS.out.dn k7)
                    replace HRV9 := Lib.hid (HRV9.out.dn k7)
                    replace HE : Hid (Els (X3 X W.heap.size lb) (V.drewN k7) (valOf RW) m eb eo ec) := Lib.hid (HE.out.grow (r := none) ⟨rfl, rfl, rfl, Nat.le_refl _, fun _ _ _ => rfl⟩ (fun b e => by cases e) (fun b hx => .inl hx))
                    obtain ⟨V1, hV1⟩ : ∃ V1, V.drewN k7 = V1 := ⟨_, rfl⟩
                    rw [hV1] at HLS HRV9 HE ⊢
                    clear hV1 HSE HTN
                    obtain ⟨nv, pl, hblk, hnsm⟩ := HRV9.out.cells
                    obtain ⟨⟨c0, c1, c2, c3, c4, c5⟩, f0, f1, f2, f3, f4, f5⟩ := row6 hblk
                    clear hblk hnsm
                    go_upto_region 33 with fail
                    have hg9 := grown_set V1 rb 2 (.int .i64 ((a9 : Int) + 1))
                    have hr9 : Rdr (X3 X W.heap.size lb) (V1.setCell ⟨rb, 2, none⟩ (.int .i64 ((a9 : Int) + 1))) rb s L (.slice (some ⟨b, off, none⟩) L.length tcap) (a9 + 1) ns9 := HRV9.out.step (a' := a9 + 1) (by omega)
                    have hls : LsB X W rb s L (.slice (some ⟨b, off, none⟩) L.length tcap) (.ok (L.drop (a9 + 1), ns9)) lb 3 ⟨#[91, 93]⟩ 0 (.slice none 0 0) (V1.setCell ⟨rb, 2, none⟩ (.int .i64 ((a9 : Int) + 1))) := HLS.out.grow hlt (St.of hr9) hg9
                    replace HE := Lib.hid (HE.out.grow (X' := X3 X W.heap.size lb) hg9 (fun b e => by injection e with e; rw [← e]; exact HLS.out.st.own) (fun b hx => .inl hx))
                    replace HLS := Lib.hid hls
                    clear hls hg9 hr9
                    obtain ⟨V2, hV2⟩ : ∃ V2, V1.setCell ⟨rb, 2, none⟩ (.int .i64 ((a9 : Int) + 1)) = V2 := ⟨_, rfl⟩
                    rw [hV2] at HE HLS ⊢
                    clear hV2 c0 c1 c2 c3 c4 c5 f0 f1 f2 f3 f4 f5
                    have HTM : Hid (Calls Tryz.prog 20 #[.pointer (some ⟨rb, 0, none⟩), .int .i64 999, .int .i64 ((deep : Int) + 1)] V2 fun e W' => TermPost (X3 X W.heap.size lb) V2 rb s L (.slice (some ⟨b, off, none⟩) L.length tcap) TL e W') :=
                      Lib.hid (by rw [HTe.out]; exact HIH.out.1 (X3 X W.heap.size lb) V2 rb s L _ (.ok (L.drop (a9 + 1), ns9)) 999 (deep + 1) HS.out HLS.out.st HRM9.out (by omega) (by omega))
                    obtain ⟨⟨b0, b1, b2, b3⟩, bf0, bf1, bf2, bf3⟩ := row4 HLS.out.bx
                    clear b0 b1 b2 b3 bf0 bf1 bf2 bf3
                    go_wp2_with fail
                    with_reducible refine (HTM.out).mono ?_
                    rintro e U3 ⟨k5, nm5, n5, g5, m5, c5, rfl, hg5, hst5, htv5⟩
                    replace HE := Lib.hid (HE.out.grow (X' := X3 X W.heap.size lb) hg5 (fun b e => by injection e with e; rw [← e]; exact HLS.out.st.own) (fun b hx => .inl hx))
                    replace HLS := Lib.hid (HLS.out.grow hlt hst5 hg5)
                    have HTV := Lib.hid htv5
                    clear hst5 hg5 htv5 HTM
                    obtain ⟨⟨b0, b1, b2, b3⟩, bf0, bf1, bf2, bf3⟩ := row4 HLS.out.bx
                    go_upto_region 34 with fail
                    have hls := HLS.out.put hlt k5 nm5 n5 (.slice g5 m5 c5)
                    have hg6 := set4_grown U3 lb k5 nm5 n5 (.slice g5 m5 c5)
                    replace HTV := Lib.hid (HTV.out.grow (X' := X3 X W.heap.size lb) hg6 (fun b e => by injection e with e; exact .inr e.symm) (fun b hx => .inl hx))
                    replace HE := Lib.hid (HE.out.grow (X' := X3 X W.heap.size lb) hg6 (fun b e => by injection e with e; exact .inr e.symm) (fun b hx => .inl hx))
                    replace HLS := Lib.hid hls
                    change Code.wp _ _ _ _ (set4 U3 lb k5 nm5 n5 (.slice g5 m5 c5))
                    clear b0 b1 b2 b3 bf0 bf1 bf2 bf3 hg6 hls
                    obtain ⟨V3, hV3⟩ : ∃ V3, set4 U3 lb k5 nm5 n5 (.slice g5 m5 c5) = V3 := ⟨_, rfl⟩
                    rw [hV3] at HLS HTV HE ⊢
                    clear hV3
                    obtain ⟨V, hVV⟩ : ∃ V, V3 = V := ⟨_, rfl⟩
                    rw [hVV] at HLS HTV HE ⊢
                    clear hVV
                    have HND := Lib.hid (need_c V rb s L (.slice (some ⟨b, off, none⟩) L.length tcap) (stOf TL) 93 HS.out HLS.out.st)
                    have jm : IntKind.i64.wrap ((m : Int) - 1) = (m : Int) - 1 := by rw [IntKind.wrap_i64]; omega
                    go_upto_region 35 with (go_at_call 40; (with_reducible refine (HND.out).mono ?_); rintro e V4 ⟨rfl, hg, hst⟩; replace HTV := Lib.hid (HTV.out.grow (X' := X3 X W.heap.size lb) hg (fun b e => by injection e with e; rw [← e]; exact HLS.out.st.own) (fun b hx => .inl hx)); replace HE := Lib.hid (HE.out.grow (X' := X3 X W.heap.size lb) hg (fun b e => by injection e with e; rw [← e]; exact HLS.out.st.own) (fun b hx => .inl hx)); replace HLS := Lib.hid (HLS.out.grow hlt hst hg); clear hg hst)
                    clear HND
                    go_wp2_with fail
                    go_loopg [14] m (fun gf s14 wx => ∃ (k : Int) (nm : ByteArray) (n : Int) (g : Option Addr) (mm c : Nat) (i : Int), s14 = .int .i64 i ∧ i + 1 = gf ∧ gf ≤ m ∧ Hid (LsB X W rb s L (.slice (some ⟨b, off, none⟩) L.length tcap) (needE (bs s) 93 (stOf TL)) lb k nm n (.slice g mm c) wx) ∧ Hid (Els (X3 X W.heap.size lb) wx (valOf RW) m eb eo ec) ∧ Hid (TV (X3 X W.heap.size lb) wx (curV (valOf RW) (valOf TL) gf) k nm n (.slice g mm c)))
                    case atStart =>
                      exact ⟨_, _, _, _, _, _, (m : Int) - 1, rfl, by omega, Nat.le_refl _, HLS, HE, Lib.hid (HTV.out.sub fun t ht => curV_last (fun l hl => (HE.out.val l hl).1) ht)⟩
                    case round =>
                      clear HLS HE HTV
                      obtain ⟨k9, nm9, n9, g9, m9, c9, i, rfl, hi, hgm, HLS, HE, HTV⟩ := hrel
                      obtain ⟨⟨b0, b1, b2, b3⟩, bf0, bf1, bf2, bf3⟩ := row4 HLS.out.bx
                      have hlbr := HLS.out.lt
                      by_cases hg0 : gk = 0
                      · obtain rfl : i = -1 := by omega
                        subst hg0
                        have hc0 : ((-1 : Int) ≥ 0) = False := by simp
                        clear hi
                        have HT : Hid (Calls Tryz.prog 36 #[.pointer (some ⟨rb, 0, none⟩), .agg #[.int .i64 k9, .string nm9, .int .i64 n9, .slice g9 m9 c9], .int .i64 0, .int .i64 (p : Nat), .int .i64 (deep : Nat)] wr fun e W' => TermPost (X3 X W.heap.size lb) wr rb s L (.slice (some ⟨b, off, none⟩) L.length tcap) (restE (bs s) f 0 p deep (lstE (bs s) f deep (.ok (L.drop (a + 1), ns)))) e W') :=
                          Lib.hid (HIH.out.2.1 (X3 X W.heap.size lb) wr rb s L _ (lstE (bs s) f deep (.ok (L.drop (a + 1), ns))) k9 nm9 n9 g9 m9 c9 0 p deep HS.out (by rw [lstE_st, HRWE.out, HTL.out]; exact HLS.out.st) (HTV.out.sub (fun t ht => by
                            obtain ⟨l, t0, h1, h2, rfl⟩ := lstE_val ht
                            rw [HRWE.out] at h1 h2
                            rw [HTL.out] at h2
                            rw [h1, h2]
                            rfl)) (lst_room HRM1.out) (by omega) hp hdeep)
                        go_wp2_with fail
                        with_reducible refine (HT.out).mono ?_
                        rintro e U9 ⟨k8, nm8, n8, g8, m8, c8, rfl, hg9, hst9, htv9⟩
                        have hb9 := (HLS.out.grow hlt hst9 hg9).tm HX.out
                        have HB9 := Lib.hid hb9
                        have HF := Lib.hid (tm_fin (y := restE (bs s) f 0 p deep (lstE (bs s) f deep (.ok (L.drop (a + 1), ns)))) HX.out hlt hb9 (htv9.less (fun _ hx => .inl hx)))
                        obtain ⟨⟨r0, r1, r2, r3⟩, rf0, rf1, rf2, rf3⟩ := row4 hb9.rs
                        clear hb9 hst9 htv9 hg9 b0 b1 b2 b3 bf0 bf1 bf2 bf3
                        go_wp2_with fail
                        have hz := set4_blk HB9.out.rs k8 nm8 n8 (.slice g8 m8 c8)
                        change bodyPost _ _ _ _ _ (set4 U9 W.heap.size k8 nm8 n8 (.slice g8 m8 c8))
                        obtain ⟨V', hV'⟩ : ∃ V', set4 U9 W.heap.size k8 nm8 n8 (.slice g8 m8 c8) = V' := ⟨_, rfl⟩
                        rw [hV'] at HF hz ⊢
                        obtain ⟨⟨z0, z1, z2, z3⟩, zf0, zf1, zf2, zf3⟩ := row4 hz
                        clear hV' hz r0 r1 r2 r3 rf0 rf1 rf2 rf3 zf0 zf1 zf2 zf3
                        refine bodyPost_ret (v := .agg #[.int .i64 k8, .string nm8, .int .i64 n8, .slice g8 m8 c8]) (by simp [results, Tryz.results20, go_sem, z0, z1, z2, z3]) rfl ?_
                        exact HF.out
                      · obtain ⟨q, rfl⟩ : ∃ q, gk = q + 1 := ⟨gk - 1, by omega⟩
                        obtain rfl : i = (q : Int) := by omega
                        have hc1 : ((q : Int) ≥ 0) = True := by simp
                        have j0 : (0 : Int) ≤ (q : Int) := by omega
                        have j1 : (q : Int) < (m : Int) := by omega
                        have jw : IntKind.i64.wrap (q : Int) = (q : Int) := by rw [IntKind.wrap_i64]; omega
                        have jw1 : IntKind.i64.wrap ((q : Int) - 1) = (q : Int) - 1 := by rw [IntKind.wrap_i64]; omega
                        obtain ⟨heb, k', nm', n', g', m', c', e0, e1, e2, e3, hat⟩ := HE.out.at q (by omega)
                        have HAT := Lib.hid hat
                        clear hat hi hg0
                        go_wp2_with fail
                        go_region
                        go_wp2_with fail
                        have hcons := ls_cons HLS.out hlt HE.out HTV.out HAT.out wr.heap.size rfl
                        obtain ⟨h1, h2, h3⟩ := hcons
                        have H1 := Lib.hid (h1.next ((Below.refl _ _).drew))
                        have H2 := Lib.hid (h2.grow (X' := X3 X W.heap.size lb) (grown_drew _) (fun b e => by cases e) (fun b hx => .inl hx))
                        have H3 := Lib.hid (h3.grow (X' := X3 X W.heap.size lb) (grown_drew _) (fun b e => by cases e) (fun b hx => .inl hx))
                        clear h1 h2 h3 b0 b1 b2 b3 bf0 bf1 bf2 bf3 e0 e1 e2 e3
                        go_roundg q
                        case rel =>
                          exact ⟨3, ⟨#[46]⟩, 0, some ⟨wr.heap.size, 0, none⟩, 2, 2, (q : Int) - 1, rfl, by omega, by omega, H1, H2, H3⟩
                        case measure => exact Nat.lt_succ_self _
                | false =>
                  have hTe : stOf TL = stOf RW := by
                    rw [← hTL, tlE, if_neg (by rw [hs9]; simp)]
                    cases stOf RW with
                    | error e => rfl
                    | ok q => rfl
                  have hTv : ∀ t, valOf TL = some t → some (funT ⟨#[91, 93]⟩ []) = some t := by
                    intro t ht
                    rw [← hTL, tlE, if_neg (by rw [hs9]; simp)] at ht
                    cases hq : stOf RW with
                    | error e => rw [hq] at ht; cases ht
                    | ok q => rw [hq] at ht; exact ht
                  have HTV := Lib.hid (HTN.out.sub hTv)
                  rw [← hTe] at HLS
                  rw [hs9] at HSE
                  clear hs9 hTe hTv hTL HTN
                  go_upto_region 34 with (go_at_call 39; (with_reducible refine (HSE.out).mono ?_); rintro e W' ⟨rfl, k7, rfl⟩)
                  replace HLS := Lib.hid (HLS.out.dn k7)
                  replace HTV : Hid (TV (X3 X W.heap.size lb) (V.drewN k7) (valOf TL) 3 ⟨#[91, 93]⟩ 0 (.slice none 0 0)) := Lib.hid (HTV.out.grow (r := none) ⟨rfl, rfl, rfl, Nat.le_refl _, fun _ _ _ => rfl⟩ (fun b e => by cases e) (fun b hx => .inl hx))
                  replace HE : Hid (Els (X3 X W.heap.size lb) (V.drewN k7) (valOf RW) m eb eo ec) := Lib.hid (HE.out.grow (r := none) ⟨rfl, rfl, rfl, Nat.le_refl _, fun _ _ _ => rfl⟩ (fun b e => by cases e) (fun b hx => .inl hx))
                  obtain ⟨V1, hV1⟩ : ∃ V1, V.drewN k7 = V1 := ⟨_, rfl⟩
                  rw [hV1] at HLS HTV HE ⊢
                  clear hV1 HSE
                  obtain ⟨V, hVV⟩ : ∃ V, V1 = V := ⟨_, rfl⟩
                  rw [hVV] at HLS HTV HE ⊢
                  clear hVV
                  have HND := Lib.hid (need_c V rb s L (.slice (some ⟨b, off, none⟩) L.length tcap) (stOf TL) 93 HS.out HLS.out.st)
                  have jm : IntKind.i64.wrap ((m : Int) - 1) = (m : Int) - 1 := by rw [IntKind.wrap_i64]; omega
                  go_upto_region 35 with (go_at_call 40; (with_reducible refine (HND.out).mono ?_); rintro e V4 ⟨rfl, hg, hst⟩; replace HTV := Lib.hid (HTV.out.grow (X' := X3 X W.heap.size lb) hg (fun b e => by injection e with e; rw [← e]; exact HLS.out.st.own) (fun b hx => .inl hx)); replace HE := Lib.hid (HE.out.grow (X' := X3 X W.heap.size lb) hg (fun b e => by injection e with e; rw [← e]; exact HLS.out.st.own) (fun b hx => .inl hx)); replace HLS := Lib.hid (HLS.out.grow hlt hst hg); clear hg hst)
                  clear HND
                  go_wp2_with fail
                  go_loopg [14] m (fun gf s14 wx => ∃ (k : Int) (nm : ByteArray) (n : Int) (g : Option Addr) (mm c : Nat) (i : Int), s14 = .int .i64 i ∧ i + 1 = gf ∧ gf ≤ m ∧ Hid (LsB X W rb s L (.slice (some ⟨b, off, none⟩) L.length tcap) (needE (bs s) 93 (stOf TL)) lb k nm n (.slice g mm c) wx) ∧ Hid (Els (X3 X W.heap.size lb) wx (valOf RW) m eb eo ec) ∧ Hid (TV (X3 X W.heap.size lb) wx (curV (valOf RW) (valOf TL) gf) k nm n (.slice g mm c)))
                  case atStart =>
                    exact ⟨_, _, _, _, _, _, (m : Int) - 1, rfl, by omega, Nat.le_refl _, HLS, HE, Lib.hid (HTV.out.sub fun t ht => curV_last (fun l hl => (HE.out.val l hl).1) ht)⟩
                  case round =>
                    clear HLS HE HTV
                    obtain ⟨k9, nm9, n9, g9, m9, c9, i, rfl, hi, hgm, HLS, HE, HTV⟩ := hrel
                    obtain ⟨⟨b0, b1, b2, b3⟩, bf0, bf1, bf2, bf3⟩ := row4 HLS.out.bx
                    have hlbr := HLS.out.lt
                    by_cases hg0 : gk = 0
                    · obtain rfl : i = -1 := by omega
                      subst hg0
                      have hc0 : ((-1 : Int) ≥ 0) = False := by simp
                      clear hi
                      have HT : Hid (Calls Tryz.prog 36 #[.pointer (some ⟨rb, 0, none⟩), .agg #[.int .i64 k9, .string nm9, .int .i64 n9, .slice g9 m9 c9], .int .i64 0, .int .i64 (p : Nat), .int .i64 (deep : Nat)] wr fun e W' => TermPost (X3 X W.heap.size lb) wr rb s L (.slice (some ⟨b, off, none⟩) L.length tcap) (restE (bs s) f 0 p deep (lstE (bs s) f deep (.ok (L.drop (a + 1), ns)))) e W') :=
                        Lib.hid (HIH.out.2.1 (X3 X W.heap.size lb) wr rb s L _ (lstE (bs s) f deep (.ok (L.drop (a + 1), ns))) k9 nm9 n9 g9 m9 c9 0 p deep HS.out (by rw [lstE_st, HRWE.out, HTL.out]; exact HLS.out.st) (HTV.out.sub (fun t ht => by
                          obtain ⟨l, t0, h1, h2, rfl⟩ := lstE_val ht
                          rw [HRWE.out] at h1 h2
                          rw [HTL.out] at h2
                          rw [h1, h2]
                          rfl)) (lst_room HRM1.out) (by omega) hp hdeep)
                      go_wp2_with fail
                      with_reducible refine (HT.out).mono ?_
                      rintro e U9 ⟨k8, nm8, n8, g8, m8, c8, rfl, hg9, hst9, htv9⟩
                      have hb9 := (HLS.out.grow hlt hst9 hg9).tm HX.out
                      have HB9 := Lib.hid hb9
                      have HF := Lib.hid (tm_fin (y := restE (bs s) f 0 p deep (lstE (bs s) f deep (.ok (L.drop (a + 1), ns)))) HX.out hlt hb9 (htv9.less (fun _ hx => .inl hx)))
                      obtain ⟨⟨r0, r1, r2, r3⟩, rf0, rf1, rf2, rf3⟩ := row4 hb9.rs
                      clear hb9 hst9 htv9 hg9 b0 b1 b2 b3 bf0 bf1 bf2 bf3
                      go_wp2_with fail
                      have hz := set4_blk HB9.out.rs k8 nm8 n8 (.slice g8 m8 c8)
                      change bodyPost _ _ _ _ _ (set4 U9 W.heap.size k8 nm8 n8 (.slice g8 m8 c8))
                      obtain ⟨V', hV'⟩ : ∃ V', set4 U9 W.heap.size k8 nm8 n8 (.slice g8 m8 c8) = V' := ⟨_, rfl⟩
                      rw [hV'] at HF hz ⊢
                      obtain ⟨⟨z0, z1, z2, z3⟩, zf0, zf1, zf2, zf3⟩ := row4 hz
                      clear hV' hz r0 r1 r2 r3 rf0 rf1 rf2 rf3 zf0 zf1 zf2 zf3
                      refine bodyPost_ret (v := .agg #[.int .i64 k8, .string nm8, .int .i64 n8, .slice g8 m8 c8]) (by simp [results, Tryz.results20, go_sem, z0, z1, z2, z3]) rfl ?_
                      exact HF.out
                    · obtain ⟨q, rfl⟩ : ∃ q, gk = q + 1 := ⟨gk - 1, by omega⟩
                      obtain rfl : i = (q : Int) := by omega
                      have hc1 : ((q : Int) ≥ 0) = True := by simp
                      have j0 : (0 : Int) ≤ (q : Int) := by omega
                      have j1 : (q : Int) < (m : Int) := by omega
                      have jw : IntKind.i64.wrap (q : Int) = (q : Int) := by rw [IntKind.wrap_i64]; omega
                      have jw1 : IntKind.i64.wrap ((q : Int) - 1) = (q : Int) - 1 := by rw [IntKind.wrap_i64]; omega
                      obtain ⟨heb, k', nm', n', g', m', c', e0, e1, e2, e3, hat⟩ := HE.out.at q (by omega)
                      have HAT := Lib.hid hat
                      clear hat hi hg0
                      go_wp2_with fail
                      go_region
                      go_wp2_with fail
                      have hcons := ls_cons HLS.out hlt HE.out HTV.out HAT.out wr.heap.size rfl
                      obtain ⟨h1, h2, h3⟩ := hcons
                      have H1 := Lib.hid (h1.next ((Below.refl _ _).drew))
                      have H2 := Lib.hid (h2.grow (X' := X3 X W.heap.size lb) (grown_drew _) (fun b e => by cases e) (fun b hx => .inl hx))
                      have H3 := Lib.hid (h3.grow (X' := X3 X W.heap.size lb) (grown_drew _) (fun b e => by cases e) (fun b hx => .inl hx))
                      clear h1 h2 h3 b0 b1 b2 b3 bf0 bf1 bf2 bf3 e0 e1 e2 e3
                      go_roundg q
                      case rel =>
                        exact ⟨3, ⟨#[46]⟩, 0, some ⟨wr.heap.size, 0, none⟩, 2, 2, (q : Int) - 1, rfl, by omega, by omega, H1, H2, H3⟩
                      case measure => exact Nat.lt_succ_self _
              | false =>
                rw [if_neg (by rw [hs]; simp)] at hRE
                rw [hs] at HSEE2
                clear hs
                have hpl : placeT (bs s) (L.drop a) = z.2 := by rw [HDR.out]; rfl
                have hRe : R = .error (2, placeT (bs s) (L.drop a)) := by rw [hRE, hpl]
                subst hRe
                clear hRE hpl
                have HFA := Lib.hid (fun q => fail_any (X := X2 X W.heap.size) (U0.drewN q) rb s L _ a ns 2 (HRV.out.dn q) HS.out.size HS.out.len)
                go_upto_region 40 with (go_at_call 39; (with_reducible refine (HSEE2.out).mono ?_); rintro e W' ⟨rfl, k6, rfl⟩)
                go_upto_region 41 with (go_at_call 21; (refine (HFA.out _).mono ?_); rintro e U9 ⟨rfl, hg, hbad⟩; have HG := Lib.hid hg; have HBAD := Lib.hid hbad; clear hg hbad)
                replace HB := Lib.hid (HB.out.dn k6)
                obtain ⟨U, hU9⟩ : ∃ U, U9 = U := ⟨_, rfl⟩
                rw [hU9] at HG HBAD ⊢
                clear hU9
                have hb9 : TmB X W rb s L _ (.error ((2, placeT (bs s) (L.drop a)))) U := HB.out.grow hlt ⟨.inl HX.out, fun b hb => Nat.lt_of_lt_of_le (HB.out.st.old b hb) HG.out.size, HBAD.out, .inl rfl⟩ HG.out
                have HB9 := Lib.hid hb9
                obtain ⟨⟨r0, r1, r2, r3⟩, rf0, rf1, rf2, rf3⟩ := row4 hb9.rs
                obtain ⟨⟨n0, n1, n2, n3⟩, nf0, nf1, nf2, nf3⟩ := row4 hb9.no
                clear hb9
                go_wp2_with fail
                have HF := Lib.hid (tm_fin (y := .error (((2, placeT (bs s) (L.drop a))))) HX.out hlt HB9.out tm_none)
                have hz := set4_blk HB9.out.rs 0 ⟨#[]⟩ 0 (.slice none 0 0)
                change bodyPost _ _ _ _ _ (set4 U W.heap.size 0 ⟨#[]⟩ 0 (.slice none 0 0))
                obtain ⟨V', hV'⟩ : ∃ V', set4 U W.heap.size 0 ⟨#[]⟩ 0 (.slice none 0 0) = V' := ⟨_, rfl⟩
                rw [hV'] at HF hz ⊢
                obtain ⟨⟨z0, z1, z2, z3⟩, zf0, zf1, zf2, zf3⟩ := row4 hz
                clear hV' hz r0 r1 r2 r3 rf0 rf1 rf2 rf3 n0 n1 n2 n3 nf0 nf1 nf2 nf3 zf0 zf1 zf2 zf3
                refine bodyPost_ret (v := .agg #[.int .i64 0, .string ⟨#[]⟩, .int .i64 0, .slice none 0 0]) (by simp [results, Tryz.results20, go_sem, z0, z1, z2, z3]) rfl ?_
                exact HF.out
    · have hRe : R = .error (2, placeT (bs s) (L.drop a)) := by
        rw [← HR.out]
        show rdTerm (bs s) (f + 1) p deep (L.drop a) ns = _
        have h0 : L.drop a = [] := List.drop_eq_nil_of_le (by omega)
        rw [h0, rdTerm.eq_def]
        dsimp only
        rw [if_neg hd]
        rfl
      have hgc : ((a : Int) ≥ (L.length : Int)) = True := by simp only [ge_iff_le, eq_iff_iff, iff_true]; omega
      subst hRe
      go_upto_region 7 with fail
      obtain ⟨V, hV⟩ : ∃ V, ((W.alloc zeroT).alloc zeroT) = V := ⟨_, rfl⟩
      have HRV : Hid (Rdr (X2 X W.heap.size) V rb s L (.slice tg L.length tcap) a ns) := Lib.hid (by
        obtain ⟨a', e, h⟩ := HB.out.st.is
        rw [hV] at h
        exact Rdr.same_at h e HRD.out.le)
      rw [hV] at HB ⊢
      clear hV c0 c1 c2 c3 c4 c5 f0 f1 f2 f3 f4 f5
      obtain ⟨nv, pl, hblk, hnsm⟩ := HRV.out.cells
      obtain ⟨⟨c0, c1, c2, c3, c4, c5⟩, f0, f1, f2, f3, f4, f5⟩ := row6 hblk
      clear hblk hnsm
      go_quiet (fail)
      obtain ⟨V2, hV⟩ : ∃ V2, V.drewN nq = V2 := ⟨_, rfl⟩
      replace HB := Lib.hid (HB.out.dn nq)
      replace HRV := Lib.hid (HRV.out.dn nq)
      rw [hV] at HB HRV ⊢
      clear hV c0 c1 c2 c3 c4 c5 f0 f1 f2 f3 f4 f5 hgc
      have HFA := Lib.hid (fail_any (X := X2 X W.heap.size) V2 rb s L _ a ns 2 HRV.out HS.out.size HS.out.len)
      go_upto_region 9 with (go_at_call 21; (refine (HFA.out).mono ?_); rintro e U ⟨rfl, hg, hbad⟩; have HG := Lib.hid hg; have HBAD := Lib.hid hbad; clear hg hbad)
      have hb9 : TmB X W rb s L _ (.error ((2, placeT (bs s) (L.drop a)))) U := HB.out.grow hlt ⟨.inl HX.out, fun b hb => Nat.lt_of_lt_of_le (HB.out.st.old b hb) HG.out.size, HBAD.out, .inl rfl⟩ HG.out
      have HB9 := Lib.hid hb9
      obtain ⟨⟨r0, r1, r2, r3⟩, rf0, rf1, rf2, rf3⟩ := row4 hb9.rs
      obtain ⟨⟨n0, n1, n2, n3⟩, nf0, nf1, nf2, nf3⟩ := row4 hb9.no
      clear hb9
      go_wp2_with fail
      have HF := Lib.hid (tm_fin (y := .error (((2, placeT (bs s) (L.drop a))))) HX.out hlt HB9.out tm_none)
      have hz := set4_blk HB9.out.rs 0 ⟨#[]⟩ 0 (.slice none 0 0)
      change bodyPost _ _ _ _ _ (set4 U W.heap.size 0 ⟨#[]⟩ 0 (.slice none 0 0))
      obtain ⟨V', hV'⟩ : ∃ V', set4 U W.heap.size 0 ⟨#[]⟩ 0 (.slice none 0 0) = V' := ⟨_, rfl⟩
      rw [hV'] at HF hz ⊢
      obtain ⟨⟨z0, z1, z2, z3⟩, zf0, zf1, zf2, zf3⟩ := row4 hz
      clear hV' hz r0 r1 r2 r3 rf0 rf1 rf2 rf3 n0 n1 n2 n3 nf0 nf1 nf2 nf3 zf0 zf1 zf2 zf3
      refine bodyPost_ret (v := .agg #[.int .i64 0, .string ⟨#[]⟩, .int .i64 0, .slice none 0 0]) (by simp [results, Tryz.results20, go_sem, z0, z1, z2, z3]) rfl ?_
      exact HF.out
end Go.Proofs.YtilfglcjcmpfeaaGreatDoor
