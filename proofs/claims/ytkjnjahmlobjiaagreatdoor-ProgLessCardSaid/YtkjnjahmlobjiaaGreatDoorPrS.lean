/-
  The program's reader: an operand that is neither a negative number nor an operator ahead of its one term.
-/
import Derived.Test.YtkjnjahmlobjiaaGreatDoorPrL
namespace Go.Proofs.YtkjnjahmlobjiaaGreatDoor
open Go.RowKit

theorem tkAt_ne {z : Nat} {ts : Toks} (h : (tkAt z ts 0).1.kind ≠ 0) : ∃ r, ts = tkAt z ts 0 :: r := by
  cases ts with
  | nil => exact absurd rfl h
  | cons x r => exact ⟨r, rfl⟩
theorem tm_atom (nm : ByteArray) (hn : nm.size ≤ maxLen) (X : Nat → Prop) (w : World) : TV X w (some (funT nm [])) 3 nm 0 (.slice none 0 0) := TV.atom (funT nm []) rfl (show (Lit.int .i64 3).wf = true by decide) (show (Lit.int .i64 0).wf = true by decide) hn
set_option maxRecDepth 100000 in
set_option maxHeartbeats 8000000 in
theorem simple_p (f : Nat) (IHc : PComp (f - 1)) (IHp : PParen f) (IHl : PList f) : PSimple f := by
  intro X W rb z S ts ns nv deep hin hrd hdeep
  obtain ⟨R, hR⟩ : ∃ R, rdSim S f deep ts ns = R := ⟨_, rfl⟩
  rw [hR]
  have HR := Lib.hid hR
  have HIN := Lib.hid hin
  have hlt := hrd.lt
  have hst0 := (PSt.start hrd).box (.cells #[.int .i64 0, .string ⟨#[]⟩, .int .i64 0, .slice none 0 0] 34)
  have hb4 := newBlk W (.cells #[.int .i64 0, .string ⟨#[]⟩, .int .i64 0, .slice none 0 0] 34) W.heap.size rfl
  have hsm := tkAt_small (z := z) hin.good hin.zl 0
  have hts := hin.len
  obtain ⟨V, hV⟩ : ∃ V, W.alloc (.cells #[.int .i64 0, .string ⟨#[]⟩, .int .i64 0, .slice none 0 0] 34) = V := ⟨_, rfl⟩
  obtain ⟨x, hx⟩ : ∃ x, tkAt z ts 0 = x := ⟨_, rfl⟩
  rw [hV] at hst0 hb4
  have HAH := Lib.hid (ahead0_any V rb z ts ns nv x hx hst0.rd hts)
  have HST0 := Lib.hid hst0
  have HB4 := Lib.hid hb4
  rw [hx] at hsm
  have HX := Lib.hid hx
  have HSM := Lib.hid hsm
  have HIHC := Lib.hid IHc
  have HIHP := Lib.hid IHp
  have HIHL := Lib.hid IHl
  have jd : IntKind.i64.wrap ((deep : Int) + 1) = (deep : Int) + 1 := by rw [IntKind.wrap_i64]; omega
  clear hR hin hrd hst0 hb4 hsm hx IHc IHp IHl
  go_enter Tryz.func96, Tryz.ntmps96
  go_upto_region 1 with fail
  clear hV
  go_upto_region 2 with (go_at_call 45; (with_reducible refine (HAH.out).mono ?_); rintro e V1 ⟨rfl, hb⟩; have HST1 := Lib.hid (HST0.out.next hb); have HB5 := Lib.hid ((hb.block _ (Array.getElem?_eq_some_iff.1 HB4.out).1).trans HB4.out); clear hb)
  clear HAH HST0 HB4
  have hwl := (Array.getElem?_eq_some_iff.1 HB5.out).1
  have hb1 := (Below.refl V1.heap.size V1).alloc (Nat.le_refl _) (.cells #[.int .i64 (x.1.kind : Nat), .string ⟨x.1.text.toArray⟩, .int .i64 (x.1.n : Nat), .int .i64 (x.2 : Nat), .bool x.1.opn] 103)
  have hxb := newBlk V1 (.cells #[.int .i64 (x.1.kind : Nat), .string ⟨x.1.text.toArray⟩, .int .i64 (x.1.n : Nat), .int .i64 (x.2 : Nat), .bool x.1.opn] 103) V1.heap.size rfl
  have hst2 := HST1.out.next hb1
  have hb6 := (hb1.block _ hwl).trans HB5.out
  obtain ⟨xb, hxe⟩ : ∃ xb, V1.heap.size = xb := ⟨_, rfl⟩
  obtain ⟨U, hU⟩ : ∃ U, V1.alloc (.cells #[.int .i64 (x.1.kind : Nat), .string ⟨x.1.text.toArray⟩, .int .i64 (x.1.n : Nat), .int .i64 (x.2 : Nat), .bool x.1.opn] 103) = U := ⟨_, rfl⟩
  have hxr : xb ≠ rb := by omega
  rw [hU] at hxb hst2 hb6 ⊢
  rw [hxe] at hxb hwl ⊢
  have HST := Lib.hid hst2
  have HB6 := Lib.hid hb6
  have HXB := Lib.hid hxb
  clear hb1 hst2 hb6 hU hxe HST1 HB5
  obtain ⟨⟨x0, x1, x2, x3, x4⟩, -⟩ := row5t hxb
  clear hxb
  have hk5 : x.1.kind ≤ 5 := HSM.out.1
  by_cases k3 : x.1.kind = 3
  · have q3 : ((x.1.kind : Int) == 3) = true := by rw [beq_iff_eq]; omega
    obtain ⟨r, htr⟩ : ∃ r, ts = x :: r := by
      have h0 := tkAt_ne (z := z) (ts := ts) (by rw [HX.out]; omega)
      rw [HX.out] at h0
      exact h0
    have HTS := Lib.hid htr
    have hlen1 : 1 ≤ ts.length := by rw [htr]; simp
    clear htr
    have hRe : R = .ok (numT x.1.n, r, ns) := by
      rw [← HR.out, HTS.out]
      unfold rdSim
      dsimp only
      rw [if_pos k3]
    have HPS := Lib.hid (pass1_any U rb z ts ns nv HST.out.rd hlen1 hts)
    subst hRe
    clear k3
    go_upto_region 5 with (go_at_call 62; (with_reducible refine (HPS.out).mono ?_); rintro e U1 ⟨rfl, hrd2, hfr2⟩; have HB7 := Lib.hid ((HST.out.keep (wrt0 hfr2) (.inr rfl)).trans HB6.out); have HXB2 := Lib.hid ((hfr2.block xb (Array.getElem?_eq_some_iff.1 HXB.out).1 hxr).trans HXB.out); have HST2 := Lib.hid (HST.out.call0 hrd2 hfr2); clear hrd2 hfr2)
    clear x0 x1 x2 x3 x4
    obtain ⟨⟨x0, x1, x2, x3, x4⟩, -⟩ := row5t HXB2.out
    have hxl := (Array.getElem?_eq_some_iff.1 HXB2.out).1
    have HNM := fun V => Lib.hid (num_p (x.1.n : Nat) V)
    go_wp2_with (go_at_call 94; (with_reducible refine ((HNM _).out).mono ?_); rintro e U2 ⟨rfl, hb⟩; replace HST2 := Lib.hid (HST2.out.next hb); have HB8 := Lib.hid ((hb.block _ (Array.getElem?_eq_some_iff.1 HB7.out).1).trans HB7.out); obtain ⟨⟨a0, a1, a2, a3⟩, af0, af1, af2, af3⟩ := row4 HB8.out; have htw : W.heap.size < U2.heap.size := (Array.getElem?_eq_some_iff.1 HB8.out).1; clear hb)
    have HTV2 : Hid (TV (Yc X (fun b => False ∨ b = W.heap.size) nv) U2 (some (numT x.1.n)) 2 ⟨#[]⟩ (x.1.n : Nat) (.slice none 0 0)) := Lib.hid (TV.atom (numT x.1.n) rfl (wf64 (show (-9223372036854775808 : Int) ≤ 2 by omega) (show (2 : Int) ≤ 9223372036854775807 by omega)) (wf64 (show -9223372036854775808 ≤ (x.1.n : Int) by omega) (show (x.1.n : Int) ≤ 9223372036854775807 by have := HSM.out.2.2.1; omega)) (by show (0 : Nat) ≤ maxLen; omega))
    rw [HTS.out, List.tail_cons] at HST2
    have HF := Lib.hid (p_fin (cd := 0) HST2.out HTV2.out (.inr rfl) (show Told S (.ok (numT x.1.n, r, ns) : RRes Tm) 0 r ns from ⟨rfl, rfl, rfl⟩) (fun t ht => ht))
    have hz := set4_blk HB8.out 2 ⟨#[]⟩ (x.1.n : Nat) (.slice none 0 0)
    change bodyPost _ _ _ _ _ (set4 U2 W.heap.size 2 ⟨#[]⟩ (x.1.n : Nat) (.slice none 0 0))
    obtain ⟨V', hV'⟩ : ∃ V', set4 U2 W.heap.size 2 ⟨#[]⟩ (x.1.n : Nat) (.slice none 0 0) = V' := ⟨_, rfl⟩
    rw [hV'] at HF hz ⊢
    obtain ⟨⟨z0, z1, z2, z3⟩, -⟩ := row4 hz
    clear hV' hz a0 a1 a2 a3 af0 af1 af2 af3
    refine bodyPost_ret (v := .tuple #[.agg #[.int .i64 2, .string ⟨#[]⟩, .int .i64 (x.1.n : Nat), .slice none 0 0], .int .i64 (0 : Nat)]) (by simp [results, Tryz.results96, go_sem, z0, z1, z2, z3]) rfl ?_
    exact HF.out
  have q3 : ((x.1.kind : Int) == 3) = false := by rw [beq_eq_false_iff_ne]; omega
  by_cases k2 : x.1.kind = 2
  · have q2 : ((x.1.kind : Int) == 2) = true := by rw [beq_iff_eq]; omega
    obtain ⟨r, htr⟩ : ∃ r, ts = x :: r := by
      have h0 := tkAt_ne (z := z) (ts := ts) (by rw [HX.out]; omega)
      rw [HX.out] at h0
      exact h0
    have HTS := Lib.hid htr
    have hlen1 : 1 ≤ ts.length := by rw [htr]; simp
    clear htr
    have hRe : R = .ok (varT (varN ns x.1.text).1, r, (varN ns x.1.text).2) := by
      rw [← HR.out, HTS.out]
      unfold rdSim
      dsimp only
      rw [if_neg k3, if_pos k2]
    have HPS := Lib.hid (pass1_any U rb z ts ns nv HST.out.rd hlen1 hts)
    have hup : x.1.text ≠ [] := (HTS.out ▸ HIN.out.good : Good S (x :: r)).head.up k2
    have HUP := Lib.hid hup
    have hnn : ns.length ≤ 2000000 := by have := HIN.out.names; omega
    subst hRe
    clear k3 k2 hup
    go_upto_region 8 with (go_at_call 62; (with_reducible refine (HPS.out).mono ?_); rintro e U1 ⟨rfl, hrd2, hfr2⟩; have HB7 := Lib.hid ((HST.out.keep (wrt0 hfr2) (.inr rfl)).trans HB6.out); have HXB2 := Lib.hid ((hfr2.block xb (Array.getElem?_eq_some_iff.1 HXB.out).1 hxr).trans HXB.out); have HST2 := Lib.hid (HST.out.call0 hrd2 hfr2); clear hrd2 hfr2)
    clear x0 x1 x2 x3 x4
    obtain ⟨⟨x0, x1, x2, x3, x4⟩, -⟩ := row5t HXB2.out
    have hxl := (Array.getElem?_eq_some_iff.1 HXB2.out).1
    have HVR := Lib.hid (variable_p U1 rb z ts.tail ns nv x.1.text HST2.out.rd HIN.out.us HUP.out hnn)
    have hvl : (varN ns x.1.text).1 ≤ ns.length := varN_le ns x.1.text
    obtain ⟨v, ns2, hv⟩ : ∃ v ns2, varN ns x.1.text = (v, ns2) := ⟨_, _, rfl⟩
    rw [hv] at HVR hvl
    have HV := Lib.hid hv
    clear hv
    go_wp2_with (go_at_call 109; (with_reducible refine (HVR.out).mono ?_); rintro e U2 ⟨rfl, ⟨n2, hrd3, hnv3⟩, hfr3⟩; have HB8 := Lib.hid ((HST2.out.keep hfr3 (.inr rfl)).trans HB7.out); have HST3 := Lib.hid (HST2.out.call hrd3 hnv3 hfr3); obtain ⟨⟨a0, a1, a2, a3⟩, af0, af1, af2, af3⟩ := row4 HB8.out; have htw : W.heap.size < U2.heap.size := (Array.getElem?_eq_some_iff.1 HB8.out).1; clear hrd3 hnv3 hfr3)
    have HTV2 : Hid (TV (Yc X (fun b => False ∨ b = W.heap.size) n2) U2 (some (varT v)) 1 ⟨#[]⟩ (v : Nat) (.slice none 0 0)) := Lib.hid (TV.atom (varT v) rfl (wf64 (show (-9223372036854775808 : Int) ≤ 1 by omega) (show (1 : Int) ≤ 9223372036854775807 by omega)) (wf64 (show -9223372036854775808 ≤ (v : Int) by omega) (show (v : Int) ≤ 9223372036854775807 by omega)) (by show (0 : Nat) ≤ maxLen; omega))
    rw [HTS.out, List.tail_cons] at HST3
    have HF := Lib.hid (p_fin (cd := 0) HST3.out HTV2.out (.inr rfl) (show Told S (.ok (varT (varN ns x.1.text).1, r, (varN ns x.1.text).2) : RRes Tm) 0 r ns2 by rw [HV.out]; exact ⟨rfl, rfl, rfl⟩) (fun t ht => by rw [HV.out] at ht; exact ht))
    have hz := set4_blk HB8.out 1 ⟨#[]⟩ (v : Nat) (.slice none 0 0)
    change bodyPost _ _ _ _ _ (set4 U2 W.heap.size 1 ⟨#[]⟩ (v : Nat) (.slice none 0 0))
    obtain ⟨V', hV'⟩ : ∃ V', set4 U2 W.heap.size 1 ⟨#[]⟩ (v : Nat) (.slice none 0 0) = V' := ⟨_, rfl⟩
    rw [hV'] at HF hz ⊢
    obtain ⟨⟨z0, z1, z2, z3⟩, -⟩ := row4 hz
    clear hV' hz a0 a1 a2 a3 af0 af1 af2 af3
    refine bodyPost_ret (v := .tuple #[.agg #[.int .i64 1, .string ⟨#[]⟩, .int .i64 (v : Nat), .slice none 0 0], .int .i64 (0 : Nat)]) (by simp [results, Tryz.results96, go_sem, z0, z1, z2, z3]) rfl ?_
    exact HF.out
  have q2 : ((x.1.kind : Int) == 2) = false := by rw [beq_eq_false_iff_ne]; omega
  by_cases k1 : x.1.kind = 1
  · have q1 : ((x.1.kind : Int) == 1) = true := by rw [beq_iff_eq]; omega
    obtain ⟨r, htr⟩ : ∃ r, ts = x :: r := by
      have h0 := tkAt_ne (z := z) (ts := ts) (by rw [HX.out]; omega)
      rw [HX.out] at h0
      exact h0
    have HTS := Lib.hid htr
    have hlen1 : 1 ≤ ts.length := by rw [htr]; simp
    clear htr
    have HPS := Lib.hid (pass1_any U rb z ts ns nv HST.out.rd hlen1 hts)
    have hnm : (nmT x).size ≤ maxLen := by
      show x.1.text.toArray.size ≤ maxLen
      have := HSM.out.2.1
      simp only [maxLen, List.size_toArray]
      omega
    cases ho : x.1.opn with
    | true =>
      have hRe : R = cmpE S (f - 1) deep (nmT x) r.tail ns := by
        rw [← HR.out, HTS.out]
        unfold rdSim
        dsimp only
        rw [if_neg k3, if_neg k2, if_pos k1, if_pos ho]
      have hop := (HTS.out ▸ HIN.out.good : Good S (x :: r)).head.opn k1 ho
      have hrl : 1 ≤ r.length := by
        cases r with
        | nil => cases hop
        | cons y q => simp
      have hrl2 : r.length ≤ 1000000 := by rw [HTS.out, List.length_cons] at hts; omega
      have HIN2 : Hid (PIn S z (f - 1) 4 r.tail ns) := Lib.hid (by
        have h0 := HIN.out
        rw [HTS.out] at h0
        have h1 := h0.room
        simp only [List.length_cons] at h1
        exact (h0.rest (f' := f) (k' := 6) (by omega)).see hop (by omega))
      have HO := Lib.hid ho
      clear k3 k2 k1 ho hop
      go_upto_region 12 with (go_at_call 62; (with_reducible refine (HPS.out).mono ?_); rintro e U1 ⟨rfl, hrd2, hfr2⟩; have HB7 := Lib.hid ((HST.out.keep (wrt0 hfr2) (.inr rfl)).trans HB6.out); have HXB2 := Lib.hid ((hfr2.block xb (Array.getElem?_eq_some_iff.1 HXB.out).1 hxr).trans HXB.out); have HST2 := Lib.hid (HST.out.call0 hrd2 hfr2); clear hrd2 hfr2; clear x0 x1 x2 x3 x4; obtain ⟨⟨x0, x1, x2, x3, x4⟩, -⟩ := row5t HXB2.out; have hxl := (Array.getElem?_eq_some_iff.1 HXB2.out).1; (try rw [HO.out] at x4))
      rw [HTS.out, List.tail_cons] at HST2
      have HCM : Hid (Calls Tryz.prog 110 #[.pointer (some ⟨rb, 0, none⟩), .string ⟨x.1.text.toArray⟩, .int .i64 ((deep : Int) + 1)] U1 fun e W' => PTermPost (Yc X (fun b => False ∨ b = W.heap.size) nv) U1 rb z nv S R e W') := Lib.hid (by rw [hRe]; exact HIHC.out _ U1 rb z S r ns nv (nmT x) deep HIN2.out HST2.out.rd hrl hrl2 hdeep hnm)
      go_wp2_with (go_at_call 110; (with_reducible refine (HCM.out).mono ?_); rintro e U2 ⟨k, nm, n, g, m, c, cd, n2, rfl, hend, htv⟩; obtain ⟨ts2, ns2, hrd3, htold⟩ := hend.rd; have HB8 := Lib.hid ((HST2.out.keep hend.fr (.inr rfl)).trans HB7.out); have HST3 := Lib.hid (HST2.out.call hrd3 hend.nvn hend.fr); have HTV3 := Lib.hid htv.back; have HTOLD : Hid (Told S R cd ts2 ns2) := Lib.hid htold; obtain ⟨⟨a0, a1, a2, a3⟩, af0, af1, af2, af3⟩ := row4 HB8.out; have htw : W.heap.size < U2.heap.size := (Array.getElem?_eq_some_iff.1 HB8.out).1; clear hend htv hrd3 htold)
      have HF := Lib.hid (p_fin (cd := cd) HST3.out HTV3.out (.inr rfl) HTOLD.out (fun t ht => ht))
      have hz := set4_blk HB8.out k nm n (.slice g m c)
      change bodyPost _ _ _ _ _ (set4 U2 W.heap.size k nm n (.slice g m c))
      obtain ⟨V', hV'⟩ : ∃ V', set4 U2 W.heap.size k nm n (.slice g m c) = V' := ⟨_, rfl⟩
      rw [hV'] at HF hz ⊢
      obtain ⟨⟨z0, z1, z2, z3⟩, -⟩ := row4 hz
      clear hV' hz a0 a1 a2 a3 af0 af1 af2 af3
      refine bodyPost_ret (v := .tuple #[.agg #[.int .i64 k, .string nm, .int .i64 n, .slice g m c], .int .i64 (cd : Nat)]) (by simp [results, Tryz.results96, go_sem, z0, z1, z2, z3]) rfl ?_
      exact HF.out
    | false =>
      have hRe : R = .ok (funT (nmT x) [], r, ns) := by
        rw [← HR.out, HTS.out]
        unfold rdSim
        dsimp only
        rw [if_neg k3, if_neg k2, if_pos k1, if_neg (by rw [ho]; simp)]
      have HO := Lib.hid ho
      subst hRe
      clear k3 k2 k1 ho
      go_upto_region 13 with (go_at_call 62; (with_reducible refine (HPS.out).mono ?_); rintro e U1 ⟨rfl, hrd2, hfr2⟩; have HB7 := Lib.hid ((HST.out.keep (wrt0 hfr2) (.inr rfl)).trans HB6.out); have HXB2 := Lib.hid ((hfr2.block xb (Array.getElem?_eq_some_iff.1 HXB.out).1 hxr).trans HXB.out); have HST2 := Lib.hid (HST.out.call0 hrd2 hfr2); clear hrd2 hfr2; clear x0 x1 x2 x3 x4; obtain ⟨⟨x0, x1, x2, x3, x4⟩, -⟩ := row5t HXB2.out; have hxl := (Array.getElem?_eq_some_iff.1 HXB2.out).1; (try rw [HO.out] at x4))
      have HFN := fun V => Lib.hid (fun_p ⟨x.1.text.toArray⟩ none 0 0 V)
      go_wp2_with (go_at_call 83; (with_reducible refine ((HFN _).out).mono ?_); rintro e U2 ⟨rfl, hb⟩; replace HST2 := Lib.hid (HST2.out.next hb); have HB8 := Lib.hid ((hb.block _ (Array.getElem?_eq_some_iff.1 HB7.out).1).trans HB7.out); obtain ⟨⟨a0, a1, a2, a3⟩, af0, af1, af2, af3⟩ := row4 HB8.out; have htw : W.heap.size < U2.heap.size := (Array.getElem?_eq_some_iff.1 HB8.out).1; clear hb)
      have HTV2 := Lib.hid (tm_atom (nmT x) hnm (Yc X (fun b => False ∨ b = W.heap.size) nv) U2)
      rw [HTS.out, List.tail_cons] at HST2
      have HF := Lib.hid (p_fin (cd := 0) HST2.out HTV2.out (.inr rfl) (show Told S (.ok (funT (nmT x) [], r, ns) : RRes Tm) 0 r ns from ⟨rfl, rfl, rfl⟩) (fun t ht => ht))
      have hz := set4_blk HB8.out 3 (nmT x) 0 (.slice none 0 0)
      change bodyPost _ _ _ _ _ (set4 U2 W.heap.size 3 (nmT x) 0 (.slice none 0 0))
      obtain ⟨V', hV'⟩ : ∃ V', set4 U2 W.heap.size 3 (nmT x) 0 (.slice none 0 0) = V' := ⟨_, rfl⟩
      rw [hV'] at HF hz ⊢
      obtain ⟨⟨z0, z1, z2, z3⟩, -⟩ := row4 hz
      clear hV' hz a0 a1 a2 a3 af0 af1 af2 af3
      refine bodyPost_ret (v := .tuple #[.agg #[.int .i64 3, .string (nmT x), .int .i64 0, .slice none 0 0], .int .i64 (0 : Nat)]) (by simp [results, Tryz.results96, go_sem, z0, z1, z2, z3]) rfl ?_
      exact HF.out
  have q1 : ((x.1.kind : Int) == 1) = false := by rw [beq_eq_false_iff_ne]; omega
  have HPM := Lib.hid (passMark_any U rb z ts ns nv 40 S HIN.out.good HIN.out.zl HST.out.rd hts)
  cases hs : seeT 40 ts with
  | true =>
    obtain ⟨r, htr⟩ : ∃ r, ts = x :: r := by
      cases ts with
      | nil => cases hs
      | cons y r => exact ⟨r, by rw [← HX.out]; rfl⟩
    have hRe : R = parE S f deep (.ok (r, ns)) := by
      rw [htr] at hs
      rw [← HR.out, htr]
      unfold rdSim
      dsimp only
      rw [if_neg k3, if_neg k2, if_neg k1, if_pos hs]
    have HPM2 : Hid (Calls Tryz.prog 111 #[.pointer (some ⟨rb, 0, none⟩), .string ⟨#[40]⟩] U fun e W' => e = .returned (.bool true) ∧ PRd (Yc X (fun b => False ∨ b = W.heap.size) nv) W' rb z r ns nv ∧ FrP (fun b => b = rb) U W') := Lib.hid (HPM.out.mono fun e W' ⟨h1, h2, h3⟩ => ⟨by rw [h1, hs], by rw [if_pos hs, htr, List.tail_cons] at h2; exact h2, h3⟩)
    have HIN2 : Hid (PIn S z f 3 r ns) := Lib.hid (by have h0 := HIN.out; rw [htr] at h0; exact h0.rest (by omega))
    clear k3 k2 k1 HPM hs
    go_upto_region 15 with (go_at_call 111; (with_reducible refine (HPM2.out).mono ?_); rintro e U1 ⟨rfl, hrd2, hfr2⟩; have HB7 := Lib.hid ((HST.out.keep (wrt0 hfr2) (.inr rfl)).trans HB6.out); have HST2 := Lib.hid (HST.out.call0 hrd2 hfr2); clear hrd2 hfr2)
    have HCM : Hid (Calls Tryz.prog 112 #[.pointer (some ⟨rb, 0, none⟩), .int .i64 ((deep : Int) + 1)] U1 fun e W' => PTermPost (Yc X (fun b => False ∨ b = W.heap.size) nv) U1 rb z nv S R e W') := Lib.hid (by rw [hRe]; exact HIHP.out _ U1 rb z S r ns nv deep HIN2.out HST2.out.rd hdeep)
    go_wp2_with (go_at_call 112; (with_reducible refine (HCM.out).mono ?_); rintro e U2 ⟨k, nm, n, g, m, c, cd, n2, rfl, hend, htv⟩; obtain ⟨ts2, ns2, hrd3, htold⟩ := hend.rd; have HB8 := Lib.hid ((HST2.out.keep hend.fr (.inr rfl)).trans HB7.out); have HST3 := Lib.hid (HST2.out.call hrd3 hend.nvn hend.fr); have HTV3 := Lib.hid htv.back; have HTOLD : Hid (Told S R cd ts2 ns2) := Lib.hid htold; obtain ⟨⟨a0, a1, a2, a3⟩, af0, af1, af2, af3⟩ := row4 HB8.out; have htw : W.heap.size < U2.heap.size := (Array.getElem?_eq_some_iff.1 HB8.out).1; clear hend htv hrd3 htold)
    have HF := Lib.hid (p_fin (cd := cd) HST3.out HTV3.out (.inr rfl) HTOLD.out (fun t ht => ht))
    have hz := set4_blk HB8.out k nm n (.slice g m c)
    change bodyPost _ _ _ _ _ (set4 U2 W.heap.size k nm n (.slice g m c))
    obtain ⟨V', hV'⟩ : ∃ V', set4 U2 W.heap.size k nm n (.slice g m c) = V' := ⟨_, rfl⟩
    rw [hV'] at HF hz ⊢
    obtain ⟨⟨z0, z1, z2, z3⟩, -⟩ := row4 hz
    clear hV' hz a0 a1 a2 a3 af0 af1 af2 af3
    refine bodyPost_ret (v := .tuple #[.agg #[.int .i64 k, .string nm, .int .i64 n, .slice g m c], .int .i64 (cd : Nat)]) (by simp [results, Tryz.results96, go_sem, z0, z1, z2, z3]) rfl ?_
    exact HF.out
  | false =>
    have HPM2 : Hid (Calls Tryz.prog 111 #[.pointer (some ⟨rb, 0, none⟩), .string ⟨#[40]⟩] U fun e W' => e = .returned (.bool false) ∧ PRd (Yc X (fun b => False ∨ b = W.heap.size) nv) W' rb z ts ns nv ∧ FrP (fun b => b = rb) U W') := Lib.hid (HPM.out.mono fun e W' ⟨h1, h2, h3⟩ => ⟨by rw [h1, hs], by rw [if_neg (by rw [hs]; simp)] at h2; exact h2, h3⟩)
    have HS1 := Lib.hid hs
    clear HPM hs
    go_upto_region 16 with (go_at_call 111; (with_reducible refine (HPM2.out).mono ?_); rintro e U1 ⟨rfl, hrd2, hfr2⟩; have HB7 := Lib.hid ((HST.out.keep (wrt0 hfr2) (.inr rfl)).trans HB6.out); have HST2 := Lib.hid (HST.out.call0 hrd2 hfr2); clear hrd2 hfr2)
    have HPM := Lib.hid (passMark_any U1 rb z ts ns nv 91 S HIN.out.good HIN.out.zl HST2.out.rd hts)
    obtain ⟨U, hUU⟩ : ∃ U, U1 = U := ⟨_, rfl⟩
    rw [hUU] at HPM HST2 HB7 ⊢
    have HST := HST2
    have HB6 := HB7
    clear hUU HST2 HB7
    cases hs : seeT 91 ts with
    | true =>
      obtain ⟨r, htr⟩ : ∃ r, ts = x :: r := by
        cases ts with
        | nil => cases hs
        | cons y r => exact ⟨r, by rw [← HX.out]; rfl⟩
      have hRe : R = lstE S f deep (.ok (r, ns)) := by
        have h1 := HS1.out
        rw [htr] at hs h1
        rw [← HR.out, htr]
        unfold rdSim
        dsimp only
        rw [if_neg k3, if_neg k2, if_neg k1, if_neg (by rw [h1]; simp), if_pos hs]
      have HPM2 : Hid (Calls Tryz.prog 111 #[.pointer (some ⟨rb, 0, none⟩), .string ⟨#[91]⟩] U fun e W' => e = .returned (.bool true) ∧ PRd (Yc X (fun b => False ∨ b = W.heap.size) nv) W' rb z r ns nv ∧ FrP (fun b => b = rb) U W') := Lib.hid (HPM.out.mono fun e W' ⟨h1, h2, h3⟩ => ⟨by rw [h1, hs], by rw [if_pos hs, htr, List.tail_cons] at h2; exact h2, h3⟩)
      have HIN2 : Hid (PIn S z f 4 r ns) := Lib.hid (by have h0 := HIN.out; rw [htr] at h0; exact h0.rest (by omega))
      clear k3 k2 k1 HPM hs
      go_upto_region 17 with (go_at_call 111; (with_reducible refine (HPM2.out).mono ?_); rintro e U1 ⟨rfl, hrd2, hfr2⟩; have HB7 := Lib.hid ((HST.out.keep (wrt0 hfr2) (.inr rfl)).trans HB6.out); have HST2 := Lib.hid (HST.out.call0 hrd2 hfr2); clear hrd2 hfr2)
      have HCM : Hid (Calls Tryz.prog 113 #[.pointer (some ⟨rb, 0, none⟩), .int .i64 ((deep : Int) + 1)] U1 fun e W' => PTermPost (Yc X (fun b => False ∨ b = W.heap.size) nv) U1 rb z nv S R e W') := Lib.hid (by rw [hRe]; exact HIHL.out _ U1 rb z S r ns nv deep HIN2.out HST2.out.rd hdeep)
      go_wp2_with (go_at_call 113; (with_reducible refine (HCM.out).mono ?_); rintro e U2 ⟨k, nm, n, g, m, c, cd, n2, rfl, hend, htv⟩; obtain ⟨ts2, ns2, hrd3, htold⟩ := hend.rd; have HB8 := Lib.hid ((HST2.out.keep hend.fr (.inr rfl)).trans HB7.out); have HST3 := Lib.hid (HST2.out.call hrd3 hend.nvn hend.fr); have HTV3 := Lib.hid htv.back; have HTOLD : Hid (Told S R cd ts2 ns2) := Lib.hid htold; obtain ⟨⟨a0, a1, a2, a3⟩, af0, af1, af2, af3⟩ := row4 HB8.out; have htw : W.heap.size < U2.heap.size := (Array.getElem?_eq_some_iff.1 HB8.out).1; clear hend htv hrd3 htold)
      have HF := Lib.hid (p_fin (cd := cd) HST3.out HTV3.out (.inr rfl) HTOLD.out (fun t ht => ht))
      have hz := set4_blk HB8.out k nm n (.slice g m c)
      change bodyPost _ _ _ _ _ (set4 U2 W.heap.size k nm n (.slice g m c))
      obtain ⟨V', hV'⟩ : ∃ V', set4 U2 W.heap.size k nm n (.slice g m c) = V' := ⟨_, rfl⟩
      rw [hV'] at HF hz ⊢
      obtain ⟨⟨z0, z1, z2, z3⟩, -⟩ := row4 hz
      clear hV' hz a0 a1 a2 a3 af0 af1 af2 af3
      refine bodyPost_ret (v := .tuple #[.agg #[.int .i64 k, .string nm, .int .i64 n, .slice g m c], .int .i64 (cd : Nat)]) (by simp [results, Tryz.results96, go_sem, z0, z1, z2, z3]) rfl ?_
      exact HF.out
    | false =>
      have HPM2 : Hid (Calls Tryz.prog 111 #[.pointer (some ⟨rb, 0, none⟩), .string ⟨#[91]⟩] U fun e W' => e = .returned (.bool false) ∧ PRd (Yc X (fun b => False ∨ b = W.heap.size) nv) W' rb z ts ns nv ∧ FrP (fun b => b = rb) U W') := Lib.hid (HPM.out.mono fun e W' ⟨h1, h2, h3⟩ => ⟨by rw [h1, hs], by rw [if_neg (by rw [hs]; simp)] at h2; exact h2, h3⟩)
      have hRe : R = .error (2, placeT S ts) := by
        rw [← HR.out]
        cases ts with
        | nil => rfl
        | cons y q =>
          have hy : y = x := by rw [← HX.out]; rfl
          subst hy
          unfold rdSim
          dsimp only
          rw [if_neg k3, if_neg k2, if_neg k1, if_neg (by rw [HS1.out]; simp), if_neg (by rw [hs]; simp)]
          rfl
      subst hRe
      clear k3 k2 k1 HPM hs
      go_upto_region 18 with (go_at_call 111; (with_reducible refine (HPM2.out).mono ?_); rintro e U1 ⟨rfl, hrd2, hfr2⟩; have HB7 := Lib.hid ((HST.out.keep (wrt0 hfr2) (.inr rfl)).trans HB6.out); have HST2 := Lib.hid (HST.out.call0 hrd2 hfr2); clear hrd2 hfr2)
      obtain ⟨⟨a0, a1, a2, a3⟩, af0, af1, af2, af3⟩ := row4 HB7.out
      have htw : W.heap.size < U1.heap.size := (Array.getElem?_eq_some_iff.1 HB7.out).1
      have HTV2 : Hid (TV (Yc X (fun b => False ∨ b = W.heap.size) nv) U1 none 0 ⟨#[]⟩ 0 (.slice none 0 0)) := Lib.hid tm_none
      go_wp2_with fail
      have HF := Lib.hid (p_fin (cd := 2) HST2.out HTV2.out (.inr rfl) (show Told S (.error (2, placeT S ts) : RRes Tm) 2 ts ns from ⟨rfl, .inl rfl, rfl⟩) (fun t ht => by cases ht))
      have hz := set4_blk HB7.out 0 ⟨#[]⟩ 0 (.slice none 0 0)
      change bodyPost _ _ _ _ _ (set4 U1 W.heap.size 0 ⟨#[]⟩ 0 (.slice none 0 0))
      obtain ⟨V', hV'⟩ : ∃ V', set4 U1 W.heap.size 0 ⟨#[]⟩ 0 (.slice none 0 0) = V' := ⟨_, rfl⟩
      rw [hV'] at HF hz ⊢
      obtain ⟨⟨z0, z1, z2, z3⟩, -⟩ := row4 hz
      clear hV' hz a0 a1 a2 a3 af0 af1 af2 af3
      refine bodyPost_ret (v := .tuple #[.agg #[.int .i64 0, .string ⟨#[]⟩, .int .i64 0, .slice none 0 0], .int .i64 (2 : Nat)]) (by simp [results, Tryz.results96, go_sem, z0, z1, z2, z3]) rfl ?_
      exact HF.out
end Go.Proofs.YtkjnjahmlobjiaaGreatDoor
