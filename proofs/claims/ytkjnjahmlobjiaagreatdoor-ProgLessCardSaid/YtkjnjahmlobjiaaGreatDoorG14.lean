/-
  The program's maker: the goals of a term; Goals.
  The program's Goals.
  The document's rest: what stands behind a term.
  The document's Term when something is amiss, and its row.
  The document's name: what begins with a name.
  A list as the document's Term makes it: its box, the row of its elements.
-/
import Derived.Test.YtkjnjahmlobjiaaGreatDoorPmC
import Derived.Deep.QuietTactic
import Derived.BigQuiet
import Derived.Test.YtkjnjahmlobjiaaGreatDoorG07
import Derived.StillTailTactics
import Derived.Deep.DeepCutAuto
namespace Go.Proofs.YtkjnjahmlobjiaaGreatDoor
open Go.RowKit

set_option maxRecDepth 100000 in
set_option maxHeartbeats 32000000 in
theorem mgoals_of (f : Nat) (hf : MkLp f) : MkLp (f + 1) := by
  intro t htz w sv mx B st ins cut hit hle hk htb hst hins
  obtain ⟨hho, gt, ct, rfl, -, hmt, -⟩ := Tm.inn_iff.1 hit
  have HS := Lib.hid (MS.new hit hle hk htb)
  have HIS := Lib.hid (fun (s : ByteArray) (n : Nat) W (h : MS w t (.slice gt t.args.length ct) w.heap.size mx B st W) => pis_any t s n W _ h.it)
  have HG9 := Lib.hid (fun (W : World) (i : Nat) (hi : i < t.args.length) (h : MS w t (.slice gt t.args.length ct) w.heap.size mx B st W) => arg_in h.hi i hi)
  have HF := Lib.hid hf
  have HGO := Lib.hid (mgoal_of f hf)
  have HTZ := Lib.hid htz
  have HLT := Lib.hid hk.lt
  have HX := Lib.hid (show mkL (f + 1) t ins cut st = if st.2 ≠ 0 ∨ isB t [116, 114, 117, 101] 0 = true then ([], st)
    else if t.kind ≠ 3 then ([], (st.1, 5))
    else if isB t [44] 2 = true then
      ((mkL f (argN t 0) ins cut st).1 ++ (mkL f (argN t 1) ins cut (mkL f (argN t 0) ins cut st).2).1, (mkL f (argN t 1) ins cut (mkL f (argN t 0) ins cut st).2).2)
    else if st.1 + 1 ≤ 20 ∧ ins ≤ 9 then ([(mkG (mkL f) t ins cut (st.1 + 1, st.2)).1], (mkG (mkL f) t ins cut (st.1 + 1, st.2)).2)
    else ([], (st.1 + 1, 3)) from rfl)
  have HST := Lib.hid hst
  have hs1 := hst.1
  have hs2 := hst.2.1
  clear hit hle hk htb hst hf htz hho
  obtain ⟨mt, hmt9⟩ : ∃ m, t.args.length = m := ⟨_, rfl⟩
  rw [hmt9] at HS HIS hmt HG9
  rw [hmt9]
  have HMT := Lib.hid hmt9
  clear hmt9
  have HI0 := Lib.hid (fun W h => show Calls Tryz.prog 48 #[.agg #[.int .i64 t.kind, .string t.name, .int .i64 t.n, .slice gt mt ct], .string ⟨#[116, 114, 117, 101]⟩, .int .i64 0] W fun e w' => e = .returned (.bool (isB t [116, 114, 117, 101] 0)) ∧ Below W.heap.size W w' from HIS.out ⟨#[116, 114, 117, 101]⟩ 0 W h)
  have HI1 := Lib.hid (fun W h => show Calls Tryz.prog 48 #[.agg #[.int .i64 t.kind, .string t.name, .int .i64 t.n, .slice gt mt ct], .string ⟨#[44]⟩, .int .i64 2] W fun e w' => e = .returned (.bool (isB t [44] 2)) ∧ Below W.heap.size W w' from HIS.out ⟨#[44]⟩ 2 W h)
  clear HIS
  go_enter Tryz.func63, Tryz.ntmps63
  go_upto_region 1 with fail
  have HS0 := Lib.hid (show MS w t (.slice gt mt ct) w.heap.size mx B st (w.alloc (.cells #[.int .i64 t.kind, .string t.name, .int .i64 t.n, .slice gt mt ct] 34)) from HS.out)
  generalize w.alloc (.cells #[.int .i64 t.kind, .string t.name, .int .i64 t.n, .slice gt mt ct] 34) = u0 at HS0 ⊢
  clear HS
  have y0_0 : u0.cell? ⟨w.heap.size, 0, none⟩ = some (.int .i64 t.kind) := HS0.out.c0; have y0_1 : u0.cell? ⟨w.heap.size, 1, none⟩ = some (.string t.name) := HS0.out.c1; have y0_2 : u0.cell? ⟨w.heap.size, 2, none⟩ = some (.int .i64 t.n) := HS0.out.c2; have y0_3 : u0.cell? ⟨w.heap.size, 3, none⟩ = some (.slice gt mt ct) := HS0.out.c3; have y0_l := HS0.out.lt; have k0_0 := HS0.out.mr.cell0; have k0_1 := HS0.out.mr.cell1; have k0_f := HS0.out.mr.frozen1; have k0_l := HS0.out.mr.lt
  by_cases hst2 : st.2 = 0
  case neg =>
    have HX := Lib.hid (show mkL (f + 1) t ins cut st = ([], st) by rw [HX.out, if_pos (.inl hst2)])
    have kn : (((st.2 : Nat) : Int) != 0) = true := by simp [bne]; omega
    have kn2 : ¬ ((st.2 : Nat) : Int) = 0 := by omega
    clear hst2
    go_wp2_with fail
    go_ret
    rw [HX.out]
    exact ⟨_, rfl, GOwn.nil _ _, HS0.out.mr, HS0.out.fr⟩
  have hs3 : st.1 ≤ 20 := HST.out.2.2 hst2
  have kn : (((st.2 : Nat) : Int) != 0) = false := by rw [hst2]; rfl
  have kz : ((st.2 : Nat) : Int) = 0 := by omega
  rw [kz] at k0_1
  have HX := Lib.hid (show mkL (f + 1) t ins cut st = if isB t [116, 114, 117, 101] 0 = true then ([], st)
      else if t.kind ≠ 3 then ([], (st.1, 5))
      else if isB t [44] 2 = true then
        ((mkL f (argN t 0) ins cut st).1 ++ (mkL f (argN t 1) ins cut (mkL f (argN t 0) ins cut st).2).1, (mkL f (argN t 1) ins cut (mkL f (argN t 0) ins cut st).2).2)
      else if st.1 + 1 ≤ 20 ∧ ins ≤ 9 then ([(mkG (mkL f) t ins cut (st.1 + 1, st.2)).1], (mkG (mkL f) t ins cut (st.1 + 1, st.2)).2)
      else ([], (st.1 + 1, 3)) by
    rw [HX.out]
    by_cases hb : isB t [116, 114, 117, 101] 0 = true
    · rw [if_pos (.inr hb), if_pos hb]
    · rw [if_neg (fun h => h.elim (fun h => h hst2) hb), if_neg hb])
  have HZ2 := Lib.hid hst2
  clear hst2 kn kz
  cases h1 : isB t [116, 114, 117, 101] 0 with
  | true =>
    have HX := Lib.hid (show mkL (f + 1) t ins cut st = ([], st) by rw [HX.out, if_pos h1])
    rw [h1] at HI0
    clear h1
    go_wp2_with (go_at_call 48; (with_reducible refine (HI0.out _ HS0.out).mono ?_); rintro e u1 ⟨rfl, hb⟩; have HS1 := Lib.hid (HS0.out.quiet hb); clear hb; have y1_0 : u1.cell? ⟨w.heap.size, 0, none⟩ = some (.int .i64 t.kind) := HS1.out.c0; have y1_1 : u1.cell? ⟨w.heap.size, 1, none⟩ = some (.string t.name) := HS1.out.c1; have y1_2 : u1.cell? ⟨w.heap.size, 2, none⟩ = some (.int .i64 t.n) := HS1.out.c2; have y1_3 : u1.cell? ⟨w.heap.size, 3, none⟩ = some (.slice gt mt ct) := HS1.out.c3; have y1_l := HS1.out.lt; have k1_0 := HS1.out.mr.cell0; have k1_1 := HS1.out.mr.cell1; have k1_f := HS1.out.mr.frozen1; have k1_l := HS1.out.mr.lt)
    go_ret
    rw [HX.out]
    exact ⟨_, rfl, GOwn.nil _ _, HS1.out.mr, HS1.out.fr⟩
  | false =>
  rw [h1] at HI0
  have HX := Lib.hid (show mkL (f + 1) t ins cut st = if t.kind ≠ 3 then ([], (st.1, 5))
      else if isB t [44] 2 = true then
        ((mkL f (argN t 0) ins cut st).1 ++ (mkL f (argN t 1) ins cut (mkL f (argN t 0) ins cut st).2).1, (mkL f (argN t 1) ins cut (mkL f (argN t 0) ins cut st).2).2)
      else if st.1 + 1 ≤ 20 ∧ ins ≤ 9 then ([(mkG (mkL f) t ins cut (st.1 + 1, st.2)).1], (mkG (mkL f) t ins cut (st.1 + 1, st.2)).2)
      else ([], (st.1 + 1, 3)) by rw [HX.out, if_neg (by rw [h1]; exact Bool.false_ne_true)])
  clear h1
  have HSF := Lib.hid (fun (n : Nat) W (h : MS w t (.slice gt mt ct) w.heap.size mx B st W) => h.mv (st' := (st.1, n)) (FrP.setC W mx 1 (.int .i64 (n : Nat))) (h.mr.set1 n))
  by_cases h3 : t.kind = 3
  case neg =>
    have HX := Lib.hid (show mkL (f + 1) t ins cut st = ([], (st.1, 5)) by rw [HX.out, if_pos h3])
    have e1 : (t.kind != 3) = true := by simp [bne]; exact h3
    clear h3
    go_wp2_with (go_at_call 48; (with_reducible refine (HI0.out _ HS0.out).mono ?_); rintro e u1 ⟨rfl, hb⟩; have HS1 := Lib.hid (HS0.out.quiet hb); clear hb; have y1_0 : u1.cell? ⟨w.heap.size, 0, none⟩ = some (.int .i64 t.kind) := HS1.out.c0; have y1_1 : u1.cell? ⟨w.heap.size, 1, none⟩ = some (.string t.name) := HS1.out.c1; have y1_2 : u1.cell? ⟨w.heap.size, 2, none⟩ = some (.int .i64 t.n) := HS1.out.c2; have y1_3 : u1.cell? ⟨w.heap.size, 3, none⟩ = some (.slice gt mt ct) := HS1.out.c3; have y1_l := HS1.out.lt; have k1_0 := HS1.out.mr.cell0; have k1_1 := HS1.out.mr.cell1; have k1_f := HS1.out.mr.frozen1; have k1_l := HS1.out.mr.lt)
    have HS2 := Lib.hid (show MS w t (.slice gt mt ct) w.heap.size mx B (st.1, 5) (u1.setCell ⟨mx, 1, none⟩ (.int .i64 5)) from HSF.out 5 _ HS1.out)
    go_ret
    rw [HX.out]
    exact ⟨_, rfl, GOwn.nil _ _, HS2.out.mr, HS2.out.fr⟩
  have e1 : (t.kind != 3) = false := by rw [h3]; rfl
  have HX := Lib.hid (show mkL (f + 1) t ins cut st = if isB t [44] 2 = true then
        ((mkL f (argN t 0) ins cut st).1 ++ (mkL f (argN t 1) ins cut (mkL f (argN t 0) ins cut st).2).1, (mkL f (argN t 1) ins cut (mkL f (argN t 0) ins cut st).2).2)
      else if st.1 + 1 ≤ 20 ∧ ins ≤ 9 then ([(mkG (mkL f) t ins cut (st.1 + 1, st.2)).1], (mkG (mkL f) t ins cut (st.1 + 1, st.2)).2)
      else ([], (st.1 + 1, 3)) by rw [HX.out, if_neg (fun h => h h3)])
  clear h3
  cases h4 : isB t [44] 2 with
  | true =>
    have hl2 : t.args.length = 2 := (isB_iff.1 h4).2
    rw [h4] at HI1
    have hs4 := arg_small (t := t) (i := 0) (by omega)
    have hs5 := arg_small (t := t) (i := 1) (by omega)
    have hRA := mkL_ok f (argN t 0) ins cut st HST.out
    have hRB := mkL_ok f (argN t 1) ins cut _ hRA.1
    have HX := Lib.hid (show mkL (f + 1) t ins cut st = ((mkL f (argN t 0) ins cut st).1 ++ (mkL f (argN t 1) ins cut (mkL f (argN t 0) ins cut st).2).1, (mkL f (argN t 1) ins cut (mkL f (argN t 0) ins cut st).2).2) by rw [HX.out, if_pos h4])
    obtain ⟨ab, ao, gs0, ms0, cs0, hga, -, hab, -, -, -, -, -⟩ := HG9.out u0 0 (by have := HMT.out; omega) HS0.out
    subst hga
    have HA := Lib.hid (fun (W : World) sv9 (h : MS w t (.slice (some ⟨ab, ao, none⟩) mt ct) w.heap.size mx B st W) (a0 : Tm.inn W B (argN t 0) sv9) => HF.out (argN t 0) (by have := HTZ.out; omega) W sv9 mx B st ins cut a0 h.le h.mr h.tb HST.out hins)
    have HB := Lib.hid (fun (W : World) sv9 (h : MS w t (.slice (some ⟨ab, ao, none⟩) mt ct) w.heap.size mx B (mkL f (argN t 0) ins cut st).2 W) (a0 : Tm.inn W B (argN t 1) sv9) => HF.out (argN t 1) (by have := HTZ.out; omega) W sv9 mx B _ ins cut a0 h.le h.mr h.tb hRA.1 hins)
    have HQ := Lib.hid (fun (W : World) (h : MS w t (.slice (some ⟨ab, ao, none⟩) mt ct) w.heap.size mx B st W) => show ∃ gs ms cs, W.cell? ⟨ab, ao, none⟩ = some (.int .i64 (argN t 0).kind) ∧ W.cell? ⟨ab, ao + 1, none⟩ = some (.string (argN t 0).name) ∧ W.cell? ⟨ab, ao + 2, none⟩ = some (.int .i64 (argN t 0).n) ∧ W.cell? ⟨ab, ao + 3, none⟩ = some (.slice gs ms cs) ∧ Tm.inn W B (argN t 0) (.slice gs ms cs) ∧ ab < W.heap.size by
      obtain ⟨ab', ao', gs', ms', cs', hga', -, hab', q0', q1', q2', q3', hin0'⟩ := HG9.out W 0 (by have := HMT.out; omega) h
      injection hga' with hga'
      injection hga' with hg1 hg2 _
      subst hg1 hg2
      simp only [Nat.zero_mul, Nat.add_zero] at q0' q1' q2' q3'
      exact ⟨gs', ms', cs', q0', q1', q2', q3', hin0', Nat.lt_of_lt_of_le hab' h.B_le⟩)
    have HQ1 := Lib.hid (fun (W : World) (st' : MSt) (h : MS w t (.slice (some ⟨ab, ao, none⟩) mt ct) w.heap.size mx B st' W) => show ∃ gs ms cs, W.cell? ⟨ab, ao + 4, none⟩ = some (.int .i64 (argN t 1).kind) ∧ W.cell? ⟨ab, ao + 4 + 1, none⟩ = some (.string (argN t 1).name) ∧ W.cell? ⟨ab, ao + 4 + 2, none⟩ = some (.int .i64 (argN t 1).n) ∧ W.cell? ⟨ab, ao + 4 + 3, none⟩ = some (.slice gs ms cs) ∧ Tm.inn W B (argN t 1) (.slice gs ms cs) ∧ ab < W.heap.size by
      obtain ⟨ab', ao', gs', ms', cs', hga', -, hab', q0', q1', q2', q3', hin0'⟩ := arg_in h.hi 1 (by omega)
      injection hga' with hga'
      injection hga' with hg1 hg2 _
      subst hg1 hg2
      simp only [Nat.one_mul] at q0' q1' q2' q3'
      exact ⟨gs', ms', cs', q0', q1', q2', q3', hin0', Nat.lt_of_lt_of_le hab' h.B_le⟩)
    have hm2 : mt = 2 := by rw [← hl2]; exact HMT.out.symm
    have HLEN := Lib.hid (show (mkL f (argN t 0) ins cut st).1.length + (mkL f (argN t 1) ins cut (mkL f (argN t 0) ins cut st).2).1.length ≤ 1000000 by have := hRB.1.1; omega)
    generalize mkL f (argN t 0) ins cut st = RA at HX HA HB HLEN
    generalize mkL f (argN t 1) ins cut RA.2 = RB at HX HB HLEN
    have jm0 : (0 : Int) < (mt : Int) := by omega
    have jm1 : (1 : Int) < (mt : Int) := by omega
    clear hm2 hl2 h4 hs4 hs5 hRA hRB hab
    go_wp2_with (first | (go_at_call 48; (with_reducible refine (HI0.out _ HS0.out).mono ?_); rintro e u1 ⟨rfl, hb⟩; have HS1 := Lib.hid (HS0.out.quiet hb); clear hb; have y1_0 : u1.cell? ⟨w.heap.size, 0, none⟩ = some (.int .i64 t.kind) := HS1.out.c0; have y1_1 : u1.cell? ⟨w.heap.size, 1, none⟩ = some (.string t.name) := HS1.out.c1; have y1_2 : u1.cell? ⟨w.heap.size, 2, none⟩ = some (.int .i64 t.n) := HS1.out.c2; have y1_3 : u1.cell? ⟨w.heap.size, 3, none⟩ = some (.slice (some ⟨ab, ao, none⟩) mt ct) := HS1.out.c3; have y1_l := HS1.out.lt; have k1_0 := HS1.out.mr.cell0; have k1_1 := HS1.out.mr.cell1; have k1_f := HS1.out.mr.frozen1; have k1_l := HS1.out.mr.lt) | (go_at_call 48; (with_reducible refine (HI1.out _ HS1.out).mono ?_); rintro e u2 ⟨rfl, hb⟩; have HS2 := Lib.hid (HS1.out.quiet hb); clear hb; have y2_0 : u2.cell? ⟨w.heap.size, 0, none⟩ = some (.int .i64 t.kind) := HS2.out.c0; have y2_1 : u2.cell? ⟨w.heap.size, 1, none⟩ = some (.string t.name) := HS2.out.c1; have y2_2 : u2.cell? ⟨w.heap.size, 2, none⟩ = some (.int .i64 t.n) := HS2.out.c2; have y2_3 : u2.cell? ⟨w.heap.size, 3, none⟩ = some (.slice (some ⟨ab, ao, none⟩) mt ct) := HS2.out.c3; have y2_l := HS2.out.lt; have k2_0 := HS2.out.mr.cell0; have k2_1 := HS2.out.mr.cell1; have k2_f := HS2.out.mr.frozen1; have k2_l := HS2.out.mr.lt; obtain ⟨gs, ms, cs, q0, q1, q2, q3, hin0, qab⟩ := HQ.out _ HS2.out; have HIN0 := Lib.hid hin0; clear hin0) | (go_at_call 63; (with_reducible refine (HA.out _ _ HS2.out HIN0.out).mono ?_); rintro e u3 ⟨va, rfl, hg1, hm1, hf1⟩; obtain ⟨g1, c1, rfl⟩ := hg1.slice; have HS3 := Lib.hid (HS2.out.mv hf1 hm1); have HG1 := Lib.hid hg1; have hz23 := hf1.size; clear hg1 hm1 hf1 q0 q1 q2 q3; have y3_0 : u3.cell? ⟨w.heap.size, 0, none⟩ = some (.int .i64 t.kind) := HS3.out.c0; have y3_1 : u3.cell? ⟨w.heap.size, 1, none⟩ = some (.string t.name) := HS3.out.c1; have y3_2 : u3.cell? ⟨w.heap.size, 2, none⟩ = some (.int .i64 t.n) := HS3.out.c2; have y3_3 : u3.cell? ⟨w.heap.size, 3, none⟩ = some (.slice (some ⟨ab, ao, none⟩) mt ct) := HS3.out.c3; have y3_l := HS3.out.lt; have k3_0 := HS3.out.mr.cell0; have k3_1 := HS3.out.mr.cell1; have k3_f := HS3.out.mr.frozen1; have k3_l := HS3.out.mr.lt; obtain ⟨gs1, ms1, cs1, p0, p1, p2, p3, hin1, pab⟩ := HQ1.out _ _ HS3.out; have HIN1 := Lib.hid hin1; clear hin1) | (go_at_call 63; (with_reducible refine (HB.out _ _ HS3.out HIN1.out).mono ?_); rintro e u4 ⟨vb, rfl, hg2, hm2, hf2⟩; obtain ⟨g2, c2, rfl⟩ := hg2.slice; have HS4 := Lib.hid (HS3.out.mv hf2 hm2); have HG2 := Lib.hid hg2; have HF2 := Lib.hid hf2; clear hg2 hm2 hf2) | (at_builtin; refine wpList_append_goals rfl _ _ rfl (u1 := u3) (lo := w.heap.size) (l1 := RA.1) (l2 := RB.1) RB.1.length rfl rfl rfl (HG1.out.low (by omega)) HF2.out.size (fun b h1 h2 => HF2.out.block b h2 (by have := HLT.out; omega)) HG2.out (by omega) HLEN.out ?_; intro v5 u5 hgo hgr hlo5; have HGO5 := Lib.hid hgo; have HGR := Lib.hid hgr; have HLO := Lib.hid hlo5; clear hgo hgr hlo5))
    go_ret
    rw [HX.out]
    have hlt := HLT.out
    exact ⟨_, rfl, HGO5.out, ⟨(HGR.out.block _ HS4.out.mr.lt (fun e => by have := HLO.out mx e.symm; omega)).trans HS4.out.mr.bk⟩, HS4.out.fr.trans (FrP.of_grown HGR.out) (fun _ _ e => e) (fun x h1 e => by have := HLO.out x e.symm; omega)⟩
  | false =>
  rw [h4] at HI1
  have HX := Lib.hid (show mkL (f + 1) t ins cut st = if st.1 + 1 ≤ 20 ∧ ins ≤ 9 then ([(mkG (mkL f) t ins cut (st.1 + 1, st.2)).1], (mkG (mkL f) t ins cut (st.1 + 1, st.2)).2)
      else ([], (st.1 + 1, 3)) by rw [HX.out, if_neg (by rw [h4]; exact Bool.false_ne_true)])
  clear h4
  have HBG := Lib.hid (fun W (h : MS w t (.slice gt mt ct) w.heap.size mx B st W) => pbegin_any W mx (st.1 : Nat) (ins : Nat) h.mr.cell0 h.mr.frozen0 (by omega) (by omega))
  have HSB := Lib.hid (fun W (h : MS w t (.slice gt mt ct) w.heap.size mx B st W) => show MS w t (.slice gt mt ct) w.heap.size mx B (st.1 + 1, st.2) (W.setCell ⟨mx, 0, none⟩ (.int .i64 ((st.1 : Nat) + 1))) from h.mv (FrP.setC W mx 0 (.int .i64 ((st.1 + 1 : Nat)))) (h.mr.set0 (st.1 + 1)))
  by_cases h5 : st.1 + 1 ≤ 20 ∧ ins ≤ 9
  case neg =>
    have HX := Lib.hid (show mkL (f + 1) t ins cut st = ([], (st.1 + 1, 3)) by rw [HX.out, if_neg h5])
    have hfl : (decide (((st.1 : Nat) : Int) + 1 ≤ 20) && decide (((ins : Nat) : Int) ≤ 9)) = false := by
      rw [Bool.eq_false_iff]
      intro h
      rw [Bool.and_eq_true, decide_eq_true_eq, decide_eq_true_eq] at h
      exact h5 (by omega)
    rw [hfl] at HBG
    have HSF3 := Lib.hid (fun W (h : MS w t (.slice gt mt ct) w.heap.size mx B (st.1 + 1, st.2) W) => show MS w t (.slice gt mt ct) w.heap.size mx B (st.1 + 1, 3) (W.setCell ⟨mx, 1, none⟩ (.int .i64 3)) from h.mv (FrP.setC W mx 1 (.int .i64 ((3 : Nat)))) (h.mr.set1 3))
    clear h5 hfl
    go_wp2_with (first | (go_at_call 48; (with_reducible refine (HI0.out _ HS0.out).mono ?_); rintro e u1 ⟨rfl, hb⟩; have HS1 := Lib.hid (HS0.out.quiet hb); clear hb; have y1_0 : u1.cell? ⟨w.heap.size, 0, none⟩ = some (.int .i64 t.kind) := HS1.out.c0; have y1_1 : u1.cell? ⟨w.heap.size, 1, none⟩ = some (.string t.name) := HS1.out.c1; have y1_2 : u1.cell? ⟨w.heap.size, 2, none⟩ = some (.int .i64 t.n) := HS1.out.c2; have y1_3 : u1.cell? ⟨w.heap.size, 3, none⟩ = some (.slice gt mt ct) := HS1.out.c3; have y1_l := HS1.out.lt; have k1_0 := HS1.out.mr.cell0; have k1_1 := HS1.out.mr.cell1; have k1_f := HS1.out.mr.frozen1; have k1_l := HS1.out.mr.lt) | (go_at_call 48; (with_reducible refine (HI1.out _ HS1.out).mono ?_); rintro e u2 ⟨rfl, hb⟩; have HS2 := Lib.hid (HS1.out.quiet hb); clear hb; have y2_0 : u2.cell? ⟨w.heap.size, 0, none⟩ = some (.int .i64 t.kind) := HS2.out.c0; have y2_1 : u2.cell? ⟨w.heap.size, 1, none⟩ = some (.string t.name) := HS2.out.c1; have y2_2 : u2.cell? ⟨w.heap.size, 2, none⟩ = some (.int .i64 t.n) := HS2.out.c2; have y2_3 : u2.cell? ⟨w.heap.size, 3, none⟩ = some (.slice gt mt ct) := HS2.out.c3; have y2_l := HS2.out.lt; have k2_0 := HS2.out.mr.cell0; have k2_1 := HS2.out.mr.cell1; have k2_f := HS2.out.mr.frozen1; have k2_l := HS2.out.mr.lt) | (go_at_call 37; (with_reducible refine (HBG.out _ HS2.out).mono ?_); rintro e u3 ⟨rfl, hu3⟩; have HS3 := Lib.hid (show MS w t (.slice gt mt ct) w.heap.size mx B (st.1 + 1, st.2) u3 by rw [hu3]; exact HSB.out _ HS2.out); clear hu3; have y3_0 : u3.cell? ⟨w.heap.size, 0, none⟩ = some (.int .i64 t.kind) := HS3.out.c0; have y3_1 : u3.cell? ⟨w.heap.size, 1, none⟩ = some (.string t.name) := HS3.out.c1; have y3_2 : u3.cell? ⟨w.heap.size, 2, none⟩ = some (.int .i64 t.n) := HS3.out.c2; have y3_3 : u3.cell? ⟨w.heap.size, 3, none⟩ = some (.slice gt mt ct) := HS3.out.c3; have y3_l := HS3.out.lt; have k3_0 := HS3.out.mr.cell0; have k3_1 := HS3.out.mr.cell1; have k3_f := HS3.out.mr.frozen1; have k3_l := HS3.out.mr.lt))
    have HS4 := Lib.hid (HSF3.out _ HS3.out)
    go_ret
    rw [HX.out]
    exact ⟨_, rfl, GOwn.nil _ _, HS4.out.mr, HS4.out.fr⟩
  have HX := Lib.hid (show mkL (f + 1) t ins cut st = ([(mkG (mkL f) t ins cut (st.1 + 1, st.2)).1], (mkG (mkL f) t ins cut (st.1 + 1, st.2)).2) by rw [HX.out, if_pos h5])
  have htr : (decide (((st.1 : Nat) : Int) + 1 ≤ 20) && decide (((ins : Nat) : Int) ≤ 9)) = true := by
    rw [Bool.and_eq_true, decide_eq_true_eq, decide_eq_true_eq]
    omega
  rw [htr] at HBG
  have HGC := Lib.hid (fun (W : World) (h : MS w t (.slice gt mt ct) w.heap.size mx B (st.1 + 1, st.2) W) => HGO.out t HTZ.out W _ mx B (st.1 + 1, st.2) ins cut h.hi h.le h.mr h.tb ⟨by show st.1 + 1 ≤ 21; omega, hs2, fun _ => h5.1⟩ h5.2)
  generalize mkG (mkL f) t ins cut (st.1 + 1, st.2) = X at HGC HX
  clear h5 htr
  go_wp2_with (first | (go_at_call 48; (with_reducible refine (HI0.out _ HS0.out).mono ?_); rintro e u1 ⟨rfl, hb⟩; have HS1 := Lib.hid (HS0.out.quiet hb); clear hb; have y1_0 : u1.cell? ⟨w.heap.size, 0, none⟩ = some (.int .i64 t.kind) := HS1.out.c0; have y1_1 : u1.cell? ⟨w.heap.size, 1, none⟩ = some (.string t.name) := HS1.out.c1; have y1_2 : u1.cell? ⟨w.heap.size, 2, none⟩ = some (.int .i64 t.n) := HS1.out.c2; have y1_3 : u1.cell? ⟨w.heap.size, 3, none⟩ = some (.slice gt mt ct) := HS1.out.c3; have y1_l := HS1.out.lt; have k1_0 := HS1.out.mr.cell0; have k1_1 := HS1.out.mr.cell1; have k1_f := HS1.out.mr.frozen1; have k1_l := HS1.out.mr.lt) | (go_at_call 48; (with_reducible refine (HI1.out _ HS1.out).mono ?_); rintro e u2 ⟨rfl, hb⟩; have HS2 := Lib.hid (HS1.out.quiet hb); clear hb; have y2_0 : u2.cell? ⟨w.heap.size, 0, none⟩ = some (.int .i64 t.kind) := HS2.out.c0; have y2_1 : u2.cell? ⟨w.heap.size, 1, none⟩ = some (.string t.name) := HS2.out.c1; have y2_2 : u2.cell? ⟨w.heap.size, 2, none⟩ = some (.int .i64 t.n) := HS2.out.c2; have y2_3 : u2.cell? ⟨w.heap.size, 3, none⟩ = some (.slice gt mt ct) := HS2.out.c3; have y2_l := HS2.out.lt; have k2_0 := HS2.out.mr.cell0; have k2_1 := HS2.out.mr.cell1; have k2_f := HS2.out.mr.frozen1; have k2_l := HS2.out.mr.lt) | (go_at_call 37; (with_reducible refine (HBG.out _ HS2.out).mono ?_); rintro e u3 ⟨rfl, hu3⟩; have HS3 := Lib.hid (show MS w t (.slice gt mt ct) w.heap.size mx B (st.1 + 1, st.2) u3 by rw [hu3]; exact HSB.out _ HS2.out); clear hu3; have y3_0 : u3.cell? ⟨w.heap.size, 0, none⟩ = some (.int .i64 t.kind) := HS3.out.c0; have y3_1 : u3.cell? ⟨w.heap.size, 1, none⟩ = some (.string t.name) := HS3.out.c1; have y3_2 : u3.cell? ⟨w.heap.size, 2, none⟩ = some (.int .i64 t.n) := HS3.out.c2; have y3_3 : u3.cell? ⟨w.heap.size, 3, none⟩ = some (.slice gt mt ct) := HS3.out.c3; have y3_l := HS3.out.lt; have k3_0 := HS3.out.mr.cell0; have k3_1 := HS3.out.mr.cell1; have k3_f := HS3.out.mr.frozen1; have k3_l := HS3.out.mr.lt) | (go_at_call 84; (with_reducible refine (HGC.out _ HS3.out).mono ?_); rintro e u4 ⟨s4, a4, b4, c4, rfl, hin4, hm4, hf4⟩; have HS4 := Lib.hid (HS3.out.mv hf4 hm4); have HI4 := Lib.hid hin4; have hz4 := hf4.size; obtain ⟨-, hs4, ⟨ga4, ca4, rfl, -⟩, ⟨gb4, cb4, rfl, -⟩, ⟨gc4, cc4, rfl, -⟩⟩ := Gl.innP_iff.1 hin4; obtain ⟨-, gs4, ct4, rfl, -⟩ := Tm.innP_iff.1 hs4; clear hs4 hin4 hm4 hf4))
  have HGO1 := Lib.hid (GOwn.one (W := u4) (lo := w.heap.size) HS4.out.fr.size (Gl.innP_same (ok' := fun b => w.heap.size ≤ b ∧ b < u4.heap.size) (fun b hb => ⟨by have h9 : u3.heap.size ≤ b := hb.1; omega, hb.2⟩) (fun _ _ _ _ h => h) _ _ _ _ _ HI4.out))
  have HB5 := Lib.hid ((Below.refl u4.heap.size u4).alloc (Nat.le_refl _) (.cells #[.int .i64 X.1.kind, .int .i64 X.1.t.kind, .string X.1.t.name, .int .i64 X.1.t.n, .slice gs4 X.1.t.args.length ct4, .slice ga4 X.1.a.length ca4, .slice gb4 X.1.b.length cb4, .slice gc4 X.1.c.length cc4] 49))
  go_ret
  rw [HX.out]
  exact ⟨_, rfl, HGO1.out, HS4.out.mr.next HB5.out, (HS4.out.quiet HB5.out).fr⟩
theorem mgoals_any : ∀ f, MkLp f
  | 0 => fun t ht => absurd ht (by have := Tm.size_pos t; omega)
  | f + 1 => mgoals_of f (mgoals_any f)
end Go.Proofs.YtkjnjahmlobjiaaGreatDoor

namespace Go.Proofs.YtkjnjahmlobjiaaGreatDoor
open Go.RowKit

def GoalsPost (w : World) (t : Tm) (e : Ending) (w' : World) : Prop :=
  Below w.heap.size w w' ∧ ∃ v c, e = .returned (.tuple #[v, .int .i64 (c : Nat)]) ∧
    (match goalsE t with
      | .error q => c = q ∧ q ≠ 0 ∧ v = .slice none 0 0
      | .ok l => c = 0 ∧ GOwn w' w.heap.size l v)
set_option maxRecDepth 100000 in
set_option maxHeartbeats 16000000 in
theorem pgoals_any (t : Tm) (w : World) (sv : Value) (hin : Tm.inn w w.heap.size t sv) (ht : Tabs w) (hsz : t.size ≤ 1000000) :
    Calls Tryz.prog 49 #[.agg #[.int .i64 t.kind, .string t.name, .int .i64 t.n, sv]] w fun e w' => GoalsPost w t e w' := by
  obtain ⟨_, gt, ct, rfl, hc, hl, _⟩ := Tm.inn_iff.1 hin
  have HX := Lib.hid (show goalsE t = if t.right = false then .error 1
    else if (mkL t.size t 0 true (0, 0)).2.2 = 0 then .ok (mkL t.size t 0 true (0, 0)).1
    else .error (mkL t.size t 0 true (0, 0)).2.2 from rfl)
  have HD := Lib.hid (DB.new hin)
  have HB1 := Lib.hid ((Below.refl w.heap.size w).alloc (Nat.le_refl _) (.cells #[.int .i64 t.kind, .string t.name, .int .i64 t.n, .slice gt t.args.length ct] 34))
  have HT := Lib.hid ht
  have HIN := Lib.hid hin
  have HR := Lib.hid (fun W (h : Tm.inn W W.heap.size t (.slice gt t.args.length ct)) => tright_any t W _ h hsz)
  have hok := mkL_ok t.size t 0 true (0, 0) ⟨by simp, by simp, by simp⟩
  have HOK := Lib.hid hok.1
  have HG := Lib.hid (fun W mx B h1 h2 h3 h4 => mgoals_any t.size t (Nat.le_refl _) W (.slice gt t.args.length ct) mx B (0, 0) 0 true h1 h2 h3 h4 ⟨by simp, by simp, by simp⟩ (by omega))
  rw [show ((0 : Nat) : Int) = 0 from rfl] at HG
  clear hin ht hok
  obtain ⟨mt, hmt⟩ : ∃ m, t.args.length = m := ⟨_, rfl⟩
  rw [hmt] at hc hl HD HB1 HIN HR HG ⊢
  clear hmt
  generalize mkL t.size t 0 true (0, 0) = R at HX HOK HG
  go_enter Tryz.func49, Tryz.ntmps49
  go_upto_region 1 with fail
  have HD0 := Lib.hid (show DB w t (.slice gt mt ct) w.heap.size (w.alloc (.cells #[.int .i64 t.kind, .string t.name, .int .i64 t.n, .slice gt mt ct] 34)) from HD.out)
  have HB0 := Lib.hid (show Below w.heap.size w (w.alloc (.cells #[.int .i64 t.kind, .string t.name, .int .i64 t.n, .slice gt mt ct] 34)) from HB1.out)
  generalize w.alloc (.cells #[.int .i64 t.kind, .string t.name, .int .i64 t.n, .slice gt mt ct] 34) = u0 at HD0 HB0 ⊢
  clear HD HB1
  have x0 : u0.cell? ⟨w.heap.size, 0, none⟩ = some (.int .i64 t.kind) := HD0.out.c0
  have x1 : u0.cell? ⟨w.heap.size, 1, none⟩ = some (.string t.name) := HD0.out.c1
  have x2 : u0.cell? ⟨w.heap.size, 2, none⟩ = some (.int .i64 t.n) := HD0.out.c2
  have x3 : u0.cell? ⟨w.heap.size, 3, none⟩ = some (.slice gt mt ct) := HD0.out.c3
  cases hr : t.right with
  | false =>
    rw [hr] at HR
    have HX := Lib.hid (show goalsE t = .error 1 by rw [HX.out, if_pos hr])
    clear hr
    go_wp2_with (go_at_call 35; (with_reducible refine (HR.out _ HD0.out.hi).mono ?_); rintro e u1 ⟨rfl, hb⟩; have HD1 := Lib.hid (HD0.out.next hb); clear hb)
    refine bodyPost_ret (v := .tuple #[.slice none 0 0, .int .i64 (1 : Nat)]) (by simp [results, Tryz.results49, go_sem]) rfl ?_
    exact ⟨HD1.out.low, _, 1, rfl, by rw [HX.out]; exact ⟨rfl, by omega, rfl⟩⟩
  | true =>
  rw [hr] at HR
  have HX := Lib.hid (show goalsE t = if R.2.2 = 0 then .ok R.1 else .error R.2.2 by rw [HX.out, if_neg (by rw [hr]; exact Bool.noConfusion)])
  clear hr
  go_upto_region 4 with (go_at_call 35; (with_reducible refine (HR.out _ HD0.out.hi).mono ?_); rintro e u1 ⟨rfl, hb⟩; have HD1 := Lib.hid (HD0.out.next hb); clear hb x0 x1 x2 x3)
  obtain ⟨u2, hu2⟩ : ∃ u2, u1.alloc (.cells #[.int .i64 0, .int .i64 0] 129) = u2 := ⟨_, rfl⟩
  have hb2 : Below u1.heap.size u1 u2 := hu2 ▸ (Below.refl _ u1).alloc (Nat.le_refl _) _
  have hn2 : u2.heap[u1.heap.size]? = some (.cells #[.int .i64 0, .int .i64 0] 129 (0, 0)) := hu2 ▸ heap_alloc_new u1 _
  rw [hu2]
  have HD2 := Lib.hid (HD1.out.next hb2)
  have HM2 := Lib.hid (show Mkr u2 u1.heap.size (0, 0) from ⟨hn2⟩)
  have HI2 := Lib.hid (Tm.inn_below HIN.out HD2.out.low (Nat.le_refl _))
  have HTL := Lib.hid ((TabsLo.of HT.out (Nat.le_refl w.heap.size)).mv (FrP.of_below (show Below w.heap.size w u2 from HD2.out.low)) (fun _ e => e.elim))
  have hls := HD1.out.low.size
  have HGC := Lib.hid (HG.out u2 u1.heap.size w.heap.size HI2.out hls HM2.out HTL.out)
  clear hu2 hb2 hn2
  have x0 : u2.cell? ⟨w.heap.size, 0, none⟩ = some (.int .i64 t.kind) := HD2.out.c0
  have x1 : u2.cell? ⟨w.heap.size, 1, none⟩ = some (.string t.name) := HD2.out.c1
  have x2 : u2.cell? ⟨w.heap.size, 2, none⟩ = some (.int .i64 t.n) := HD2.out.c2
  have x3 : u2.cell? ⟨w.heap.size, 3, none⟩ = some (.slice gt mt ct) := HD2.out.c3
  have xl := HD2.out.lt
  go_upto_region 5 with (go_at_call 63; (with_reducible refine (HGC.out).mono ?_); rintro e u3 ⟨v3, rfl, hg3, hm3, hf3⟩; have HG3 := Lib.hid hg3; have HM3 := Lib.hid hm3; have HF3 := Lib.hid hf3; clear hg3 hm3 hf3)
  clear x0 x1 x2 x3
  have HL3 := Lib.hid (show Below w.heap.size w u3 from HD2.out.low.trans ((HF3.out.mono (fun x _ e => by show w.heap.size ≤ x; omega)).to_below HD2.out.low.size))
  have m1 : u3.cell? ⟨u1.heap.size, 1, none⟩ = some (.int .i64 (R.2.2 : Nat)) := HM3.out.cell1
  have ml := HM3.out.lt
  by_cases h0 : R.2.2 = 0
  · have HX := Lib.hid (show goalsE t = .ok R.1 by rw [HX.out, if_pos h0])
    have kz : ((R.2.2 : Nat) : Int) = 0 := by omega
    rw [kz] at m1
    clear h0 kz
    obtain ⟨g3, c3, rfl⟩ := HG3.out.slice
    go_wp2_with fail
    refine bodyPost_ret (v := .tuple #[.slice g3 R.1.length c3, .int .i64 (0 : Nat)]) (by simp [results, Tryz.results49, go_sem]) rfl ?_
    exact ⟨HL3.out, _, 0, rfl, by rw [HX.out]; exact ⟨rfl, HG3.out.low HD2.out.low.size⟩⟩
  · have HX := Lib.hid (show goalsE t = .error R.2.2 by rw [HX.out, if_neg h0])
    have kn : (((R.2.2 : Nat) : Int) != 0) = true := by simp [bne]; omega
    have H0 := Lib.hid h0
    clear h0
    go_upto_region 6 with fail
    go_quiet (fail)
    go_wp2_with fail
    refine bodyPost_ret (v := .tuple #[.slice none 0 0, .int .i64 (R.2.2 : Nat)]) (by simp [results, Tryz.results49, go_sem]) rfl ?_
    exact ⟨⟨HL3.out.os, HL3.out.tape, HL3.out.output, HL3.out.size, HL3.out.block⟩, _, R.2.2, rfl, by rw [HX.out]; exact ⟨rfl, H0.out, rfl⟩⟩
end Go.Proofs.YtkjnjahmlobjiaaGreatDoor

namespace Go.Proofs.YtkjnjahmlobjiaaGreatDoor
open Go.RowKit

theorem TV.ext {X X' : Nat → Prop} {W W' : World} {u : Option Tm} {k : Int} {nm : ByteArray} {n : Int} {sv : Value} (h : TV X W u k nm n sv) (hb : Below W.heap.size W W') (hX : ∀ b, X' b → X b ∨ W.heap.size ≤ b) : TV X' W' u k nm n sv := by
  refine ⟨h.1, h.2.1, h.2.2.1, fun t ht => ?_⟩
  obtain ⟨h1, h2, h3, h4⟩ := h.2.2.2 t ht
  exact ⟨h1, h2, h3, Tm.innP_same (fun b hb' => ⟨fun hx => by rcases hX b hx with h | h; exact hb'.1 h; have := hb'.2; omega, Nat.lt_of_lt_of_le hb'.2 hb.size⟩) (fun b o v hb' hv => (hb.cell (p := ⟨b, o, none⟩) hb'.2).trans hv) t sv h4⟩
theorem TV.less {X X' : Nat → Prop} {W : World} {u : Option Tm} {k : Int} {nm : ByteArray} {n : Int} {sv : Value} (h : TV X' W u k nm n sv) (hX : ∀ b, X b → X' b) : TV X W u k nm n sv := by
  refine ⟨h.1, h.2.1, h.2.2.1, fun t ht => ?_⟩
  obtain ⟨h1, h2, h3, h4⟩ := h.2.2.2 t ht
  exact ⟨h1, h2, h3, Tm.innP_same (fun b hb => ⟨fun hx => hb.1 (hX b hx), hb.2⟩) (fun _ _ _ _ h => h) t sv h4⟩
/-- What is left alone besides: the two boxes of the call. -/
def X2 (X : Nat → Prop) (tb : Nat) (b : Nat) : Prop := X b ∨ b = tb ∨ b = tb + 1
theorem row5t {w : World} {b : Nat} {a0 a1 a2 a3 a4 : Value} {t : TypeId} (h : w.heap[b]? = some (Obj.cells #[a0, a1, a2, a3, a4] t (0, 0))) :
    (w.cell? ⟨b, 0, none⟩ = some a0 ∧ w.cell? ⟨b, 1, none⟩ = some a1 ∧ w.cell? ⟨b, 2, none⟩ = some a2 ∧ w.cell? ⟨b, 3, none⟩ = some a3 ∧ w.cell? ⟨b, 4, none⟩ = some a4) ∧
    (w.frozen? ⟨b, 0, none⟩ = false ∧ w.frozen? ⟨b, 1, none⟩ = false ∧ w.frozen? ⟨b, 2, none⟩ = false ∧ w.frozen? ⟨b, 3, none⟩ = false ∧ w.frozen? ⟨b, 4, none⟩ = false) := by
  simp [World.cell?, World.frozen?, h]
def set4 (W : World) (b : Nat) (k : Int) (nm : ByteArray) (n : Int) (sv : Value) : World := (((W.setCell ⟨b, 0, none⟩ (.int .i64 k)).setCell ⟨b, 1, none⟩ (.string nm)).setCell ⟨b, 2, none⟩ (.int .i64 n)).setCell ⟨b, 3, none⟩ sv
theorem set4_grown (W : World) (b : Nat) (k : Int) (nm : ByteArray) (n : Int) (sv : Value) : W.grownBy (set4 W b k nm n sv) (some b) :=
  grown_trans (grown_trans (grown_trans (grown_set W b 0 _) (grown_set _ b 1 _) (fun _ e => .inl e)) (grown_set _ b 2 _) (fun _ e => .inl e)) (grown_set _ b 3 _) (fun _ e => .inl e)
theorem set4_blk {W : World} {b : Nat} {v0 v1 v2 v3 : Value} {t : TypeId} {fz : Nat × Nat} (h : W.heap[b]? = some (Obj.cells #[v0, v1, v2, v3] t fz)) (k : Int) (nm : ByteArray) (n : Int) (sv : Value) : (set4 W b k nm n sv).heap[b]? = some (.cells #[.int .i64 k, .string nm, .int .i64 n, sv] t fz) := set_blk (set_blk (set_blk (set_blk h)))
theorem pair_slice {W : World} {ok : Nat → Prop} {b : Nat} {t u : Tm} {sv sv' : Value} {T : TypeId} {fz : Nat × Nat} (h : W.heap[b]? = some (Obj.cells #[.int .i64 t.kind, .string t.name, .int .i64 t.n, sv, .int .i64 u.kind, .string u.name, .int .i64 u.n, sv'] T fz)) (hb : ok b) (ht : Tm.innP W ok t sv) (hu : Tm.innP W ok u sv') : Tm.sliceP W ok [t, u] (.slice (some ⟨b, 0, none⟩) 2 2) := by
  refine ⟨_, 2, rfl, by simp, by simp, .inr ⟨b, 0, rfl, hb, Tm.rowP_of_cells [t, u] [.int .i64 t.kind, .string t.name, .int .i64 t.n, sv, .int .i64 u.kind, .string u.name, .int .i64 u.n, sv'] 0 ⟨_, _, rfl, ht, _, _, rfl, hu, rfl⟩ fun j v hj => ?_⟩⟩
  simp only [World.cell?, h, Nat.zero_add]
  simpa using hj
end Go.Proofs.YtkjnjahmlobjiaaGreatDoor

namespace Go.Proofs.YtkjnjahmlobjiaaGreatDoor
open Go.RowKit

theorem Tryz.infoTmR : (Tryz.prog.info? 34).map (fun i => (i.zero, i.size, i.bytes)) = some (some (.agg #[.int .i64 0, .string ⟨#[]⟩, .int .i64 0, .slice none 0 0]), 4, 56) := by kernel_rfl
/-- A term's values, whatever they are. -/
structure Raw where
  k : Int
  nm : ByteArray
  n : Int
  g : Option Addr
  m : Nat
  c : Nat
def Raw.vs (r : Raw) : List Value := [.int .i64 r.k, .string r.nm, .int .i64 r.n, .slice r.g r.m r.c]
theorem news4r (w : World) (k : Int) (nm : ByteArray) (n : Int) (sv : Value) (T : TypeId) (b : Nat) (hb : b = w.heap.size) : ∀ j u, ([.int .i64 k, .string nm, .int .i64 n, sv] : List Value)[j]? = some u → (w.alloc (.cells #[.int .i64 k, .string nm, .int .i64 n, sv] T)).cell? ((⟨b, 0, none⟩ : Addr).add j) = some u := by
  intro j u hj
  have h := newBlk w (.cells #[.int .i64 k, .string nm, .int .i64 n, sv] T) b hb
  rw [Addr.add_lit]
  simp only [World.cell?, h, Nat.zero_add]
  simpa using hj
theorem grown_allc (w : World) (o : Obj) (r : Option Nat) : w.grownBy (w.alloc o) r :=
  have hb := (Below.refl w.heap.size w).alloc (Nat.le_refl _) o
  ⟨hb.os, hb.tape, hb.output, hb.size, fun q hq _ => hb.block q hq⟩
end Go.Proofs.YtkjnjahmlobjiaaGreatDoor

namespace Go.Proofs.YtkjnjahmlobjiaaGreatDoor
open Go.RowKit

theorem wf64 {n : Int} (h1 : -9223372036854775808 ≤ n) (h2 : n ≤ 9223372036854775807) : (Lit.int .i64 n).wf = true := by
  show (decide (IntKind.i64.min ≤ n) && decide (n ≤ IntKind.i64.max)) = true
  rw [Bool.and_eq_true, decide_eq_true_eq, decide_eq_true_eq]
  exact ⟨h1, h2⟩
theorem TV.fn {X : Nat → Prop} {W : World} {u : Option Tm} {nm : ByteArray} {g : Option Addr} {m c : Nat} (hs : nm.size ≤ maxLen) (h : ∀ t, u = some t → ∃ l, t = funT nm l ∧ Tm.sliceP W (okN X W) l (.slice g m c)) : TV X W u 3 nm 0 (.slice g m c) := by
  refine ⟨by decide, by decide, ⟨_, _, _, rfl⟩, fun t ht => ?_⟩
  obtain ⟨l, rfl, hl⟩ := h t ht
  refine ⟨rfl, rfl, rfl, ?_⟩
  rw [funT, Tm.innP_mk]
  exact ⟨⟨by decide, hs, by decide⟩, hl⟩
def prefE (x : Tk × Nat) (q : Nat) : RRes Tm → RRes (Tm × Nat)
  | .error e => .error e
  | .ok (u, r, ns) => .ok ((funT (nmT x) [u], q), r, ns)
theorem prefE_val (x : Tk × Nat) (q : Nat) (r : RRes Tm) : valOf (prefE x q r) = (valOf r).map (fun u => (funT (nmT x) [u], q)) := by cases r <;> rfl
theorem one_slice {W : World} {ok : Nat → Prop} {b : Nat} {t : Tm} {sv : Value} {T : TypeId} {fz : Nat × Nat} (h : W.heap[b]? = some (Obj.cells #[.int .i64 t.kind, .string t.name, .int .i64 t.n, sv] T fz)) (hb : ok b) (ht : Tm.innP W ok t sv) : Tm.sliceP W ok [t] (.slice (some ⟨b, 0, none⟩) 1 1) := by
  refine ⟨_, 1, rfl, by simp, by simp, .inr ⟨b, 0, rfl, hb, Tm.rowP_of_cells [t] [.int .i64 t.kind, .string t.name, .int .i64 t.n, sv] 0 ⟨_, _, rfl, ht, rfl⟩ fun j v hj => ?_⟩⟩
  simp only [World.cell?, h, Nat.zero_add]
  simpa using hj
/-- A term without arguments. -/
theorem TV.atom {X : Nat → Prop} {W : World} (t : Tm) (ha : t.args = []) (h1 : (Lit.int .i64 t.kind).wf = true) (h2 : (Lit.int .i64 t.n).wf = true) (h3 : t.name.size ≤ maxLen) : TV X W (some t) t.kind t.name t.n (.slice none 0 0) := by
  refine ⟨h1, h2, ⟨_, _, _, rfl⟩, fun u hu => ?_⟩
  obtain rfl : t = u := by simpa using hu
  refine ⟨rfl, rfl, rfl, ?_⟩
  obtain ⟨k, nm, n, l⟩ := t
  obtain rfl : l = [] := ha
  rw [Tm.innP_mk]
  exact ⟨⟨h1, h3, h2⟩, none, 0, rfl, by simp, by simp, .inl rfl⟩
end Go.Proofs.YtkjnjahmlobjiaaGreatDoor

namespace Go.Proofs.YtkjnjahmlobjiaaGreatDoor
open Go.RowKit

theorem findN_lt (tx : List UInt8) : ∀ (ns : Names) (i : Nat), findN tx ns = some i → i < ns.length
  | [], i, h => by cases h
  | x :: r, i, h => by
    unfold findN at h
    split at h
    · injection h with h; subst h; simp
    · obtain ⟨j, hj, rfl⟩ := Option.map_eq_some_iff.1 h
      have := findN_lt tx r j hj
      simp
      omega
theorem varN_le (ns : Names) (tx : List UInt8) : (varN ns tx).1 ≤ ns.length := by
  unfold varN
  split
  · exact Nat.le_refl _
  · split
    · next i h => exact Nat.le_of_lt (findN_lt tx ns i h)
    · exact Nat.le_refl _
def restE2 (S : List UInt8) (f p deep : Nat) : RRes (Tm × Nat) → RRes Tm
  | .error e => .error e
  | .ok ((t, q), r, ns) => rdRest S f t q p deep r ns
/-- A term in brackets. -/
def parE (S : List UInt8) (f deep : Nat) (st : RSt) : RRes Tm :=
  match termE S f 1200 (deep + 1) st with
  | .error e => .error e
  | .ok (t, r, n) => match needE S 41 (.ok (r, n)) with
    | .error e => .error e
    | .ok (r', n') => .ok (t, r', n')
theorem parE_eq (S : List UInt8) (f deep : Nat) (ts : Toks) (ns : Names) : parE S f deep (.ok (ts, ns)) = (match rdTerm S f 1200 (deep + 1) ts ns with
      | .error e => .error e
      | .ok (t, r1, ns1) => match needT S 41 r1 with
        | .error e => .error e
        | .ok r2 => .ok (t, r2, ns1)) := by
  unfold parE needE
  simp only [termE]
  cases rdTerm S f 1200 (deep + 1) ts ns with
  | error e => rfl
  | ok q =>
    obtain ⟨l, r2, ns2⟩ := q
    dsimp only
    cases needT S 41 r2 <;> rfl
theorem TV.sub {X : Nat → Prop} {W : World} {u u' : Option Tm} {k : Int} {nm : ByteArray} {n : Int} {sv : Value} (h : TV X W u k nm n sv) (hu : ∀ t, u' = some t → u = some t) : TV X W u' k nm n sv := ⟨h.1, h.2.1, h.2.2.1, fun t ht => h.2.2.2 t (hu t ht)⟩
theorem Room.less {f k j : Nat} {x : RSt} (h : Room f k x) (hj : j ≤ k) : Room f j x := fun ts ns e => by
  have h0 := h ts ns e
  exact ⟨by omega, h0.2⟩
theorem tm_none {X : Nat → Prop} {W : World} : TV X W none 0 ⟨#[]⟩ 0 (.slice none 0 0) := ⟨by decide, by decide, ⟨_, _, _, rfl⟩, fun t ht => by cases ht⟩
def tlS : RSt → RSt
  | .ok (ts, ns) => .ok (ts.tail, ns)
  | .error e => .error e
def nilE : RSt → RRes Tm
  | .ok (ts, ns) => .ok (funT ⟨#[91, 93]⟩ [], ts, ns)
  | .error e => .error e
/-- What a list ends in. -/
def tlE (S : List UInt8) (f deep : Nat) (st : RSt) : RRes Tm := if seeE 124 st = true then termE S f 999 (deep + 1) (tlS st) else nilE st
/-- A list. -/
def lstE (S : List UInt8) (f deep : Nat) (st : RSt) : RRes Tm :=
  match rowE S f deep st with
  | .error e => .error e
  | .ok (l, r, n) => match tlE S f deep (.ok (r, n)) with
    | .error e => .error e
    | .ok (t, r2, n2) => match needE S 93 (.ok (r2, n2)) with
      | .error e => .error e
      | .ok (r3, n3) => .ok (listT l t, r3, n3)
theorem lstE_eq (S : List UInt8) (f p deep : Nat) (ts : Toks) (ns : Names) : restE S f 0 p deep (lstE S f deep (.ok (ts, ns))) = (match rdRow S f deep ts ns with
        | .error e => .error e
        | .ok (l, r1, ns1) =>
          if seeT 124 r1 = true then
            match rdTerm S f 999 (deep + 1) r1.tail ns1 with
            | .error e => .error e
            | .ok (t, r2, ns2) => match needT S 93 r2 with
              | .error e => .error e
              | .ok r3 => rdRest S f (listT l t) 0 p deep r3 ns2
          else match needT S 93 r1 with
            | .error e => .error e
            | .ok r3 => rdRest S f (listT l (funT ⟨#[91, 93]⟩ [])) 0 p deep r3 ns1) := by
  unfold lstE
  simp only [rowE]
  cases rdRow S f deep ts ns with
  | error e => rfl
  | ok q =>
    obtain ⟨l, r1, ns1⟩ := q
    dsimp only
    unfold tlE
    simp only [seeE, tlS, nilE]
    rcases Bool.eq_false_or_eq_true (seeT 124 r1) with h | h
    · simp only [h, ↓reduceIte, termE]
      cases rdTerm S f 999 (deep + 1) r1.tail ns1 with
      | error e => rfl
      | ok q =>
        obtain ⟨t, r2, ns2⟩ := q
        simp only [needE]
        cases needT S 93 r2 <;> rfl
    · simp only [h, Bool.false_eq_true, ↓reduceIte, needE]
      cases needT S 93 r1 <;> rfl
/-- The list from a place of the row on. -/
def curV (vl : Option (List Tm)) (vt : Option Tm) (j : Nat) : Option Tm := vl.bind fun l => vt.map fun t => listT (l.drop j) t
theorem curV_some {vl : Option (List Tm)} {vt : Option Tm} {j : Nat} {u : Tm} (h : curV vl vt j = some u) : ∃ l t, vl = some l ∧ vt = some t ∧ u = listT (l.drop j) t := by
  unfold curV at h
  cases vl with
  | none => cases h
  | some l =>
    cases vt with
    | none => cases h
    | some t =>
      injection h with h
      exact ⟨l, t, rfl, rfl, h.symm⟩
theorem curV_last {vl : Option (List Tm)} {vt : Option Tm} {m : Nat} (hm : ∀ l, vl = some l → l.length = m) {u : Tm} (h : curV vl vt m = some u) : vt = some u := by
  obtain ⟨l, t, hl, ht, rfl⟩ := curV_some h
  rw [ht, List.drop_eq_nil_of_le (by have := hm l hl; omega)]
  rfl
theorem rowP_at {w : World} {ok : Nat → Prop} {b : Nat} : ∀ (l : List Tm) (off i : Nat) (hi : i < l.length), Tm.rowP w ok b off l → ∃ sv, w.cell? ⟨b, off + i * 4, none⟩ = some (.int .i64 l[i].kind) ∧ w.cell? ⟨b, off + i * 4 + 1, none⟩ = some (.string l[i].name) ∧ w.cell? ⟨b, off + i * 4 + 2, none⟩ = some (.int .i64 l[i].n) ∧ w.cell? ⟨b, off + i * 4 + 3, none⟩ = some sv ∧ Tm.innP w ok l[i] sv
  | [], _, i, hi, _ => by simp at hi
  | t :: r, off, 0, _, h => by
    simp only [Tm.rowP] at h
    obtain ⟨⟨sv, h⟩, _⟩ := h
    exact ⟨sv, by simpa using h⟩
  | t :: r, off, i + 1, hi, h => by
    simp only [Tm.rowP] at h
    obtain ⟨sv, h9⟩ := rowP_at r (off + 4) i (by simpa using hi) h.2
    refine ⟨sv, ?_⟩
    rw [show off + (i + 1) * 4 = off + 4 + i * 4 by omega]
    simpa using h9
/-- The elements: whatever they are; what they are worth. -/
structure Els (X : Nat → Prop) (W : World) (vl : Option (List Tm)) (m b off c : Nat) : Prop where
  raw : RowJ X W m (.slice (some ⟨b, off, none⟩) m c)
  val : ∀ l, vl = some l → l.length = m ∧ Tm.sliceP W (okN X W) l (.slice (some ⟨b, off, none⟩) m c)
/-- One element. -/
theorem Els.at {X : Nat → Prop} {W : World} {vl : Option (List Tm)} {m b off c : Nat} (h : Els X W vl m b off c) (i : Nat) (hi : i < m) : b < W.heap.size ∧ ∃ k nm n g' m' c', W.cell? ⟨b, off + i * 4, none⟩ = some (.int .i64 k) ∧ W.cell? ⟨b, off + i * 4 + 1, none⟩ = some (.string nm) ∧ W.cell? ⟨b, off + i * 4 + 2, none⟩ = some (.int .i64 n) ∧ W.cell? ⟨b, off + i * 4 + 3, none⟩ = some (.slice g' m' c') ∧
    ∀ l, vl = some l → ∃ h : i < l.length, l[i].kind = k ∧ l[i].name = nm ∧ l[i].n = n ∧ Tm.innP W (okN X W) l[i] (.slice g' m' c') := by
  obtain ⟨b', off', c', e, _, hb, hc⟩ := h.raw
  injection e with e1 _ _
  injection e1 with e1
  injection e1 with e1 e2 _
  subst e1 e2
  obtain ⟨k, nm, n, g', m', c9, h0, h1, h2, h3⟩ := hc i hi
  refine ⟨hb.2, k, nm, n, g', m', c9, h0, h1, h2, h3, fun l hl => ?_⟩
  obtain ⟨hlen, hsl⟩ := h.val l hl
  have hi' : i < l.length := by omega
  obtain ⟨g, cap, e, _, _, h9 | ⟨b2, off2, e2, hb2, hrow⟩⟩ := hsl
  · rw [h9] at hi'; simp at hi'
  · injection e with e3 _ _
    rw [← e3] at e2
    injection e2 with e2
    injection e2 with e4 e5 _
    subst e4 e5
    obtain ⟨sv, a0, a1, a2, a3, a4⟩ := rowP_at l off i hi' hrow
    rw [h0] at a0; rw [h1] at a1; rw [h2] at a2; rw [h3] at a3
    injection a0 with a0; injection a0 with _ a0
    injection a1 with a1; injection a1 with a1
    injection a2 with a2; injection a2 with _ a2
    injection a3 with a3
    subst a3
    exact ⟨hi', a0.symm, a1.symm, a2.symm, a4⟩
end Go.Proofs.YtkjnjahmlobjiaaGreatDoor
