/-
  The program's parts: its closure, which puts the parts of a term behind others, each behind its Args' ones.
-/
import Derived.Test.YtomdccejgmhfoaaEPt
import Derived.Laws.EntriesVeiled
namespace Go.Proofs.Ytomdccejgmhfoaa
open Go.RowKit Go.Shelf Go.Maps

/-- What the closure has captured. -/
structure QCtx (W : World) (pb gb B lo : Nat) (v : Value) : Prop where
  kp : Boxed W pb 81 v
  kg : Boxed W gb 54 (.func (.func 78) #[] #[.pointer (some ⟨gb, 0, none⟩), .pointer (some ⟨pb, 0, none⟩)])
  hBp : B ≤ pb
  hBg : B ≤ gb
  hpl : pb < lo
  hgl : gb < lo
  hne : gb ≠ pb
theorem QCtx.keep {W W' : World} {pb gb B lo : Nat} {v : Value} (h : QCtx W pb gb B lo v) (hlow : ∀ b, b < lo → W'.heap[b]? = W.heap[b]?) : QCtx W' pb gb B lo v :=
  ⟨(hlow pb h.hpl).trans h.kp, (hlow gb h.hgl).trans h.kg, h.hBp, h.hBg, h.hpl, h.hgl, h.hne⟩
def PPost (W : World) (ok : Nat → Prop) (pb gb B lo : Nat) (v : Value) (L : List Pt) (e : Ending) (W' : World) : Prop :=
  ∃ (v' : Value) (M' : List QM) (n : Nat), e = .returned (.int .i64 (n : Nat)) ∧ M'.length = n + 1 ∧ QCtx W' pb gb B lo v' ∧ QRow W' ok B lo 99 M' v' ∧ qsOf M' = L ∧ QFr W W' (fun b => b = pb) v v'
def PPartsAt (a : Tm) : Prop := ∀ (M : List QM) (W : World) (ok : Nat → Prop) (pb gb B lo : Nat) (v sa : Value), QCtx W pb gb B lo v → QRow W ok B lo 99 M v → (∀ b, W.heap.size ≤ b → ok b) → Tm.inn W B a sa → M.length + a.size ≤ 1000000 →
  Calls Try.prog 78 #[.agg #[.int .i64 a.kind, .string a.name, .int .i64 a.n, sa], .pointer (some ⟨gb, 0, none⟩), .pointer (some ⟨pb, 0, none⟩)] W fun e W' => PPost W ok pb gb B lo v (a.partsTo (qsOf M)) e W'
def PRel (W1 wr : World) (ok : Nat → Prop) (pb gb B lo : Nat) (M : List QM) (l : List Tm) (v : Value) (j : Nat) (va : Value) : Prop := ∃ Mj vj, QCtx wr pb gb B lo vj ∧ DL W1 wr (fun b => b = pb) ok B lo 99 M l v j va Mj vj

/-- The row's place is told in its box. -/
theorem PPost.done {W w3 : World} {ok : Nat → Prop} {pb gb B lo n : Nat} {v vj vf : Value} {L : List Pt} {M' : List QM} (hn : M'.length = n + 1) (hC : QCtx w3 pb gb B lo vj) (hR : QRow w3 ok B lo 99 M' vf) (hq : qsOf M' = L) (hF : QFr W w3 (fun b => b = pb) v vf) :
    PPost W ok pb gb B lo v L (.returned (.int .i64 (n : Nat))) (w3.setCell ⟨pb, 0, none⟩ vf) := by
  have hp := hC.hpl
  have hBp := hC.hBp
  have hne := hC.hne
  refine ⟨vf, M', n, rfl, hn, ⟨hC.kp.set vf, (Below.heap_setCell _ _ _ _ (by show gb ≠ pb; exact hne)).trans hC.kg, hBp, hC.hBg, hp, hC.hgl, hne⟩, ?_, hq, ?_⟩
  · exact hR.keep (by simp) (fun b hb => Below.heap_setCell _ _ _ _ (by show b ≠ pb; omega)) (fun b h1 _ _ => Below.heap_setCell _ _ _ _ (by show b ≠ pb; omega))
  · exact ⟨hF.os, hF.tape, hF.output, by simpa using hF.size, fun b hb hne hv => (Below.heap_setCell _ _ _ _ (by show b ≠ pb; exact hne)).trans (hF.block b hb hne hv), hF.own⟩

set_option maxRecDepth 100000 in
set_option maxHeartbeats 8000000 in
theorem pparts_any : ∀ a : Tm, PPartsAt a := by
  refine Tm.ind fun k s m l ih M W ok pb gb B lo v sa hC hR hok ha hmax => ?_
  obtain ⟨hhead, ga, ca, rfl, hca, hla, _⟩ := Tm.inn_mk.1 ha
  simp only [mk7_kind, mk7_name, mk7_n]
  obtain ⟨W1, hW1⟩ : ∃ W1, W.alloc (Obj.cells #[.int .i64 k, .string s, .int .i64 m, .slice ga l.length ca] 27 (0, 0)) = W1 := ⟨_, rfl⟩
  have hb1 : Below W.heap.size W W1 := by rw [← hW1]; exact (Below.refl _ _).alloc (Nat.le_refl _) _
  have hs1 : W1.heap.size = W.heap.size + 1 := by rw [← hW1]; simp
  have hx1 : W1.heap[W.heap.size]? = some (Obj.cells #[.int .i64 k, .string s, .int .i64 m, .slice ga l.length ca] 27 (0, 0)) := by rw [← hW1]; exact newBlk _ _ _ rfl
  have hlo := hR.lo'
  have hBl := hR.hB
  have hpl := hC.hpl
  have hgl' := hC.hgl
  have hst := DL.start (P := fun b => b = pb) (l := l) (hR.next hb1)
  have hc1 : QCtx W1 pb gb B lo v := hC.keep fun b hb => hb1.block b (by omega)
  have hvW : ∀ q, v.ownBlock = some q → q < W.heap.size := fun q e => (hR.row.lt q e).2
  have HV := Lib.hid hvW
  have HST := Lib.hid (show PRel W1 W1 ok pb gb B lo M l v 0 (.slice none 0 0) from ⟨M, v, hc1, hst⟩)
  have HR := Lib.hid hR
  have HC := Lib.hid hC
  have HOK := Lib.hid hok
  have HA := Lib.hid ha
  have HIH := Lib.hid ih
  have HB1 := Lib.hid hb1
  have HS1 := Lib.hid hs1
  have HX1 := Lib.hid hx1
  have HMAX := Lib.hid hmax
  have HW := Lib.hid hW1
  obtain ⟨⟨_, _, _, x3⟩, _⟩ := row4 hx1
  have l0 : W.heap.size < W1.heap.size := by omega
  clear hR hok ha ih hb1 hs1 hx1 hmax hW1 hst hvW hhead hC hc1
  go_enter Try.func78, Try.ntmps78
  go_wp2_with fail
  rw [HW.out]
  go_wp2_with fail
  go_loopw [5, 7, 11] (fun va _ i wr => ∃ j : Nat, j ≤ l.length ∧ i = .int .i64 j ∧ Hid (PRel W1 wr ok pb gb B lo M l v j va)) (fun _ _ i _ => l.length - (intOf i).toNat)
  case atStart => exact ⟨0, Nat.zero_le _, rfl, HST⟩
  case round =>
    obtain ⟨wz, rfl⟩ : ∃ x, x = wr := ⟨_, rfl⟩
    obtain ⟨j, hj, rfl, hgl⟩ := hrel
    have HGL := Lib.hid hgl.out
    clear hgl x3
    by_cases hlt : j < l.length
    · obtain ⟨Mj, vj, hcx, hdl⟩ := HGL.out
      have hbw : Below B W wz := ((QFr.of HB1.out (fun b => b = pb) v).trans hdl.fr).below (fun b h => by have := hcx.hBp; omega) (fun q e => by have := (HR.out.row.lt q e).1; omega) (by omega)
      have hsz1 := hdl.fr.size
      obtain ⟨p, po, sx, hga, hpB, c0, c1, c2, c3, hix⟩ := Tm.sliceIn_get (Tm.sliceIn_below (Tm.inn_mk.1 HA.out).2 hbw (Nat.le_refl _)) j hlt
      subst hga
      obtain ⟨gx, cx, rfl⟩ := inn_sl7 hix
      have hih := HIH.out l[j] (List.getElem_mem hlt)
      obtain ⟨t, ht⟩ : ∃ t, l[j] = t := ⟨_, rfl⟩
      rw [ht] at c0 c1 c2 c3 hix hih
      obtain ⟨ps, hps⟩ : ∃ ps, (Tm.partsTos (qsOf M) [] (l.take j)).2 = ps := ⟨_, rfl⟩
      have hpre : Mj.length + t.size ≤ 1000000 := by
        have h1 : Mj.length = M.length + Tm.sizes (l.take j) := by rw [← qsOf_length Mj, hdl.qs, partsTos_len _ (fun t _ L => partsTo_len t L), qsOf_length]
        have h2 := Tm.sizes_take_succ l j hlt
        have h3 := Tm.sizes_take_le l (j + 1)
        have h4 := HMAX.out
        simp only [Tm.size] at h4
        rw [ht] at h2
        omega
      have hal := (Below.refl wz.heap.size wz).alloc (Nat.le_refl _) (Obj.cells #[.int .i64 t.kind, .string t.name, .int .i64 t.n, .slice gx t.args.length cx] 27 (0, 0))
      have hcall := hih Mj _ (fun b => ok b ∧ u5.ownBlock ≠ some b) pb gb B lo _ _ (hcx.keep fun b hb => hal.block b (by have := hdl.row.lo'; omega)) (hdl.row.next hal) (fun b hb => ⟨HOK.out b (by have := HS1.out; have := hal.size; omega), fun e => by have := (hdl.own.lt b e).2; have := hal.size; omega⟩) (Tm.inn_below hix hal (by have := hdl.row.lo'; omega)) hpre
      have hg0 := hcx.kg.cell
      have HCALL := Lib.hid hcall
      have HDL := Lib.hid hdl
      have HT := Lib.hid ht
      have HPS := Lib.hid hps
      have HAL := Lib.hid hal
      have lpz : p < wz.heap.size := by omega
      have lgz : gb < wz.heap.size := by omega
      clear hcall hdl ht hps hih hix hbw hcx hal
      go_wp2_with fail
      refine HCALL.out.mono ?_
      rintro e W2 ⟨v2, M2, n2, rfl, hn2, hC2, hR2, hqs2, hF2⟩
      have hm2 : n2 ≤ 1000000 := by
        have h1 : M2.length = Mj.length + t.size := by rw [← qsOf_length M2, hqs2, partsTo_len, qsOf_length]
        omega
      have hown2 : W2.ownsRow W1.heap.size 3 1 u5 j (places7 ps) := by
        rw [← HPS.out]
        have hal := HAL.out
        have hs := hal.size
        refine ownsRow_block (ownsRow_below HDL.out.own hal) (fun b e => hF2.block b (by have := (HDL.out.own.lt b e).2; omega) (fun e2 => ?_) (HDL.out.sep b e))
        have := (HDL.out.own.lt b e).1
        omega
      have HOWN := Lib.hid hown2
      have HR2 := Lib.hid hR2
      have HQS := Lib.hid hqs2
      have HF2 := Lib.hid hF2
      have HC2 := Lib.hid hC2
      have HN2 := Lib.hid hn2
      have hsw1 := hF2.size
      have hsal := HAL.out.size
      have hj6 : j ≤ 1000000 := by
        have h1 := Tm.length_le_sizes l
        have h4 := HMAX.out
        simp only [Tm.size] at h4
        omega
      obtain ⟨i0, hi, hz0, hz1, hz2⟩ := info_parts Try.infoInt
      clear hown2 hR2 hqs2 hF2 hn2 hC2 HCALL c0 c1 c2 c3 hg0
      go_wp2_with (at_builtin; refine wpList_append_sep _ rfl _ _ 46 rfl W1.heap.size 3 i0 _ 1 8 Try.underlying46 hi hz0 hz1 hz2 rfl (by decide) u5 j (places7 ps) rfl (HOWN.out.alloc _) ⟨W2.heap.size, 0, none⟩ 1 1 [.int .i64 (n2 : Nat)] rfl (by decide) rfl (news1e _ rfl) (by simp [Value.oneCell']) (by unfold maxLen; omega) (by omega) (by simp; omega) ?_; intro v' w3 hown3 hgrow3 hsep3)
      have hrow3 : w3.ownsRow W1.heap.size 3 1 v' (j + 1) (places7 ps ++ [.int .i64 ((M2.length - 1 : Nat) : Int)]) := by rw [HN2.out]; exact hown3
      have hstep := HDL.out.step hlt HT.out (fun b h => by omega) HAL.out HR2.out HQS.out HF2.out (by omega) HPS.out hrow3 hgrow3 hsep3
      have hctx : QCtx w3 pb gb B lo v2 := HC2.out.keep fun b hb => (hgrow3.block b (by have := HR2.out.lo'; simp; omega) (fun e => by have := (HDL.out.own.lt b e.symm).1; omega)).trans (Below.heap_alloc _ _ _ (by have := HR2.out.lo'; omega))
      refine ⟨⟨j + 1, by omega, by go_num, Lib.hid ⟨M2, v2, hctx, hstep⟩⟩, by simp [intOf]; omega⟩
    · obtain rfl : l.length = j := by omega
      obtain ⟨Mj, vj, hcx, hdl⟩ := HGL.out
      obtain ⟨gj, cj, rfl⟩ := hdl.row.slice
      have hbw : Below B W wz := ((QFr.of HB1.out (fun b => b = pb) v).trans hdl.fr).below (fun b h => by have := hcx.hBp; omega) (fun q e => by have := (HR.out.row.lt q e).1; omega) (by omega)
      have hsz1 := hdl.fr.size
      have hbx : wz.heap[W.heap.size]? = some (Obj.cells #[.int .i64 k, .string s, .int .i64 m, .slice ga l.length ca] 27 (0, 0)) := (hdl.fr.block _ l0 (fun h => by omega) (fun e => by have := HV.out _ e; omega)).trans HX1.out
      obtain ⟨⟨x0, x1, x2, x3⟩, _⟩ := row4 hbx
      have hMj : Mj.length ≤ 1000000 := by
        have h1 : Mj.length = M.length + Tm.sizes l := by rw [← qsOf_length Mj, hdl.qs, partsTos_len _ (fun t _ L => partsTo_len t L), qsOf_length, List.take_length]
        have h4 := HMAX.out
        simp only [Tm.size] at h4
        omega
      have hkp := hcx.kp.cell
      have hkf := hcx.kp.frozen
      have HDL := Lib.hid hdl
      have HCX := Lib.hid hcx
      have lxz : W.heap.size < wz.heap.size := by omega
      have lpz : pb < wz.heap.size := by omega
      have hina := Tm.inn_below HA.out hbw (Nat.le_refl _)
      have HIN := Lib.hid hina
      obtain ⟨ga5, ca5, e5⟩ := owns_slice hdl.own
      subst e5
      obtain ⟨i0, hi, hz0, hz1, hz2⟩ := info_parts qTyP.info
      have hlz := hdl.row.lo'
      clear hdl hbx hbw hina hcx
      go_wp2_with (at_builtin; refine wpList_append_sep _ rfl _ _ 81 rfl lo 99 i0 _ 5 80 qTyP.und hi hz0 hz1 hz2 rfl (by decide) (.slice gj Mj.length cj) Mj.length (qRow Mj) rfl (HDL.out.row.row.alloc _) ⟨wz.heap.size, 0, none⟩ 1 1 [.int .i64 k, .string s, .int .i64 m, .slice ga l.length ca, .slice ga5 l.length ca5] rfl (by decide) rfl (news5e _ rfl) one5e (by unfold maxLen; omega) (by omega) (by simp; omega) ?_; intro v' w3 hown3 hgrow3 hsep3; obtain ⟨g3, c3, rfl⟩ := owns_slice hown3; have hk3 : Boxed w3 pb 81 (.slice gj Mj.length cj) := (hgrow3.block pb (by simp; omega) (fun e => by have := (HDL.out.row.row.lt pb e.symm).1; omega)).trans ((Below.heap_alloc _ _ _ lpz).trans HCX.out.kp); have k3c := hk3.cell; have k3f := hk3.frozen; have k3l : pb < w3.heap.size := by (have := hgrow3.size; simp at this; omega))
      go_ret
      obtain ⟨M', h1, h2, h3, h4⟩ := HDL.out.done rfl (fun b hb => HOK.out b (by omega)) (by omega) HIN.out hown3 hgrow3 hsep3
      have hC3 : QCtx w3 pb gb B lo (.slice gj Mj.length cj) := HCX.out.keep fun b hb => (hgrow3.block b (by simp; omega) (fun e => by have := (HDL.out.row.row.lt b e.symm).1; omega)).trans (Below.heap_alloc _ _ _ (by omega))
      have hF := (QFr.of HB1.out (fun b => b = pb) v).trans h3
      exact PPost.done h4 hC3 h1 h2 hF
/-- The parts of a term. -/
def PartsPost (w : World) (L : List Pt) (e : Ending) (w' : World) : Prop := ∃ v M, e = .returned v ∧ QAt w' w'.heap.size M v ∧ qsOf M = L ∧ Below w.heap.size w w'
set_option maxRecDepth 100000 in
set_option maxHeartbeats 4000000 in
theorem parts_any (t : Tm) (w : World) (B : Nat) (sv : Value) (hB : B ≤ w.heap.size) (hin0 : Tm.inn w B t sv) (hsz : t.size ≤ 1000000) :
    Calls Try.prog 59 #[.agg #[.int .i64 t.kind, .string t.name, .int .i64 t.n, sv]] w fun e w' => PartsPost w (partsT t) e w' := by
  have hin := Tm.inn_mono hin0 hB
  obtain ⟨gx, cx, rfl⟩ := inn_sl7 hin
  obtain ⟨W0, hW0⟩ : ∃ W0, (((w.alloc (Obj.cells #[.int .i64 t.kind, .string t.name, .int .i64 t.n, .slice gx t.args.length cx] 27 (0, 0))).alloc (Obj.cells #[.slice none 0 0] 81 (0, 0))).alloc (Obj.cells #[(.func (.func 78) #[] #[.pointer (some ⟨w.heap.size + 1 + 1, 0, none⟩), .pointer (some ⟨w.heap.size + 1, 0, none⟩)])] 54 (0, 0))) = W0 := ⟨_, rfl⟩
  have hb0 : Below w.heap.size w W0 := by rw [← hW0]; exact (((Below.refl _ _).alloc (Nat.le_refl _) _).alloc (by simp) _).alloc (by simp; omega) _
  have hs0 : W0.heap.size = w.heap.size + 3 := by rw [← hW0]; simp
  have hp0 : Boxed W0 (w.heap.size + 1) 81 (.slice none 0 0) := by rw [← hW0]; exact (Below.heap_alloc _ _ _ (by simp)).trans (newBlk _ _ _ (by simp))
  have hg0 : Boxed W0 (w.heap.size + 1 + 1) 54 (.func (.func 78) #[] #[.pointer (some ⟨w.heap.size + 1 + 1, 0, none⟩), .pointer (some ⟨w.heap.size + 1, 0, none⟩)]) := by rw [← hW0]; exact newBlk _ _ _ (by simp)
  have hc0 : QCtx W0 (w.heap.size + 1) (w.heap.size + 1 + 1) w.heap.size (w.heap.size + 3) (.slice none 0 0) := ⟨hp0, hg0, by omega, by omega, by omega, by omega, by omega⟩
  have hcall := pparts_any t [] W0 (fun _ => True) (w.heap.size + 1) (w.heap.size + 1 + 1) w.heap.size (w.heap.size + 3) _ _ hc0 (QRow.zero _ (by omega) (by omega)) (fun _ _ => trivial) (Tm.inn_below hin hb0 (Nat.le_refl _)) (by simpa using hsz)
  have HCALL := Lib.hid hcall
  have HB0 := Lib.hid hb0
  have HS0 := Lib.hid hs0
  have HW := Lib.hid hW0
  clear hin hin0 hW0 hb0 hs0 hp0 hg0 hc0 hcall hsz
  go_enter Try.func59, Try.ntmps59
  go_wp2_with fail
  rw [HW.out]
  refine HCALL.out.mono ?_
  rintro e w1 ⟨v1, M1, n1, rfl, hn1, hC, hR, hq, hF⟩
  obtain ⟨gp, cp, rfl⟩ := hR.slice
  have cp0 := hC.kp.cell
  have lp0 := hC.kp.lt
  have hs0 := HS0.out
  have hb1 : Below w.heap.size w w1 := HB0.out.trans (hF.below (lo := w.heap.size) (fun b h => by omega) (fun q e => by cases e) (by omega))
  have HB1 := Lib.hid hb1
  have HR := Lib.hid hR
  have HQ := Lib.hid hq
  have HN := Lib.hid hn1
  clear hb1 hR hq hn1 HCALL HW hF hC
  go_wp2_with fail
  go_ret
  exact ⟨_, M1, rfl, HR.out.reads (by have := HN.out; omega), HQ.out, HB1.out⟩
end Go.Proofs.Ytomdccejgmhfoaa
