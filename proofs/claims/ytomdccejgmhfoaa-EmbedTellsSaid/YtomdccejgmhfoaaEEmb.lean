/-
  The program's embedded: the table of bits is filled row by row.
-/
import Derived.Test.YtomdccejgmhfoaaEmbT
import Derived.StillTailTactics
namespace Go.Proofs.Ytomdccejgmhfoaa
open Go.RowKit Go.Shelf Go.Maps

theorem run_make_rows {w : World} (n : Nat) (hn : n ≤ 3000) :
    (Instr.makeSlice 97 (.int .i64 (n : Int)) (.int .i64 (n : Int))).run Try.prog w = .ok (.slice (some ⟨w.heap.size, 0, none⟩) n n) (w.alloc (.cells (madeCells (.replicate 47 (.int .u64 0)) (n * 47)) 102)) := by
  have hinfo : (Try.prog.info? 102).map (fun i => (i.zero, i.size, i.bytes)) = some (some (.agg (.replicate 47 (.int .u64 0))), 47, 376) := by kernel_rfl
  obtain ⟨i0, hi, hz0, hz1, hz2⟩ := info_parts hinfo
  have hr := run_make (P := Try.prog) w 97 102 i0 _ (by kernel_rfl) hi hz0 .i64 .i64 n n (by omega) (Int.le_refl _) (by rw [hz2]; omega) (by omega)
  rw [hz1] at hr
  simp only [Int.toNat_natCast] at hr
  have hc : (Value.agg (.replicate 47 (.int .u64 0))).cells = .replicate 47 (.int .u64 0) := by kernel_rfl
  rw [hc] at hr
  exact hr
theorem wpList_make_rows {w : World} {ops : Array Oper} {rest : List Oper} {o : Oper} {a : Act} {Q : Exit → Act → World → Prop} (hgd : o.guard = none) (l c : Operand) (ho : o.op = Op.makeSlice 97 l c) (n : Nat) (hn : n ≤ 3000) (hl : a.eval l = .int .i64 (n : Int)) (hc : a.eval c = .int .i64 (n : Int))
    (hK : ∀ w', BTab w' w.heap.size (47 * n) (fun _ => 0) → Below w.heap.size w w' → w'.heap.size = w.heap.size + 1 → wpList Try.prog ops Q rest (a.put o.dst (.slice (some ⟨w.heap.size, 0, none⟩) n n)) w') : wpList Try.prog ops Q (o :: rest) a w := by
  refine wpList_plain hgd fun K' hK' => ?_
  have hr := run_make_rows (w := w) n hn
  unfold Oper.wp execOp
  simp only [ho, Sem.run_bind, Sem.run_pure, Result.andThen_ok, hl, hc, hr]
  refine hK' _ _ (hK _ ⟨⟨_, newBlk _ _ _ rfl, ?_, fun i hi => ?_⟩, fun _ => by show (0 : Nat) < _; decide⟩ ((Below.refl _ _).alloc (Nat.le_refl _) _) (by simp))
  · rw [size_madeCells]; omega
  · have hlt : i < n * 47 := by omega
    have hm : i % 47 < 47 := Nat.mod_lt _ (by decide)
    simp only [madeCells, Array.size_replicate, Array.getElem?_map]
    rw [show (Array.range (n * 47))[i]? = some i by simp [hlt], Option.map_some, getElem!_pos _ _ (by simpa using hm)]
    simp
def EmbPost (w : World) (r : Bool) (e : Ending) (w' : World) : Prop := e = .returned (.bool r) ∧ Below w.heap.size w w'
/-- What stands of both rows of parts. -/
structure ETwo (W0 wr : World) (M1 M2 : List QM) (v1 v2 : Value) : Prop where
  q1 : QAt wr W0.heap.size M1 v1
  q2 : QAt wr W0.heap.size M2 v2
  below : Below W0.heap.size W0 wr
theorem ETwo.next {W0 wr wr' : World} {M1 M2 : List QM} {v1 v2 : Value} (h : ETwo W0 wr M1 M2 v1 v2) (hb : Below W0.heap.size wr wr') : ETwo W0 wr' M1 M2 v1 v2 := ⟨h.q1.below hb, h.q2.below hb, h.below.trans hb⟩
def ER1 (W0 wr : World) (M1 M2 : List QM) (v1 v2 : Value) (j : Nat) : Prop := ∃ bt, BTab wr W0.heap.size (47 * M2.length) bt ∧ ESt bt (qsOf M1) (qsOf M2) j ∧ ETwo W0 wr M1 M2 v1 v2
def ER2 (W0 wr : World) (M1 M2 : List QM) (v1 v2 : Value) (j A : Nat) : Prop := ∃ bt, BTab wr W0.heap.size (47 * M2.length) bt ∧ EStA bt (qsOf M1) (qsOf M2) j A ∧ ETwo W0 wr M1 M2 v1 v2
def ER3 (W0 wr : World) (M1 M2 : List QM) (v1 v2 : Value) (j I : Nat) : Prop := ∃ bt, BTab wr W0.heap.size (47 * M2.length) bt ∧ EStI bt (qsOf M1) (qsOf M2) j I ∧ ETwo W0 wr M1 M2 v1 v2

theorem right7 {t : Tm} (h : t.right = true) : t.fair = true ∧ t.size ≤ 3000 := by
  unfold Tm.right at h
  simp only [Bool.and_eq_true, decide_eq_true_eq] at h
  exact ⟨h.1.1, h.1.2⟩
/-- What the parts of a right term are, as they lie. -/
structure QOk (M : List QM) (t : Tm) : Prop where
  ok : PartsOk (qsOf M)
  fair : ∀ p ∈ qsOf M, p.t.fair = true
  len : M.length ≤ 3000
  at_ : ∀ i (h : i < M.length) k (hk : k < M[i].p.at'.length), M[i].p.at'[k] < i
  few : ∀ i (h : i < M.length), M[i].p.at'.length ≤ 3000
  args : ∀ i (h : i < M.length), M[i].p.at'.length = M[i].p.t.args.length
theorem QOk.of {M : List QM} {t : Tm} (h : t.right = true) (e : qsOf M = partsT t) : QOk M t := by
  obtain ⟨hf, hs⟩ := right7 h
  have hok : PartsOk (qsOf M) := by rw [e]; exact partsT_ok t
  have key : ∀ i (h : i < M.length), M[i].p.at'.length = M[i].p.t.args.length ∧ ∀ k (hk : k < M[i].p.at'.length), M[i].p.at'[k] < i := fun i h => by
    have h0 := hok i (by rw [qsOf_length]; exact h)
    rw [qsOf_get h] at h0
    exact ⟨h0.1, fun k hk => (h0.2 k hk (by rw [← h0.1]; exact hk)).1⟩
  refine ⟨hok, by rw [e]; exact partsT_fair hf, by rw [← qsOf_length, e, partsT_len]; exact hs, fun i h => (key i h).2, fun i h => ?_, fun i h => (key i h).1⟩
  have hm : M[i].p ∈ partsT t := by
    rw [← e, ← qsOf_get h]
    exact List.getElem_mem _
  have h1 := partsT_args hs _ hm
  have h2 := Tm.length_le_sizes M[i].p.t.args
  have h3 := Tm.size_args M[i].p.t
  rw [(key i h).1]
  omega

set_option maxRecDepth 100000 in
set_option maxHeartbeats 4000000 in
theorem embedded_any (a b : Tm) (ha : a.right = true) (hb : b.right = true) (M1 M2 : List QM) (v1 v2 : Value) (w : World) (h1 : QAt w w.heap.size M1 v1) (h2 : QAt w w.heap.size M2 v2) (e1 : qsOf M1 = partsT a) (e2 : qsOf M2 = partsT b) :
    Calls Try.prog 58 #[v1, v2] w fun e w' => EmbPost w (b.emb a) e w' := by
  obtain ⟨g1, c1, hv1, lg1, _⟩ := id h1.row
  obtain ⟨g2, c2, hv2, lg2, _⟩ := id h2.row
  subst hv1 hv2
  have o1 := QOk.of ha e1
  have o2 := QOk.of hb e2
  have n1 : M1.length = a.size := by rw [← qsOf_length, e1, partsT_len]
  have n2 : M2.length = b.size := by rw [← qsOf_length, e2, partsT_len]
  have hl1 := o1.len
  have hl2 := o2.len
  obtain ⟨n, hn⟩ : ∃ n, M1.length = n + 1 := ⟨M1.length - 1, by have := a.size_pos; omega⟩
  obtain ⟨m, hm⟩ : ∃ m, M2.length = m + 1 := ⟨M2.length - 1, by have := b.size_pos; omega⟩
  rw [hn] at h1 hl1 ⊢
  rw [hm] at h2 hl2 ⊢
  have HN := Lib.hid hn
  have HM := Lib.hid hm
  have E1 := Lib.hid e1
  have E2 := Lib.hid e2
  have O1 := Lib.hid o1
  have O2 := Lib.hid o2
  have H1 := Lib.hid h1
  have H2 := Lib.hid h2
  clear n1 n2 hn hm e1 e2 o1 o2 h1 h2 ha hb
  go_enter Try.func58, Try.ntmps58
  go_wp2_with (refine wpList_make_rows rfl _ _ rfl (m + 1) (by omega) rfl rfl ?_; intro w1 hbt1 hb1 hs1)
  have HE1 : Hid (ER1 w w1 M1 M2 (.slice (some ⟨g1, 0, none⟩) (n + 1) c1) (.slice (some ⟨g2, 0, none⟩) (m + 1) c2) 0) := Lib.hid ⟨_, by rw [HM.out]; exact hbt1, ESt.start _ _, ⟨H1.out.below hb1, H2.out.below hb1, hb1⟩⟩
  have HB1 := Lib.hid hb1
  have HS1 := Lib.hid hs1
  clear hbt1 hb1 hs1
  go_wp2_with fail
  go_loopw [6, 8, 9, 15] (fun _ _ _ i wr => ∃ j : Nat, j ≤ m + 1 ∧ i = .int .i64 j ∧ Hid (ER1 w wr M1 M2 (.slice (some ⟨g1, 0, none⟩) (n + 1) c1) (.slice (some ⟨g2, 0, none⟩) (m + 1) c2) j)) (fun _ _ _ i _ => m + 1 - (intOf i).toNat)
  case atStart => exact ⟨0, Nat.zero_le _, rfl, HE1⟩
  case round =>
    obtain ⟨wz, rfl⟩ : ∃ x, x = wr := ⟨_, rfl⟩
    obtain ⟨j, hj, rfl, hgl⟩ := hrel
    have HGL := Lib.hid hgl.out
    clear hgl HE1
    by_cases hlt : j < m + 1
    · obtain ⟨bt, hbt, hst, htw⟩ := HGL.out
      have hj2 : j < M2.length := by rw [HM.out]; exact hlt
      obtain ⟨_, _, _, _, _, y4⟩ := htw.q2.get j hj2
      have k2 := htw.q2.ks M2[j] (List.getElem_mem hj2)
      obtain ⟨gy, cy, ey, _⟩ := id k2
      rw [ey] at y4
      have hfy := O2.out.few j hj2
      obtain ⟨q, hq⟩ : ∃ q, M2[j].p.at'.length = q := ⟨_, rfl⟩
      rw [hq] at y4 hfy
      have hsz := htw.below.size
      have HQ := Lib.hid hq
      have HEY := Lib.hid ey
      have HE2 : Hid (ER2 w wz M1 M2 (.slice (some ⟨g1, 0, none⟩) (n + 1) c1) (.slice (some ⟨g2, 0, none⟩) (m + 1) c2) j 0) := Lib.hid ⟨bt, hbt, EStA.start hst, htw⟩
      clear hbt hst htw k2 ey hq HGL
      go_wp2_with fail
      go_loopw [8, 24] (fun _ i wr => ∃ A : Nat, A ≤ q ∧ i = .int .i64 A ∧ Hid (ER2 w wr M1 M2 (.slice (some ⟨g1, 0, none⟩) (n + 1) c1) (.slice (some ⟨g2, 0, none⟩) (m + 1) c2) j A)) (fun _ i _ => q - (intOf i).toNat)
      case atStart => exact ⟨0, Nat.zero_le _, rfl, HE2⟩
      case round =>
        obtain ⟨wy, rfl⟩ : ∃ x, x = wr := ⟨_, rfl⟩
        obtain ⟨A, hA, rfl, hgl⟩ := hrel
        have HGL := Lib.hid hgl.out
        clear hgl HE2 y4
        by_cases hltA : A < q
        · obtain ⟨bt, hbt, hst, htw⟩ := HGL.out
          have k2 := htw.q2.ks M2[j] (List.getElem_mem hj2)
          rw [HEY.out] at k2
          have hAq : A < M2[j].p.at'.length := by rw [HQ.out]; exact hltA
          obtain ⟨bb, rfl, _, lbb, hcy⟩ := k2.get hAq
          have hpx := O2.out.at_ j hj2 A hAq
          obtain ⟨p, hp⟩ : ∃ p, M2[j].p.at'[A] = p := ⟨_, rfl⟩
          rw [hp] at hcy hpx
          have hcall : ∀ u, BTab u w.heap.size (47 * M2.length) bt → Calls Try.prog 74 #[.pointer (some ⟨w.heap.size, j * 47, none⟩), .pointer (some ⟨w.heap.size, p * 47, none⟩)] u fun e u' => e = .returned (.tuple #[]) ∧ BTab u' w.heap.size (47 * M2.length) (orTo bt (47 * j) (47 * p) 47) ∧ TFr u u' w.heap.size := fun u hu => by
            rw [Nat.mul_comm j 47, Nat.mul_comm p 47]
            exact addAll_any w.heap.size (47 * j) (47 * p) (47 * M2.length) bt u hu (by omega) (by omega) (by omega)
          have HCALL := Lib.hid hcall
          have HBT := Lib.hid hbt
          have HST := Lib.hid hst
          have HTW := Lib.hid htw
          have HP := Lib.hid hp
          have hpm : p < m + 1 := by omega
          have hpi : (p : Int) < (m : Int) + 1 := by omega
          clear hbt hst htw k2 hp hcall HGL
          go_wp2_with fail
          go_still_tail 6, (by kernel_rfl)
          go_wp2_with fail
          refine (HCALL.out wy.drew HBT.out).mono ?_
          rintro e w2 ⟨rfl, hbt2, hf2⟩
          have hst2 := HST.out.step (hb := O2.out.ok) (hn := by rw [qsOf_length]; exact O1.out.len) (hj := by rw [qsOf_length]; exact hj2) (p := p) (hA := by rw [qsOf_get hj2]; exact hAq) (hp := by simp only [qsOf_get hj2]; exact HP.out)
          have HR2 : Hid (ER2 w w2 M1 M2 (.slice (some ⟨g1, 0, none⟩) (n + 1) c1) (.slice (some ⟨g2, 0, none⟩) (m + 1) c2) j (A + 1)) := Lib.hid ⟨_, hbt2, hst2, HTW.out.next ((Below.refl _ _).drew.trans hf2.below)⟩
          clear hbt2 hf2 hst2 HCALL hcy
          go_wp2_with fail
          go_roundw
          case rel => exact ⟨A + 1, by omega, by go_num, HR2⟩
          case measure => simp [intOf]; omega
        · obtain rfl : q = A := by omega
          obtain ⟨bt, hbt, hst, htw⟩ := HGL.out
          have hst3 : EStI bt (qsOf M1) (qsOf M2) j 0 := EStI.start rfl (fun hj' => by simp only [qsOf_get hj2]; rw [← HQ.out, O2.out.args j hj2]) hst
          have HE3 : Hid (ER3 w wy M1 M2 (.slice (some ⟨g1, 0, none⟩) (n + 1) c1) (.slice (some ⟨g2, 0, none⟩) (m + 1) c2) j 0) := Lib.hid ⟨bt, hbt, hst3, htw⟩
          clear hbt hst htw hst3 HGL
          go_wp2_with fail
          go_loopw [9, 38] (fun _ i wr => ∃ I : Nat, I ≤ n + 1 ∧ i = .int .i64 I ∧ Hid (ER3 w wr M1 M2 (.slice (some ⟨g1, 0, none⟩) (n + 1) c1) (.slice (some ⟨g2, 0, none⟩) (m + 1) c2) j I)) (fun _ i _ => n + 1 - (intOf i).toNat)
          case atStart => exact ⟨0, Nat.zero_le _, rfl, HE3⟩
          case round =>
            obtain ⟨wx, rfl⟩ : ∃ x, x = wr := ⟨_, rfl⟩
            obtain ⟨I, hI, rfl, hgl⟩ := hrel
            have HGL := Lib.hid hgl.out
            clear hgl HE3
            by_cases hltI : I < n + 1
            · obtain ⟨bt, hbt, hst, htw⟩ := HGL.out
              have hI1 : I < M1.length := by rw [HN.out]; exact hltI
              have htog : ∀ k, Calls Try.prog 75 #[.pointer (some ⟨g1, I * 5, none⟩), .pointer (some ⟨g2, j * 5, none⟩), .slice (some ⟨w.heap.size, 0, none⟩) (m + 1) (m + 1)] (wx.drewN k) fun e u' => e = .returned (.bool (togB bt M1[I].p M2[j].p)) ∧ ∃ q, u' = (wx.drewN k).drewN q := fun k =>
                together_any M1 M2 w.heap.size w.heap.size g1 g2 c1 c2 (n + 1) (m + 1) w.heap.size (m + 1) (m + 1) bt (wx.drewN k) I j hI1 hj2 (htw.q1.below (below_dn (Below.refl _ _) k)) (htw.q2.below (below_dn (Below.refl _ _) k)) (by rw [← HM.out]; exact hbt) O1.out.len (by omega)
                  (fun q hq => by have := O1.out.at_ I hI1 q hq; omega) (fun q hq => by have := O2.out.at_ j hj2 q hq; omega) (by have := O1.out.few I hI1; omega) (by have := O2.out.few j hj2; omega)
              have HTOG := Lib.hid htog
              have HBT := Lib.hid hbt
              have HST := Lib.hid hst
              have HTW := Lib.hid htw
              clear hbt hst htw htog HGL
              cases hb : togB bt M1[I].p M2[j].p with
              | false =>
                rw [hb] at HTOG
                have HB := Lib.hid hb
                clear hb
                go_wp2_with fail
                go_quiet ((go_at_call 75; exact Calls.quiet_of (HTOG.out _)))
                go_wp2_with fail
                have hst4 := HST.out.no O1.out.ok O2.out.ok O1.out.fair O2.out.fair (by rw [qsOf_length]; exact hI1) (by rw [qsOf_length]; exact hj2) (by simp only [qsOf_get hI1, qsOf_get hj2]; exact HB.out)
                exact ⟨⟨I + 1, by omega, by go_num, Lib.hid ⟨bt, HBT.out, hst4, HTW.out.next (below_dn (Below.refl _ _) nq)⟩⟩, by simp [intOf]; omega⟩
              | true =>
                rw [hb] at HTOG
                have HB := Lib.hid hb
                clear hb
                go_wp2_with fail
                go_quiet ((go_at_call 75; exact Calls.quiet_of (HTOG.out _)))
                have hadd : Calls Try.prog 76 #[.pointer (some ⟨w.heap.size, j * 47, none⟩), .int .i64 (I : Nat)] (wx.drewN nq) fun e w' => e = .returned (.tuple #[]) ∧ Stored (wx.drewN nq) w' w.heap.size (47 * j + I / 64) (.int .u64 (bt (47 * j + I / 64) ||| 2 ^ (I % 64) : Nat)) := by
                  rw [Nat.mul_comm j 47]
                  exact add_row_any w.heap.size (47 * j) I (bt (47 * j + I / 64)) (wx.drewN nq) (by omega) (HBT.out.2 _) (HBT.out.cell (by omega)) (HBT.out.frozen _) HBT.out.lt
                have HADD := Lib.hid hadd
                clear hadd
                go_wp2_with fail
                refine HADD.out.mono ?_
                rintro e w2 ⟨rfl, hst2⟩
                have hst4 := HST.out.yes O1.out.ok O2.out.ok O1.out.fair O2.out.fair (by rw [qsOf_length]; exact O1.out.len) (by rw [qsOf_length]; exact hI1) (by rw [qsOf_length]; exact hj2) (by simp only [qsOf_get hI1, qsOf_get hj2]; exact HB.out)
                have hbt4 : BTab w2 w.heap.size (47 * M2.length) (setBit bt j I) := BTab.set (show BTab (wx.drewN nq) w.heap.size (47 * M2.length) bt from HBT.out) hst2 (by
                  have := setBit_lt HBT.out.2 j I (47 * j + I / 64)
                  unfold setBit at this
                  rw [if_pos rfl] at this
                  exact this)
                have HR4 : Hid (ER3 w w2 M1 M2 (.slice (some ⟨g1, 0, none⟩) (n + 1) c1) (.slice (some ⟨g2, 0, none⟩) (m + 1) c2) j (I + 1)) := Lib.hid ⟨_, hbt4, hst4, HTW.out.next ((below_dn (Below.refl _ _) nq).trans hst2.below)⟩
                clear hst2 hst4 hbt4 HADD HTOG
                go_wp2_with fail
                exact ⟨⟨I + 1, by omega, by go_num, HR4⟩, by simp [intOf]; omega⟩
            · obtain rfl : n + 1 = I := by omega
              obtain ⟨bt, hbt, hst, htw⟩ := HGL.out
              have HR5 : Hid (ER1 w wx M1 M2 (.slice (some ⟨g1, 0, none⟩) (n + 1) c1) (.slice (some ⟨g2, 0, none⟩) (m + 1) c2) (j + 1)) := Lib.hid ⟨bt, hbt, hst.done' (by rw [qsOf_length, HN.out]), htw⟩
              clear hbt hst htw HGL
              go_wp2_with fail
              go_roundw
              case rel => exact ⟨j + 1, by omega, by go_num, HR5⟩
              case measure => simp [intOf]; omega
    · obtain rfl : m + 1 = j := by omega
      obtain ⟨bt, hbt, hst, htw⟩ := HGL.out
      have hres : hasT bt m n = b.emb a := by
        have h0 : (qsOf M1).length = n + 1 := by rw [qsOf_length, HN.out]
        have h0' : (qsOf M2).length = m + 1 := by rw [qsOf_length, HM.out]
        obtain ⟨q1, e1⟩ := partsTo_last a []
        obtain ⟨q2, e2⟩ := partsTo_last b []
        have f1 : a.partsTo [] = qsOf M1 := E1.out.symm
        have f2 : b.partsTo [] = qsOf M2 := E2.out.symm
        rw [f1, h0, show n + 1 - 1 = n by omega, List.getElem?_eq_getElem (by omega)] at e1
        rw [f2, h0', show m + 1 - 1 = m by omega, List.getElem?_eq_getElem (by omega)] at e2
        exact hst.last h0'.symm (by omega) (by omega) (by rw [Option.some.inj e1]) (by rw [Option.some.inj e2])
      have hhas : Calls Try.prog 77 #[.pointer (some ⟨w.heap.size, m * 47, none⟩), .int .i64 (n : Nat)] wz fun e w' => e = .returned (.bool (hasT bt m n)) ∧ wz = w' := by
        rw [Nat.mul_comm m 47]
        exact has_any w.heap.size (47 * m) n _ wz (by omega) (hbt.2 _) (hbt.cell (by rw [HM.out]; omega))
      rw [hres] at hhas
      have HH := Lib.hid hhas
      have HB := Lib.hid htw.below
      clear hbt hst htw hres hhas HGL
      go_wp2_with fail
      refine HH.out.mono ?_
      rintro e w2 ⟨rfl, rfl⟩
      go_wp2_with fail
      go_ret
      exact ⟨rfl, HB.out⟩
end Go.Proofs.Ytomdccejgmhfoaa
