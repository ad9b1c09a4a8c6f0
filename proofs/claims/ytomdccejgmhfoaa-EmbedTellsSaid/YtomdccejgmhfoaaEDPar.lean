/-
  The document's Parts: those of a term, each behind its Args' ones, behind others.
-/
import Derived.Test.YtomdccejgmhfoaaEPt
namespace Go.Proofs.Ytomdccejgmhfoaa
open Go.RowKit Go.Shelf Go.Maps

def DPost (W : World) (ok : Nat → Prop) (B lo : Nat) (v : Value) (L : List Pt) (e : Ending) (W' : World) : Prop :=
  ∃ v' M', e = .returned v' ∧ QRow W' ok B lo 79 M' v' ∧ qsOf M' = L ∧ QFr W W' (fun _ => False) v v'
def DPartsAt (a : Tm) : Prop := ∀ (M : List QM) (W : World) (ok : Nat → Prop) (B lo : Nat) (v sa : Value), QRow W ok B lo 79 M v → (∀ b, W.heap.size ≤ b → ok b) → Tm.inn W B a sa → M.length + a.size ≤ 1000000 →
  Calls Try.prog 57 #[v, .agg #[.int .i64 a.kind, .string a.name, .int .i64 a.n, sa]] W fun e W' => DPost W ok B lo v (a.partsTo (qsOf M)) e W'
def DRel (W1 wr : World) (ok : Nat → Prop) (B lo : Nat) (M : List QM) (l : List Tm) (v : Value) (j : Nat) (va : Value) (vj : Value) : Prop := ∃ Mj, DL W1 wr (fun _ => False) ok B lo 79 M l v j va Mj vj

set_option maxRecDepth 100000 in
set_option maxHeartbeats 8000000 in
theorem dparts_any : ∀ a : Tm, DPartsAt a := by
  refine Tm.ind fun k s m l ih M W ok B lo v sa hR hok ha hmax => ?_
  obtain ⟨hhead, ga, ca, rfl, hca, hla, _⟩ := Tm.inn_mk.1 ha
  simp only [mk7_kind, mk7_name, mk7_n]
  obtain ⟨W1, hW1⟩ : ∃ W1, W.alloc (Obj.cells #[.int .i64 k, .string s, .int .i64 m, .slice ga l.length ca] 27 (0, 0)) = W1 := ⟨_, rfl⟩
  have hb1 : Below W.heap.size W W1 := by rw [← hW1]; exact (Below.refl _ _).alloc (Nat.le_refl _) _
  have hs1 : W1.heap.size = W.heap.size + 1 := by rw [← hW1]; simp
  have hx1 : W1.heap[W.heap.size]? = some (Obj.cells #[.int .i64 k, .string s, .int .i64 m, .slice ga l.length ca] 27 (0, 0)) := by rw [← hW1]; exact newBlk _ _ _ rfl
  have hlo := hR.lo'
  have hBl := hR.hB
  have hst := DL.start (P := fun _ => False) (l := l) (hR.next hb1)
  have hvW : ∀ q, v.ownBlock = some q → q < W.heap.size := fun q e => (hR.row.lt q e).2
  have HV := Lib.hid hvW
  have HST := Lib.hid (show DRel W1 W1 ok B lo M l v 0 (.slice none 0 0) v from ⟨M, hst⟩)
  have HR := Lib.hid hR
  have HOK := Lib.hid hok
  have HA := Lib.hid ha
  have HIH := Lib.hid ih
  have HB1 := Lib.hid hb1
  have HS1 := Lib.hid hs1
  have HX1 := Lib.hid hx1
  have HMAX := Lib.hid hmax
  have HW := Lib.hid hW1
  obtain ⟨⟨_, _, _, x3⟩, _⟩ := row4 hx1
  have l0 : W.heap.size < W1.heap.size := by omega
  clear hR hok ha ih hb1 hs1 hx1 hmax hW1 hst hvW hhead
  go_enter Try.func57, Try.ntmps57
  go_wp2_with fail
  rw [HW.out]
  go_loopw [0, 5, 6] (fun vj va i wr => ∃ j : Nat, j ≤ l.length ∧ i = .int .i64 j ∧ Hid (DRel W1 wr ok B lo M l v j va vj)) (fun _ _ i _ => l.length - (intOf i).toNat)
  case atStart => exact ⟨0, Nat.zero_le _, rfl, HST⟩
  case round =>
    obtain ⟨wz, rfl⟩ : ∃ x, x = wr := ⟨_, rfl⟩
    obtain ⟨j, hj, rfl, hgl⟩ := hrel
    have HGL := Lib.hid hgl.out
    clear hgl x3
    by_cases hlt : j < l.length
    · obtain ⟨Mj, hdl⟩ := HGL.out
      obtain ⟨gj, cj, rfl⟩ := hdl.row.slice
      have hbw : Below B W wz := ((QFr.of HB1.out (fun _ => False) v).trans hdl.fr).below (fun _ h => h.elim) (fun q e => by have := (HR.out.row.lt q e).1; omega) (by omega)
      have hsz1 := hdl.fr.size
      have hbx : wz.heap[W.heap.size]? = some (Obj.cells #[.int .i64 k, .string s, .int .i64 m, .slice ga l.length ca] 27 (0, 0)) := (hdl.fr.block _ l0 (fun h => h) (fun e => by have := HV.out _ e; omega)).trans HX1.out
      obtain ⟨⟨_, _, _, x3⟩, _⟩ := row4 hbx
      obtain ⟨p, po, sx, hga, hpB, c0, c1, c2, c3, hix⟩ := Tm.sliceIn_get (Tm.sliceIn_below (Tm.inn_mk.1 HA.out).2 hbw (Nat.le_refl _)) j hlt
      subst hga
      obtain ⟨gx, cx, rfl⟩ := inn_sl7 hix
      have hih := HIH.out l[j] (List.getElem_mem hlt)
      obtain ⟨t, ht⟩ : ∃ t, l[j] = t := ⟨_, rfl⟩
      rw [ht] at c0 c1 c2 c3 hix hih
      obtain ⟨ps, hps⟩ : ∃ ps, (Tm.partsTos (qsOf M) [] (l.take j)).2 = ps := ⟨_, rfl⟩
      have hpre : Mj.length + t.size ≤ 1000000 := by
        have h1 : Mj.length = M.length + Tm.sizes (l.take j) := by rw [← qsOf_length Mj, hdl.qs, partsTos_len _ (fun t _ L => partsTo_len t L), qsOf_length]
        have h2 := Tm.sizes_take_succ l j hlt
        have h3 := Tm.sizes_take_le l (j + 1)
        have h4 := HMAX.out
        simp only [Tm.size] at h4
        rw [ht] at h2
        omega
      have hcall := hih Mj wz (fun b => ok b ∧ u5.ownBlock ≠ some b) B lo _ _ hdl.row (fun b hb => ⟨HOK.out b (by have := HS1.out; omega), fun e => by have := (hdl.own.lt b e).2; omega⟩) hix hpre
      have HCALL := Lib.hid hcall
      have HDL := Lib.hid hdl
      have HT := Lib.hid ht
      have HPS := Lib.hid hps
      have lpz : p < wz.heap.size := by omega
      have lxz : W.heap.size < wz.heap.size := by omega
      clear hcall hdl ht hps hih hix hbx hbw
      go_wp2_with fail
      refine HCALL.out.mono ?_
      rintro e W2 ⟨v2, M2, rfl, hR2, hqs2, hF2⟩
      obtain ⟨n2, hn2⟩ : ∃ n2, M2.length = n2 + 1 := ⟨M2.length - 1, by
        have h1 : M2.length = Mj.length + t.size := by rw [← qsOf_length M2, hqs2, partsTo_len, qsOf_length]
        have h2 := t.size_pos
        omega⟩
      have hm2 : n2 ≤ 1000000 := by
        have h1 : M2.length = Mj.length + t.size := by rw [← qsOf_length M2, hqs2, partsTo_len, qsOf_length]
        omega
      obtain ⟨g2, c2', rfl⟩ := hR2.slice
      rw [hn2]
      have hown2 : W2.ownsRow W1.heap.size 3 1 u5 j (places7 ps) := by
        rw [← HPS.out]
        exact ownsRow_block HDL.out.own (fun b e => hF2.block b (HDL.out.own.lt b e).2 (fun h => h) (HDL.out.sep b e))
      have HOWN := Lib.hid hown2
      have HR2 := Lib.hid hR2
      have HQS := Lib.hid hqs2
      have HF2 := Lib.hid hF2
      have HN2 := Lib.hid hn2
      have hsw1 := hF2.size
      have hj6 : j ≤ 1000000 := by
        have h1 := Tm.length_le_sizes l
        have h4 := HMAX.out
        simp only [Tm.size] at h4
        omega
      obtain ⟨i0, hi, hz0, hz1, hz2⟩ := info_parts Try.infoInt
      clear hown2 hR2 hqs2 hF2 hn2 HCALL c0 c1 c2 c3 x3
      go_wp2_with (at_builtin; refine wpList_append_sep _ rfl _ _ 46 rfl W1.heap.size 3 i0 _ 1 8 Try.underlying46 hi hz0 hz1 hz2 rfl (by decide) u5 j (places7 ps) rfl (HOWN.out.alloc _) ⟨W2.heap.size, 0, none⟩ 1 1 [.int .i64 (n2 : Nat)] rfl (by decide) rfl (news1e _ rfl) (by simp [Value.oneCell']) (by unfold maxLen; omega) (by omega) (by simp; omega) ?_; intro v' w3 hown3 hgrow3 hsep3)
      have hrow3 : w3.ownsRow W1.heap.size 3 1 v' (j + 1) (places7 ps ++ [.int .i64 ((M2.length - 1 : Nat) : Int)]) := by rw [HN2.out]; exact hown3
      have hstep := HDL.out.step hlt HT.out (fun _ h => h.elim) (Below.refl _ _) HR2.out HQS.out HF2.out (by omega) HPS.out hrow3 hgrow3 hsep3
      rw [HN2.out] at hstep
      refine ⟨⟨j + 1, by omega, by go_num, Lib.hid ⟨M2, ?_⟩⟩, by simp [intOf]; omega⟩
      exact hstep
    · obtain rfl : l.length = j := by omega
      obtain ⟨Mj, hdl⟩ := HGL.out
      obtain ⟨gj, cj, rfl⟩ := hdl.row.slice
      have hbw : Below B W wz := ((QFr.of HB1.out (fun _ => False) v).trans hdl.fr).below (fun _ h => h.elim) (fun q e => by have := (HR.out.row.lt q e).1; omega) (by omega)
      have hsz1 := hdl.fr.size
      have hbx : wz.heap[W.heap.size]? = some (Obj.cells #[.int .i64 k, .string s, .int .i64 m, .slice ga l.length ca] 27 (0, 0)) := (hdl.fr.block _ l0 (fun h => h) (fun e => by have := HV.out _ e; omega)).trans HX1.out
      obtain ⟨⟨x0, x1, x2, x3⟩, _⟩ := row4 hbx
      have hMj : Mj.length ≤ 1000000 := by
        have h1 : Mj.length = M.length + Tm.sizes l := by rw [← qsOf_length Mj, hdl.qs, partsTos_len _ (fun t _ L => partsTo_len t L), qsOf_length, List.take_length]
        have h4 := HMAX.out
        simp only [Tm.size] at h4
        omega
      have HDL := Lib.hid hdl
      have lxz : W.heap.size < wz.heap.size := by omega
      have hina := Tm.inn_below HA.out hbw (Nat.le_refl _)
      have HIN := Lib.hid hina
      obtain ⟨ga5, ca5, e5⟩ := owns_slice hdl.own
      subst e5
      obtain ⟨i0, hi, hz0, hz1, hz2⟩ := info_parts qTyD.info
      have hlz := hdl.row.lo'
      clear hdl hbx hbw hina
      go_wp2_with (at_builtin; refine wpList_append_sep _ rfl _ _ 76 rfl lo 79 i0 _ 5 80 qTyD.und hi hz0 hz1 hz2 rfl (by decide) (.slice gj Mj.length cj) Mj.length (qRow Mj) rfl (HDL.out.row.row.alloc _) ⟨wz.heap.size, 0, none⟩ 1 1 [.int .i64 k, .string s, .int .i64 m, .slice ga l.length ca, .slice ga5 l.length ca5] rfl (by decide) rfl (news5e _ rfl) one5e (by unfold maxLen; omega) (by omega) (by simp; omega) ?_; intro v' w3 hown3 hgrow3 hsep3)
      go_ret
      obtain ⟨M', h1, h2, h3, _⟩ := HDL.out.done rfl (fun b hb => HOK.out b (by omega)) (by omega) HIN.out hown3 hgrow3 hsep3
      exact ⟨v', M', rfl, h1, h2, (QFr.of HB1.out (fun _ => False) v).trans h3⟩
end Go.Proofs.Ytomdccejgmhfoaa
