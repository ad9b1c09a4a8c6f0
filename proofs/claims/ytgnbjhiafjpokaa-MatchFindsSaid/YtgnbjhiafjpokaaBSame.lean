/-
  The document's Same of two lists of binds that are alike.
-/
import Derived.Test.YtgnbjhiafjpokaaFlat
import Derived.Test.YtgnbjhiafjpokaaRef
import Derived.Deep.RegionHeld3
namespace Go.Proofs.Ytgnbjhiafjpokaa
open Go.RowKit Go.Shelf Go.Maps

theorem tm_same_self (a : Tm) : a.same a = true := (Tm.same_iff a a).2 rfl
/-- What stays between the calls: what lay ahead, and both lists. -/
structure QSt (w : World) (l : List Bd) (sva svb : Value) (W : World) : Prop where
  hb : Below w.heap.size w W
  la : bdsIn W W.heap.size l sva
  lb : bdsIn W W.heap.size l svb
theorem QSt.next {w : World} {l : List Bd} {sva svb : Value} {W W' : World} (h : QSt w l sva svb W) (hb : Below W.heap.size W W') : QSt w l sva svb W' := ⟨h.hb.trans (hb.mono h.hb.size), bdsIn_held h.la hb, bdsIn_held h.lb hb⟩
theorem QSt.step {w : World} {l : List Bd} {sva svb : Value} {W W' : World} {b o b' o' N : Nat} {v0 v1 v2 v3 v4 u0 u1 u2 u3 u4 : Value} (hb : Below W.heap.size W W')
    (h : W.cell? ⟨b, o, none⟩ = some v0 ∧ W.cell? ⟨b, o + 1, none⟩ = some v1 ∧ W.cell? ⟨b, o + 2, none⟩ = some v2 ∧ W.cell? ⟨b, o + 3, none⟩ = some v3 ∧ W.cell? ⟨b, o + 4, none⟩ = some v4 ∧
      W.cell? ⟨b', o', none⟩ = some u0 ∧ W.cell? ⟨b', o' + 1, none⟩ = some u1 ∧ W.cell? ⟨b', o' + 2, none⟩ = some u2 ∧ W.cell? ⟨b', o' + 3, none⟩ = some u3 ∧ W.cell? ⟨b', o' + 4, none⟩ = some u4 ∧ (N ≤ W.heap.size ∧ QSt w l sva svb W)) (hbx : b < N) (hby : b' < N) :
    W'.cell? ⟨b, o, none⟩ = some v0 ∧ W'.cell? ⟨b, o + 1, none⟩ = some v1 ∧ W'.cell? ⟨b, o + 2, none⟩ = some v2 ∧ W'.cell? ⟨b, o + 3, none⟩ = some v3 ∧ W'.cell? ⟨b, o + 4, none⟩ = some v4 ∧
      W'.cell? ⟨b', o', none⟩ = some u0 ∧ W'.cell? ⟨b', o' + 1, none⟩ = some u1 ∧ W'.cell? ⟨b', o' + 2, none⟩ = some u2 ∧ W'.cell? ⟨b', o' + 3, none⟩ = some u3 ∧ W'.cell? ⟨b', o' + 4, none⟩ = some u4 ∧ (N ≤ W'.heap.size ∧ QSt w l sva svb W') := by
  obtain ⟨h0, h1, h2, h3, h4, k0, k1, k2, k3, k4, hN, hq⟩ := h
  have hlt : b < W.heap.size := by omega
  have hlt' : b' < W.heap.size := by omega
  exact ⟨(hb.cell (p := ⟨b, o, none⟩) hlt).trans h0, (hb.cell (p := ⟨b, o + 1, none⟩) hlt).trans h1, (hb.cell (p := ⟨b, o + 2, none⟩) hlt).trans h2, (hb.cell (p := ⟨b, o + 3, none⟩) hlt).trans h3, (hb.cell (p := ⟨b, o + 4, none⟩) hlt).trans h4,
    (hb.cell (p := ⟨b', o', none⟩) hlt').trans k0, (hb.cell (p := ⟨b', o' + 1, none⟩) hlt').trans k1, (hb.cell (p := ⟨b', o' + 2, none⟩) hlt').trans k2, (hb.cell (p := ⟨b', o' + 3, none⟩) hlt').trans k3, (hb.cell (p := ⟨b', o' + 4, none⟩) hlt').trans k4, Nat.le_trans hN hb.size, hq.next hb⟩
theorem bds_at {W : World} {B : Nat} {l : List Bd} {b o n c : Nat} (h : bdsIn W B l (.slice (some ⟨b, o, none⟩) n c)) {i : Nat} (hi : i < l.length) {sv : Value} (hc : W.cell? ⟨b, o + i * 5 + 4, none⟩ = some sv) : Tm.inn W B l[i].t sv := by
  obtain ⟨b', o', sv2, e1, _, _, _, _, _, q4, hin⟩ := bdsIn_get h i hi
  injection e1 with e1
  injection e1 with e1 e2
  subst e1 e2
  rw [hc] at q4
  injection q4 with q4
  subst q4
  exact hin

set_option maxRecDepth 100000 in
set_option maxHeartbeats 8000000 in
theorem bsame_any (l : List Bd) (w : World) (sva svb : Value) (ha : bdsIn w w.heap.size l sva) (hb : bdsIn w w.heap.size l svb) (hmax : l.length ≤ 1000000) :
    Calls Try.prog 27 #[sva, svb] w fun e w' => e = .returned (.bool true) ∧ Below w.heap.size w w' := by
  obtain ⟨ga, ca, rfl, _, _, _, _⟩ := id ha
  obtain ⟨gb, cb, rfl, _, _, _, _⟩ := id hb
  have HQ := Lib.hid (QSt.mk (Below.refl w.heap.size w) ha hb)
  clear ha hb
  go_enter Try.func27, Try.ntmps27
  go_wp2_with fail
  go_loopw [5] (fun ii wr => ∃ k : Nat, k ≤ l.length ∧ ii = .int .i64 k ∧ Hid (QSt w l (.slice ga l.length ca) (.slice gb l.length cb) wr)) (fun ii _ => l.length - (intOf ii).toNat)
  case atStart => exact ⟨0, Nat.zero_le _, rfl, HQ.out⟩
  case round =>
    obtain ⟨k, hk, rfl, hq⟩ := hrel
    have HQ1 := Lib.hid hq.out
    clear hq HQ
    by_cases hlt : k < l.length
    · obtain ⟨b, o, sv, hga, hbB, g0, g1, g2, g3, g4, hin⟩ := bdsIn_get HQ1.out.la k hlt
      subst hga
      obtain ⟨b', o', sv', hgb, hbB', k0, k1, k2, k3, k4, hin'⟩ := bdsIn_get HQ1.out.lb k hlt
      subst hgb
      obtain ⟨g1x, c1x, rfl⟩ := inn_slice hin
      obtain ⟨g2x, c2x, rfl⟩ := inn_slice hin'
      obtain ⟨N, hN⟩ : ∃ N, wr.heap.size = N := ⟨_, rfl⟩
      have hNle := Lib.hid (Nat.le_of_eq hN.symm)
      have hbx : b < N := by omega
      have hby : b' < N := by omega
      have hvv : (l[k].v != l[k].v) = false := by simp
      have HG := Lib.hid (QSt.step (N := N) ((Below.refl wr.heap.size wr).drew) ⟨g0, g1, g2, g3, g4, k0, k1, k2, k3, k4, hNle.out, HQ1.out⟩ hbx hby)
      have HRS := Lib.hid (fun (W : World) (h : N ≤ W.heap.size ∧ QSt w l (.slice (some ⟨b, o, none⟩) l.length ca) (.slice (some ⟨b', o', none⟩) l.length cb) W) (hc : W.cell? ⟨b, o + k * 5 + 4, none⟩ = some (.slice g1x l[k].t.args.length c1x)) (hc' : W.cell? ⟨b', o' + k * 5 + 4, none⟩ = some (.slice g2x l[k].t.args.length c2x)) => by
        have h1 := rsame_any l[k].t l[k].t W _ _ _ (Nat.le_refl _) (bds_at h.2.la hlt hc) (bds_at h.2.lb hlt hc')
        rw [tm_same_self l[k].t] at h1
        exact h1)
      clear g0 g1 g2 g3 g4 k0 k1 k2 k3 k4 hin hin' hN hbB hbB'
      go_wp2_with fail
      refine wp_region_held_drew (S := fun W' => W'.cell? ⟨b, o + k * 5, none⟩ = some (.int .i64 l[k].v) ∧ W'.cell? ⟨b, o + k * 5 + 1, none⟩ = some (.int .i64 l[k].t.kind) ∧ W'.cell? ⟨b, o + k * 5 + 2, none⟩ = some (.string l[k].t.name) ∧ W'.cell? ⟨b, o + k * 5 + 3, none⟩ = some (.int .i64 l[k].t.n) ∧ W'.cell? ⟨b, o + k * 5 + 4, none⟩ = some (.slice g1x l[k].t.args.length c1x) ∧
          W'.cell? ⟨b', o' + k * 5, none⟩ = some (.int .i64 l[k].v) ∧ W'.cell? ⟨b', o' + k * 5 + 1, none⟩ = some (.int .i64 l[k].t.kind) ∧ W'.cell? ⟨b', o' + k * 5 + 2, none⟩ = some (.string l[k].t.name) ∧ W'.cell? ⟨b', o' + k * 5 + 3, none⟩ = some (.int .i64 l[k].t.n) ∧ W'.cell? ⟨b', o' + k * 5 + 4, none⟩ = some (.slice g2x l[k].t.args.length c2x) ∧
          (N ≤ W'.heap.size ∧ QSt w l (.slice (some ⟨b, o, none⟩) l.length ca) (.slice (some ⟨b', o', none⟩) l.length cb) W')) (by kernel_rfl) HG.out (fun hHeld => ?_)
      refine wpAnyH_take (i := 0) (oi := _) (v := ?_) rfl (by kernel_rfl) (by kernel_rfl) (by kernel_rfl) (fun _ _ _ h => h) (Or.inl ⟨by rfl, ?_⟩) hHeld ?_
      rotate_left
      · (intro w hSw; (try dsimp only at hSw); go_simp; try with_reducible rfl)
      try simp only [Act.put, List.setIfInBounds_toArray, List.set_cons_zero, List.set_cons_succ, List.getElem_toArray, List.getElem_cons_zero]
      refine wpAnyH_take (i := 1) (oi := _) (v := ?_) rfl (by kernel_rfl) (by kernel_rfl) (by kernel_rfl) (fun _ _ _ h => h) (Or.inl ⟨by rfl, ?_⟩) hHeld ?_
      rotate_left
      · (intro w hSw; (try dsimp only at hSw); go_simp; try with_reducible rfl)
      try simp only [Act.put, List.setIfInBounds_toArray, List.set_cons_zero, List.set_cons_succ, List.getElem_toArray, List.getElem_cons_zero, List.getElem_cons_succ]
      refine wpAnyH_take (i := 2) (oi := _) (v := ?_) rfl (by kernel_rfl) (by kernel_rfl) (by kernel_rfl) (fun _ _ _ h => h) (Or.inl ⟨by rfl, ?_⟩) hHeld ?_
      rotate_left
      · (intro w hSw; (try dsimp only at hSw); go_simp; try with_reducible rfl)
      try simp only [Act.put, List.setIfInBounds_toArray, List.set_cons_zero, List.set_cons_succ, List.getElem_toArray, List.getElem_cons_zero, List.getElem_cons_succ]
      refine wpAnyH_take (i := 3) (oi := _) (v := ?_) rfl (by kernel_rfl) (by kernel_rfl) (by kernel_rfl) (fun _ _ _ h => h) (Or.inl ⟨by rfl, ?_⟩) hHeld ?_
      rotate_left
      · (intro w hSw; (try dsimp only at hSw); go_simp; try with_reducible rfl)
      try simp only [Act.put, List.setIfInBounds_toArray, List.set_cons_zero, List.set_cons_succ, List.getElem_toArray, List.getElem_cons_zero, List.getElem_cons_succ]
      refine wpAnyH_take (i := 4) (oi := _) (v := ?_) rfl (by kernel_rfl) (by kernel_rfl) (by kernel_rfl) (fun _ _ _ h => h) (Or.inl ⟨by rfl, ?_⟩) hHeld ?_
      rotate_left
      · (intro w hSw; (try dsimp only at hSw); go_simp; try with_reducible rfl)
      try simp only [Act.put, List.setIfInBounds_toArray, List.set_cons_zero, List.set_cons_succ, List.getElem_toArray, List.getElem_cons_zero, List.getElem_cons_succ]
      refine wpAnyH_take (i := 5) (oi := _) (v := ?_) rfl (by kernel_rfl) (by kernel_rfl) (by kernel_rfl) (fun _ _ _ h => h) (Or.inl ⟨by rfl, ?_⟩) hHeld ?_
      rotate_left
      · (intro w hSw; (try dsimp only at hSw); go_simp; try with_reducible rfl)
      try simp only [Act.put, List.setIfInBounds_toArray, List.set_cons_zero, List.set_cons_succ, List.getElem_toArray, List.getElem_cons_zero, List.getElem_cons_succ]
      refine wpAnyH_take (i := 6) (oi := _) (v := ?_) rfl (by kernel_rfl) (by kernel_rfl) (by kernel_rfl) (fun _ _ _ h => h) (Or.inl ⟨by rfl, ?_⟩) hHeld ?_
      rotate_left
      · (intro w hSw; (try dsimp only at hSw); go_simp; try with_reducible rfl)
      try simp only [Act.put, List.setIfInBounds_toArray, List.set_cons_zero, List.set_cons_succ, List.getElem_toArray, List.getElem_cons_zero, List.getElem_cons_succ]
      refine wpAnyH_take (i := 7) (oi := _) (v := ?_) rfl (by kernel_rfl) (by kernel_rfl) (by kernel_rfl) (fun _ _ _ h => h) (Or.inl ⟨by rfl, ?_⟩) hHeld ?_
      rotate_left
      · (intro w hSw; (try dsimp only at hSw); go_simp; try with_reducible rfl)
      try simp only [Act.put, List.setIfInBounds_toArray, List.set_cons_zero, List.set_cons_succ, List.getElem_toArray, List.getElem_cons_zero, List.getElem_cons_succ]
      refine wpAnyH_take (i := 8) (oi := _) (v := ?_) rfl (by kernel_rfl) (by kernel_rfl) (by kernel_rfl) (fun _ _ _ h => h) (Or.inl ⟨by rfl, ?_⟩) hHeld ?_
      rotate_left
      · (intro w hSw; (try dsimp only at hSw); go_simp; try with_reducible rfl)
      try simp only [Act.put, List.setIfInBounds_toArray, List.set_cons_zero, List.set_cons_succ, List.getElem_toArray, List.getElem_cons_zero, List.getElem_cons_succ]
      refine wpAnyH_take (i := 9) (oi := _) (v := ?_) rfl (by kernel_rfl) (by kernel_rfl) (by kernel_rfl) (fun _ _ _ h => h) (Or.inl ⟨by rfl, ?_⟩) hHeld ?_
      rotate_left
      · (intro w hSw; (try dsimp only at hSw); go_simp; try with_reducible rfl)
      try simp only [Act.put, List.setIfInBounds_toArray, List.set_cons_zero, List.set_cons_succ, List.getElem_toArray, List.getElem_cons_zero, List.getElem_cons_succ]
      refine wpAnyH_take (i := 10) (oi := _) (v := ?_) rfl (by kernel_rfl) (by kernel_rfl) (by kernel_rfl) (fun _ _ _ h => h) (Or.inl ⟨by rfl, ?_⟩) hHeld ?_
      rotate_left
      · (intro w hSw; (try dsimp only at hSw); go_simp; try with_reducible rfl)
      try simp only [Act.put, List.setIfInBounds_toArray, List.set_cons_zero, List.set_cons_succ, List.getElem_toArray, List.getElem_cons_zero, List.getElem_cons_succ]
      refine wpAnyH_take (i := 11) (oi := _) (v := ?_) rfl (by kernel_rfl) (by kernel_rfl) (by kernel_rfl) (fun _ _ _ h => h) (Or.inl ⟨by rfl, ?_⟩) hHeld ?_
      rotate_left
      · (intro w hSw; (try dsimp only at hSw); go_simp; try with_reducible rfl)
      try simp only [Act.put, List.setIfInBounds_toArray, List.set_cons_zero, List.set_cons_succ, List.getElem_toArray, List.getElem_cons_zero, List.getElem_cons_succ]
      refine wpAnyH_take (i := 12) (oi := _) (v := ?_) rfl (by kernel_rfl) (by kernel_rfl) (by kernel_rfl) (fun _ _ _ h => h) (Or.inl ⟨by rfl, ?_⟩) hHeld ?_
      rotate_left
      · (intro w hSw; (try dsimp only at hSw); go_simp; try with_reducible rfl)
      try simp only [Act.put, List.setIfInBounds_toArray, List.set_cons_zero, List.set_cons_succ, List.getElem_toArray, List.getElem_cons_zero, List.getElem_cons_succ]
      refine wpAnyH_take (i := 13) (oi := _) (v := ?_) rfl (by kernel_rfl) (by kernel_rfl) (by kernel_rfl) (fun _ _ _ h => h) (Or.inl ⟨by rfl, ?_⟩) hHeld ?_
      rotate_left
      · (intro w hSw; (try dsimp only at hSw); go_simp; try with_reducible rfl)
      try simp only [Act.put, List.setIfInBounds_toArray, List.set_cons_zero, List.set_cons_succ, List.getElem_toArray, List.getElem_cons_zero, List.getElem_cons_succ]
      refine wpAnyH_take (i := 14) (oi := _) (v := ?_) rfl (by kernel_rfl) (by kernel_rfl) (by kernel_rfl) (fun _ _ _ h => h) (Or.inl ⟨by rfl, ?_⟩) hHeld ?_
      rotate_left
      · (intro w hSw; (try dsimp only at hSw); go_simp; try with_reducible rfl)
      try simp only [Act.put, List.setIfInBounds_toArray, List.set_cons_zero, List.set_cons_succ, List.getElem_toArray, List.getElem_cons_zero, List.getElem_cons_succ]
      refine wpAnyH_take (i := 15) (oi := _) (v := ?_) rfl (by kernel_rfl) (by kernel_rfl) (by kernel_rfl) (fun _ _ _ h => h) (Or.inl ⟨by rfl, ?_⟩) hHeld ?_
      rotate_left
      · (intro w hSw; (try dsimp only at hSw); go_simp; try with_reducible rfl)
      try simp only [Act.put, List.setIfInBounds_toArray, List.set_cons_zero, List.set_cons_succ, List.getElem_toArray, List.getElem_cons_zero, List.getElem_cons_succ]
      refine wpAnyH_take (i := 16) (oi := _) (v := ?_) rfl (by kernel_rfl) (by kernel_rfl) (by kernel_rfl) (fun _ _ _ h => h) (Or.inl ⟨by rfl, ?_⟩) hHeld ?_
      rotate_left
      · (intro w hSw; (try dsimp only at hSw); go_simp; try with_reducible rfl)
      try simp only [Act.put, List.setIfInBounds_toArray, List.set_cons_zero, List.set_cons_succ, List.getElem_toArray, List.getElem_cons_zero, List.getElem_cons_succ]
      refine wpAnyH_take (i := 17) (oi := _) (v := ?_) rfl (by kernel_rfl) (by kernel_rfl) (by kernel_rfl) (fun _ _ _ h => h) (Or.inl ⟨by rfl, ?_⟩) hHeld ?_
      rotate_left
      · (intro w hSw; (try dsimp only at hSw); go_simp; try with_reducible rfl)
      try simp only [Act.put, List.setIfInBounds_toArray, List.set_cons_zero, List.set_cons_succ, List.getElem_toArray, List.getElem_cons_zero, List.getElem_cons_succ]
      refine wpAnyH_take (i := 18) (oi := _) (v := ?_) rfl (by kernel_rfl) (by kernel_rfl) (by kernel_rfl) (fun _ _ _ h => h) (Or.inl ⟨by rfl, ?_⟩) hHeld ?_
      rotate_left
      · (intro w hSw; (try dsimp only at hSw); go_simp; try with_reducible rfl)
      try simp only [Act.put, List.setIfInBounds_toArray, List.set_cons_zero, List.set_cons_succ, List.getElem_toArray, List.getElem_cons_zero, List.getElem_cons_succ]
      refine wpAnyH_take (i := 19) (oi := _) (v := ?_) rfl (by kernel_rfl) (by kernel_rfl) (by kernel_rfl) (fun _ _ _ h => h) (Or.inl ⟨by rfl, ?_⟩) hHeld ?_
      rotate_left
      · (intro w hSw; (try dsimp only at hSw); go_simp; try with_reducible rfl)
      try simp only [Act.put, List.setIfInBounds_toArray, List.set_cons_zero, List.set_cons_succ, List.getElem_toArray, List.getElem_cons_zero, List.getElem_cons_succ]
      refine wpAnyH_take (i := 20) (oi := _) (v := ?_) rfl (by kernel_rfl) (by kernel_rfl) (by kernel_rfl) (fun _ _ _ h => h) (Or.inl ⟨by rfl, ?_⟩) hHeld ?_
      rotate_left
      · (intro w hSw; (try dsimp only at hSw); go_simp; try with_reducible rfl)
      try simp only [Act.put, List.setIfInBounds_toArray, List.set_cons_zero, List.set_cons_succ, List.getElem_toArray, List.getElem_cons_zero, List.getElem_cons_succ]
      refine wpAnyH_take (i := 21) (oi := _) (v := ?_) rfl (by kernel_rfl) (by kernel_rfl) (by kernel_rfl) (fun _ _ _ h => h) (Or.inl ⟨by rfl, ?_⟩) hHeld ?_
      rotate_left
      · (intro w hSw; (try dsimp only at hSw); go_simp; try with_reducible rfl)
      try simp only [Act.put, List.setIfInBounds_toArray, List.set_cons_zero, List.set_cons_succ, List.getElem_toArray, List.getElem_cons_zero, List.getElem_cons_succ]
      refine wpAnyH_ready (rs := [22]) (by kernel_rfl) (by simp) ?_
      refine AllReadyH.cons (o := _) rfl (fun K hK => ?_) AllReadyH.nil
      go_simp
      refine (HRS.out _ hHeld.2.2.2.2.2.2.2.2.2.2 hHeld.2.2.2.2.1 hHeld.2.2.2.2.2.2.2.2.2.1).mono ?_
      rintro e w' ⟨rfl, hb⟩
      go_wp2_with fail
      refine hK.out _ _ (QSt.step hb hHeld hbx hby) (fun hHeld => ?_)
      clear hK K hb
      try simp only [Act.put, List.setIfInBounds_toArray, List.set_cons_zero, List.set_cons_succ, List.getElem_toArray, List.getElem_cons_zero, List.getElem_cons_succ]
      refine wpAnyH_take (i := 23) (oi := _) (v := ?_) rfl (by kernel_rfl) (by kernel_rfl) (by kernel_rfl) (fun _ _ _ h => h) (Or.inl ⟨by rfl, ?_⟩) hHeld ?_
      rotate_left
      · (intro w hSw; (try dsimp only at hSw); go_simp; try with_reducible rfl)
      try simp only [Act.put, List.setIfInBounds_toArray, List.set_cons_zero, List.set_cons_succ, List.getElem_toArray, List.getElem_cons_zero, List.getElem_cons_succ]
      refine wpAnyH_take (i := 24) (oi := _) (v := ?_) rfl (by kernel_rfl) (by kernel_rfl) (by kernel_rfl) (fun _ _ _ h => h) (Or.inl ⟨by rfl, ?_⟩) hHeld ?_
      rotate_left
      · (intro w hSw; (try dsimp only at hSw); go_simp; try with_reducible rfl)
      try simp only [Act.put, List.setIfInBounds_toArray, List.set_cons_zero, List.set_cons_succ, List.getElem_toArray, List.getElem_cons_zero, List.getElem_cons_succ]
      refine wpAnyH_done (by kernel_rfl) ?_ _
      have HF := Lib.hid hHeld.2.2.2.2.2.2.2.2.2.2.2
      clear hHeld
      go_wp2_with fail
      refine ⟨⟨k + 1, by omega, by go_num, HF.out⟩, ?_⟩
      simp [intOf]
      omega
    · obtain rfl : k = l.length := by omega
      go_wp2_with fail
      go_ret
      exact ⟨rfl, HQ1.out.hb⟩
end Go.Proofs.Ytgnbjhiafjpokaa
