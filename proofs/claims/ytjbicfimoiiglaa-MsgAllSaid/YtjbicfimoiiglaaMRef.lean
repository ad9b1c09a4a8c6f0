/-
  The document's Pairs: the pairs that differ, behind others.
-/
import Derived.Test.YtjbicfimoiiglaaMGen
namespace Go.Proofs.Ytjbicfimoiiglaa
open Go.RowKit Go.Shelf Go.Maps

/-- Both terms in boxes, and what lies below. -/
structure DB (w : World) (a b : Tm) (sa sb : Value) (W : World) : Prop where
  below : Below w.heap.size w W
  ba : W.heap[w.heap.size]? = some (Obj.cells #[.int .i64 a.kind, .string a.name, .int .i64 a.n, sa] 24 (0, 0))
  bb : W.heap[w.heap.size + 1]? = some (Obj.cells #[.int .i64 b.kind, .string b.name, .int .i64 b.n, sb] 24 (0, 0))
theorem DB.size {w : World} {a b : Tm} {sa sb : Value} {W : World} (h : DB w a b sa sb W) : w.heap.size + 1 < W.heap.size := (Array.getElem?_eq_some_iff.1 h.bb).1
theorem DB.next {w : World} {a b : Tm} {sa sb : Value} {W W' : World} (h : DB w a b sa sb W) (hb : Below W.heap.size W W') : DB w a b sa sb W' :=
  have hs := h.size
  ⟨h.below.trans (hb.mono h.below.size), (hb.block _ (by omega)).trans h.ba, (hb.block _ hs).trans h.bb⟩
theorem DB.start (w : World) (a b : Tm) (sa sb : Value) : DB w a b sa sb ((w.alloc (Obj.cells #[.int .i64 a.kind, .string a.name, .int .i64 a.n, sa] 24 (0, 0))).alloc (Obj.cells #[.int .i64 b.kind, .string b.name, .int .i64 b.n, sb] 24 (0, 0))) :=
  ⟨((Below.refl _ _).alloc (Nat.le_refl _) _).alloc (by simp) _, (Below.heap_alloc _ _ _ (by simp)).trans (newBlk _ _ _ rfl), newBlk _ _ _ (by simp)⟩
theorem cellsQ_keep {W W' : World} {B : Nat} {l : List (Tm × Tm)} {xs : List Value} (h : cellsQ W B l xs) (hB : ∀ b, b < B → W'.heap[b]? = W.heap[b]?) : cellsQ W' B l xs :=
  cellsQ_same (Nat.le_refl _) (fun b o _ hlt hc => (World.cell?_of_block (a := ⟨b, o, none⟩) (hB b hlt)).trans hc) _ _ h
/-- A source in a block of its own stays. -/
theorem srcPrs_keep {W W' : World} {B n : Nat} {l : List (Tm × Tm)} (h : srcPrs W B l (some ⟨n, 0, none⟩)) (hB : ∀ b, b < B → W'.heap[b]? = W.heap[b]?) (hn : W'.heap[n]? = W.heap[n]?) : srcPrs W' B l (some ⟨n, 0, none⟩) := by
  obtain ⟨xs, h1, h2⟩ := h
  refine ⟨xs, cellsQ_keep h1 hB, ?_⟩
  rcases h2 with h2 | ⟨a, e, hc⟩
  · exact .inl h2
  · injection e with e
    subst e
    exact .inr ⟨_, rfl, fun j u hj => (World.cell?_of_block (a := (⟨n, 0, none⟩ : Addr).add j) (by rw [Addr.add_lit]; exact hn)).trans (hc j u hj)⟩
theorem srcPrs_alloc {W : World} {B n : Nat} {l : List (Tm × Tm)} (h : srcPrs W B l (some ⟨n, 0, none⟩)) (o : Obj) (hB : B ≤ W.heap.size) (hn : n < W.heap.size) : srcPrs (W.alloc o) B l (some ⟨n, 0, none⟩) :=
  srcPrs_keep h (fun _ hb => Below.heap_alloc _ _ _ (by omega)) (Below.heap_alloc _ _ _ hn)
theorem srcPrs_grown {W W' : World} {B n : Nat} {l : List (Tm × Tm)} {row : Option Nat} (h : srcPrs W B l (some ⟨n, 0, none⟩)) (hg : W.grownBy W' row) (hB : B ≤ W.heap.size) (hn : n < W.heap.size) (hr : ∀ q, row = some q → B ≤ q ∧ q ≠ n) : srcPrs W' B l (some ⟨n, 0, none⟩) :=
  srcPrs_keep h (fun b hb => hg.block b (by omega) (fun e => by have := (hr b e.symm).1; omega)) (hg.block n hn (fun e => (hr n e.symm).2 rfl))
/-- The list itself as a source, wherever the world has gone. -/
theorem prsM_src {W W' : World} {B : Nat} {l : List (Tm × Tm)} {g : Option Addr} {m c : Nat} (h : prsM W B l (.slice g m c)) (hb : Below B W W') : srcPrs W' B l g := (prsM_below h hb (Nat.le_refl _)).src
/-- Eight cells: both boxes'. -/
theorem s8_keep {W W' : World} {A Y : Nat} {a0 a1 a2 a3 b0 b1 b2 b3 : Value} (hA : W'.heap[A]? = W.heap[A]?) (hY : W'.heap[Y]? = W.heap[Y]?)
    (h : W.cell? ⟨A, 0, none⟩ = some a0 ∧ W.cell? ⟨A, 1, none⟩ = some a1 ∧ W.cell? ⟨A, 2, none⟩ = some a2 ∧ W.cell? ⟨A, 3, none⟩ = some a3 ∧ W.cell? ⟨Y, 0, none⟩ = some b0 ∧ W.cell? ⟨Y, 1, none⟩ = some b1 ∧ W.cell? ⟨Y, 2, none⟩ = some b2 ∧ W.cell? ⟨Y, 3, none⟩ = some b3) :
    W'.cell? ⟨A, 0, none⟩ = some a0 ∧ W'.cell? ⟨A, 1, none⟩ = some a1 ∧ W'.cell? ⟨A, 2, none⟩ = some a2 ∧ W'.cell? ⟨A, 3, none⟩ = some a3 ∧ W'.cell? ⟨Y, 0, none⟩ = some b0 ∧ W'.cell? ⟨Y, 1, none⟩ = some b1 ∧ W'.cell? ⟨Y, 2, none⟩ = some b2 ∧ W'.cell? ⟨Y, 3, none⟩ = some b3 := by
  obtain ⟨h0, h1, h2, h3, h4, h5, h6, h7⟩ := h
  exact ⟨(World.cell?_of_block (a := ⟨A, 0, none⟩) hA).trans h0, (World.cell?_of_block (a := ⟨A, 1, none⟩) hA).trans h1, (World.cell?_of_block (a := ⟨A, 2, none⟩) hA).trans h2, (World.cell?_of_block (a := ⟨A, 3, none⟩) hA).trans h3,
    (World.cell?_of_block (a := ⟨Y, 0, none⟩) hY).trans h4, (World.cell?_of_block (a := ⟨Y, 1, none⟩) hY).trans h5, (World.cell?_of_block (a := ⟨Y, 2, none⟩) hY).trans h6, (World.cell?_of_block (a := ⟨Y, 3, none⟩) hY).trans h7⟩
theorem if_pos_wanted {ops : Array Oper} {o : Oper} {a : Act} {P E : Prop} (hgd : o.guard = none) (h : P) : if Region.wanted o (yielded ops a.tmps) = true then P else E := by
  rw [if_pos (by simp [Region.wanted, hgd])]
  exact h
def RPairsAt (a : Tm) : Prop := ∀ (b : Tm) (L : List (Tm × Tm)) (w : World) (B : Nat) (svl sa sb : Value), B ≤ w.heap.size → prsM w w.heap.size L svl → Tm.inn w B a sa → Tm.inn w B b sb → L.length + a.size ≤ 1000000 →
  Calls Try.prog 20 #[svl, .agg #[.int .i64 a.kind, .string a.name, .int .i64 a.n, sa], .agg #[.int .i64 b.kind, .string b.name, .int .i64 b.n, sb]] w
    fun e w' => ∃ v', e = .returned v' ∧ prsM w' w'.heap.size (prsT L a b) v' ∧ Below w.heap.size w w'
set_option maxRecDepth 100000 in
set_option maxHeartbeats 8000000 in
theorem rpairs_any : ∀ a : Tm, RPairsAt a := by
  refine Tm.ind fun k s n l ih b L w B svl sa sb hB hl ha hb hmax => ?_
  obtain ⟨k', s', n', us⟩ := b
  obtain ⟨gl, cl, rfl, hcl, hll, _⟩ := id hl
  obtain ⟨_, ga, ca, rfl, hca, hla, _⟩ := Tm.inn_mk.1 ha
  obtain ⟨_, gb, cb, rfl, hcb, hlb, _⟩ := Tm.inn_mk.1 hb
  have hdb := DB.start w (.mk k s n l) (.mk k' s' n' us) (.slice ga l.length ca) (.slice gb us.length cb)
  simp only [mk_kind, mk_name, mk_n] at hdb ⊢
  obtain ⟨W0, hW⟩ : ∃ W0, ((w.alloc (Obj.cells #[.int .i64 k, .string s, .int .i64 n, .slice ga l.length ca] 24 (0, 0))).alloc (Obj.cells #[.int .i64 k', .string s', .int .i64 n', .slice gb us.length cb] 24 (0, 0))) = W0 := ⟨_, rfl⟩
  rw [hW] at hdb
  have hs0 := hdb.below.size
  obtain ⟨q, hq⟩ : ∃ q, likeB (.mk k s n l) (.mk k' s' n' us) = q := ⟨_, rfl⟩
  have hli := like_any (.mk k s n l) (.mk k' s' n' us) W0 B _ _ (Tm.inn_below ha hdb.below hB) (Tm.inn_below hb hdb.below hB)
  rw [hq] at hli
  simp only [mk_kind, mk_name, mk_n] at hli
  have HLI := Lib.hid hli
  have HW := Lib.hid hW
  have D0 := Lib.hid hdb
  have HL := Lib.hid hl
  have HA := Lib.hid ha
  have HB := Lib.hid hb
  have HMX := Lib.hid hmax
  have HIH := Lib.hid ih
  have HQ := Lib.hid hq
  clear hli hW hdb hl ha hb hmax ih hq
  cases q with
  | false =>
    go_enter Try.func20, Try.ntmps20
    go_wp2_with fail
    rw [HW.out]
    refine HLI.out.mono ?_
    rintro e W1 ⟨rfl, hb1⟩
    have D1 := Lib.hid (D0.out.next hb1)
    have L1 := Lib.hid (prsM_held HL.out D1.out.below)
    have hs1 := D1.out.below.size
    have A1 := Lib.hid (Tm.inn_mono (Tm.inn_below HA.out D1.out.below hB) (Nat.le_trans hB hs1))
    have B1 := Lib.hid (Tm.inn_mono (Tm.inn_below HB.out D1.out.below hB) (Nat.le_trans hB hs1))
    have hat := at6_any L (.mk k s n l) (.mk k' s' n' us) W1 W1.heap.size _ _ _ (Nat.le_refl _) L1.out A1.out B1.out
    simp only [mk_kind, mk_name, mk_n] at hat
    have HAT := Lib.hid hat
    have lb1 := D1.out.size
    have la1 : w.heap.size < W1.heap.size := by omega
    obtain ⟨⟨a0, a1, a2, a3⟩, _⟩ := row4 D1.out.ba
    obtain ⟨⟨b0, b1, b2, b3⟩, _⟩ := row4 D1.out.bb
    simp only [mk_kind, mk_name, mk_n] at a0 a1 a2 a3 b0 b1 b2 b3
    clear hat hb1 HLI HW
    go_wp2_with fail
    refine HAT.out.mono ?_
    rintro e W2 ⟨rfl, hb2⟩
    have D2 := Lib.hid (D1.out.next hb2)
    have L2 := Lib.hid (prsM_held L1.out hb2)
    have hs2 := hb2.size
    have A2 := Lib.hid (Tm.inn_mono (Tm.inn_below A1.out hb2 (Nat.le_refl _)) hs2)
    have B2 := Lib.hid (Tm.inn_mono (Tm.inn_below B1.out hb2 (Nat.le_refl _)) hs2)
    obtain ⟨⟨c0, c1, c2, c3⟩, _⟩ := row4 D2.out.ba
    obtain ⟨⟨d0, d1, d2, d3⟩, _⟩ := row4 D2.out.bb
    simp only [mk_kind, mk_name, mk_n] at c0 c1 c2 c3 d0 d1 d2 d3
    clear a0 a1 a2 a3 b0 b1 b2 b3 hb2 HAT D1 L1 A1 B1
    by_cases hm : ((Tm.mk k s n l, Tm.mk k' s' n' us) : Tm × Tm) ∈ L
    · have hr : prsT L (.mk k s n l) (.mk k' s' n' us) = L := by rw [prs_unlike HQ.out]; unfold addP; rw [if_pos hm]
      have ha : atP L (Tm.mk k s n l, Tm.mk k' s' n' us) = (L.idxOf (Tm.mk k s n l, Tm.mk k' s' n' us) : Int) := by unfold atP; rw [if_pos hm]
      have HR := Lib.hid hr
      rw [ha]
      obtain ⟨i, hi⟩ : ∃ i, L.idxOf (Tm.mk k s n l, Tm.mk k' s' n' us) = i := ⟨_, rfl⟩
      rw [hi]
      have hnn : ¬ ((i : Int) < 0) := by omega
      clear hr ha hm hi
      go_wp2_with fail
      go_ret
      exact ⟨_, rfl, by rw [HR.out]; exact L2.out, D2.out.below⟩
    · have hr : prsT L (.mk k s n l) (.mk k' s' n' us) = L ++ [(Tm.mk k s n l, Tm.mk k' s' n' us)] := by rw [prs_unlike HQ.out]; unfold addP; rw [if_neg hm]
      have ha : atP L (Tm.mk k s n l, Tm.mk k' s' n' us) = -1 := by unfold atP; rw [if_neg hm]
      have HR := Lib.hid hr
      rw [ha]
      clear hr ha hm
      have hlm : L.length ≤ 1000000 := by have := HMX.out; omega
      have hs8 : (fun W' : World => W'.cell? ⟨w.heap.size, 0, none⟩ = some (.int .i64 k) ∧ W'.cell? ⟨w.heap.size, 1, none⟩ = some (.string s) ∧ W'.cell? ⟨w.heap.size, 2, none⟩ = some (.int .i64 n) ∧ W'.cell? ⟨w.heap.size, 3, none⟩ = some (.slice ga l.length ca) ∧ W'.cell? ⟨w.heap.size + 1, 0, none⟩ = some (.int .i64 k') ∧ W'.cell? ⟨w.heap.size + 1, 1, none⟩ = some (.string s') ∧ W'.cell? ⟨w.heap.size + 1, 2, none⟩ = some (.int .i64 n') ∧ W'.cell? ⟨w.heap.size + 1, 3, none⟩ = some (.slice gb us.length cb)) W2.drew := ⟨c0, c1, c2, c3, d0, d1, d2, d3⟩
      obtain ⟨N, hN⟩ : ∃ N, W2.heap.size = N := ⟨_, rfl⟩
      have lN : w.heap.size + 1 < N := by rw [← hN]; exact D2.out.size
      have HN := Lib.hid hN
      clear hN
      clear c0 c1 c2 c3 d0 d1 d2 d3
      go_wp2_with fail
      refine wp_region_held_drew (S := fun W' => W'.cell? ⟨w.heap.size, 0, none⟩ = some (.int .i64 k) ∧ W'.cell? ⟨w.heap.size, 1, none⟩ = some (.string s) ∧ W'.cell? ⟨w.heap.size, 2, none⟩ = some (.int .i64 n) ∧ W'.cell? ⟨w.heap.size, 3, none⟩ = some (.slice ga l.length ca) ∧ W'.cell? ⟨w.heap.size + 1, 0, none⟩ = some (.int .i64 k') ∧ W'.cell? ⟨w.heap.size + 1, 1, none⟩ = some (.string s') ∧ W'.cell? ⟨w.heap.size + 1, 2, none⟩ = some (.int .i64 n') ∧ W'.cell? ⟨w.heap.size + 1, 3, none⟩ = some (.slice gb us.length cb)) (by kernel_rfl) hs8 (fun hHeld => ?_)
      clear hs8
      refine wpAnyH_take (i := 1) (oi := _) (v := ?_) rfl (by kernel_rfl) (by kernel_rfl) (by kernel_rfl) (fun _ _ _ h => h) (Or.inl ⟨by rfl, ?_⟩) hHeld ?_
      rotate_left
      · (intro w hSw; (try dsimp only at hSw); go_simp; try with_reducible rfl)
      try simp only [Act.put, List.setIfInBounds_toArray, List.getElem_toArray]
      refine wpAnyH_take (i := 3) (oi := _) (v := ?_) rfl (by kernel_rfl) (by kernel_rfl) (by kernel_rfl) (fun _ _ _ h => h) (Or.inl ⟨by rfl, ?_⟩) hHeld ?_
      rotate_left
      · (intro w hSw; (try dsimp only at hSw); go_simp; try with_reducible rfl)
      try simp only [Act.put, List.setIfInBounds_toArray, List.set_cons_zero, List.set_cons_succ, List.getElem_toArray, List.getElem_cons_zero, List.getElem_cons_succ]
      refine wpAnyH_take (i := 4) (oi := _) (v := ?_) rfl (by kernel_rfl) (by kernel_rfl) (by kernel_rfl) (fun _ _ _ h => h) (Or.inl ⟨by rfl, ?_⟩) hHeld ?_
      rotate_left
      · (intro w hSw; (try dsimp only at hSw); go_simp; try with_reducible rfl)
      try simp only [Act.put, List.setIfInBounds_toArray, List.set_cons_zero, List.set_cons_succ, List.getElem_toArray, List.getElem_cons_zero, List.getElem_cons_succ]
      refine wpAnyH_take (i := 5) (oi := _) (v := ?_) rfl (by kernel_rfl) (by kernel_rfl) (by kernel_rfl) (fun _ _ _ h => h) (Or.inl ⟨by rfl, ?_⟩) hHeld ?_
      rotate_left
      · (intro w hSw; (try dsimp only at hSw); go_simp; try with_reducible rfl)
      try simp only [Act.put, List.setIfInBounds_toArray, List.set_cons_zero, List.set_cons_succ, List.getElem_toArray, List.getElem_cons_zero, List.getElem_cons_succ]
      refine wpAnyH_ready (rs := [0, 6]) (by kernel_rfl) (by simp) ?_
      refine AllReadyH.cons (o := _) rfl (fun K hK => ?_) (AllReadyH.cons (o := _) rfl (fun K hK => ?_) (AllReadyH.nil))
      · skip
        go_simp
        obtain ⟨Y1, hY1⟩ : ∃ Y, (W2.alloc (Obj.cells #[] 70 (0, 0))).drew = Y := ⟨_, rfl⟩
        have hk1 : ∀ q, q < W2.heap.size → Y1.heap[q]? = W2.heap[q]? := fun q hq => by rw [← hY1]; exact Below.heap_alloc W2 _ _ hq
        have hw1 : Below W2.heap.size W2 Y1 := by rw [← hY1]; exact ((Below.refl _ _).alloc (Nat.le_refl _) _).drew
        have HZ1 := Lib.hid (show Y1.heap.size = W2.heap.size + 1 by rw [← hY1]; simp)
        have hb1 : Below N W2 Y1 := by have hN := HN.out; exact hN ▸ hw1
        have hrow1 : PRow Y1 N N 70 [] (.slice (some ⟨W2.heap.size, 0, none⟩) 0 0) [] := by rw [← hY1]; exact (PRow.made (X := W2) (by have hN := HN.out; omega)).next ((Below.refl _ _).drew) (by have hN := HN.out; simp; omega)
        have hsx := s8_keep (W := W2) (W' := Y1) (hk1 _ (by have hN := HN.out; omega)) (hk1 _ (by have hN := HN.out; omega)) hHeld
        rw [hY1]
        clear hY1
        refine hK.out _ _ (hsx) (fun hHeld => ?_)
        clear hK K
        try simp only [Act.put, List.setIfInBounds_toArray, List.set_cons_zero, List.set_cons_succ, List.getElem_toArray, List.getElem_cons_zero, List.getElem_cons_succ]
        clear hsx
        refine wpAnyH_ready (rs := [2, 6]) (by kernel_rfl) (by simp) ?_
        refine AllReadyH.cons (o := _) rfl (fun K hK => ?_) (AllReadyH.cons (o := _) rfl (fun K hK => ?_) (AllReadyH.nil))
        · skip
          refine if_pos_wanted (by rfl) (wp_append_prs prTyD _ _ (by rfl) N N (.slice (some ⟨W2.heap.size, 0, none⟩) 0 0) [] _ (by rfl) hrow1 L gl L.length cl (by rfl) rfl (prsM_src (HN.out ▸ L2.out) hb1) (by simp; omega) (by have hN := HN.out; have hz1 := HZ1.out; omega) (Nat.le_refl _) ?_)
          intro v2 Y2 zs2 hrow2 hg2 hse2
          have hown2 := fun q (e : ((.slice (some ⟨W2.heap.size, 0, none⟩) 0 0) : Value).ownBlock = some q) => (hrow1).row.lt q e
          have hb2 : Below N W2 Y2 := (hb1).grown hg2 (by have hN := HN.out; have hz1 := HZ1.out; omega) (fun q e => (hown2 q e).1)
          have HZ2 := Lib.hid (show Y1.heap.size ≤ Y2.heap.size from hg2.size)
          have hsx := s8_keep (W' := Y2) (hg2.block _ (by have hN := HN.out; have hz1 := HZ1.out; omega) (fun e => by have := (hown2 _ e.symm).1; omega)) (hg2.block _ (by have hN := HN.out; have hz1 := HZ1.out; omega) (fun e => by have := (hown2 _ e.symm).1; omega)) hHeld
          refine hK.out _ _ (hsx) (fun hHeld => ?_)
          clear hK K
          try simp only [Act.put, List.setIfInBounds_toArray, List.set_cons_zero, List.set_cons_succ, List.getElem_toArray, List.getElem_cons_zero, List.getElem_cons_succ]
          clear hsx
          refine wpAnyH_ready (rs := [6]) (by kernel_rfl) (by simp) ?_
          refine AllReadyH.cons (o := _) rfl (fun K hK => ?_) (AllReadyH.nil)
          go_simp
          obtain ⟨Y3, hY3⟩ : ∃ Y, Y2.alloc (Obj.cells #[.int .i64 k, .string s, .int .i64 n, .slice ga l.length ca, .int .i64 k', .string s', .int .i64 n', .slice gb us.length cb] 70 (0, 0)) = Y := ⟨_, rfl⟩
          have hk3 : ∀ q, q < Y2.heap.size → Y3.heap[q]? = Y2.heap[q]? := fun q hq => by rw [← hY3]; exact Below.heap_alloc Y2 _ _ hq
          have hw3 : Below Y2.heap.size Y2 Y3 := by rw [← hY3]; exact ((Below.refl _ _).alloc (Nat.le_refl _) _)
          have HZ3 := Lib.hid (show Y3.heap.size = Y2.heap.size + 1 by rw [← hY3]; simp)
          have hb3 : Below N W2 Y3 := (hb2).trans (hw3.mono (by have hN := HN.out; have hz1 := HZ1.out; have hz2 := HZ2.out; omega))
          have hsrc3 : srcPrs Y3 N [((Tm.mk k s n l, Tm.mk k' s' n' us) : Tm × Tm)] (some ⟨Y2.heap.size, 0, none⟩) := by have hN := HN.out; rw [← hY3]; exact srcPrs_new (X := Y2) (x := ((Tm.mk k s n l, Tm.mk k' s' n' us) : Tm × Tm)) rfl (by have hN := HN.out; have hz1 := HZ1.out; have hz2 := HZ2.out; omega) (Tm.inn_below (hN ▸ A2.out) hb2 (Nat.le_refl _)) (Tm.inn_below (hN ▸ B2.out) hb2 (Nat.le_refl _))
          have hrow3 := (hrow2).next (W' := Y3) hw3 (by have hN := HN.out; have hz1 := HZ1.out; have hz2 := HZ2.out; omega)
          have hsx := s8_keep (W := Y2) (W' := Y3) (hk3 _ (by have hN := HN.out; have hz1 := HZ1.out; have hz2 := HZ2.out; omega)) (hk3 _ (by have hN := HN.out; have hz1 := HZ1.out; have hz2 := HZ2.out; omega)) hHeld
          rw [hY3]
          clear hY3
          refine hK.out _ _ (hsx) (fun hHeld => ?_)
          clear hK K
          try simp only [Act.put, List.setIfInBounds_toArray, List.set_cons_zero, List.set_cons_succ, List.getElem_toArray, List.getElem_cons_zero, List.getElem_cons_succ]
          clear hsx
          refine wpAnyH_ready (rs := [7]) (by kernel_rfl) (by simp) ?_
          refine AllReadyH.cons (o := _) rfl (fun K hK => ?_) (AllReadyH.nil)
          refine if_pos_wanted (by rfl) (wp_append_prs prTyD _ _ (by rfl) N N v2 ([] ++ L) _ (by rfl) hrow3 [((Tm.mk k s n l, Tm.mk k' s' n' us) : Tm × Tm)] (some ⟨Y2.heap.size, 0, none⟩) 1 1 (by rfl) rfl hsrc3 (by simp; omega) (by have hN := HN.out; have hz1 := HZ1.out; have hz2 := HZ2.out; have hz3 := HZ3.out; omega) (Nat.le_refl _) ?_)
          intro v4 Y4 zs4 hrow4 hg4 hse4
          have hown4 := fun q (e : (v2 : Value).ownBlock = some q) => (hrow3).row.lt q e
          have hb4 : Below N W2 Y4 := (hb3).grown hg4 (by have hN := HN.out; have hz1 := HZ1.out; have hz2 := HZ2.out; have hz3 := HZ3.out; omega) (fun q e => (hown4 q e).1)
          have HZ4 := Lib.hid (show Y3.heap.size ≤ Y4.heap.size from hg4.size)
          have hsx := s8_keep (W' := Y4) (hg4.block _ (by have hN := HN.out; have hz1 := HZ1.out; have hz2 := HZ2.out; have hz3 := HZ3.out; omega) (fun e => by have := (hown4 _ e.symm).1; omega)) (hg4.block _ (by have hN := HN.out; have hz1 := HZ1.out; have hz2 := HZ2.out; have hz3 := HZ3.out; omega) (fun e => by have := (hown4 _ e.symm).1; omega)) hHeld
          refine hK.out _ _ (hsx) (fun hHeld => ?_)
          clear hK K
          try simp only [Act.put, List.setIfInBounds_toArray, List.set_cons_zero, List.set_cons_succ, List.getElem_toArray, List.getElem_cons_zero, List.getElem_cons_succ]
          clear hsx
          refine wpAnyH_ready (rs := [8]) (by kernel_rfl) (by simp) ?_
          refine AllReadyH.cons (o := _) rfl (fun K hK => ?_) AllReadyH.nil
          go_simp
          refine hK.out _ _ (hHeld) (fun hHeld => ?_)
          clear hK K
          try simp only [Act.put, List.setIfInBounds_toArray, List.set_cons_zero, List.set_cons_succ, List.getElem_toArray, List.getElem_cons_zero, List.getElem_cons_succ]
          refine wpAnyH_done (by kernel_rfl) ?_ _
          go_wp2_with fail
          go_ret
          exact ⟨_, rfl, by rw [HR.out]; exact (hrow4).reads (by have hN := HN.out; have hz1 := HZ1.out; have hz2 := HZ2.out; have hz3 := HZ3.out; have hz4 := HZ4.out; omega) (by simp; omega), (D2.out.below).trans (hb4.mono (by omega))⟩
        · skip
          go_simp
          obtain ⟨Y2, hY2⟩ : ∃ Y, Y1.alloc (Obj.cells #[.int .i64 k, .string s, .int .i64 n, .slice ga l.length ca, .int .i64 k', .string s', .int .i64 n', .slice gb us.length cb] 70 (0, 0)) = Y := ⟨_, rfl⟩
          have hk2 : ∀ q, q < Y1.heap.size → Y2.heap[q]? = Y1.heap[q]? := fun q hq => by rw [← hY2]; exact Below.heap_alloc Y1 _ _ hq
          have hw2 : Below Y1.heap.size Y1 Y2 := by rw [← hY2]; exact ((Below.refl _ _).alloc (Nat.le_refl _) _)
          have HZ2 := Lib.hid (show Y2.heap.size = Y1.heap.size + 1 by rw [← hY2]; simp)
          have hb2 : Below N W2 Y2 := (hb1).trans (hw2.mono (by have hN := HN.out; have hz1 := HZ1.out; omega))
          have hsrc2 : srcPrs Y2 N [((Tm.mk k s n l, Tm.mk k' s' n' us) : Tm × Tm)] (some ⟨Y1.heap.size, 0, none⟩) := by have hN := HN.out; rw [← hY2]; exact srcPrs_new (X := Y1) (x := ((Tm.mk k s n l, Tm.mk k' s' n' us) : Tm × Tm)) rfl (by have hN := HN.out; have hz1 := HZ1.out; omega) (Tm.inn_below (hN ▸ A2.out) hb1 (Nat.le_refl _)) (Tm.inn_below (hN ▸ B2.out) hb1 (Nat.le_refl _))
          have hrow2 := (hrow1).next (W' := Y2) hw2 (by have hN := HN.out; have hz1 := HZ1.out; omega)
          have hsx := s8_keep (W := Y1) (W' := Y2) (hk2 _ (by have hN := HN.out; have hz1 := HZ1.out; omega)) (hk2 _ (by have hN := HN.out; have hz1 := HZ1.out; omega)) hHeld
          rw [hY2]
          clear hY2
          refine hK.out _ _ (hsx) (fun hHeld => ?_)
          clear hK K
          try simp only [Act.put, List.setIfInBounds_toArray, List.set_cons_zero, List.set_cons_succ, List.getElem_toArray, List.getElem_cons_zero, List.getElem_cons_succ]
          clear hsx
          refine wpAnyH_ready (rs := [2]) (by kernel_rfl) (by simp) ?_
          refine AllReadyH.cons (o := _) rfl (fun K hK => ?_) (AllReadyH.nil)
          refine if_pos_wanted (by rfl) (wp_append_prs prTyD _ _ (by rfl) N N (.slice (some ⟨W2.heap.size, 0, none⟩) 0 0) [] _ (by rfl) hrow2 L gl L.length cl (by rfl) rfl (prsM_src (HN.out ▸ L2.out) hb2) (by simp; omega) (by have hN := HN.out; have hz1 := HZ1.out; have hz2 := HZ2.out; omega) (Nat.le_refl _) ?_)
          intro v3 Y3 zs3 hrow3 hg3 hse3
          have hown3 := fun q (e : ((.slice (some ⟨W2.heap.size, 0, none⟩) 0 0) : Value).ownBlock = some q) => (hrow2).row.lt q e
          have hb3 : Below N W2 Y3 := (hb2).grown hg3 (by have hN := HN.out; have hz1 := HZ1.out; have hz2 := HZ2.out; omega) (fun q e => (hown3 q e).1)
          have HZ3 := Lib.hid (show Y2.heap.size ≤ Y3.heap.size from hg3.size)
          have hsrc3 := srcPrs_grown hsrc2 hg3 (by have hN := HN.out; have hz1 := HZ1.out; have hz2 := HZ2.out; omega) (by have hN := HN.out; have hz1 := HZ1.out; have hz2 := HZ2.out; omega) (fun q e => ⟨(hown3 q e).1, by have e2 := Option.some.inj (show some (W2.heap.size) = some q from e); have hN := HN.out; have hz1 := HZ1.out; have hz2 := HZ2.out; omega⟩)
          have hsx := s8_keep (W' := Y3) (hg3.block _ (by have hN := HN.out; have hz1 := HZ1.out; have hz2 := HZ2.out; omega) (fun e => by have := (hown3 _ e.symm).1; omega)) (hg3.block _ (by have hN := HN.out; have hz1 := HZ1.out; have hz2 := HZ2.out; omega) (fun e => by have := (hown3 _ e.symm).1; omega)) hHeld
          refine hK.out _ _ (hsx) (fun hHeld => ?_)
          clear hK K
          try simp only [Act.put, List.setIfInBounds_toArray, List.set_cons_zero, List.set_cons_succ, List.getElem_toArray, List.getElem_cons_zero, List.getElem_cons_succ]
          clear hsx
          refine wpAnyH_ready (rs := [7]) (by kernel_rfl) (by simp) ?_
          refine AllReadyH.cons (o := _) rfl (fun K hK => ?_) (AllReadyH.nil)
          refine if_pos_wanted (by rfl) (wp_append_prs prTyD _ _ (by rfl) N N v3 ([] ++ L) _ (by rfl) hrow3 [((Tm.mk k s n l, Tm.mk k' s' n' us) : Tm × Tm)] (some ⟨Y1.heap.size, 0, none⟩) 1 1 (by rfl) rfl hsrc3 (by simp; omega) (by have hN := HN.out; have hz1 := HZ1.out; have hz2 := HZ2.out; have hz3 := HZ3.out; omega) (Nat.le_refl _) ?_)
          intro v4 Y4 zs4 hrow4 hg4 hse4
          have hown4 := fun q (e : (v3 : Value).ownBlock = some q) => (hrow3).row.lt q e
          have hb4 : Below N W2 Y4 := (hb3).grown hg4 (by have hN := HN.out; have hz1 := HZ1.out; have hz2 := HZ2.out; have hz3 := HZ3.out; omega) (fun q e => (hown4 q e).1)
          have HZ4 := Lib.hid (show Y3.heap.size ≤ Y4.heap.size from hg4.size)
          have hsx := s8_keep (W' := Y4) (hg4.block _ (by have hN := HN.out; have hz1 := HZ1.out; have hz2 := HZ2.out; have hz3 := HZ3.out; omega) (fun e => by have := (hown4 _ e.symm).1; omega)) (hg4.block _ (by have hN := HN.out; have hz1 := HZ1.out; have hz2 := HZ2.out; have hz3 := HZ3.out; omega) (fun e => by have := (hown4 _ e.symm).1; omega)) hHeld
          refine hK.out _ _ (hsx) (fun hHeld => ?_)
          clear hK K
          try simp only [Act.put, List.setIfInBounds_toArray, List.set_cons_zero, List.set_cons_succ, List.getElem_toArray, List.getElem_cons_zero, List.getElem_cons_succ]
          clear hsx
          refine wpAnyH_ready (rs := [8]) (by kernel_rfl) (by simp) ?_
          refine AllReadyH.cons (o := _) rfl (fun K hK => ?_) AllReadyH.nil
          go_simp
          refine hK.out _ _ (hHeld) (fun hHeld => ?_)
          clear hK K
          try simp only [Act.put, List.setIfInBounds_toArray, List.set_cons_zero, List.set_cons_succ, List.getElem_toArray, List.getElem_cons_zero, List.getElem_cons_succ]
          refine wpAnyH_done (by kernel_rfl) ?_ _
          go_wp2_with fail
          go_ret
          exact ⟨_, rfl, by rw [HR.out]; exact (hrow4).reads (by have hN := HN.out; have hz1 := HZ1.out; have hz2 := HZ2.out; have hz3 := HZ3.out; have hz4 := HZ4.out; omega) (by simp; omega), (D2.out.below).trans (hb4.mono (by omega))⟩
      · skip
        go_simp
        obtain ⟨Y1, hY1⟩ : ∃ Y, (W2.alloc (Obj.cells #[.int .i64 k, .string s, .int .i64 n, .slice ga l.length ca, .int .i64 k', .string s', .int .i64 n', .slice gb us.length cb] 70 (0, 0))).drew = Y := ⟨_, rfl⟩
        have hk1 : ∀ q, q < W2.heap.size → Y1.heap[q]? = W2.heap[q]? := fun q hq => by rw [← hY1]; exact Below.heap_alloc W2 _ _ hq
        have hw1 : Below W2.heap.size W2 Y1 := by rw [← hY1]; exact ((Below.refl _ _).alloc (Nat.le_refl _) _).drew
        have HZ1 := Lib.hid (show Y1.heap.size = W2.heap.size + 1 by rw [← hY1]; simp)
        have hb1 : Below N W2 Y1 := by have hN := HN.out; exact hN ▸ hw1
        have hsrc1 : srcPrs Y1 N [((Tm.mk k s n l, Tm.mk k' s' n' us) : Tm × Tm)] (some ⟨W2.heap.size, 0, none⟩) := by have hN := HN.out; rw [← hY1]; exact srcPrs_keep (srcPrs_new (X := W2) (x := ((Tm.mk k s n l, Tm.mk k' s' n' us) : Tm × Tm)) rfl (by have hN := HN.out; omega) (Tm.inn_below (hN ▸ A2.out) (Below.refl N W2) (Nat.le_refl _)) (Tm.inn_below (hN ▸ B2.out) (Below.refl N W2) (Nat.le_refl _))) (fun _ _ => rfl) rfl
        have hsx := s8_keep (W := W2) (W' := Y1) (hk1 _ (by have hN := HN.out; omega)) (hk1 _ (by have hN := HN.out; omega)) hHeld
        rw [hY1]
        clear hY1
        refine hK.out _ _ (hsx) (fun hHeld => ?_)
        clear hK K
        try simp only [Act.put, List.setIfInBounds_toArray, List.set_cons_zero, List.set_cons_succ, List.getElem_toArray, List.getElem_cons_zero, List.getElem_cons_succ]
        clear hsx
        refine wpAnyH_ready (rs := [0]) (by kernel_rfl) (by simp) ?_
        refine AllReadyH.cons (o := _) rfl (fun K hK => ?_) (AllReadyH.nil)
        go_simp
        obtain ⟨Y2, hY2⟩ : ∃ Y, Y1.alloc (Obj.cells #[] 70 (0, 0)) = Y := ⟨_, rfl⟩
        have hk2 : ∀ q, q < Y1.heap.size → Y2.heap[q]? = Y1.heap[q]? := fun q hq => by rw [← hY2]; exact Below.heap_alloc Y1 _ _ hq
        have hw2 : Below Y1.heap.size Y1 Y2 := by rw [← hY2]; exact ((Below.refl _ _).alloc (Nat.le_refl _) _)
        have HZ2 := Lib.hid (show Y2.heap.size = Y1.heap.size + 1 by rw [← hY2]; simp)
        have hb2 : Below N W2 Y2 := (hb1).trans (hw2.mono (by have hN := HN.out; have hz1 := HZ1.out; omega))
        have hrow2 : PRow Y2 N N 70 [] (.slice (some ⟨Y1.heap.size, 0, none⟩) 0 0) [] := by rw [← hY2]; exact (PRow.made (X := Y1) (by have hN := HN.out; have hz1 := HZ1.out; omega))
        have hsrc2 : srcPrs Y2 N [((Tm.mk k s n l, Tm.mk k' s' n' us) : Tm × Tm)] (some ⟨W2.heap.size, 0, none⟩) := srcPrs_keep hsrc1 (fun q hq => hk2 q (by have hN := HN.out; have hz1 := HZ1.out; omega)) (hk2 _ (by have hN := HN.out; have hz1 := HZ1.out; omega))
        have hsx := s8_keep (W := Y1) (W' := Y2) (hk2 _ (by have hN := HN.out; have hz1 := HZ1.out; omega)) (hk2 _ (by have hN := HN.out; have hz1 := HZ1.out; omega)) hHeld
        rw [hY2]
        clear hY2
        refine hK.out _ _ (hsx) (fun hHeld => ?_)
        clear hK K
        try simp only [Act.put, List.setIfInBounds_toArray, List.set_cons_zero, List.set_cons_succ, List.getElem_toArray, List.getElem_cons_zero, List.getElem_cons_succ]
        clear hsx
        refine wpAnyH_ready (rs := [2]) (by kernel_rfl) (by simp) ?_
        refine AllReadyH.cons (o := _) rfl (fun K hK => ?_) (AllReadyH.nil)
        refine if_pos_wanted (by rfl) (wp_append_prs prTyD _ _ (by rfl) N N (.slice (some ⟨Y1.heap.size, 0, none⟩) 0 0) [] _ (by rfl) hrow2 L gl L.length cl (by rfl) rfl (prsM_src (HN.out ▸ L2.out) hb2) (by simp; omega) (by have hN := HN.out; have hz1 := HZ1.out; have hz2 := HZ2.out; omega) (Nat.le_refl _) ?_)
        intro v3 Y3 zs3 hrow3 hg3 hse3
        have hown3 := fun q (e : ((.slice (some ⟨Y1.heap.size, 0, none⟩) 0 0) : Value).ownBlock = some q) => (hrow2).row.lt q e
        have hb3 : Below N W2 Y3 := (hb2).grown hg3 (by have hN := HN.out; have hz1 := HZ1.out; have hz2 := HZ2.out; omega) (fun q e => (hown3 q e).1)
        have HZ3 := Lib.hid (show Y2.heap.size ≤ Y3.heap.size from hg3.size)
        have hsrc3 := srcPrs_grown hsrc2 hg3 (by have hN := HN.out; have hz1 := HZ1.out; have hz2 := HZ2.out; omega) (by have hN := HN.out; have hz1 := HZ1.out; have hz2 := HZ2.out; omega) (fun q e => ⟨(hown3 q e).1, by have e2 := Option.some.inj (show some (Y1.heap.size) = some q from e); have hN := HN.out; have hz1 := HZ1.out; have hz2 := HZ2.out; omega⟩)
        have hsx := s8_keep (W' := Y3) (hg3.block _ (by have hN := HN.out; have hz1 := HZ1.out; have hz2 := HZ2.out; omega) (fun e => by have := (hown3 _ e.symm).1; omega)) (hg3.block _ (by have hN := HN.out; have hz1 := HZ1.out; have hz2 := HZ2.out; omega) (fun e => by have := (hown3 _ e.symm).1; omega)) hHeld
        refine hK.out _ _ (hsx) (fun hHeld => ?_)
        clear hK K
        try simp only [Act.put, List.setIfInBounds_toArray, List.set_cons_zero, List.set_cons_succ, List.getElem_toArray, List.getElem_cons_zero, List.getElem_cons_succ]
        clear hsx
        refine wpAnyH_ready (rs := [7]) (by kernel_rfl) (by simp) ?_
        refine AllReadyH.cons (o := _) rfl (fun K hK => ?_) (AllReadyH.nil)
        refine if_pos_wanted (by rfl) (wp_append_prs prTyD _ _ (by rfl) N N v3 ([] ++ L) _ (by rfl) hrow3 [((Tm.mk k s n l, Tm.mk k' s' n' us) : Tm × Tm)] (some ⟨W2.heap.size, 0, none⟩) 1 1 (by rfl) rfl hsrc3 (by simp; omega) (by have hN := HN.out; have hz1 := HZ1.out; have hz2 := HZ2.out; have hz3 := HZ3.out; omega) (Nat.le_refl _) ?_)
        intro v4 Y4 zs4 hrow4 hg4 hse4
        have hown4 := fun q (e : (v3 : Value).ownBlock = some q) => (hrow3).row.lt q e
        have hb4 : Below N W2 Y4 := (hb3).grown hg4 (by have hN := HN.out; have hz1 := HZ1.out; have hz2 := HZ2.out; have hz3 := HZ3.out; omega) (fun q e => (hown4 q e).1)
        have HZ4 := Lib.hid (show Y3.heap.size ≤ Y4.heap.size from hg4.size)
        have hsx := s8_keep (W' := Y4) (hg4.block _ (by have hN := HN.out; have hz1 := HZ1.out; have hz2 := HZ2.out; have hz3 := HZ3.out; omega) (fun e => by have := (hown4 _ e.symm).1; omega)) (hg4.block _ (by have hN := HN.out; have hz1 := HZ1.out; have hz2 := HZ2.out; have hz3 := HZ3.out; omega) (fun e => by have := (hown4 _ e.symm).1; omega)) hHeld
        refine hK.out _ _ (hsx) (fun hHeld => ?_)
        clear hK K
        try simp only [Act.put, List.setIfInBounds_toArray, List.set_cons_zero, List.set_cons_succ, List.getElem_toArray, List.getElem_cons_zero, List.getElem_cons_succ]
        clear hsx
        refine wpAnyH_ready (rs := [8]) (by kernel_rfl) (by simp) ?_
        refine AllReadyH.cons (o := _) rfl (fun K hK => ?_) AllReadyH.nil
        go_simp
        refine hK.out _ _ (hHeld) (fun hHeld => ?_)
        clear hK K
        try simp only [Act.put, List.setIfInBounds_toArray, List.set_cons_zero, List.set_cons_succ, List.getElem_toArray, List.getElem_cons_zero, List.getElem_cons_succ]
        refine wpAnyH_done (by kernel_rfl) ?_ _
        go_wp2_with fail
        go_ret
        exact ⟨_, rfl, by rw [HR.out]; exact (hrow4).reads (by have hN := HN.out; have hz1 := HZ1.out; have hz2 := HZ2.out; have hz3 := HZ3.out; have hz4 := HZ4.out; omega) (by simp; omega), (D2.out.below).trans (hb4.mono (by omega))⟩
  | true =>
    have hm := (likeB_iff.1 HQ.out).2.2.2.2
    simp only [mk_args] at hm
    obtain ⟨m, hm1, hm2⟩ : ∃ m, l.length = m ∧ us.length = m := ⟨_, rfl, hm.symm⟩
    rw [hm1] at HW D0 HLI HA hca hla ⊢
    rw [hm2] at HW D0 HLI HB hcb hlb ⊢
    have HM1 := Lib.hid hm1
    have HM2 := Lib.hid hm2
    clear hm hm1 hm2
    go_enter Try.func20, Try.ntmps20
    go_wp2_with fail
    rw [HW.out]
    refine HLI.out.mono ?_
    rintro e W1 ⟨rfl, hb1⟩
    have D1 := Lib.hid (D0.out.next hb1)
    have L1 := Lib.hid (prsM_held HL.out D1.out.below)
    have lb1 := D1.out.size
    clear hb1 HLI HW
    go_wp2_with fail
    go_loopw [0, 7] (fun v i wr => ∃ j : Nat, j ≤ m ∧ i = .int .i64 j ∧ Hid (prsM wr wr.heap.size (prsTs L (l.take j) (us.take j)) v) ∧ Hid (DB w (.mk k s n l) (.mk k' s' n' us) (.slice ga m ca) (.slice gb m cb) wr)) (fun _ i _ => m - (intOf i).toNat)
    case atStart => exact ⟨0, Nat.zero_le _, rfl, by rw [prsTs_zero]; exact L1.out, D1.out⟩
    case round =>
      obtain ⟨wz, rfl⟩ : ∃ x, x = wr := ⟨_, rfl⟩
      obtain ⟨j, hj, rfl, hv, hd⟩ := hrel
      have HV := Lib.hid hv.out
      have HD := Lib.hid hd.out
      obtain ⟨⟨_, _, _, a3⟩, _⟩ := row4 HD.out.ba
      obtain ⟨⟨_, _, _, b3⟩, _⟩ := row4 HD.out.bb
      have lb := HD.out.size
      have la : w.heap.size < wz.heap.size := by omega
      have hbs := HD.out.below.size
      clear hv hd
      by_cases hlt : j < m
      · have hju : j < us.length := by rw [HM2.out]; exact hlt
        have hjl : j < l.length := by rw [HM1.out]; exact hlt
        obtain ⟨p, po, sx, hga, hpB, c0, c1, c2, c3, hix⟩ := Tm.sliceIn_get (Tm.sliceIn_below (Tm.inn_mk.1 HA.out).2 HD.out.below hB) j hjl
        obtain ⟨p', po', sy, hgb, hpB', d0, d1, d2, d3, hiy⟩ := Tm.sliceIn_get (Tm.sliceIn_below (Tm.inn_mk.1 HB.out).2 HD.out.below hB) j hju
        subst hga hgb
        have hpre : (prsTs L (l.take j) (us.take j)).length + l[j].size ≤ 1000000 := by
          have h1 := prsTs_length L (l.take j) (us.take j)
          have h2 := Tm.sizes_take_succ l j hjl
          have h3 := Tm.sizes_take_le l (j + 1)
          have h4 := HMX.out
          simp only [Tm.size] at h4
          omega
        have hsucc := prsTs_succ L l us j hjl (by rw [HM1.out, HM2.out])
        obtain ⟨Lj, hLj⟩ : ∃ Lj, prsTs L (l.take j) (us.take j) = Lj := ⟨_, rfl⟩
        have HVv := HV.out
        rw [hLj] at HVv hpre hsucc
        obtain ⟨gv, cv, rfl, hcv, hlv, _⟩ := id HVv
        have hcall := HIH.out l[j] (List.getElem_mem hjl) us[j] Lj wz.drew B _ sx sy (Nat.le_trans hB hbs) (prsM_held HVv ((Below.refl wz.heap.size wz).drew)) (Tm.inn_below hix ((Below.refl wz.heap.size wz).drew) (by omega)) (Tm.inn_below hiy ((Below.refl wz.heap.size wz).drew) (by omega)) hpre
        have HCALL := Lib.hid hcall
        have HSU := Lib.hid hsucc
        have lp : p < wz.heap.size := by omega
        have lp' : p' < wz.heap.size := by omega
        clear hcall hsucc hLj hpre HVv hix hiy HV
        go_wp2_with fail
        go_still_tail 11, (by kernel_rfl)
        go_wp2_with fail
        refine HCALL.out.mono ?_
        rintro e w2 ⟨v2, rfl, hv2, hb2⟩
        have HV2 := Lib.hid hv2
        have HD2 := Lib.hid (HD.out.next (((Below.refl wz.heap.size wz).drew).trans hb2))
        clear hv2 hb2 HCALL a3 b3 c0 c1 c2 c3 d0 d1 d2 d3
        go_wp2_with fail
        go_roundw
        case rel => exact ⟨j + 1, by omega, by go_num, by rw [HSU.out]; exact HV2.out, HD2.out⟩
        case measure => simp [intOf]; omega
      · obtain rfl : j = m := by omega
        have hpr := HV.out
        rw [prsTs_all L HM1.out HM2.out] at hpr
        have HPR := Lib.hid hpr
        clear hpr HV hlt hj
        go_wp2_with fail
        go_ret
        exact ⟨_, rfl, by rw [prs_like HQ.out]; exact HPR.out, HD.out.below⟩
end Go.Proofs.Ytjbicfimoiiglaa
