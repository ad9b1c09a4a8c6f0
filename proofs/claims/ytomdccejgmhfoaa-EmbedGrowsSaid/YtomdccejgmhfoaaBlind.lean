/-
  The law's blind: a term whose Vars are all alike, and whose Nums are.
-/
import Derived.Test.YtomdccejgmhfoaaEPt
import Derived.Test.YtomdccejgmhfoaaTurnA
import Derived.Deep.RegionHeld3
namespace Go.Proofs.Ytomdccejgmhfoaa
open Go.RowKit Go.Shelf Go.Maps

theorem set4_row7 {W : World} {B : Nat} {a0 a1 a2 a3 : Value} {t : TypeId} (h : W.heap[B]? = some (Obj.cells #[a0, a1, a2, a3] t (0, 0))) (a b c d : Value) : ((((W.setCell ⟨B, 0, none⟩ a).setCell ⟨B, 1, none⟩ b).setCell ⟨B, 2, none⟩ c).setCell ⟨B, 3, none⟩ d).heap[B]? = some (Obj.cells #[a, b, c, d] t (0, 0)) :=
  set1_same (set1_same (set1_same (set1_same h a) b) c) d
theorem set4_fin7 {w w1 wf : World} {n r : Nat} {a0 a1 a2 a3 a b c d : Value} {t : TypeId} (hb : Below n w w1) (hn : n ≤ r) (hr : w1.heap[r]? = some (Obj.cells #[a0, a1, a2, a3] t (0, 0)))
    (hwf : ((((w1.setCell ⟨r, 0, none⟩ a).setCell ⟨r, 1, none⟩ b).setCell ⟨r, 2, none⟩ c).setCell ⟨r, 3, none⟩ d) = wf) : Below n w wf ∧ wf.heap[r]? = some (Obj.cells #[a, b, c, d] t (0, 0)) ∧ (∀ q, q ≠ r → wf.heap[q]? = w1.heap[q]?) ∧ w1.heap.size = wf.heap.size := by
  subst hwf
  have hbs := (((hb.setCell (p := ⟨r, 0, none⟩) hn a).setCell (p := ⟨r, 1, none⟩) hn b).setCell (p := ⟨r, 2, none⟩) hn c).setCell (p := ⟨r, 3, none⟩) hn d
  exact ⟨hbs, set4_row7 hr a b c d, fun q hne => set4_other _ _ _ _ _ _ q hne, by simp⟩
def BlindPost (w : World) (X : Tm) (e : Ending) (w' : World) : Prop :=
  ∃ g c, e = .returned (.agg #[.int .i64 X.kind, .string X.name, .int .i64 X.n, .slice g X.args.length c]) ∧ Tm.innP w' (fun q => w.heap.size ≤ q ∧ q < w'.heap.size) X (.slice g X.args.length c) ∧ Below w.heap.size w w'
def BlindAt (a : Tm) : Prop := ∀ (w : World) (B : Nat) (sa : Value), B ≤ w.heap.size → Tm.inn w B a sa →
  Calls Try.prog 38 #[.agg #[.int .i64 a.kind, .string a.name, .int .i64 a.n, sa]] w fun e w' => BlindPost w a.blind e w'
theorem blinds_length (l : List Tm) : (Tm.blinds l).length = l.length := by simp [Tm.blinds_map]
theorem blinds_take_succ (l : List Tm) (k : Nat) (h : k < l.length) : Tm.blinds (l.take (k + 1)) = Tm.blinds (l.take k) ++ [l[k].blind] := by
  rw [Tm.blinds_map, Tm.blinds_map, List.take_succ_eq_append_getElem h, List.map_append]; rfl
/-- Two boxes: the term's and the result's. -/
structure FB (w : World) (k : Int) (s : ByteArray) (n : Int) (sa : Value) (W : World) : Prop where
  below : Below w.heap.size w W
  ba : W.heap[w.heap.size]? = some (Obj.cells #[.int .i64 k, .string s, .int .i64 n, sa] 27 (0, 0))
  br : W.heap[w.heap.size + 1]? = some (Obj.cells #[.int .i64 0, .string ⟨#[]⟩, .int .i64 0, .slice none 0 0] 27 (0, 0))
theorem FB.size {w : World} {k : Int} {s : ByteArray} {n : Int} {sa : Value} {W : World} (h : FB w k s n sa W) : w.heap.size + 1 < W.heap.size := (Array.getElem?_eq_some_iff.1 h.br).1
theorem FB.next {w : World} {k : Int} {s : ByteArray} {n : Int} {sa : Value} {W W' : World} {m : Nat} (h : FB w k s n sa W) (hb : Below m W W') (hm : w.heap.size + 1 < m) : FB w k s n sa W' :=
  ⟨h.below.trans (hb.mono (by omega)), (hb.block _ (by omega)).trans h.ba, (hb.block _ hm).trans h.br⟩
/-- What the loop holds. -/
structure FL (w : World) (k : Int) (s : ByteArray) (n : Int) (sa : Value) (l : List Tm) (j : Nat) (gv : Option Addr) (cv : Nat) (wr : World) : Prop where
  fb : FB w k s n sa wr
  bo : wr.heap[w.heap.size + 2]? = some (Obj.cells #[.int .i64 k, .string s, .int .i64 0, .slice gv j cv] 27 (0, 0))
  row : ∃ xs, wr.ownsRow (w.heap.size + 3) 27 4 (.slice gv j cv) j xs ∧ Tm.cellsP wr (okRow (w.heap.size + 3) wr (.slice gv j cv)) (Tm.blinds (l.take j)) xs
theorem FL.step {w wr w2 w3 : World} {k : Int} {s : ByteArray} {n : Int} {sa : Value} {l : List Tm} {j : Nat} {gv g3 g : Option Addr} {cv c3 c : Nat} {xs : List Value} {t X : Tm} {tmp : Obj} (hj : j < l.length) (ht : l[j] = t) (hX : t.blind = X)
    (hE : FB w k s n sa wr) (hO : wr.heap[w.heap.size + 2]? = some (Obj.cells #[.int .i64 k, .string s, .int .i64 0, .slice gv j cv] 27 (0, 0)))
    (hrow : wr.ownsRow (w.heap.size + 3) 27 4 (.slice gv j cv) j xs) (hcells : Tm.cellsP wr (okRow (w.heap.size + 3) wr (.slice gv j cv)) (Tm.blinds (l.take j)) xs)
    (hb2 : Below wr.heap.size wr w2) (hp : Tm.innP w2 (fun q => wr.heap.size ≤ q ∧ q < w2.heap.size) X (.slice g X.args.length c))
    (hown : w3.ownsRow (w.heap.size + 3) 27 4 (.slice g3 (j + 1) c3) (j + 1) (xs ++ [.int .i64 X.kind, .string X.name, .int .i64 X.n, .slice g X.args.length c])) (hg : (w2.alloc tmp).grownBy w3 (Value.slice gv j cv).ownBlock) (hsep : (Value.slice g3 (j + 1) c3).ownBlock = (Value.slice gv j cv).ownBlock ∨ ∀ b, (Value.slice g3 (j + 1) c3).ownBlock = some b → (w2.alloc tmp).heap.size ≤ b) :
    FL w k s n sa l (j + 1) g3 c3 (w3.setCell ⟨w.heap.size + 2, 3, none⟩ (.slice g3 (j + 1) c3)) := by
  have hs2 := hb2.size
  have hs3 := hg.size
  simp at hs3
  have hs1 : w.heap.size + 2 < wr.heap.size := (Array.getElem?_eq_some_iff.1 hO).1
  have ho8 := fun q (e : (Value.slice gv j cv).ownBlock = some q) => hrow.lt q e
  have b3 : Below (w.heap.size + 2) wr w3 := ((hb2.mono (by omega)).alloc (by omega) tmp).grown hg (by simp; omega) (fun q e => by have := (ho8 q e).1; omega)
  have b4 : Below (w.heap.size + 2) wr (w3.setCell ⟨w.heap.size + 2, 3, none⟩ (.slice g3 (j + 1) c3)) := b3.setCell (p := ⟨w.heap.size + 2, 3, none⟩) (Nat.le_refl _) _
  have hO3 := blk_step hb2 hg hO (fun e => by have := (ho8 _ e).1; omega)
  refine ⟨hE.next b4 (by omega), set1_same hO3 _, _, ownsRow_set hown (by omega) _ _, ?_⟩
  rw [blinds_take_succ l j hj, ht, hX]
  exact cellsP_set (by omega) (row_step hrow hcells hb2 (by omega) hp hg hsep)
theorem f5_keep {W W' : World} {A C oc : Nat} {a3 c0 c1 c2 c3 : Value} (hA : W'.heap[A]? = W.heap[A]?) (hC : W'.heap[C]? = W.heap[C]?)
    (h : W.cell? ⟨A, 3, none⟩ = some a3 ∧ W.cell? ⟨C, oc, none⟩ = some c0 ∧ W.cell? ⟨C, oc + 1, none⟩ = some c1 ∧ W.cell? ⟨C, oc + 2, none⟩ = some c2 ∧ W.cell? ⟨C, oc + 3, none⟩ = some c3) :
    W'.cell? ⟨A, 3, none⟩ = some a3 ∧ W'.cell? ⟨C, oc, none⟩ = some c0 ∧ W'.cell? ⟨C, oc + 1, none⟩ = some c1 ∧ W'.cell? ⟨C, oc + 2, none⟩ = some c2 ∧ W'.cell? ⟨C, oc + 3, none⟩ = some c3 := by
  obtain ⟨h0, h2, h3, h4, h5⟩ := h
  exact ⟨(World.cell?_of_block (a := ⟨A, 3, none⟩) hA).trans h0, (World.cell?_of_block (a := ⟨C, oc, none⟩) hC).trans h2, (World.cell?_of_block (a := ⟨C, oc + 1, none⟩) hC).trans h3, (World.cell?_of_block (a := ⟨C, oc + 2, none⟩) hC).trans h4, (World.cell?_of_block (a := ⟨C, oc + 3, none⟩) hC).trans h5⟩

set_option maxRecDepth 100000 in
set_option maxHeartbeats 8000000 in
theorem blind_any : ∀ a : Tm, BlindAt a := by
  refine Tm.ind fun k s n l ih w B sa hB ha => ?_
  obtain ⟨hhead, ga, ca, rfl, hca, hla, _⟩ := Tm.inn_mk.1 ha
  simp only [mk7_kind, mk7_name, mk7_n]
  have hfb : FL w k s n (.slice ga l.length ca) l 0 none 0 (((w.alloc (Obj.cells #[.int .i64 k, .string s, .int .i64 n, .slice ga l.length ca] 27 (0, 0))).alloc (Obj.cells #[.int .i64 0, .string ⟨#[]⟩, .int .i64 0, .slice none 0 0] 27 (0, 0))).alloc (Obj.cells #[.int .i64 k, .string s, .int .i64 0, .slice none 0 0] 27 (0, 0))) := by
    refine ⟨⟨(((Below.refl _ _).alloc (Nat.le_refl _) _).alloc (by simp) _).alloc (by simp; omega) _, (Below.heap_alloc _ _ _ (by simp; omega)).trans ((Below.heap_alloc _ _ _ (by simp)).trans (newBlk _ _ _ rfl)), (Below.heap_alloc _ _ _ (by simp)).trans (newBlk _ _ _ (by simp))⟩, newBlk _ _ _ (by simp), [], World.ownsRow_nil _ _ _ _, by simp [Tm.blinds, Tm.cellsP]⟩
  have HFB := Lib.hid hfb
  have HA := Lib.hid ha
  have HIH := Lib.hid ih
  have HH := Lib.hid hhead
  clear hfb ha ih hhead
  go_enter Try.func38, Try.ntmps38
  go_wp2_with fail
  go_loopw [4] (fun i wr => ∃ (j : Nat) (gv : Option Addr) (cv : Nat), j ≤ l.length ∧ i = .int .i64 j ∧ Hid (FL w k s n (.slice ga l.length ca) l j gv cv wr)) (fun i _ => l.length - (intOf i).toNat)
  case atStart => exact ⟨0, none, 0, Nat.zero_le _, rfl, HFB.out⟩
  case round =>
    obtain ⟨wz, rfl⟩ : ∃ x, x = wr := ⟨_, rfl⟩
    obtain ⟨j, gv, cv, hj, rfl, hbl⟩ := hrel
    have HBL := Lib.hid hbl.out
    obtain ⟨⟨_, _, _, x3⟩, _⟩ := row4 HBL.out.fb.ba
    obtain ⟨⟨o0, o1, o2, o3⟩, of0, of1, of2, of3⟩ := row4 HBL.out.bo
    have lO : w.heap.size + 2 < wz.heap.size := (Array.getElem?_eq_some_iff.1 HBL.out.bo).1
    have la : w.heap.size < wz.heap.size := by omega
    have hbs := HBL.out.fb.below.size
    clear hbl HFB
    by_cases hlt : j < l.length
    · obtain ⟨p, po, sx, hga, hpB, c0, c1, c2, c3, hix⟩ := Tm.sliceIn_get (Tm.sliceIn_below (Tm.inn_mk.1 HA.out).2 HBL.out.fb.below hB) j hlt
      subst hga
      obtain ⟨gx, cx, rfl⟩ := inn_sl7 hix
      obtain ⟨t, ht⟩ : ∃ t, l[j] = t := ⟨_, rfl⟩
      rw [ht] at c0 c1 c2 c3 hix
      have hih := HIH.out l[j] (List.getElem_mem hlt)
      rw [ht] at hih
      have hcall := hih wz.drew B (.slice gx t.args.length cx) (Nat.le_trans hB hbs) (Tm.inn_below hix ((Below.refl wz.heap.size wz).drew) (Nat.le_trans hB hbs))
      have HCALL := Lib.hid hcall
      have HT := Lib.hid ht
      obtain ⟨xs, hown, hcells⟩ := HBL.out.row
      have HOWN := Lib.hid hown
      have HCELLS := Lib.hid hcells
      have hs0' : (fun W' : World => W'.cell? ⟨w.heap.size, 3, none⟩ = some (.slice (some ⟨p, po, none⟩) l.length ca) ∧ W'.cell? ⟨p, po + j * 4, none⟩ = some (.int .i64 t.kind) ∧ W'.cell? ⟨p, po + j * 4 + 1, none⟩ = some (.string t.name) ∧ W'.cell? ⟨p, po + j * 4 + 2, none⟩ = some (.int .i64 t.n) ∧ W'.cell? ⟨p, po + j * 4 + 3, none⟩ = some (.slice gx t.args.length cx)) wz.drew := ⟨x3, c0, c1, c2, c3⟩
      have HS0 := Lib.hid hs0'
      have lp : p < wz.heap.size := by omega
      have lpW : p < w.heap.size := by omega
      obtain ⟨i0, hi, hz0, hz1, hz2⟩ := info_parts Try.infoTm
      clear hown hcells hcall hih hs0' ht hix c0 c1 c2 c3
      go_wp2_with fail
      refine wp_region_held_drew (S := fun W' => W'.cell? ⟨w.heap.size, 3, none⟩ = some (.slice (some ⟨p, po, none⟩) l.length ca) ∧ W'.cell? ⟨p, po + j * 4, none⟩ = some (.int .i64 t.kind) ∧ W'.cell? ⟨p, po + j * 4 + 1, none⟩ = some (.string t.name) ∧ W'.cell? ⟨p, po + j * 4 + 2, none⟩ = some (.int .i64 t.n) ∧ W'.cell? ⟨p, po + j * 4 + 3, none⟩ = some (.slice gx t.args.length cx)) (by kernel_rfl) HS0.out (fun hHeld => ?_)
      clear HS0
      refine wpAnyH_take (i := 0) (oi := _) (v := ?_) rfl (by kernel_rfl) (by kernel_rfl) (by kernel_rfl) (fun _ _ _ h => h) (Or.inl ⟨by rfl, ?_⟩) hHeld ?_
      rotate_left
      · (intro w hSw; (try dsimp only at hSw); go_simp; try with_reducible rfl)
      try simp only [Act.put, List.setIfInBounds_toArray, List.set_cons_zero, List.set_cons_succ, List.getElem_toArray, List.getElem_cons_zero]
      refine wpAnyH_take (i := 2) (oi := _) (v := ?_) rfl (by kernel_rfl) (by kernel_rfl) (by kernel_rfl) (fun _ _ _ h => h) (Or.inl ⟨by rfl, ?_⟩) hHeld ?_
      rotate_left
      · (intro w hSw; (try dsimp only at hSw); go_simp; try with_reducible rfl)
      try simp only [Act.put, List.setIfInBounds_toArray, List.set_cons_zero, List.set_cons_succ, List.getElem_toArray, List.getElem_cons_zero, List.getElem_cons_succ]
      refine wpAnyH_take (i := 3) (oi := _) (v := ?_) rfl (by kernel_rfl) (by kernel_rfl) (by kernel_rfl) (fun _ _ _ h => h) (Or.inl ⟨by rfl, ?_⟩) hHeld ?_
      rotate_left
      · (intro w hSw; (try dsimp only at hSw); go_simp; try with_reducible rfl)
      try simp only [Act.put, List.setIfInBounds_toArray, List.set_cons_zero, List.set_cons_succ, List.getElem_toArray, List.getElem_cons_zero, List.getElem_cons_succ]
      refine wpAnyH_take (i := 4) (oi := _) (v := ?_) rfl (by kernel_rfl) (by kernel_rfl) (by kernel_rfl) (fun _ _ _ h => h) (Or.inl ⟨by rfl, ?_⟩) hHeld ?_
      rotate_left
      · (intro w hSw; (try dsimp only at hSw); go_simp; try with_reducible rfl)
      try simp only [Act.put, List.setIfInBounds_toArray, List.set_cons_zero, List.set_cons_succ, List.getElem_toArray, List.getElem_cons_zero, List.getElem_cons_succ]
      refine wpAnyH_take (i := 5) (oi := _) (v := ?_) rfl (by kernel_rfl) (by kernel_rfl) (by kernel_rfl) (fun _ _ _ h => h) (Or.inl ⟨by rfl, ?_⟩) hHeld ?_
      rotate_left
      · (intro w hSw; (try dsimp only at hSw); go_simp; try with_reducible rfl)
      try simp only [Act.put, List.setIfInBounds_toArray, List.set_cons_zero, List.set_cons_succ, List.getElem_toArray, List.getElem_cons_zero, List.getElem_cons_succ]
      refine wpAnyH_take (i := 6) (oi := _) (v := ?_) rfl (by kernel_rfl) (by kernel_rfl) (by kernel_rfl) (fun _ _ _ h => h) (Or.inl ⟨by rfl, ?_⟩) hHeld ?_
      rotate_left
      · (intro w hSw; (try dsimp only at hSw); go_simp; try with_reducible rfl)
      try simp only [Act.put, List.setIfInBounds_toArray, List.set_cons_zero, List.set_cons_succ, List.getElem_toArray, List.getElem_cons_zero, List.getElem_cons_succ]
      refine wpAnyH_ready (rs := [1, 7]) (by kernel_rfl) (by simp) ?_
      refine AllReadyH.cons (o := _) rfl (fun K hK => ?_) (AllReadyH.cons (o := _) rfl (fun K hK => ?_) (AllReadyH.nil))
      · skip
        go_simp
        refine hK.out _ _ (hHeld) (fun hHeld => ?_)
        clear hK K
        try simp only [Act.put, List.setIfInBounds_toArray, List.set_cons_zero, List.set_cons_succ, List.getElem_toArray, List.getElem_cons_zero, List.getElem_cons_succ]
        refine wpAnyH_ready (rs := [7]) (by kernel_rfl) (by simp) ?_
        refine AllReadyH.cons (o := _) rfl (fun K hK => ?_) (AllReadyH.nil)
        go_simp
        refine HCALL.out.mono ?_
        rintro e w2 ⟨g2, c2, rfl, hp2, hb2⟩
        obtain ⟨X, hX⟩ : ∃ X, t.blind = X := ⟨_, rfl⟩
        rw [hX] at hp2 ⊢
        have hz2' : wz.heap.size ≤ w2.heap.size := hb2.size
        have HX := Lib.hid hX
        have HP2 := Lib.hid hp2
        have HB2 := Lib.hid (show Below wz.heap.size wz w2 from ((Below.refl wz.heap.size wz).drew).trans hb2)
        have hsx := f5_keep (W := wz.drew) (W' := w2) (hb2.block _ la) (hb2.block _ lp) hHeld
        have HSX := Lib.hid hsx
        have q3 : w2.cell? ⟨w.heap.size + 2, 3, none⟩ = some (.slice gv j cv) := (HB2.out.cell (p := ⟨w.heap.size + 2, 3, none⟩) lO).trans o3
        have lO2 : w.heap.size + 2 < w2.heap.size := by omega
        clear hX hp2 hb2 hsx
        go_wp2_with fail
        refine hK.out _ _ (HSX.out) (fun hHeld => ?_)
        clear hK K
        try simp only [Act.put, List.setIfInBounds_toArray, List.set_cons_zero, List.set_cons_succ, List.getElem_toArray, List.getElem_cons_zero, List.getElem_cons_succ]
        clear HSX
        refine wpAnyH_ready (rs := [8]) (by kernel_rfl) (by simp) ?_
        refine AllReadyH.cons (o := _) rfl (fun K hK => ?_) (AllReadyH.nil)
        go_simp
        refine hK.out _ _ (f5_keep (Below.heap_alloc _ _ _ (by omega)) (Below.heap_alloc _ _ _ (by omega)) hHeld) (fun hHeld => ?_)
        clear hK K
        try simp only [Act.put, List.setIfInBounds_toArray, List.set_cons_zero, List.set_cons_succ, List.getElem_toArray, List.getElem_cons_zero, List.getElem_cons_succ]
        refine wpAnyH_ready (rs := [9]) (by kernel_rfl) (by simp) ?_
        refine AllReadyH.cons (o := _) rfl (fun K hK => ?_) (AllReadyH.nil)
        refine step_append_term (by rfl) _ _ _ (by rfl) (w.heap.size + 3) 27 i0 _ 56 Try.underlying25 hi hz0 hz1 hz2 rfl (.slice gv j cv) j xs (by rfl) ((ownsRow_below HOWN.out HB2.out).alloc _) _ 1 [.int .i64 X.kind, .string X.name, .int .i64 X.n, .slice g2 X.args.length c2] (by rfl) rfl news4 one4 (by unfold maxLen; omega) (by omega) (by simp; omega) ?_
        intro g3 c3 w3 hown3 hgrow hsep3
        have n8 : ∀ q, (Value.slice gv j cv).ownBlock = some q → w.heap.size + 3 ≤ q := fun q e => (HOWN.out.lt q e).1
        have hbo3 := row4 (blk_step HB2.out hgrow HBL.out.bo (fun e => by have := n8 _ e; omega))
        have t3 : w3.cell? ⟨w.heap.size + 2, 3, none⟩ = some (.slice gv j cv) := hbo3.1.2.2.2
        have tf3 : w3.frozen? ⟨w.heap.size + 2, 3, none⟩ = false := hbo3.2.2.2.2
        have hb3 : ∀ q, q < w2.heap.size + 1 → (Value.slice gv j cv).ownBlock ≠ some q → w3.heap[q]? = _ := fun q h1 h2 => hgrow.block q (by simpa using h1) (fun e => h2 e.symm)
        refine hK.out _ _ (f5_keep (hb3 _ (by omega) (fun e => by have := n8 _ e; omega)) (hb3 _ (by omega) (fun e => by have := n8 _ e; omega)) hHeld) (fun hHeld => ?_)
        clear hK K
        try simp only [Act.put, List.setIfInBounds_toArray, List.set_cons_zero, List.set_cons_succ, List.getElem_toArray, List.getElem_cons_zero, List.getElem_cons_succ]
        refine wpAnyH_take (i := 10) (oi := _) (v := ?_) rfl (by kernel_rfl) (by kernel_rfl) (by kernel_rfl) (fun _ _ _ h => h) (Or.inl ⟨by rfl, ?_⟩) hHeld ?_
        rotate_left
        · (intro w hSw; (try dsimp only at hSw); go_simp; try with_reducible rfl)
        try simp only [Act.put, List.setIfInBounds_toArray, List.set_cons_zero, List.set_cons_succ, List.getElem_toArray, List.getElem_cons_zero, List.getElem_cons_succ]
        refine wpAnyH_ready (rs := [11]) (by kernel_rfl) (by simp) ?_
        refine AllReadyH.cons (o := _) rfl (fun K hK => ?_) (AllReadyH.nil)
        go_simp
        refine hK.out _ _ (f5_keep (Below.heap_setCell _ _ _ _ (by show w.heap.size ≠ w.heap.size + 2; omega)) (Below.heap_setCell _ _ _ _ (by show p ≠ w.heap.size + 2; omega)) hHeld) (fun hHeld => ?_)
        clear hK K
        try simp only [Act.put, List.setIfInBounds_toArray, List.set_cons_zero, List.set_cons_succ, List.getElem_toArray, List.getElem_cons_zero, List.getElem_cons_succ]
        refine wpAnyH_done (by kernel_rfl) ?_ _
        go_wp2_with fail
        go_roundw
        case rel => exact ⟨j + 1, g3, c3, by omega, by go_num, FL.step hlt HT.out HX.out HBL.out.fb HBL.out.bo HOWN.out HCELLS.out HB2.out HP2.out hown3 hgrow hsep3⟩
        case measure => simp [intOf]; omega
      · skip
        go_simp
        refine HCALL.out.mono ?_
        rintro e w2 ⟨g2, c2, rfl, hp2, hb2⟩
        obtain ⟨X, hX⟩ : ∃ X, t.blind = X := ⟨_, rfl⟩
        rw [hX] at hp2 ⊢
        have hz2' : wz.heap.size ≤ w2.heap.size := hb2.size
        have HX := Lib.hid hX
        have HP2 := Lib.hid hp2
        have HB2 := Lib.hid (show Below wz.heap.size wz w2 from ((Below.refl wz.heap.size wz).drew).trans hb2)
        have hsx := f5_keep (W := wz.drew) (W' := w2) (hb2.block _ la) (hb2.block _ lp) hHeld
        have HSX := Lib.hid hsx
        have q3 : w2.cell? ⟨w.heap.size + 2, 3, none⟩ = some (.slice gv j cv) := (HB2.out.cell (p := ⟨w.heap.size + 2, 3, none⟩) lO).trans o3
        have lO2 : w.heap.size + 2 < w2.heap.size := by omega
        clear hX hp2 hb2 hsx
        go_wp2_with fail
        refine hK.out _ _ (HSX.out) (fun hHeld => ?_)
        clear hK K
        try simp only [Act.put, List.setIfInBounds_toArray, List.set_cons_zero, List.set_cons_succ, List.getElem_toArray, List.getElem_cons_zero, List.getElem_cons_succ]
        clear HSX
        refine wpAnyH_ready (rs := [1, 8]) (by kernel_rfl) (by simp) ?_
        refine AllReadyH.cons (o := _) rfl (fun K hK => ?_) (AllReadyH.cons (o := _) rfl (fun K hK => ?_) (AllReadyH.nil))
        · skip
          go_simp
          refine hK.out _ _ (hHeld) (fun hHeld => ?_)
          clear hK K
          try simp only [Act.put, List.setIfInBounds_toArray, List.set_cons_zero, List.set_cons_succ, List.getElem_toArray, List.getElem_cons_zero, List.getElem_cons_succ]
          refine wpAnyH_ready (rs := [8]) (by kernel_rfl) (by simp) ?_
          refine AllReadyH.cons (o := _) rfl (fun K hK => ?_) (AllReadyH.nil)
          go_simp
          refine hK.out _ _ (f5_keep (Below.heap_alloc _ _ _ (by omega)) (Below.heap_alloc _ _ _ (by omega)) hHeld) (fun hHeld => ?_)
          clear hK K
          try simp only [Act.put, List.setIfInBounds_toArray, List.set_cons_zero, List.set_cons_succ, List.getElem_toArray, List.getElem_cons_zero, List.getElem_cons_succ]
          refine wpAnyH_ready (rs := [9]) (by kernel_rfl) (by simp) ?_
          refine AllReadyH.cons (o := _) rfl (fun K hK => ?_) (AllReadyH.nil)
          refine step_append_term (by rfl) _ _ _ (by rfl) (w.heap.size + 3) 27 i0 _ 56 Try.underlying25 hi hz0 hz1 hz2 rfl (.slice gv j cv) j xs (by rfl) ((ownsRow_below HOWN.out HB2.out).alloc _) _ 1 [.int .i64 X.kind, .string X.name, .int .i64 X.n, .slice g2 X.args.length c2] (by rfl) rfl news4 one4 (by unfold maxLen; omega) (by omega) (by simp; omega) ?_
          intro g3 c3 w3 hown3 hgrow hsep3
          have n8 : ∀ q, (Value.slice gv j cv).ownBlock = some q → w.heap.size + 3 ≤ q := fun q e => (HOWN.out.lt q e).1
          have hbo3 := row4 (blk_step HB2.out hgrow HBL.out.bo (fun e => by have := n8 _ e; omega))
          have t3 : w3.cell? ⟨w.heap.size + 2, 3, none⟩ = some (.slice gv j cv) := hbo3.1.2.2.2
          have tf3 : w3.frozen? ⟨w.heap.size + 2, 3, none⟩ = false := hbo3.2.2.2.2
          have hb3 : ∀ q, q < w2.heap.size + 1 → (Value.slice gv j cv).ownBlock ≠ some q → w3.heap[q]? = _ := fun q h1 h2 => hgrow.block q (by simpa using h1) (fun e => h2 e.symm)
          refine hK.out _ _ (f5_keep (hb3 _ (by omega) (fun e => by have := n8 _ e; omega)) (hb3 _ (by omega) (fun e => by have := n8 _ e; omega)) hHeld) (fun hHeld => ?_)
          clear hK K
          try simp only [Act.put, List.setIfInBounds_toArray, List.set_cons_zero, List.set_cons_succ, List.getElem_toArray, List.getElem_cons_zero, List.getElem_cons_succ]
          refine wpAnyH_take (i := 10) (oi := _) (v := ?_) rfl (by kernel_rfl) (by kernel_rfl) (by kernel_rfl) (fun _ _ _ h => h) (Or.inl ⟨by rfl, ?_⟩) hHeld ?_
          rotate_left
          · (intro w hSw; (try dsimp only at hSw); go_simp; try with_reducible rfl)
          try simp only [Act.put, List.setIfInBounds_toArray, List.set_cons_zero, List.set_cons_succ, List.getElem_toArray, List.getElem_cons_zero, List.getElem_cons_succ]
          refine wpAnyH_ready (rs := [11]) (by kernel_rfl) (by simp) ?_
          refine AllReadyH.cons (o := _) rfl (fun K hK => ?_) (AllReadyH.nil)
          go_simp
          refine hK.out _ _ (f5_keep (Below.heap_setCell _ _ _ _ (by show w.heap.size ≠ w.heap.size + 2; omega)) (Below.heap_setCell _ _ _ _ (by show p ≠ w.heap.size + 2; omega)) hHeld) (fun hHeld => ?_)
          clear hK K
          try simp only [Act.put, List.setIfInBounds_toArray, List.set_cons_zero, List.set_cons_succ, List.getElem_toArray, List.getElem_cons_zero, List.getElem_cons_succ]
          refine wpAnyH_done (by kernel_rfl) ?_ _
          go_wp2_with fail
          go_roundw
          case rel => exact ⟨j + 1, g3, c3, by omega, by go_num, FL.step hlt HT.out HX.out HBL.out.fb HBL.out.bo HOWN.out HCELLS.out HB2.out HP2.out hown3 hgrow hsep3⟩
          case measure => simp [intOf]; omega
        · skip
          go_simp
          refine hK.out _ _ (f5_keep (Below.heap_alloc _ _ _ (by omega)) (Below.heap_alloc _ _ _ (by omega)) hHeld) (fun hHeld => ?_)
          clear hK K
          try simp only [Act.put, List.setIfInBounds_toArray, List.set_cons_zero, List.set_cons_succ, List.getElem_toArray, List.getElem_cons_zero, List.getElem_cons_succ]
          refine wpAnyH_ready (rs := [1]) (by kernel_rfl) (by simp) ?_
          refine AllReadyH.cons (o := _) rfl (fun K hK => ?_) (AllReadyH.nil)
          go_simp
          refine hK.out _ _ (hHeld) (fun hHeld => ?_)
          clear hK K
          try simp only [Act.put, List.setIfInBounds_toArray, List.set_cons_zero, List.set_cons_succ, List.getElem_toArray, List.getElem_cons_zero, List.getElem_cons_succ]
          refine wpAnyH_ready (rs := [9]) (by kernel_rfl) (by simp) ?_
          refine AllReadyH.cons (o := _) rfl (fun K hK => ?_) (AllReadyH.nil)
          refine step_append_term (by rfl) _ _ _ (by rfl) (w.heap.size + 3) 27 i0 _ 56 Try.underlying25 hi hz0 hz1 hz2 rfl (.slice gv j cv) j xs (by rfl) ((ownsRow_below HOWN.out HB2.out).alloc _) _ 1 [.int .i64 X.kind, .string X.name, .int .i64 X.n, .slice g2 X.args.length c2] (by rfl) rfl news4 one4 (by unfold maxLen; omega) (by omega) (by simp; omega) ?_
          intro g3 c3 w3 hown3 hgrow hsep3
          have n8 : ∀ q, (Value.slice gv j cv).ownBlock = some q → w.heap.size + 3 ≤ q := fun q e => (HOWN.out.lt q e).1
          have hbo3 := row4 (blk_step HB2.out hgrow HBL.out.bo (fun e => by have := n8 _ e; omega))
          have t3 : w3.cell? ⟨w.heap.size + 2, 3, none⟩ = some (.slice gv j cv) := hbo3.1.2.2.2
          have tf3 : w3.frozen? ⟨w.heap.size + 2, 3, none⟩ = false := hbo3.2.2.2.2
          have hb3 : ∀ q, q < w2.heap.size + 1 → (Value.slice gv j cv).ownBlock ≠ some q → w3.heap[q]? = _ := fun q h1 h2 => hgrow.block q (by simpa using h1) (fun e => h2 e.symm)
          refine hK.out _ _ (f5_keep (hb3 _ (by omega) (fun e => by have := n8 _ e; omega)) (hb3 _ (by omega) (fun e => by have := n8 _ e; omega)) hHeld) (fun hHeld => ?_)
          clear hK K
          try simp only [Act.put, List.setIfInBounds_toArray, List.set_cons_zero, List.set_cons_succ, List.getElem_toArray, List.getElem_cons_zero, List.getElem_cons_succ]
          refine wpAnyH_take (i := 10) (oi := _) (v := ?_) rfl (by kernel_rfl) (by kernel_rfl) (by kernel_rfl) (fun _ _ _ h => h) (Or.inl ⟨by rfl, ?_⟩) hHeld ?_
          rotate_left
          · (intro w hSw; (try dsimp only at hSw); go_simp; try with_reducible rfl)
          try simp only [Act.put, List.setIfInBounds_toArray, List.set_cons_zero, List.set_cons_succ, List.getElem_toArray, List.getElem_cons_zero, List.getElem_cons_succ]
          refine wpAnyH_ready (rs := [11]) (by kernel_rfl) (by simp) ?_
          refine AllReadyH.cons (o := _) rfl (fun K hK => ?_) (AllReadyH.nil)
          go_simp
          refine hK.out _ _ (f5_keep (Below.heap_setCell _ _ _ _ (by show w.heap.size ≠ w.heap.size + 2; omega)) (Below.heap_setCell _ _ _ _ (by show p ≠ w.heap.size + 2; omega)) hHeld) (fun hHeld => ?_)
          clear hK K
          try simp only [Act.put, List.setIfInBounds_toArray, List.set_cons_zero, List.set_cons_succ, List.getElem_toArray, List.getElem_cons_zero, List.getElem_cons_succ]
          refine wpAnyH_done (by kernel_rfl) ?_ _
          go_wp2_with fail
          go_roundw
          case rel => exact ⟨j + 1, g3, c3, by omega, by go_num, FL.step hlt HT.out HX.out HBL.out.fb HBL.out.bo HOWN.out HCELLS.out HB2.out HP2.out hown3 hgrow hsep3⟩
          case measure => simp [intOf]; omega
    · obtain rfl : j = l.length := by omega
      obtain ⟨⟨r0, r1, r2, r3⟩, f0, f1, f2, f3⟩ := row4 HBL.out.fb.br
      have lr := HBL.out.fb.size
      clear hlt hj
      go_wp2_with fail
      generalize hwf : World.setCell _ _ _ = wf
      obtain ⟨hbf, hrf, hsame, hsz⟩ := set4_fin7 HBL.out.fb.below (by omega) HBL.out.fb.br hwf
      obtain ⟨⟨z0, z1, z2, z3⟩, _⟩ := row4 hrf
      refine bodyPost_ret (v := .agg #[.int .i64 k, .string s, .int .i64 0, .slice gv l.length cv]) (by simp [results, Try.results38, go_sem, z0, z1, z2, z3]) rfl ?_
      obtain ⟨xs, hown, hcells⟩ := HBL.out.row
      rw [List.take_length] at hcells
      have hgl := blinds_length l
      have hP : Tm.sliceP wf (fun q => w.heap.size ≤ q ∧ q < wf.heap.size) (Tm.blinds l) (.slice gv l.length cv) :=
        sliceP_done (wr := wz) (lo := w.heap.size + 3) (xs := xs) (by rw [hgl]; exact hown) hcells (by omega) (by omega) (by omega) fun q hq _ => hsame q (by omega)
      have hbl : (Tm.mk k s n l).blind = .mk k s 0 (Tm.blinds l) := by simp [Tm.blind]
      rw [hbl]
      exact ⟨gv, cv, by simp only [mk7_kind, mk7_name, mk7_n, mk7_args, hgl], by simp only [mk7_args, hgl]; exact Tm.innP_mk.2 ⟨⟨HH.out.1, HH.out.2.1, by decide⟩, hP⟩, hbf⟩
end Go.Proofs.Ytomdccejgmhfoaa
