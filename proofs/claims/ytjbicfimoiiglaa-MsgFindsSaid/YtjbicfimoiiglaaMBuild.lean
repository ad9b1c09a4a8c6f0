/-
  The document's build: the generalisation, of what pairs are.
-/
import Derived.Test.YtjbicfimoiiglaaMRef
import Derived.Test.YtjbicfimoiiglaaMOf
namespace Go.Proofs.Ytjbicfimoiiglaa
open Go.RowKit Go.Shelf Go.Maps

def BuildPost (w : World) (X : Tm) (e : Ending) (w' : World) : Prop :=
  ∃ g c, e = .returned (.agg #[.int .i64 X.kind, .string X.name, .int .i64 X.n, .slice g X.args.length c]) ∧ Tm.innP w' (fun q => w.heap.size ≤ q ∧ q < w'.heap.size) X (.slice g X.args.length c) ∧ Below w.heap.size w w'
def RBuildAt (a : Tm) : Prop := ∀ (b : Tm) (L : List (Tm × Tm)) (w : World) (B : Nat) (svl sa sb : Value), B ≤ w.heap.size → prsM w w.heap.size L svl → Tm.inn w B a sa → Tm.inn w B b sb → L.length ≤ 1000000 → (∀ x ∈ a.diffs b, x ∈ L) →
  Calls Try.prog 49 #[svl, .agg #[.int .i64 a.kind, .string a.name, .int .i64 a.n, sa], .agg #[.int .i64 b.kind, .string b.name, .int .i64 b.n, sb]] w fun e w' => BuildPost w (a.gen L b) e w'
theorem diffs_like {a b : Tm} (h : likeB a b = true) : a.diffs b = Tm.diffss a.args b.args := by
  obtain ⟨k, s, n, l⟩ := a
  simp only [Tm.diffs, h, if_true, Tm.args]
theorem diffs_unlike {a b : Tm} (h : likeB a b = false) : a.diffs b = [(a, b)] := by
  obtain ⟨k, s, n, l⟩ := a
  simp [Tm.diffs, h]
theorem diffss_get : ∀ (l us : List Tm) (k : Nat) (hk : k < l.length) (hu : l.length = us.length) (x : Tm × Tm), x ∈ l[k].diffs (us[k]'(hu ▸ hk)) → x ∈ Tm.diffss l us
  | [], _, _, hk, _, _, _ => absurd hk (Nat.not_lt_zero _)
  | _ :: _, [], _, _, hu, _, _ => by simp at hu
  | t :: r, u :: us, 0, _, _, x, h => by
    simp only [Tm.diffss]
    exact List.mem_append_left _ h
  | t :: r, u :: us, k + 1, hk, hu, x, h => by
    simp only [Tm.diffss]
    exact List.mem_append_right _ (diffss_get r us k (by simpa using hk) (by simpa using hu) x h)
/-- Three boxes: both terms' and the result's. -/
structure EB (w : World) (a b : Tm) (sa sb : Value) (W : World) : Prop where
  db : DB w a b sa sb W
  br : W.heap[w.heap.size + 2]? = some (Obj.cells #[.int .i64 0, .string ⟨#[]⟩, .int .i64 0, .slice none 0 0] 24 (0, 0))
theorem EB.size {w : World} {a b : Tm} {sa sb : Value} {W : World} (h : EB w a b sa sb W) : w.heap.size + 2 < W.heap.size := (Array.getElem?_eq_some_iff.1 h.br).1
theorem EB.next {w : World} {a b : Tm} {sa sb : Value} {W W' : World} (h : EB w a b sa sb W) (hb : Below W.heap.size W W') : EB w a b sa sb W' := ⟨h.db.next hb, (hb.block _ h.size).trans h.br⟩
theorem EB.start (w : World) (a b : Tm) (sa sb : Value) : EB w a b sa sb (((w.alloc (Obj.cells #[.int .i64 a.kind, .string a.name, .int .i64 a.n, sa] 24 (0, 0))).alloc (Obj.cells #[.int .i64 b.kind, .string b.name, .int .i64 b.n, sb] 24 (0, 0))).alloc (Obj.cells #[.int .i64 0, .string ⟨#[]⟩, .int .i64 0, .slice none 0 0] 24 (0, 0))) :=
  ⟨(DB.start w a b sa sb).next ((Below.refl _ _).alloc (Nat.le_refl _) _), newBlk _ _ _ (by simp)⟩
/-- The cells that the call of build reads. -/
theorem e10_keep {W W' : World} {A Y C D oc od : Nat} {a3 y3 c0 c1 c2 c3 d0 d1 d2 d3 : Value} (hA : W'.heap[A]? = W.heap[A]?) (hY : W'.heap[Y]? = W.heap[Y]?) (hC : W'.heap[C]? = W.heap[C]?) (hD : W'.heap[D]? = W.heap[D]?)
    (h : W.cell? ⟨A, 3, none⟩ = some a3 ∧ W.cell? ⟨Y, 3, none⟩ = some y3 ∧ W.cell? ⟨C, oc, none⟩ = some c0 ∧ W.cell? ⟨C, oc + 1, none⟩ = some c1 ∧ W.cell? ⟨C, oc + 2, none⟩ = some c2 ∧ W.cell? ⟨C, oc + 3, none⟩ = some c3 ∧ W.cell? ⟨D, od, none⟩ = some d0 ∧ W.cell? ⟨D, od + 1, none⟩ = some d1 ∧ W.cell? ⟨D, od + 2, none⟩ = some d2 ∧ W.cell? ⟨D, od + 3, none⟩ = some d3) :
    W'.cell? ⟨A, 3, none⟩ = some a3 ∧ W'.cell? ⟨Y, 3, none⟩ = some y3 ∧ W'.cell? ⟨C, oc, none⟩ = some c0 ∧ W'.cell? ⟨C, oc + 1, none⟩ = some c1 ∧ W'.cell? ⟨C, oc + 2, none⟩ = some c2 ∧ W'.cell? ⟨C, oc + 3, none⟩ = some c3 ∧ W'.cell? ⟨D, od, none⟩ = some d0 ∧ W'.cell? ⟨D, od + 1, none⟩ = some d1 ∧ W'.cell? ⟨D, od + 2, none⟩ = some d2 ∧ W'.cell? ⟨D, od + 3, none⟩ = some d3 := by
  obtain ⟨h0, h1, h2, h3, h4, h5, h6, h7, h8, h9⟩ := h
  exact ⟨(World.cell?_of_block (a := ⟨A, 3, none⟩) hA).trans h0, (World.cell?_of_block (a := ⟨Y, 3, none⟩) hY).trans h1, (World.cell?_of_block (a := ⟨C, oc, none⟩) hC).trans h2, (World.cell?_of_block (a := ⟨C, oc + 1, none⟩) hC).trans h3, (World.cell?_of_block (a := ⟨C, oc + 2, none⟩) hC).trans h4, (World.cell?_of_block (a := ⟨C, oc + 3, none⟩) hC).trans h5,
    (World.cell?_of_block (a := ⟨D, od, none⟩) hD).trans h6, (World.cell?_of_block (a := ⟨D, od + 1, none⟩) hD).trans h7, (World.cell?_of_block (a := ⟨D, od + 2, none⟩) hD).trans h8, (World.cell?_of_block (a := ⟨D, od + 3, none⟩) hD).trans h9⟩
/-- What the loop holds: the boxes, out's own box and the row of its Args. -/
structure BL (w W1 : World) (a b : Tm) (sa sb : Value) (L : List (Tm × Tm)) (l us : List Tm) (k : Nat) (gv : Option Addr) (cv : Nat) (wr : World) : Prop where
  eb : EB w a b sa sb wr
  low : Below W1.heap.size W1 wr
  bo : wr.heap[W1.heap.size]? = some (Obj.cells #[.int .i64 a.kind, .string a.name, .int .i64 a.n, .slice gv k cv] 24 (0, 0))
  row : ∃ xs, wr.ownsRow (W1.heap.size + 1) 24 4 (.slice gv k cv) k xs ∧ Tm.cellsP wr (okRow (W1.heap.size + 1) wr (.slice gv k cv)) (Tm.gens L (l.take k) (us.take k)) xs
/-- One term more. -/
theorem BL.step {w W1 wr w2 w3 : World} {a b : Tm} {sa sb : Value} {L : List (Tm × Tm)} {l us : List Tm} {k : Nat} {gv g3 g : Option Addr} {cv c3 c : Nat} {xs : List Value} {t u X : Tm} {tmp : Obj} (hk : k < l.length) (hu : l.length = us.length) (ht : l[k] = t) (hut : us[k]'(hu ▸ hk) = u) (hX : t.gen L u = X)
    (hE : EB w a b sa sb wr) (hL : Below W1.heap.size W1 wr) (hw : w.heap.size + 2 < W1.heap.size) (hO : wr.heap[W1.heap.size]? = some (Obj.cells #[.int .i64 a.kind, .string a.name, .int .i64 a.n, .slice gv k cv] 24 (0, 0)))
    (hrow : wr.ownsRow (W1.heap.size + 1) 24 4 (.slice gv k cv) k xs) (hcells : Tm.cellsP wr (okRow (W1.heap.size + 1) wr (.slice gv k cv)) (Tm.gens L (l.take k) (us.take k)) xs)
    (hb2 : Below wr.heap.size wr w2) (hp : Tm.innP w2 (fun q => wr.heap.size ≤ q ∧ q < w2.heap.size) X (.slice g X.args.length c))
    (hown : w3.ownsRow (W1.heap.size + 1) 24 4 (.slice g3 (k + 1) c3) (k + 1) (xs ++ [.int .i64 X.kind, .string X.name, .int .i64 X.n, .slice g X.args.length c])) (hg : (w2.alloc tmp).grownBy w3 (Value.slice gv k cv).ownBlock) (hsep : (Value.slice g3 (k + 1) c3).ownBlock = (Value.slice gv k cv).ownBlock ∨ ∀ b, (Value.slice g3 (k + 1) c3).ownBlock = some b → (w2.alloc tmp).heap.size ≤ b) :
    BL w W1 a b sa sb L l us (k + 1) g3 c3 (w3.setCell ⟨W1.heap.size, 3, none⟩ (.slice g3 (k + 1) c3)) := by
  have hs2 := hb2.size
  have hs3 := hg.size
  simp at hs3
  have hs1 : W1.heap.size < wr.heap.size := (Array.getElem?_eq_some_iff.1 hO).1
  have ho8 := fun q (e : (Value.slice gv k cv).ownBlock = some q) => hrow.lt q e
  have b3 : Below W1.heap.size wr w3 := ((hb2.mono (by omega)).alloc (by omega) tmp).grown hg (by simp; omega) (fun q e => by have := (ho8 q e).1; omega)
  have b4 : Below W1.heap.size wr (w3.setCell ⟨W1.heap.size, 3, none⟩ (.slice g3 (k + 1) c3)) := b3.setCell (p := ⟨W1.heap.size, 3, none⟩) (Nat.le_refl _) _
  have hO3 := blk_step hb2 hg hO (fun e => by have := (ho8 _ e).1; omega)
  subst ht hut
  refine ⟨⟨⟨?_, ?_, ?_⟩, ?_⟩, hL.trans b4, set1_same hO3 _, _, ownsRow_set hown (by omega) _ _, ?_⟩
  · exact hE.db.below.trans ⟨b4.os, b4.tape, b4.output, by have := hE.db.below.size; have := b4.size; omega, fun q hq => b4.block q (by omega)⟩
  · exact (b4.block _ (by omega)).trans hE.db.ba
  · exact (b4.block _ (by omega)).trans hE.db.bb
  · exact (b4.block _ (by omega)).trans hE.br
  · rw [gens_take_succ l us k hk hu, hX]
    exact cellsP_set (by omega) (row_step hrow hcells hb2 (by omega) hp hg hsep)

set_option maxRecDepth 100000 in
set_option maxHeartbeats 8000000 in
theorem rbuild_any : ∀ a : Tm, RBuildAt a := by
  refine Tm.ind fun k s n l ih b L w B svl sa sb hB hl ha hb hmax hdiff => ?_
  obtain ⟨k', s', n', us⟩ := b
  obtain ⟨gl, cl, rfl, hcl, hll, _⟩ := id hl
  obtain ⟨hhead, ga, ca, rfl, hca, hla, _⟩ := Tm.inn_mk.1 ha
  obtain ⟨_, gb, cb, rfl, hcb, hlb, _⟩ := Tm.inn_mk.1 hb
  have heb := EB.start w (.mk k s n l) (.mk k' s' n' us) (.slice ga l.length ca) (.slice gb us.length cb)
  simp only [mk_kind, mk_name, mk_n] at heb ⊢
  obtain ⟨W0, hW⟩ : ∃ W0, (((w.alloc (Obj.cells #[.int .i64 k, .string s, .int .i64 n, .slice ga l.length ca] 24 (0, 0))).alloc (Obj.cells #[.int .i64 k', .string s', .int .i64 n', .slice gb us.length cb] 24 (0, 0))).alloc (Obj.cells #[.int .i64 0, .string ⟨#[]⟩, .int .i64 0, .slice none 0 0] 24 (0, 0))) = W0 := ⟨_, rfl⟩
  rw [hW] at heb
  have hs0 := heb.db.below.size
  obtain ⟨q, hq⟩ : ∃ q, likeB (.mk k s n l) (.mk k' s' n' us) = q := ⟨_, rfl⟩
  have hli := like_any (.mk k s n l) (.mk k' s' n' us) W0 B _ _ (Tm.inn_below ha heb.db.below hB) (Tm.inn_below hb heb.db.below hB)
  rw [hq] at hli
  simp only [mk_kind, mk_name, mk_n] at hli
  have HLI := Lib.hid hli
  have HW := Lib.hid hW
  have E0 := Lib.hid heb
  have HL := Lib.hid hl
  have HA := Lib.hid ha
  have HB := Lib.hid hb
  have HMX := Lib.hid hmax
  have HIH := Lib.hid ih
  have HQ := Lib.hid hq
  have HD := Lib.hid hdiff
  have HH := Lib.hid hhead
  clear hli hW heb hl ha hb hmax ih hq hdiff hhead
  cases q with
  | false =>
    have hmem : ((Tm.mk k s n l, Tm.mk k' s' n' us) : Tm × Tm) ∈ L := HD.out _ (by rw [diffs_unlike HQ.out]; exact List.mem_singleton.2 rfl)
    have hat0 : atP L (Tm.mk k s n l, Tm.mk k' s' n' us) = ((L.idxOf (Tm.mk k s n l, Tm.mk k' s' n' us) : Nat) : Int) := by unfold atP; rw [if_pos hmem]
    have hil : L.idxOf (Tm.mk k s n l, Tm.mk k' s' n' us) < L.length := List.idxOf_lt_length_iff.2 hmem
    obtain ⟨i, hi⟩ : ∃ i, L.idxOf (Tm.mk k s n l, Tm.mk k' s' n' us) = i := ⟨_, rfl⟩
    rw [hi] at hat0 hil
    have hi6 : i ≤ 1000000 := by have := HMX.out; omega
    have HI := Lib.hid hi
    have HAT0 := Lib.hid hat0
    clear hmem hat0 hi hil
    go_enter Try.func49, Try.ntmps49
    go_wp2_with fail
    rw [HW.out]
    refine HLI.out.mono ?_
    rintro e W1 ⟨rfl, hb1⟩
    have D1 := Lib.hid (E0.out.next hb1)
    have L1 := Lib.hid (prsM_held HL.out D1.out.db.below)
    have hs1 := D1.out.db.below.size
    have A1 := Lib.hid (Tm.inn_mono (Tm.inn_below HA.out D1.out.db.below hB) (Nat.le_trans hB hs1))
    have B1 := Lib.hid (Tm.inn_mono (Tm.inn_below HB.out D1.out.db.below hB) (Nat.le_trans hB hs1))
    have hat := at6_any L (.mk k s n l) (.mk k' s' n' us) W1 W1.heap.size _ _ _ (Nat.le_refl _) L1.out A1.out B1.out
    rw [HAT0.out] at hat
    simp only [mk_kind, mk_name, mk_n] at hat
    have HAT := Lib.hid hat
    have lr1 := D1.out.size
    have lb1 : w.heap.size + 1 < W1.heap.size := by omega
    have la1 : w.heap.size < W1.heap.size := by omega
    obtain ⟨⟨a0, a1, a2, a3⟩, _⟩ := row4 D1.out.db.ba
    obtain ⟨⟨b0, b1, b2, b3⟩, _⟩ := row4 D1.out.db.bb
    simp only [mk_kind, mk_name, mk_n] at a0 a1 a2 a3 b0 b1 b2 b3
    clear hat hb1 HLI HW
    go_wp2_with fail
    refine HAT.out.mono ?_
    rintro e W2 ⟨rfl, hb2⟩
    have D2 := Lib.hid (D1.out.next hb2)
    have lr2 := D2.out.size
    obtain ⟨⟨r0, r1, r2, r3⟩, f0, f1, f2, f3⟩ := row4 D2.out.br
    clear hb2 HAT a0 a1 a2 a3 b0 b1 b2 b3
    go_wp2_with fail
    generalize hwf : World.setCell _ _ _ = wf
    obtain ⟨hbf, hrf, _, _⟩ := set4_fin D2.out.db.below (by omega) D2.out.br hwf
    obtain ⟨⟨x0, x1, x2, x3⟩, _⟩ := row4 hrf
    refine bodyPost_ret (v := .agg #[.int .i64 1, .string ⟨#[]⟩, .int .i64 (i : Nat), .slice none 0 0]) (by simp [results, Try.results49, go_sem, x0, x1, x2, x3]) rfl ?_
    rw [gen_unlike HQ.out, HI.out]
    exact ⟨none, 0, rfl, Tm.innP_mk.2 ⟨⟨by decide, Nat.zero_le _, WalkArith.wf_i64 (by omega)⟩, none, 0, rfl, Nat.le_refl _, by simp, .inl rfl⟩, hbf⟩
  | true =>
    have hm := (likeB_iff.1 HQ.out).2.2.2.2
    simp only [mk_args] at hm
    obtain ⟨m, hm1, hm2⟩ : ∃ m, l.length = m ∧ us.length = m := ⟨_, rfl, hm.symm⟩
    rw [hm1] at HW E0 HLI HA hca hla ⊢
    rw [hm2] at HW E0 HLI HB hcb hlb ⊢
    have HM1 := Lib.hid hm1
    have HM2 := Lib.hid hm2
    clear hm hm1 hm2
    go_enter Try.func49, Try.ntmps49
    go_wp2_with fail
    rw [HW.out]
    refine HLI.out.mono ?_
    rintro e W1 ⟨rfl, hb1⟩
    have D1 := Lib.hid (E0.out.next hb1)
    have L1 := Lib.hid (prsM_below HL.out D1.out.db.below (Nat.le_refl _))
    have lr1 := D1.out.size
    have lb1 : w.heap.size + 1 < W1.heap.size := by omega
    have la1 : w.heap.size < W1.heap.size := by omega
    obtain ⟨⟨a0, a1, a2, a3⟩, _⟩ := row4 D1.out.db.ba
    simp only [mk_kind, mk_name, mk_n] at a0 a1 a2 a3
    clear hb1 HLI HW
    go_wp2_with fail
    go_loopw [8] (fun i wr => ∃ (j : Nat) (gv : Option Addr) (cv : Nat), j ≤ m ∧ i = .int .i64 j ∧ Hid (BL w W1 (.mk k s n l) (.mk k' s' n' us) (.slice ga m ca) (.slice gb m cb) L l us j gv cv wr)) (fun i _ => m - (intOf i).toNat)
    case atStart =>
      refine ⟨0, none, 0, Nat.zero_le _, rfl, D1.out.next ((Below.refl _ _).alloc (Nat.le_refl _) _), (Below.refl _ _).alloc (Nat.le_refl _) _, newBlk _ _ _ rfl, [], World.ownsRow_nil _ _ _ _, by simp [Tm.gens, Tm.cellsP]⟩
    case round =>
      obtain ⟨wz, rfl⟩ : ∃ x, x = wr := ⟨_, rfl⟩
      obtain ⟨j, gv, cv, hj, rfl, hbl⟩ := hrel
      have HBL := Lib.hid hbl.out
      obtain ⟨⟨_, _, _, x3⟩, _⟩ := row4 HBL.out.eb.db.ba
      obtain ⟨⟨_, _, _, y3⟩, _⟩ := row4 HBL.out.eb.db.bb
      obtain ⟨⟨o0, o1, o2, o3⟩, of0, of1, of2, of3⟩ := row4 HBL.out.bo
      simp only [mk_kind, mk_name, mk_n] at o0 o1 o2 o3
      have lO : W1.heap.size < wz.heap.size := (Array.getElem?_eq_some_iff.1 HBL.out.bo).1
      have lb : w.heap.size + 1 < wz.heap.size := by omega
      have la : w.heap.size < wz.heap.size := by omega
      have hbs := HBL.out.eb.db.below.size
      clear hbl a0 a1 a2 a3
      by_cases hlt : j < m
      · have hju : j < us.length := by rw [HM2.out]; exact hlt
        have hjl : j < l.length := by rw [HM1.out]; exact hlt
        obtain ⟨p, po, sx, hga, hpB, c0, c1, c2, c3, hix⟩ := Tm.sliceIn_get (Tm.sliceIn_below (Tm.inn_mk.1 HA.out).2 HBL.out.eb.db.below hB) j hjl
        obtain ⟨p', po', sy, hgb, hpB', d0, d1, d2, d3, hiy⟩ := Tm.sliceIn_get (Tm.sliceIn_below (Tm.inn_mk.1 HB.out).2 HBL.out.eb.db.below hB) j hju
        subst hga hgb
        obtain ⟨gx, cx, rfl⟩ := inn_sl6 hix
        obtain ⟨gy, cy, rfl⟩ := inn_sl6 hiy
        obtain ⟨t, ht⟩ : ∃ t, l[j] = t := ⟨_, rfl⟩
        obtain ⟨u, hu⟩ : ∃ u, us[j] = u := ⟨_, rfl⟩
        rw [ht] at c0 c1 c2 c3 hix
        rw [hu] at d0 d1 d2 d3 hiy
        have hih := HIH.out l[j] (List.getElem_mem hjl)
        rw [ht] at hih
        have hdj : ∀ x ∈ t.diffs u, x ∈ L := fun x hx => HD.out x (by rw [diffs_like HQ.out]; exact diffss_get l us j hjl (by rw [HM1.out, HM2.out]) x (by rw [ht, hu]; exact hx))
        have hcall := hih u L wz.drew B (.slice gl L.length cl) (.slice gx t.args.length cx) (.slice gy u.args.length cy) (Nat.le_trans hB hbs) (prsM_held (prsM_mono (prsM_below HL.out HBL.out.eb.db.below (Nat.le_refl _)) hbs) ((Below.refl wz.heap.size wz).drew)) (Tm.inn_below hix ((Below.refl wz.heap.size wz).drew) (Nat.le_trans hB hbs)) (Tm.inn_below hiy ((Below.refl wz.heap.size wz).drew) (Nat.le_trans hB hbs)) HMX.out hdj
        have HCALL := Lib.hid hcall
        have HT := Lib.hid ht
        have HU := Lib.hid hu
        obtain ⟨xs, hown, hcells⟩ := HBL.out.row
        have HOWN := Lib.hid hown
        have HCELLS := Lib.hid hcells
        have hs0' : (fun W' : World => W'.cell? ⟨w.heap.size, 3, none⟩ = some (.slice (some ⟨p, po, none⟩) m ca) ∧ W'.cell? ⟨w.heap.size + 1, 3, none⟩ = some (.slice (some ⟨p', po', none⟩) m cb) ∧ W'.cell? ⟨p, po + j * 4, none⟩ = some (.int .i64 t.kind) ∧ W'.cell? ⟨p, po + j * 4 + 1, none⟩ = some (.string t.name) ∧ W'.cell? ⟨p, po + j * 4 + 2, none⟩ = some (.int .i64 t.n) ∧ W'.cell? ⟨p, po + j * 4 + 3, none⟩ = some (.slice gx t.args.length cx) ∧ W'.cell? ⟨p', po' + j * 4, none⟩ = some (.int .i64 u.kind) ∧ W'.cell? ⟨p', po' + j * 4 + 1, none⟩ = some (.string u.name) ∧ W'.cell? ⟨p', po' + j * 4 + 2, none⟩ = some (.int .i64 u.n) ∧ W'.cell? ⟨p', po' + j * 4 + 3, none⟩ = some (.slice gy u.args.length cy)) wz.drew := ⟨x3, y3, c0, c1, c2, c3, d0, d1, d2, d3⟩
        have HS0 := Lib.hid hs0'
        have lp : p < wz.heap.size := by omega
        have lp' : p' < wz.heap.size := by omega
        have lpW : p < W1.heap.size := by omega
        have lpW' : p' < W1.heap.size := by omega
        obtain ⟨i0, hi, hz0, hz1, hz2⟩ := info_parts Try.infoTm
        clear hown hcells hcall hdj hih hs0' ht hu hix hiy y3 c0 c1 c2 c3 d0 d1 d2 d3
        go_wp2_with fail
        refine wp_region_held_drew (S := fun W' => W'.cell? ⟨w.heap.size, 3, none⟩ = some (.slice (some ⟨p, po, none⟩) m ca) ∧ W'.cell? ⟨w.heap.size + 1, 3, none⟩ = some (.slice (some ⟨p', po', none⟩) m cb) ∧ W'.cell? ⟨p, po + j * 4, none⟩ = some (.int .i64 t.kind) ∧ W'.cell? ⟨p, po + j * 4 + 1, none⟩ = some (.string t.name) ∧ W'.cell? ⟨p, po + j * 4 + 2, none⟩ = some (.int .i64 t.n) ∧ W'.cell? ⟨p, po + j * 4 + 3, none⟩ = some (.slice gx t.args.length cx) ∧ W'.cell? ⟨p', po' + j * 4, none⟩ = some (.int .i64 u.kind) ∧ W'.cell? ⟨p', po' + j * 4 + 1, none⟩ = some (.string u.name) ∧ W'.cell? ⟨p', po' + j * 4 + 2, none⟩ = some (.int .i64 u.n) ∧ W'.cell? ⟨p', po' + j * 4 + 3, none⟩ = some (.slice gy u.args.length cy)) (by kernel_rfl) HS0.out (fun hHeld => ?_)
        clear HS0
        refine wpAnyH_take (i := 0) (oi := _) (v := ?_) rfl (by kernel_rfl) (by kernel_rfl) (by kernel_rfl) (fun _ _ _ h => h) (Or.inl ⟨by rfl, ?_⟩) hHeld ?_
        rotate_left
        · (intro w hSw; (try dsimp only at hSw); go_simp; try with_reducible rfl)
        try simp only [Act.put, List.setIfInBounds_toArray, List.set_cons_zero, List.set_cons_succ, List.getElem_toArray, List.getElem_cons_zero]
        refine wpAnyH_take (i := 2) (oi := _) (v := ?_) rfl (by kernel_rfl) (by kernel_rfl) (by kernel_rfl) (fun _ _ _ h => h) (Or.inl ⟨by rfl, ?_⟩) hHeld ?_
        rotate_left
        · (intro w hSw; (try dsimp only at hSw); go_simp; try with_reducible rfl)
        try simp only [Act.put, List.setIfInBounds_toArray, List.set_cons_zero, List.set_cons_succ, List.getElem_toArray, List.getElem_cons_zero, List.getElem_cons_succ]
        refine wpAnyH_take (i := 3) (oi := _) (v := ?_) rfl (by kernel_rfl) (by kernel_rfl) (by kernel_rfl) (fun _ _ _ h => h) (Or.inl ⟨by rfl, ?_⟩) hHeld ?_
        rotate_left
        · (intro w hSw; (try dsimp only at hSw); go_simp; try with_reducible rfl)
        try simp only [Act.put, List.setIfInBounds_toArray, List.set_cons_zero, List.set_cons_succ, List.getElem_toArray, List.getElem_cons_zero, List.getElem_cons_succ]
        refine wpAnyH_take (i := 4) (oi := _) (v := ?_) rfl (by kernel_rfl) (by kernel_rfl) (by kernel_rfl) (fun _ _ _ h => h) (Or.inl ⟨by rfl, ?_⟩) hHeld ?_
        rotate_left
        · (intro w hSw; (try dsimp only at hSw); go_simp; try with_reducible rfl)
        try simp only [Act.put, List.setIfInBounds_toArray, List.set_cons_zero, List.set_cons_succ, List.getElem_toArray, List.getElem_cons_zero, List.getElem_cons_succ]
        refine wpAnyH_take (i := 5) (oi := _) (v := ?_) rfl (by kernel_rfl) (by kernel_rfl) (by kernel_rfl) (fun _ _ _ h => h) (Or.inl ⟨by rfl, ?_⟩) hHeld ?_
        rotate_left
        · (intro w hSw; (try dsimp only at hSw); go_simp; try with_reducible rfl)
        try simp only [Act.put, List.setIfInBounds_toArray, List.set_cons_zero, List.set_cons_succ, List.getElem_toArray, List.getElem_cons_zero, List.getElem_cons_succ]
        refine wpAnyH_take (i := 6) (oi := _) (v := ?_) rfl (by kernel_rfl) (by kernel_rfl) (by kernel_rfl) (fun _ _ _ h => h) (Or.inl ⟨by rfl, ?_⟩) hHeld ?_
        rotate_left
        · (intro w hSw; (try dsimp only at hSw); go_simp; try with_reducible rfl)
        try simp only [Act.put, List.setIfInBounds_toArray, List.set_cons_zero, List.set_cons_succ, List.getElem_toArray, List.getElem_cons_zero, List.getElem_cons_succ]
        refine wpAnyH_take (i := 7) (oi := _) (v := ?_) rfl (by kernel_rfl) (by kernel_rfl) (by kernel_rfl) (fun _ _ _ h => h) (Or.inl ⟨by rfl, ?_⟩) hHeld ?_
        rotate_left
        · (intro w hSw; (try dsimp only at hSw); go_simp; try with_reducible rfl)
        try simp only [Act.put, List.setIfInBounds_toArray, List.set_cons_zero, List.set_cons_succ, List.getElem_toArray, List.getElem_cons_zero, List.getElem_cons_succ]
        refine wpAnyH_take (i := 8) (oi := _) (v := ?_) rfl (by kernel_rfl) (by kernel_rfl) (by kernel_rfl) (fun _ _ _ h => h) (Or.inl ⟨by rfl, ?_⟩) hHeld ?_
        rotate_left
        · (intro w hSw; (try dsimp only at hSw); go_simp; try with_reducible rfl)
        try simp only [Act.put, List.setIfInBounds_toArray, List.set_cons_zero, List.set_cons_succ, List.getElem_toArray, List.getElem_cons_zero, List.getElem_cons_succ]
        refine wpAnyH_take (i := 9) (oi := _) (v := ?_) rfl (by kernel_rfl) (by kernel_rfl) (by kernel_rfl) (fun _ _ _ h => h) (Or.inl ⟨by rfl, ?_⟩) hHeld ?_
        rotate_left
        · (intro w hSw; (try dsimp only at hSw); go_simp; try with_reducible rfl)
        try simp only [Act.put, List.setIfInBounds_toArray, List.set_cons_zero, List.set_cons_succ, List.getElem_toArray, List.getElem_cons_zero, List.getElem_cons_succ]
        refine wpAnyH_take (i := 10) (oi := _) (v := ?_) rfl (by kernel_rfl) (by kernel_rfl) (by kernel_rfl) (fun _ _ _ h => h) (Or.inl ⟨by rfl, ?_⟩) hHeld ?_
        rotate_left
        · (intro w hSw; (try dsimp only at hSw); go_simp; try with_reducible rfl)
        try simp only [Act.put, List.setIfInBounds_toArray, List.set_cons_zero, List.set_cons_succ, List.getElem_toArray, List.getElem_cons_zero, List.getElem_cons_succ]
        refine wpAnyH_take (i := 11) (oi := _) (v := ?_) rfl (by kernel_rfl) (by kernel_rfl) (by kernel_rfl) (fun _ _ _ h => h) (Or.inl ⟨by rfl, ?_⟩) hHeld ?_
        rotate_left
        · (intro w hSw; (try dsimp only at hSw); go_simp; try with_reducible rfl)
        try simp only [Act.put, List.setIfInBounds_toArray, List.set_cons_zero, List.set_cons_succ, List.getElem_toArray, List.getElem_cons_zero, List.getElem_cons_succ]
        refine wpAnyH_take (i := 12) (oi := _) (v := ?_) rfl (by kernel_rfl) (by kernel_rfl) (by kernel_rfl) (fun _ _ _ h => h) (Or.inl ⟨by rfl, ?_⟩) hHeld ?_
        rotate_left
        · (intro w hSw; (try dsimp only at hSw); go_simp; try with_reducible rfl)
        try simp only [Act.put, List.setIfInBounds_toArray, List.set_cons_zero, List.set_cons_succ, List.getElem_toArray, List.getElem_cons_zero, List.getElem_cons_succ]
        refine wpAnyH_ready (rs := [1, 13]) (by kernel_rfl) (by simp) ?_
        refine AllReadyH.cons (o := _) rfl (fun K hK => ?_) (AllReadyH.cons (o := _) rfl (fun K hK => ?_) (AllReadyH.nil))
        · skip
          go_simp
          refine hK.out _ _ (hHeld) (fun hHeld => ?_)
          clear hK K
          try simp only [Act.put, List.setIfInBounds_toArray, List.set_cons_zero, List.set_cons_succ, List.getElem_toArray, List.getElem_cons_zero, List.getElem_cons_succ]
          refine wpAnyH_ready (rs := [13]) (by kernel_rfl) (by simp) ?_
          refine AllReadyH.cons (o := _) rfl (fun K hK => ?_) (AllReadyH.nil)
          go_simp
          refine HCALL.out.mono ?_
          rintro e w2 ⟨g2, c2, rfl, hp2, hb2⟩
          obtain ⟨X, hX⟩ : ∃ X, t.gen L u = X := ⟨_, rfl⟩
          rw [hX] at hp2 ⊢
          have hz2' : wz.heap.size ≤ w2.heap.size := hb2.size
          have HX := Lib.hid hX
          have HP2 := Lib.hid hp2
          have HB2 := Lib.hid (show Below wz.heap.size wz w2 from ((Below.refl wz.heap.size wz).drew).trans hb2)
          have hsx := e10_keep (W := wz.drew) (W' := w2) (hb2.block _ la) (hb2.block _ lb) (hb2.block _ lp) (hb2.block _ lp') hHeld
          have HSX := Lib.hid hsx
          have q3 : w2.cell? ⟨W1.heap.size, 3, none⟩ = some (.slice gv j cv) := (HB2.out.cell (p := ⟨W1.heap.size, 3, none⟩) lO).trans o3
          have lO2 : W1.heap.size < w2.heap.size := by omega
          clear hX hp2 hb2 hsx
          go_wp2_with fail
          refine hK.out _ _ (HSX.out) (fun hHeld => ?_)
          clear hK K
          try simp only [Act.put, List.setIfInBounds_toArray, List.set_cons_zero, List.set_cons_succ, List.getElem_toArray, List.getElem_cons_zero, List.getElem_cons_succ]
          clear HSX
          refine wpAnyH_ready (rs := [14]) (by kernel_rfl) (by simp) ?_
          refine AllReadyH.cons (o := _) rfl (fun K hK => ?_) (AllReadyH.nil)
          go_simp
          refine hK.out _ _ (e10_keep (Below.heap_alloc _ _ _ (by omega)) (Below.heap_alloc _ _ _ (by omega)) (Below.heap_alloc _ _ _ (by omega)) (Below.heap_alloc _ _ _ (by omega)) hHeld) (fun hHeld => ?_)
          clear hK K
          try simp only [Act.put, List.setIfInBounds_toArray, List.set_cons_zero, List.set_cons_succ, List.getElem_toArray, List.getElem_cons_zero, List.getElem_cons_succ]
          refine wpAnyH_ready (rs := [15]) (by kernel_rfl) (by simp) ?_
          refine AllReadyH.cons (o := _) rfl (fun K hK => ?_) (AllReadyH.nil)
          refine step_append_term (by rfl) _ _ _ (by rfl) (W1.heap.size + 1) 24 i0 _ 56 Try.underlying22 hi hz0 hz1 hz2 rfl (.slice gv j cv) j xs (by rfl) ((ownsRow_below HOWN.out HB2.out).alloc _) _ 1 [.int .i64 X.kind, .string X.name, .int .i64 X.n, .slice g2 X.args.length c2] (by rfl) rfl news4 one4 (by unfold maxLen; omega) (by omega) (by simp; omega) ?_
          intro g3 c3 w3 hown3 hgrow hsep3
          have n8 : ∀ q, (Value.slice gv j cv).ownBlock = some q → W1.heap.size + 1 ≤ q := fun q e => (HOWN.out.lt q e).1
          have hbo3 := row4 (blk_step HB2.out hgrow HBL.out.bo (fun e => by have := n8 _ e; omega))
          have t3 : w3.cell? ⟨W1.heap.size, 3, none⟩ = some (.slice gv j cv) := hbo3.1.2.2.2
          have tf3 : w3.frozen? ⟨W1.heap.size, 3, none⟩ = false := hbo3.2.2.2.2
          have hb3 : ∀ q, q < w2.heap.size + 1 → (Value.slice gv j cv).ownBlock ≠ some q → w3.heap[q]? = _ := fun q h1 h2 => hgrow.block q (by simpa using h1) (fun e => h2 e.symm)
          refine hK.out _ _ (e10_keep (hb3 _ (by omega) (fun e => by have := n8 _ e; omega)) (hb3 _ (by omega) (fun e => by have := n8 _ e; omega)) (hb3 _ (by omega) (fun e => by have := n8 _ e; omega)) (hb3 _ (by omega) (fun e => by have := n8 _ e; omega)) hHeld) (fun hHeld => ?_)
          clear hK K
          try simp only [Act.put, List.setIfInBounds_toArray, List.set_cons_zero, List.set_cons_succ, List.getElem_toArray, List.getElem_cons_zero, List.getElem_cons_succ]
          refine wpAnyH_take (i := 16) (oi := _) (v := ?_) rfl (by kernel_rfl) (by kernel_rfl) (by kernel_rfl) (fun _ _ _ h => h) (Or.inl ⟨by rfl, ?_⟩) hHeld ?_
          rotate_left
          · (intro w hSw; (try dsimp only at hSw); go_simp; try with_reducible rfl)
          try simp only [Act.put, List.setIfInBounds_toArray, List.set_cons_zero, List.set_cons_succ, List.getElem_toArray, List.getElem_cons_zero, List.getElem_cons_succ]
          refine wpAnyH_ready (rs := [17]) (by kernel_rfl) (by simp) ?_
          refine AllReadyH.cons (o := _) rfl (fun K hK => ?_) (AllReadyH.nil)
          go_simp
          refine hK.out _ _ (e10_keep (Below.heap_setCell _ _ _ _ (by show w.heap.size ≠ W1.heap.size; omega)) (Below.heap_setCell _ _ _ _ (by show w.heap.size + 1 ≠ W1.heap.size; omega)) (Below.heap_setCell _ _ _ _ (by show p ≠ W1.heap.size; omega)) (Below.heap_setCell _ _ _ _ (by show p' ≠ W1.heap.size; omega)) hHeld) (fun hHeld => ?_)
          clear hK K
          try simp only [Act.put, List.setIfInBounds_toArray, List.set_cons_zero, List.set_cons_succ, List.getElem_toArray, List.getElem_cons_zero, List.getElem_cons_succ]
          refine wpAnyH_done (by kernel_rfl) ?_ _
          go_wp2_with fail
          go_roundw
          case rel => exact ⟨j + 1, g3, c3, by omega, by go_num, BL.step hjl (by rw [HM1.out, HM2.out]) HT.out HU.out HX.out HBL.out.eb HBL.out.low lr1 HBL.out.bo HOWN.out HCELLS.out HB2.out HP2.out hown3 hgrow hsep3⟩
          case measure => simp [intOf]; omega
        · skip
          go_simp
          refine HCALL.out.mono ?_
          rintro e w2 ⟨g2, c2, rfl, hp2, hb2⟩
          obtain ⟨X, hX⟩ : ∃ X, t.gen L u = X := ⟨_, rfl⟩
          rw [hX] at hp2 ⊢
          have hz2' : wz.heap.size ≤ w2.heap.size := hb2.size
          have HX := Lib.hid hX
          have HP2 := Lib.hid hp2
          have HB2 := Lib.hid (show Below wz.heap.size wz w2 from ((Below.refl wz.heap.size wz).drew).trans hb2)
          have hsx := e10_keep (W := wz.drew) (W' := w2) (hb2.block _ la) (hb2.block _ lb) (hb2.block _ lp) (hb2.block _ lp') hHeld
          have HSX := Lib.hid hsx
          have q3 : w2.cell? ⟨W1.heap.size, 3, none⟩ = some (.slice gv j cv) := (HB2.out.cell (p := ⟨W1.heap.size, 3, none⟩) lO).trans o3
          have lO2 : W1.heap.size < w2.heap.size := by omega
          clear hX hp2 hb2 hsx
          go_wp2_with fail
          refine hK.out _ _ (HSX.out) (fun hHeld => ?_)
          clear hK K
          try simp only [Act.put, List.setIfInBounds_toArray, List.set_cons_zero, List.set_cons_succ, List.getElem_toArray, List.getElem_cons_zero, List.getElem_cons_succ]
          clear HSX
          refine wpAnyH_ready (rs := [1, 14]) (by kernel_rfl) (by simp) ?_
          refine AllReadyH.cons (o := _) rfl (fun K hK => ?_) (AllReadyH.cons (o := _) rfl (fun K hK => ?_) (AllReadyH.nil))
          · skip
            go_simp
            refine hK.out _ _ (hHeld) (fun hHeld => ?_)
            clear hK K
            try simp only [Act.put, List.setIfInBounds_toArray, List.set_cons_zero, List.set_cons_succ, List.getElem_toArray, List.getElem_cons_zero, List.getElem_cons_succ]
            refine wpAnyH_ready (rs := [14]) (by kernel_rfl) (by simp) ?_
            refine AllReadyH.cons (o := _) rfl (fun K hK => ?_) (AllReadyH.nil)
            go_simp
            refine hK.out _ _ (e10_keep (Below.heap_alloc _ _ _ (by omega)) (Below.heap_alloc _ _ _ (by omega)) (Below.heap_alloc _ _ _ (by omega)) (Below.heap_alloc _ _ _ (by omega)) hHeld) (fun hHeld => ?_)
            clear hK K
            try simp only [Act.put, List.setIfInBounds_toArray, List.set_cons_zero, List.set_cons_succ, List.getElem_toArray, List.getElem_cons_zero, List.getElem_cons_succ]
            refine wpAnyH_ready (rs := [15]) (by kernel_rfl) (by simp) ?_
            refine AllReadyH.cons (o := _) rfl (fun K hK => ?_) (AllReadyH.nil)
            refine step_append_term (by rfl) _ _ _ (by rfl) (W1.heap.size + 1) 24 i0 _ 56 Try.underlying22 hi hz0 hz1 hz2 rfl (.slice gv j cv) j xs (by rfl) ((ownsRow_below HOWN.out HB2.out).alloc _) _ 1 [.int .i64 X.kind, .string X.name, .int .i64 X.n, .slice g2 X.args.length c2] (by rfl) rfl news4 one4 (by unfold maxLen; omega) (by omega) (by simp; omega) ?_
            intro g3 c3 w3 hown3 hgrow hsep3
            have n8 : ∀ q, (Value.slice gv j cv).ownBlock = some q → W1.heap.size + 1 ≤ q := fun q e => (HOWN.out.lt q e).1
            have hbo3 := row4 (blk_step HB2.out hgrow HBL.out.bo (fun e => by have := n8 _ e; omega))
            have t3 : w3.cell? ⟨W1.heap.size, 3, none⟩ = some (.slice gv j cv) := hbo3.1.2.2.2
            have tf3 : w3.frozen? ⟨W1.heap.size, 3, none⟩ = false := hbo3.2.2.2.2
            have hb3 : ∀ q, q < w2.heap.size + 1 → (Value.slice gv j cv).ownBlock ≠ some q → w3.heap[q]? = _ := fun q h1 h2 => hgrow.block q (by simpa using h1) (fun e => h2 e.symm)
            refine hK.out _ _ (e10_keep (hb3 _ (by omega) (fun e => by have := n8 _ e; omega)) (hb3 _ (by omega) (fun e => by have := n8 _ e; omega)) (hb3 _ (by omega) (fun e => by have := n8 _ e; omega)) (hb3 _ (by omega) (fun e => by have := n8 _ e; omega)) hHeld) (fun hHeld => ?_)
            clear hK K
            try simp only [Act.put, List.setIfInBounds_toArray, List.set_cons_zero, List.set_cons_succ, List.getElem_toArray, List.getElem_cons_zero, List.getElem_cons_succ]
            refine wpAnyH_take (i := 16) (oi := _) (v := ?_) rfl (by kernel_rfl) (by kernel_rfl) (by kernel_rfl) (fun _ _ _ h => h) (Or.inl ⟨by rfl, ?_⟩) hHeld ?_
            rotate_left
            · (intro w hSw; (try dsimp only at hSw); go_simp; try with_reducible rfl)
            try simp only [Act.put, List.setIfInBounds_toArray, List.set_cons_zero, List.set_cons_succ, List.getElem_toArray, List.getElem_cons_zero, List.getElem_cons_succ]
            refine wpAnyH_ready (rs := [17]) (by kernel_rfl) (by simp) ?_
            refine AllReadyH.cons (o := _) rfl (fun K hK => ?_) (AllReadyH.nil)
            go_simp
            refine hK.out _ _ (e10_keep (Below.heap_setCell _ _ _ _ (by show w.heap.size ≠ W1.heap.size; omega)) (Below.heap_setCell _ _ _ _ (by show w.heap.size + 1 ≠ W1.heap.size; omega)) (Below.heap_setCell _ _ _ _ (by show p ≠ W1.heap.size; omega)) (Below.heap_setCell _ _ _ _ (by show p' ≠ W1.heap.size; omega)) hHeld) (fun hHeld => ?_)
            clear hK K
            try simp only [Act.put, List.setIfInBounds_toArray, List.set_cons_zero, List.set_cons_succ, List.getElem_toArray, List.getElem_cons_zero, List.getElem_cons_succ]
            refine wpAnyH_done (by kernel_rfl) ?_ _
            go_wp2_with fail
            go_roundw
            case rel => exact ⟨j + 1, g3, c3, by omega, by go_num, BL.step hjl (by rw [HM1.out, HM2.out]) HT.out HU.out HX.out HBL.out.eb HBL.out.low lr1 HBL.out.bo HOWN.out HCELLS.out HB2.out HP2.out hown3 hgrow hsep3⟩
            case measure => simp [intOf]; omega
          · skip
            go_simp
            refine hK.out _ _ (e10_keep (Below.heap_alloc _ _ _ (by omega)) (Below.heap_alloc _ _ _ (by omega)) (Below.heap_alloc _ _ _ (by omega)) (Below.heap_alloc _ _ _ (by omega)) hHeld) (fun hHeld => ?_)
            clear hK K
            try simp only [Act.put, List.setIfInBounds_toArray, List.set_cons_zero, List.set_cons_succ, List.getElem_toArray, List.getElem_cons_zero, List.getElem_cons_succ]
            refine wpAnyH_ready (rs := [1]) (by kernel_rfl) (by simp) ?_
            refine AllReadyH.cons (o := _) rfl (fun K hK => ?_) (AllReadyH.nil)
            go_simp
            refine hK.out _ _ (hHeld) (fun hHeld => ?_)
            clear hK K
            try simp only [Act.put, List.setIfInBounds_toArray, List.set_cons_zero, List.set_cons_succ, List.getElem_toArray, List.getElem_cons_zero, List.getElem_cons_succ]
            refine wpAnyH_ready (rs := [15]) (by kernel_rfl) (by simp) ?_
            refine AllReadyH.cons (o := _) rfl (fun K hK => ?_) (AllReadyH.nil)
            refine step_append_term (by rfl) _ _ _ (by rfl) (W1.heap.size + 1) 24 i0 _ 56 Try.underlying22 hi hz0 hz1 hz2 rfl (.slice gv j cv) j xs (by rfl) ((ownsRow_below HOWN.out HB2.out).alloc _) _ 1 [.int .i64 X.kind, .string X.name, .int .i64 X.n, .slice g2 X.args.length c2] (by rfl) rfl news4 one4 (by unfold maxLen; omega) (by omega) (by simp; omega) ?_
            intro g3 c3 w3 hown3 hgrow hsep3
            have n8 : ∀ q, (Value.slice gv j cv).ownBlock = some q → W1.heap.size + 1 ≤ q := fun q e => (HOWN.out.lt q e).1
            have hbo3 := row4 (blk_step HB2.out hgrow HBL.out.bo (fun e => by have := n8 _ e; omega))
            have t3 : w3.cell? ⟨W1.heap.size, 3, none⟩ = some (.slice gv j cv) := hbo3.1.2.2.2
            have tf3 : w3.frozen? ⟨W1.heap.size, 3, none⟩ = false := hbo3.2.2.2.2
            have hb3 : ∀ q, q < w2.heap.size + 1 → (Value.slice gv j cv).ownBlock ≠ some q → w3.heap[q]? = _ := fun q h1 h2 => hgrow.block q (by simpa using h1) (fun e => h2 e.symm)
            refine hK.out _ _ (e10_keep (hb3 _ (by omega) (fun e => by have := n8 _ e; omega)) (hb3 _ (by omega) (fun e => by have := n8 _ e; omega)) (hb3 _ (by omega) (fun e => by have := n8 _ e; omega)) (hb3 _ (by omega) (fun e => by have := n8 _ e; omega)) hHeld) (fun hHeld => ?_)
            clear hK K
            try simp only [Act.put, List.setIfInBounds_toArray, List.set_cons_zero, List.set_cons_succ, List.getElem_toArray, List.getElem_cons_zero, List.getElem_cons_succ]
            refine wpAnyH_take (i := 16) (oi := _) (v := ?_) rfl (by kernel_rfl) (by kernel_rfl) (by kernel_rfl) (fun _ _ _ h => h) (Or.inl ⟨by rfl, ?_⟩) hHeld ?_
            rotate_left
            · (intro w hSw; (try dsimp only at hSw); go_simp; try with_reducible rfl)
            try simp only [Act.put, List.setIfInBounds_toArray, List.set_cons_zero, List.set_cons_succ, List.getElem_toArray, List.getElem_cons_zero, List.getElem_cons_succ]
            refine wpAnyH_ready (rs := [17]) (by kernel_rfl) (by simp) ?_
            refine AllReadyH.cons (o := _) rfl (fun K hK => ?_) (AllReadyH.nil)
            go_simp
            refine hK.out _ _ (e10_keep (Below.heap_setCell _ _ _ _ (by show w.heap.size ≠ W1.heap.size; omega)) (Below.heap_setCell _ _ _ _ (by show w.heap.size + 1 ≠ W1.heap.size; omega)) (Below.heap_setCell _ _ _ _ (by show p ≠ W1.heap.size; omega)) (Below.heap_setCell _ _ _ _ (by show p' ≠ W1.heap.size; omega)) hHeld) (fun hHeld => ?_)
            clear hK K
            try simp only [Act.put, List.setIfInBounds_toArray, List.set_cons_zero, List.set_cons_succ, List.getElem_toArray, List.getElem_cons_zero, List.getElem_cons_succ]
            refine wpAnyH_done (by kernel_rfl) ?_ _
            go_wp2_with fail
            go_roundw
            case rel => exact ⟨j + 1, g3, c3, by omega, by go_num, BL.step hjl (by rw [HM1.out, HM2.out]) HT.out HU.out HX.out HBL.out.eb HBL.out.low lr1 HBL.out.bo HOWN.out HCELLS.out HB2.out HP2.out hown3 hgrow hsep3⟩
            case measure => simp [intOf]; omega
      · obtain rfl : j = m := by omega
        obtain ⟨⟨r0, r1, r2, r3⟩, f0, f1, f2, f3⟩ := row4 HBL.out.eb.br
        have lr := HBL.out.eb.size
        clear hlt hj
        go_wp2_with fail
        generalize hwf : World.setCell _ _ _ = wf
        obtain ⟨hbf, hrf, hsame, hsz⟩ := set4_fin HBL.out.eb.db.below (by omega) HBL.out.eb.br hwf
        obtain ⟨⟨z0, z1, z2, z3⟩, _⟩ := row4 hrf
        refine bodyPost_ret (v := .agg #[.int .i64 k, .string s, .int .i64 n, .slice gv j cv]) (by simp [results, Try.results49, go_sem, z0, z1, z2, z3]) rfl ?_
        obtain ⟨xs, hown, hcells⟩ := HBL.out.row
        rw [List.take_of_length_le (by rw [HM1.out]; exact Nat.le_refl _), List.take_of_length_le (by rw [HM2.out]; exact Nat.le_refl _)] at hcells
        have hgl : (Tm.gens L l us).length = j := by rw [gens_length _ l us (by rw [HM1.out, HM2.out]), HM1.out]
        have hP : Tm.sliceP wf (fun q => w.heap.size ≤ q ∧ q < wf.heap.size) (Tm.gens L l us) (.slice gv j cv) :=
          sliceP_done (wr := wz) (lo := W1.heap.size + 1) (xs := xs) (by rw [hgl]; exact hown) hcells (by omega) (by omega) (by omega) fun q hq _ => hsame q (by omega)
        rw [gen_like HQ.out]
        exact ⟨gv, cv, by simp only [mk_kind, mk_name, mk_n, mk_args, hgl], by simp only [mk_kind, mk_name, mk_n, mk_args, hgl]; exact Tm.innP_mk.2 ⟨HH.out, hP⟩, hbf⟩
end Go.Proofs.Ytjbicfimoiiglaa
