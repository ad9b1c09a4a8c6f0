/-
  The program's closure that builds a term as long as there is room.
-/
import Derived.Test.YtjbicfimoiiglaaEmap
import Derived.Test.YtjbicfimoiiglaaTurnA
namespace Go.Proofs.Ytjbicfimoiiglaa
open Go.RowKit Go.Shelf Go.Maps

/-- One term more in a row that a call gathers, while other blocks are written. -/
theorem row_step_g {wr w2 w3 : World} {lo : Nat} {e : TypeId} {v v' : Value} {k : Nat} {l : List Tm} {t : Tm} {xs : List Value} {sv : Value} {tmp : Obj}
    (hrow : wr.ownsRow lo e 4 v k xs) (hcells : Tm.cellsP wr (okRow lo wr v) l xs) (hs2 : wr.heap.size ≤ w2.heap.size) (hb : ∀ k, lo ≤ k → k < wr.heap.size → w2.heap[k]? = wr.heap[k]?) (hlo : lo ≤ wr.heap.size)
    (ht : Tm.innP w2 (fun b => wr.heap.size ≤ b ∧ b < w2.heap.size) t sv) (hgrow : (w2.alloc tmp).grownBy w3 v.ownBlock)
    (hsep : v'.ownBlock = v.ownBlock ∨ ∀ b, v'.ownBlock = some b → (w2.alloc tmp).heap.size ≤ b) :
    Tm.cellsP w3 (okRow lo w3 v') (l ++ [t]) (xs ++ [.int .i64 t.kind, .string t.name, .int .i64 t.n, sv]) := by
  have hs3 : w2.heap.size + 1 ≤ w3.heap.size := by simpa using hgrow.size
  have cell3 : ∀ b o u, b < w2.heap.size → v.ownBlock ≠ some b → w2.cell? ⟨b, o, none⟩ = some u → w3.cell? ⟨b, o, none⟩ = some u := fun b o u hlt hne hc =>
    hgrow.cell (a := ⟨b, o, none⟩) (by rw [World.cell?_alloc_lt _ _ _ (by exact hlt)]; exact hc) (fun e => hne e.symm)
  have sep : ∀ b, b < w2.heap.size → v.ownBlock ≠ some b → v'.ownBlock ≠ some b := fun b hlt hne => by
    rcases hsep with h | h
    · rw [h]; exact hne
    · intro e
      have := h b e
      simp at this
      omega
  refine Tm.cellsP_snoc (Tm.innP_same (fun b hb' => ?_) (fun b o u hb' hc => ?_) t sv ht) l xs (Tm.cellsP_same (fun b hb' => ?_) (fun b o u hb' hc => ?_) l xs hcells)
  · have hne : v.ownBlock ≠ some b := fun e => by have := (hrow.lt b e).2; omega
    exact ⟨by omega, by omega, sep b hb'.2 hne⟩
  · have hne : v.ownBlock ≠ some b := fun e => by have := (hrow.lt b e).2; omega
    exact cell3 b o u hb'.2 hne hc
  · exact ⟨hb'.1, by have := hb'.2.1; omega, sep b (by have := hb'.2.1; omega) hb'.2.2⟩
  · exact cell3 b o u (by have := hb'.2.1; omega) hb'.2.2 ((World.cell?_of_block (a := ⟨b, o, none⟩) (hb b hb'.1 hb'.2.1)).trans hc)

/-- What the closure has captured, but for the room. -/
structure BEnv (l : List Bd) (σ : Int → Tm) (dom : Int → Bool) (m n B Br Bb Bf : Nat) (W : World) : Prop where
  kb : Boxed W Bb 71 (.map (some m))
  kf : Boxed W Bf 80 (.func (.func 76) #[] #[.pointer (some ⟨Br, 0, none⟩), .pointer (some ⟨Bb, 0, none⟩), .pointer (some ⟨Bf, 0, none⟩)])
  km : EMap l σ dom m n B W
structure BAway (m B Br Bb Bf : Nat) : Prop where
  B : B ≤ Br
  b : Bb ≠ Br
  f : Bf ≠ Br
  m : m ≠ Br
theorem BEnv.kept {l : List Bd} {σ : Int → Tm} {dom : Int → Bool} {m n B Br Bb Bf : Nat} {W W' : World} (h : BEnv l σ dom m n B Br Bb Bf W) (ha : BAway m B Br Bb Bf) (hg : W.grownBy W' (some Br)) : BEnv l σ dom m n B Br Bb Bf W' :=
  ⟨h.kb.kept hg (by simp [ha.b]), h.kf.kept hg (by simp [ha.f]), h.km.kept hg ha.m ha.B⟩
theorem grown_set0 (W : World) (b : Nat) (v : Value) : W.grownBy (W.setCell ⟨b, 0, none⟩ v) (some b) := grownBy_setCell' W b v

theorem set_al2 (w : World) (b : Nat) (v : Value) (o1 o2 : Obj) : w.grownBy (((w.setCell ⟨b, 0, none⟩ v).alloc o1).alloc o2) (some b) :=
  ((grown_set0 w b v).trans (World.grownBy_alloc _ o1 _)).trans (World.grownBy_alloc _ o2 _)
def set4 (W : World) (b : Nat) (a0 a1 a2 a3 : Value) : World := (((W.setCell ⟨b, 0, none⟩ a0).setCell ⟨b, 1, none⟩ a1).setCell ⟨b, 2, none⟩ a2).setCell ⟨b, 3, none⟩ a3
theorem set4_blk (W : World) {b k : Nat} (a0 a1 a2 a3 : Value) (h : k ≠ b) : (set4 W b a0 a1 a2 a3).heap[k]? = W.heap[k]? := set4_other W b a0 a1 a2 a3 k h
theorem set4_size (W : World) (b : Nat) (a0 a1 a2 a3 : Value) : (set4 W b a0 a1 a2 a3).heap.size = W.heap.size := by simp [set4]
theorem set4_self {W : World} {b : Nat} {x0 x1 x2 x3 : Value} {t : TypeId} (h : W.heap[b]? = some (Obj.cells #[x0, x1, x2, x3] t (0, 0))) (a0 a1 a2 a3 : Value) : (set4 W b a0 a1 a2 a3).heap[b]? = some (Obj.cells #[a0, a1, a2, a3] t (0, 0)) :=
  set1_same (set1_same (set1_same (set1_same h a0) a1) a2) a3
theorem set4_grown {w W : World} {b : Nat} {row : Option Nat} (h : w.grownBy W row) (hb : w.heap.size ≤ b) (a0 a1 a2 a3 : Value) : w.grownBy (set4 W b a0 a1 a2 a3) row :=
  ⟨h.os, h.tape, h.output, by rw [set4_size]; exact h.size, fun k hk hne => (set4_blk W a0 a1 a2 a3 (by omega)).trans (h.block k hk hne)⟩
theorem set4_below {w W : World} {b : Nat} (h : Below w.heap.size w W) (hb : w.heap.size ≤ b) (a0 a1 a2 a3 : Value) : Below w.heap.size w (set4 W b a0 a1 a2 a3) :=
  (((h.setCell (p := ⟨b, 0, none⟩) hb _).setCell (p := ⟨b, 1, none⟩) hb _).setCell (p := ⟨b, 2, none⟩) hb _).setCell (p := ⟨b, 3, none⟩) hb _
theorem set4_boxed {W : World} {b B : Nat} {t : TypeId} {v : Value} (h : Boxed W B t v) (hne : B ≠ b) (a0 a1 a2 a3 : Value) : Boxed (set4 W b a0 a1 a2 a3) B t v := (set4_blk W a0 a1 a2 a3 hne).trans h

theorem inn_far {w W W' : World} {B Br : Nat} {t : Tm} {sv : Value} (h : Tm.inn W B t sv) (hg : w.grownBy W (some Br)) (hg' : w.grownBy W' (some Br)) (hB : B ≤ Br) (hBr : Br < w.heap.size) : Tm.inn W' B t sv :=
  Tm.inn_same (Nat.le_refl _) (fun b o v hlt hc => by
    rw [World.cell?_of_block (a := ⟨b, o, none⟩) ((hg'.block b (by omega) (by simp; omega)).trans (hg.block b (by omega) (by simp; omega)).symm)]
    exact hc) _ _ h
theorem grown_own {w W W' : World} {Br : Nat} {row : Option Nat} (h : w.grownBy W (some Br)) (hg : W.grownBy W' row) (hr : ∀ k, row = some k → w.heap.size ≤ k) : w.grownBy W' (some Br) :=
  ⟨hg.os.trans h.os, hg.tape.trans h.tape, hg.output.trans h.output, Nat.le_trans h.size hg.size, fun k hk hne => (hg.block k (by have := h.size; omega) (fun e => by have := hr k e.symm; omega)).trans (h.block k hk hne)⟩
theorem blk_step_g {wr w4 w5 : World} {box tmp o : Obj} {Br j : Nat} {row : Option Nat} (hg4 : (wr.alloc box).grownBy w4 (some Br)) (hg5 : (w4.alloc tmp).grownBy w5 row) (h : wr.heap[j]? = some o) (hj : j ≠ Br) (hr : row ≠ some j) : w5.heap[j]? = some o := by
  have hlt := (Array.getElem?_eq_some_iff.1 h).1
  have h1 : (wr.alloc box).heap[j]? = some o := (Below.heap_alloc _ _ _ hlt).trans h
  have h4 := (hg4.block j (Array.getElem?_eq_some_iff.1 h1).1 (by simp [hj])).trans h1
  have hlt4 := (Array.getElem?_eq_some_iff.1 h4).1
  have h5 : (w4.alloc tmp).heap[j]? = some o := (Below.heap_alloc _ _ _ hlt4).trans h4
  exact (hg5.block j (Array.getElem?_eq_some_iff.1 h5).1 (fun e => hr e.symm)).trans h5

/-- What is built. -/
def BldPost (u : Tm) (room Br : Nat) (w : World) (e : Ending) (w' : World) : Prop :=
  ∃ g c, e = .returned (.agg #[.int .i64 (u.cut room).1.kind, .string (u.cut room).1.name, .int .i64 (u.cut room).1.n, .slice g (u.cut room).1.args.length c]) ∧
    Tm.innP w' (fun b => w.heap.size ≤ b ∧ b < w'.heap.size) (u.cut room).1 (.slice g (u.cut room).1.args.length c) ∧ w.grownBy w' (some Br) ∧ Boxed w' Br 3 (.int .i64 ((u.cut room).2 : Nat))
theorem grownBy_none {w w' : World} (h : Below w.heap.size w w') (row : Option Nat) : w.grownBy w' row := ⟨h.os, h.tape, h.output, h.size, fun k hk _ => h.block k hk⟩

set_option maxRecDepth 100000 in
set_option maxHeartbeats 4000000 in
theorem bld_any (l : List Bd) (σ : Int → Tm) (hσ : Sol l σ) (dom : Int → Bool) (hdom : ∀ v, (dom v = true ∨ (dom v = false ∧ place l v = none))) (m n B Br Bb Bf : Nat) (ha : BAway m B Br Bb Bf) :
    ∀ (room : Nat), room ≤ 3000 → ∀ (x : Tm) (w : World) (sv : Value), Boxed w Br 3 (.int .i64 (room : Nat)) → BEnv l σ dom m n B Br Bb Bf w → x.fair = true → Tm.inn w B x sv →
    Calls Try.prog 76 #[.agg #[.int .i64 x.kind, .string x.name, .int .i64 x.n, sv], .pointer (some ⟨Br, 0, none⟩), .pointer (some ⟨Bb, 0, none⟩), .pointer (some ⟨Bf, 0, none⟩)] w fun e w' => BldPost (x.bnd σ) room Br w e w' := by
  intro room
  induction room using Nat.strongRecOn with
  | ind room ih =>
  intro hroom x w sv hR hE hx hin
  obtain ⟨_, g, cap, rfl, hcap, hlen, _⟩ := Tm.inn_iff.1 hin
  have cR := hR.cell
  have fR := hR.frozen
  have lR := hR.lt
  have cB := hE.kb.cell
  have lB := hE.kb.lt
  have cF := hE.kf.cell
  have lF := hE.kf.lt
  have hBr := ha.B
  have nB := ha.b
  have nF := ha.f
  have nB' : Br ≠ Bb := fun e => nB e.symm
  have nF' : Br ≠ Bf := fun e => nF e.symm
  have HR := Lib.hid hR
  have HE := Lib.hid hE
  have HX := Lib.hid hx
  have HIN := Lib.hid hin
  have HIH := Lib.hid ih
  have HS := Lib.hid hσ
  have HD := Lib.hid hdom
  have HA := Lib.hid ha
  clear hR hE hx hin ih hσ hdom
  cases room with
  | zero =>
    have hc : (x.bnd σ).cut 0 = (Tm.mk 0 ⟨#[]⟩ 0 [], 0) := by obtain ⟨k, s, n, ts⟩ := x.bnd σ; simp [Tm.cut]
    have HC := Lib.hid hc
    clear hc ha
    go_enter Try.func76, Try.ntmps76
    go_wp2_with fail
    refine bodyPost_ret (v := .agg #[.int .i64 0, .string ⟨#[]⟩, .int .i64 0, .slice none 0 0]) (by simp [results, Try.results76, go_sem]) rfl ?_
    refine ⟨none, 0, by rw [HC.out]; rfl, ?_, ?_, ?_⟩
    · rw [HC.out]
      exact Tm.innP_mk.2 ⟨⟨by decide, Nat.zero_le _, by decide⟩, none, 0, rfl, Nat.le_refl _, by simp, .inl rfl⟩
    · exact grownBy_none (al2 _ _ _) _
    · rw [HC.out]
      exact (HR.out.alloc _).alloc _
  | succ r =>
    clear ha
    obtain ⟨i0, hi, hz0, hz1, hz2⟩ := info_parts Try.infoTm
    go_enter Try.func76, Try.ntmps76
    go_wp2_with fail
    have hg2 := set_al2 w Br (.int .i64 (r : Nat)) (.cells #[.int .i64 x.kind, .string x.name, .int .i64 x.n, .slice g x.args.length cap] 24) (.cells #[.int .i64 0, .string ⟨#[]⟩, .int .i64 0, .slice none 0 0] 24)
    have hR2 := ((HR.out.set (.int .i64 (r : Nat))).alloc (.cells #[.int .i64 x.kind, .string x.name, .int .i64 x.n, .slice g x.args.length cap] 24)).alloc (.cells #[.int .i64 0, .string ⟨#[]⟩, .int .i64 0, .slice none 0 0] 24)
    refine (end_any l σ dom m n B x _ _ (HE.out.kept HA.out hg2).km (by simp; omega) HX.out (Tm.inn_same (Nat.le_refl _) (fun b o v hlt hc => hg2.cell hc (by simp; omega)) _ _ HIN.out) (fun _ => HD.out _)).mono ?_
    rintro e w3 ⟨t, sv', rfl, hend, hint, hb3⟩
    obtain ⟨_, gt, ct, rfl, hct, hlt8, _⟩ := Tm.inn_iff.1 hint
    have hs3 : w.heap.size + 2 ≤ w3.heap.size := by have := hb3.size; simp at this; omega
    have hx3 : w3.heap[w.heap.size]? = some (Obj.cells #[.int .i64 x.kind, .string x.name, .int .i64 x.n, .slice g x.args.length cap] 24 (0, 0)) := (hb3.block _ (by simp; omega)).trans ((Below.heap_alloc _ _ _ (by simp)).trans (newBlk _ _ _ (by simp)))
    have hz3 : w3.heap[w.heap.size + 1]? = some (Obj.cells #[.int .i64 0, .string ⟨#[]⟩, .int .i64 0, .slice none 0 0] 24 (0, 0)) := (hb3.block _ (by simp)).trans (newBlk _ _ _ (by simp))
    have hR3 : Boxed w3 Br 3 (.int .i64 (r : Nat)) := (hb3.block _ (by simp; omega)).trans hR2
    obtain ⟨⟨c0, c1, c2, c3⟩, f0, f1, f2, f3⟩ := row4 hx3
    have HX3 := Lib.hid hx3
    have HZ3 := Lib.hid hz3
    have HR3 := Lib.hid hR3
    have HG3 := Lib.hid (hg2.trans (grownBy_none hb3 (some Br)))
    have HEND := Lib.hid hend
    have HINT := Lib.hid hint
    have hl8 : t.args.length ≤ 8 := by
      have := hend.fair
      obtain ⟨k, s, n, ts⟩ := t
      exact Tm.fair_args this
    clear hg2 hR2 hend hint hb3 hx3 hz3 hR3 cR fR cB cF
    go_wp2_with fail
    go_loopw [6, 8, 20] (fun v _ i wr => ∃ k' : Nat, k' ≤ t.args.length ∧ i = .int .i64 k' ∧ Hid (∃ xs, wr.ownsRow (w.heap.size + 2) 24 4 v k' xs ∧ Tm.cellsP wr (okRow (w.heap.size + 2) wr v) (Tm.cuts (Tm.bnds σ (t.args.take k')) r).1 xs) ∧
      Hid (w.grownBy wr (some Br)) ∧ Hid (Boxed wr Br 3 (.int .i64 ((Tm.cuts (Tm.bnds σ (t.args.take k')) r).2 : Nat))) ∧ w.heap.size + 2 ≤ wr.heap.size ∧
      Hid (wr.heap[w.heap.size]? = some (Obj.cells #[.int .i64 t.kind, .string t.name, .int .i64 t.n, .slice gt t.args.length ct] 24 (0, 0))) ∧ Hid (wr.heap[w.heap.size + 1]? = some (Obj.cells #[.int .i64 0, .string ⟨#[]⟩, .int .i64 0, .slice none 0 0] 24 (0, 0)))) (fun _ _ i _ => t.args.length - (intOf i).toNat)
    case atStart =>
      refine ⟨0, Nat.zero_le _, rfl, ⟨[], World.ownsRow_nil _ _ _ _, by simp [Tm.bnds, Tm.cuts, Tm.cellsP]⟩, set4_grown HG3.out (Nat.le_refl _) _ _ _ _, set4_boxed HR3.out (by omega) _ _ _ _, by simp; omega, set4_self HX3.out _ _ _ _, (set4_blk w3 _ _ _ _ (by omega)).trans HZ3.out⟩
    case round =>
      obtain ⟨k', hk', rfl, hrow, hg, hR, hbs, hbox, hres⟩ := hrel
      by_cases hlt : k' < t.args.length
      · obtain ⟨rk, hrk⟩ : ∃ rk, (Tm.cuts (Tm.bnds σ (t.args.take k')) r).2 = rk := ⟨_, rfl⟩
        have hrle : rk ≤ r := by rw [← hrk]; exact Tm.cuts_le _ (fun t _ => Tm.cut_le t) r
        have hcs : Tm.cuts (Tm.bnds σ (t.args.take (k' + 1))) r = ((Tm.cuts (Tm.bnds σ (t.args.take k')) r).1 ++ [((t.args[k'].bnd σ).cut rk).1], ((t.args[k'].bnd σ).cut rk).2) := by
          rw [Tm.bnds_take_succ σ _ _ hlt, Tm.cuts_snoc, hrk]
        have hR' := hR.out
        rw [hrk] at hR'
        have hEr := HE.out.kept HA.out hg.out
        have hinr := inn_far HINT.out HG3.out hg.out hBr lR
        obtain ⟨b, off, sv, hgt, hbB, g0, g1, g2, g3, hin'⟩ := Tm.sliceIn_get (Tm.inn_iff.1 hinr).2 k' hlt
        subst hgt
        obtain ⟨_, ga, capa, rfl, _, _, _⟩ := Tm.inn_iff.1 hin'
        have hfa : t.args[k'].fair = true := by
          have := HEND.out.fair
          obtain ⟨k, s, n, ts⟩ := t
          exact (Tm.fair_alone this).2.1 _ (List.getElem_mem hlt)
        have cF := hEr.kf.cell
        have lF' := hEr.kf.lt
        have hih := Lib.hid (HIH.out rk (by omega) (by omega) t.args[k'] (wr.alloc (.cells #[.int .i64 t.args[k'].kind, .string t.args[k'].name, .int .i64 t.args[k'].n, .slice ga t.args[k'].args.length capa] 24)) (.slice ga t.args[k'].args.length capa) (hR'.alloc _) (hEr.kept HA.out (World.grownBy_alloc _ _ _)) hfa
          (Tm.inn_same (Nat.le_refl _) (fun b o v hlt hc => (World.grownBy_alloc wr _ none).cell hc (by simp)) _ _ hin'))
        have HCS := Lib.hid hcs
        have HROW := Lib.hid hrow.out
        have HG := Lib.hid hg.out
        have HBOX := Lib.hid hbox.out
        have HRES := Lib.hid hres.out
        clear hrk hcs hR' hEr hinr hin' hfa hrow hg hbox hres hR
        go_wp2_with fail
        refine hih.out.mono ?_
        rintro e w4 ⟨ga', ca', rfl, hp, hg4, hR4⟩
        have hs4 : wr.heap.size + 1 ≤ w4.heap.size := by have := hg4.size; simpa using this
        obtain ⟨xs, hown, hcells⟩ := HROW.out
        have hne4 : u6.ownBlock ≠ some Br := fun e => by have := (hown.lt _ e).1; omega
        have hown4 : w4.ownsRow (w.heap.size + 2) 24 4 u6 k' xs := (hown.alloc _).kept hg4 (.inr hne4)
        have hlen' : ((t.args[k'].bnd σ).cut rk).1.args.length ≤ ca' ∧ True := by
          obtain ⟨_, _, _, e1, h1, _, _⟩ := Tm.innP_iff.1 hp
          injection e1 with e1 e2 e3
          exact ⟨by omega, trivial⟩
        have HOWN := Lib.hid hown
        have HCELLS := Lib.hid hcells
        have HOWN4 := Lib.hid hown4
        have HP := Lib.hid hp
        have HG4 := Lib.hid hg4
        have HR4 := Lib.hid hR4
        have HNE4 := Lib.hid hne4
        clear hown hcells hown4 hp hg4 hR4 hih HROW hlen' hne4
        obtain ⟨u, hu⟩ : ∃ u, ((t.args[k'].bnd σ).cut rk).1 = u := ⟨_, rfl⟩
        obtain ⟨rn, hrn⟩ : ∃ rn, ((t.args[k'].bnd σ).cut rk).2 = rn := ⟨_, rfl⟩
        rw [hu, hrn] at HCS
        rw [hu] at HP ⊢
        rw [hrn] at HR4
        clear hu hrn
        go_wp2_with (at_builtin; refine wpList_append_sep _ rfl _ _ 22 rfl (w.heap.size + 2) 24 i0 _ 4 56 Try.underlying22 hi hz0 hz1 hz2 rfl (by decide) u6 k' xs rfl (HOWN4.out.alloc _) ⟨w4.heap.size, 0, none⟩ 1 1 [.int .i64 u.kind, .string u.name, .int .i64 u.n, .slice ga' u.args.length ca'] rfl (by decide) rfl news4 one4 (by unfold maxLen; omega) (by omega) (by simp; omega) ?_; intro v' w5 hown5 hgrow hsep)
        go_roundw
        case rel =>
          have hne : ∀ j, j < w.heap.size + 2 → u6.ownBlock ≠ some j := fun j hj e => by have := (HOWN.out.lt j e).1; omega
          have hrow5 : ∀ k, u6.ownBlock = some k → w.heap.size ≤ k := fun k e => by have := (HOWN.out.lt k e).1; omega
          refine ⟨k' + 1, by omega, by go_num, ⟨_, hown5, ?_⟩, ?_, ?_, by have := hgrow.size; simp at this; omega, blk_step_g HG4.out hgrow HBOX.out (by omega) (hne _ (by omega)), blk_step_g HG4.out hgrow HRES.out (by omega) (hne _ (by omega))⟩
          · rw [HCS.out]
            exact row_step_g HOWN.out HCELLS.out (by omega) (fun k hk hk2 => (HG4.out.block k (by simp; omega) (by simp; omega)).trans (Below.heap_alloc _ _ _ hk2)) (by omega) (Tm.innP_same (fun b hb' => ⟨by have := hb'.1; simp at this; omega, hb'.2⟩) (fun _ _ _ _ h => h) _ _ HP.out) hgrow hsep
          · exact grown_own (((HG.out.trans (World.grownBy_alloc _ _ _)).trans HG4.out).trans (World.grownBy_alloc _ _ _)) hgrow hrow5
          · rw [HCS.out]
            exact (HR4.out.alloc _).kept hgrow (fun e => HNE4.out e.symm)
        case measure => simp [intOf]; omega
      · obtain rfl : k' = t.args.length := by omega
        obtain ⟨xs, hown, hcells⟩ := hrow.out
        obtain ⟨gv, cv, rfl⟩ := owns_slice hown
        obtain ⟨⟨b0, b1, b2, b3⟩, d0, d1, d2, d3⟩ := row4 hbox.out
        obtain ⟨⟨c0, c1, c2, c3⟩, f0, f1, f2, f3⟩ := row4 hres.out
        have hR' := hR.out
        rw [List.take_length] at hcells hR'
        have hcut : (x.bnd σ).cut (r + 1) = (.mk t.kind t.name t.n (Tm.cuts (Tm.bnds σ t.args) r).1, (Tm.cuts (Tm.bnds σ t.args) r).2) := by
          rw [EndOK.args HS.out HEND.out]
          simp [Tm.cut]
        have hcl : (Tm.cuts (Tm.bnds σ t.args) r).1.length = t.args.length := by rw [Tm.cuts_length, Tm.bnds_length]
        have HCUT := Lib.hid hcut
        have HCL := Lib.hid hcl
        have HOWN := Lib.hid hown
        have HCELLS := Lib.hid hcells
        have HG := Lib.hid hg.out
        have HR' := Lib.hid hR'
        clear hown hcells hrow hbox hres hg hR hR' hcut hcl
        go_wp2_with fail
        refine bodyPost_ret (v := .agg #[.int .i64 t.kind, .string t.name, .int .i64 t.n, .slice gv t.args.length cv]) (by simp [results, Try.results76, go_sem, c0, c1, c2, c3]) rfl ?_
        have hfin : ∀ (ts : List Tm), ts.length = t.args.length → Tm.cellsP wr (okRow (w.heap.size + 2) wr (.slice gv t.args.length cv)) ts xs → Tm.innP (set4 wr (w.heap.size + 1) (.int .i64 t.kind) (.string t.name) (.int .i64 t.n) (.slice gv t.args.length cv)) (fun b => w.heap.size ≤ b ∧ b < (set4 wr (w.heap.size + 1) (.int .i64 t.kind) (.string t.name) (.int .i64 t.n) (.slice gv t.args.length cv)).heap.size) (.mk t.kind t.name t.n ts) (.slice gv ts.length cv) := fun ts hts hcl => by
          rw [Tm.innP_mk]
          refine ⟨headOk_of (Tm.inn_iff.1 HINT.out).1, ?_⟩
          rw [hts]
          exact sliceP_done (wr := wr) (lo := w.heap.size + 2) (xs := xs) (by rw [hts]; exact HOWN.out) hcl (by omega) (by omega) (by rw [set4_size]; exact Nat.le_refl _) fun k hk _ => set4_blk wr _ _ _ _ (by omega)
        refine ⟨gv, cv, ?_, ?_, ?_, ?_⟩
        · rw [HCUT.out]
          show Ending.returned (.agg #[.int .i64 t.kind, .string t.name, .int .i64 t.n, .slice gv t.args.length cv]) = Ending.returned (.agg #[.int .i64 t.kind, .string t.name, .int .i64 t.n, .slice gv (Tm.cuts (Tm.bnds σ t.args) r).1.length cv])
          rw [HCL.out]
        · rw [HCUT.out]
          exact hfin _ HCL.out HCELLS.out
        · exact set4_grown HG.out (by omega) _ _ _ _
        · rw [HCUT.out]
          exact set4_boxed HR'.out (by omega) _ _ _ _
end Go.Proofs.Ytjbicfimoiiglaa
