/-
  The program's reader: what its loop over operators between terms says, purely.
  The program's reader: a term.
  The program's reader: all of it by the fuel; a clause.
-/
import Derived.Test.YtkjnjahmlobjiaaGreatDoorPrO
import Derived.Deep.RegionHeld3
namespace Go.Proofs.YtkjnjahmlobjiaaGreatDoor
open Go.RowKit

theorem lst_went {S : List UInt8} {f deep : Nat} {ts ts' : Toks} {ns ns' : Names} {t : Tm} (h : lstE S f deep (.ok (ts, ns)) = .ok (t, ts', ns')) (hu : NoUs ns) : Went ts ts' ns ns' 1 ∧ NoUs ns' := by
  simp only [lstE, rowE] at h
  cases hr : rdRow S f deep ts ns with
  | error e => rw [hr] at h; cases h
  | ok q =>
    obtain ⟨l, r, n⟩ := q
    rw [hr] at h
    have w1 := (rd_went S f).2.2.2 _ _ _ _ _ _ hr
    have u1 := (rd_us S f).2.2.2 _ _ _ _ _ _ hr hu
    simp only [tlE, seeE, tlS, termE, nilE] at h
    by_cases hs : seeT 124 r = true
    · simp only [hs, ↓reduceIte] at h
      cases ht : rdTerm S f 999 (deep + 1) r.tail n with
      | error e => rw [ht] at h; cases h
      | ok q =>
        obtain ⟨u, r2, n2⟩ := q
        rw [ht] at h
        have w2 := (rd_went S f).2.1 _ _ _ _ _ _ _ ht
        have u2 := (rd_us S f).2.1 _ _ _ _ _ _ _ ht u1
        simp only [needE] at h
        cases hn : needT S 93 r2 with
        | error e => rw [hn] at h; cases h
        | ok r3 =>
          rw [hn] at h
          injection h with h; injection h with _ h; injection h with h1 h2; subst h1 h2
          exact ⟨((((w1.trans (seeT_tail _ hs)).trans w2).trans (Went.need hn))).less (by omega), u2⟩
    · simp only [hs] at h
      simp only [needE] at h
      cases hn : needT S 93 r with
      | error e => simp [hn] at h
      | ok r3 =>
        simp [hn] at h
        obtain ⟨_, h1, h2⟩ := h
        subst h1 h2
        exact ⟨(w1.trans (Went.need hn)).less (by omega), u1⟩
theorem op_went {S : List UInt8} {f p deep : Nat} {ts ts' : Toks} {ns ns' : Names} {t : Tm} {q : Nat} (h : rdOp S f p deep ts ns = .ok ((t, q), ts', ns')) (hu : NoUs ns) : Went ts ts' ns ns' 1 ∧ NoUs ns' := by
  unfold rdOp at h
  split at h
  · cases h
  split at h
  · cases h
  rename_i x r
  split at h
  · injection h with h; injection h with _ h; injection h with h1 h2; subst h1 h2
    exact ⟨Went.one x r ns, hu⟩
  split at h
  · injection h with h; injection h with _ h; injection h with h1 h2; subst h1 h2
    exact ⟨Went.var x r ns, hu.var _⟩
  split at h
  · exact ⟨((Went.one x r ns).trans ((rd_went S f).2.2.1 _ _ _ _ _ _ _ _ h)).less (by omega), (rd_us S f).2.2.1 _ _ _ _ _ _ _ _ h hu⟩
  split at h
  · rw [parE_eq] at h
    cases hr : rdTerm S f 1200 (deep + 1) r ns with
    | error e => simp [hr] at h
    | ok q =>
      obtain ⟨u, r1, n1⟩ := q
      simp only [hr] at h
      cases hn : needT S 41 r1 with
      | error e => simp [hn] at h
      | ok r2 =>
        simp [hn] at h
        obtain ⟨_, h1, h2⟩ := h
        subst h1 h2
        exact ⟨(((Went.one x r ns).trans ((rd_went S f).2.1 _ _ _ _ _ _ _ hr)).trans (Went.need hn)).less (by omega), (rd_us S f).2.1 _ _ _ _ _ _ _ hr hu⟩
  split at h
  · cases hl : lstE S f deep (.ok (r, ns)) with
    | error e => simp [hl] at h
    | ok q =>
      obtain ⟨u, r1, n1⟩ := q
      simp [hl] at h
      obtain ⟨_, h1, h2⟩ := h
      subst h1 h2
      obtain ⟨w, hu2⟩ := lst_went hl hu
      exact ⟨((Went.one x r ns).trans w).less (by omega), hu2⟩
  · cases h
theorem opT_eq {S : List UInt8} {ts : Toks} {z now p : Nat} (hg : Good S ts) : opT now p ts = true ↔ ((infixP (tkAt z ts 0).1.text).1 ≠ 0 ∧ (infixP (tkAt z ts 0).1.text).1 ≤ p ∧ now ≤ (infixP (tkAt z ts 0).1.text).2.1) := by
  cases ts with
  | nil =>
    constructor
    · intro h; cases h
    · rintro ⟨h, _⟩
      exact absurd rfl h
  | cons x r =>
    show decide _ = true ↔ _
    rw [decide_eq_true_eq, show tkAt z (x :: r) 0 = x from rfl]
    constructor
    · rintro ⟨_, h⟩; exact h
    · intro h
      exact ⟨hg.head.infx h.1, h⟩
def infE (x : Tk × Nat) (t : Tm) (q : Nat) : RRes Tm → RRes (Tm × Nat)
  | .error e => .error e
  | .ok (u, r, ns) => .ok ((funT (nmT x) [t, u], q), r, ns)
theorem infE_val (x : Tk × Nat) (t : Tm) (q : Nat) (r : RRes Tm) : valOf (infE x t q r) = (valOf r).map (fun u => (funT (nmT x) [t, u], q)) := by cases r <;> rfl
theorem told_inf {S : List UInt8} {x : Tk × Nat} {t : Tm} {q : Nat} {r : RRes Tm} {c : Nat} {ts : Toks} {ns : Names} (h : Told S r c ts ns) : Told S (infE x t q r) c ts ns := by
  cases r with
  | error e => exact h
  | ok q => exact h
theorem rest_go {S : List UInt8} {f now p deep z : Nat} {ts : Toks} {ns : Names} {t : Tm} (h : opT now p ts = true) : (∃ r, ts = tkAt z ts 0 :: r) ∧ rdRest S (f + 1) t now p deep ts ns = restE2 S f p deep (infE (tkAt z ts 0) t (infixP (tkAt z ts 0).1.text).1 (rdTerm S f (infixP (tkAt z ts 0).1.text).2.2 deep ts.tail ns)) := by
  cases ts with
  | nil => cases h
  | cons x r =>
    refine ⟨⟨r, rfl⟩, ?_⟩
    rw [rdRest.eq_def]
    dsimp only
    rw [if_pos h, show tkAt z (x :: r) 0 = x from rfl, List.tail_cons]
    cases rdTerm S f (infixP x.1.text).2.2 deep r ns with
    | error e => rfl
    | ok q => obtain ⟨u, r1, n1⟩ := q; rfl
theorem rest_end {S : List UInt8} {f now p deep : Nat} {ts : Toks} {ns : Names} {t : Tm} (h : opT now p ts = false) : rdRest S (f + 1) t now p deep ts ns = .ok (t, ts, ns) := by
  rw [rdRest.eq_def]
  cases ts with
  | nil => rfl
  | cons x r =>
    dsimp only
    rw [if_neg (by rw [h]; simp)]
theorem infP_le (tx : List UInt8) : (infixP tx).1 ≤ 1200 ∧ (infixP tx).2.1 ≤ 1200 ∧ (infixP tx).2.2 ≤ 1200 := by
  unfold infixP
  repeat' split
  all_goals decide
theorem inf_tv {Y : Nat → Prop} {w : World} {x : Tk × Nat} {q nb : Nat} {t : Tm} {r : RRes Tm} {k : Int} {nm : ByteArray} {n : Int} {sv : Value} {k2 : Int} {nm2 : ByteArray} {n2 : Int} {sv2 : Value} {T : TypeId} {fz : Nat × Nat} (hn : ¬ Y nb) (hnw : w.heap[nb]? = some (.cells #[.int .i64 k, .string nm, .int .i64 n, sv, .int .i64 k2, .string nm2, .int .i64 n2, sv2] T fz)) (ht : TV Y w (some t) k nm n sv) (ht2 : TV Y w (valOf r) k2 nm2 n2 sv2) (hx : (nmT x).size ≤ maxLen) : TV Y w ((valOf (infE x t q r)).map Prod.fst) 3 (nmT x) 0 (.slice (some ⟨nb, 0, none⟩) 2 2) := by
  refine TV.fn hx fun v h1 => ?_
  rw [infE_val, Option.map_map] at h1
  obtain ⟨u, hu, rfl⟩ := Option.map_eq_some_iff.1 h1
  obtain ⟨rfl, rfl, rfl, h4⟩ := ht.2.2.2 t rfl
  obtain ⟨rfl, rfl, rfl, h5⟩ := ht2.2.2.2 u hu
  exact ⟨[t, u], rfl, pair_slice hnw ⟨hn, (Array.getElem?_eq_some_iff.1 hnw).1⟩ h4 h5⟩
end Go.Proofs.YtkjnjahmlobjiaaGreatDoor

namespace Go.Proofs.YtkjnjahmlobjiaaGreatDoor
open Go.RowKit

/-- The boxes of a call of term. -/
def tB (a b : Nat) (x : Nat) : Prop := (False ∨ x = a) ∨ x = b
/-- What stands at the head of the loop. -/
structure TmQ (X : Nat → Prop) (W : World) (rb z tb : Nat) (nv : Value) (S : List UInt8) (gf most deep : Nat) (R : RRes Tm) (y : RRes (Tm × Nat)) (ts : Toks) (ns : Names) (nv' : Value) (k : Int) (nm : ByteArray) (n : Int) (g : Option Addr) (m c cd q : Nat) (wx : World) : Prop where
  res : restE2 S gf most deep y = R
  pin : valOf y ≠ none → PIn S z gf 2 ts ns
  told : Told S y cd ts ns
  st : PSt X (tB W.heap.size tb) W rb z nv ts ns nv' wx
  tv : TV (Yc X (tB W.heap.size tb) nv') wx ((valOf y).map Prod.fst) k nm n (.slice g m c)
  rs : wx.heap[W.heap.size]? = some (.cells #[.int .i64 0, .string ⟨#[]⟩, .int .i64 0, .slice none 0 0] 34)
  bx : wx.heap[tb]? = some (.cells #[.int .i64 k, .string nm, .int .i64 n, .slice g m c] 34)
  le : q ≤ 1200
  vq : ∀ u, valOf y = some u → q = u.2
theorem TmQ.start {X : Nat → Prop} {W V U : World} {rb z : Nat} {nv : Value} {S : List UInt8} {f most deep : Nat} {R : RRes Tm} {ts0 : Toks} {ns0 : Names} {k : Int} {nm : ByteArray} {n : Int} {g : Option Addr} {m c cd q : Nat} {n2 : Value} (hV : W.alloc (.cells #[.int .i64 0, .string ⟨#[]⟩, .int .i64 0, .slice none 0 0] 34) = V) (hst : PSt X (fun b => False ∨ b = W.heap.size) W rb z nv ts0 ns0 nv V) (hR : restE2 S f most deep (rdOp S f most deep ts0 ns0) = R) (hin : PIn S z (f + 1) 3 ts0 ns0) (hq : q ≤ 1200)
    (hend : PEnd (Yc X (fun b => False ∨ b = W.heap.size) nv) V rb z nv S (rdOp S f most deep ts0 ns0) cd n2 U) (htv : TV (XN (Yc X (fun b => False ∨ b = W.heap.size) nv) n2) U ((valOf (rdOp S f most deep ts0 ns0)).map Prod.fst) k nm n (.slice g m c)) (hvq : ∀ u, valOf (rdOp S f most deep ts0 ns0) = some u → q = u.2) :
    ∃ ts ns, TmQ X W rb z U.heap.size nv S f most deep R (rdOp S f most deep ts0 ns0) ts ns n2 k nm n g m c cd q (U.alloc (.cells #[.int .i64 k, .string nm, .int .i64 n, .slice g m c] 34)) := by
  obtain ⟨ts, ns, hrd, htold⟩ := hend.rd
  have hst1 := hst.call hrd hend.nvn hend.fr
  have hk := hst.keep hend.fr (.inr rfl)
  have hz := hk.trans ((congrArg (fun w : World => w.heap[W.heap.size]?) hV.symm).trans (newBlk W (.cells #[.int .i64 0, .string ⟨#[]⟩, .int .i64 0, .slice none 0 0] 34) W.heap.size rfl))
  have hlt := (Array.getElem?_eq_some_iff.1 hz).1
  refine ⟨ts, ns, hR, fun hv => ?_, htold, hst1.box _, htv.back.box _, (((Below.refl U.heap.size U).alloc (Nat.le_refl _) (.cells #[.int .i64 k, .string nm, .int .i64 n, .slice g m c] 34)).block _ hlt).trans hz, newBlk U (.cells #[.int .i64 k, .string nm, .int .i64 n, .slice g m c] 34) U.heap.size rfl, hq, hvq⟩
  have hT : Told S (rdOp S f most deep ts0 ns0) cd ts ns := htold
  cases hr : rdOp S f most deep ts0 ns0 with
  | error e => rw [hr] at hv; exact absurd rfl hv
  | ok p =>
    obtain ⟨⟨t, q0⟩, ts9, n9⟩ := p
    rw [hr] at hT
    obtain ⟨_, h2, h3⟩ := hT
    subst h2 h3
    obtain ⟨w, hu⟩ := op_went hr hin.us
    exact hin.went w hu (by omega)
/-- A round ends. -/
theorem TmQ.again {X B : Nat → Prop} {W U7 : World} {rb z tb nb : Nat} {nv : Value} {S : List UInt8} {gk most deep : Nat} {R : RRes Tm} {x : Tk × Nat} {t : Tm} {r : RRes Tm} {ts2 : Toks} {ns2 : Names} {n2 : Value} {k : Int} {nm : ByteArray} {n : Int} {sv : Value} {k2 : Int} {nm2 : ByteArray} {n2' : Int} {sv2 : Value} {k9 : Int} {nm9 : ByteArray} {n9 : Int} {sv9 : Value} {cd q1 : Nat}
    (hB : ∀ b, tB W.heap.size tb b → B b) (hR : restE2 S gk most deep (infE x t q1 r) = R) (hin : valOf r ≠ none → PIn S z gk 2 ts2 ns2) (htold : Told S r cd ts2 ns2) (hst : PSt X B W rb z nv ts2 ns2 n2 U7)
    (ht : TV (Yc X B n2) U7 (some t) k nm n sv) (ht2 : TV (Yc X B n2) U7 (valOf r) k2 nm2 n2' sv2) (hnb : ¬ Yc X B n2 nb)
    (hnw : U7.heap[nb]? = some (.cells #[.int .i64 k, .string nm, .int .i64 n, sv, .int .i64 k2, .string nm2, .int .i64 n2', sv2] 34)) (hx : (nmT x).size ≤ maxLen) (hz : U7.heap[W.heap.size]? = some (.cells #[.int .i64 0, .string ⟨#[]⟩, .int .i64 0, .slice none 0 0] 34)) (hb : U7.heap[tb]? = some (.cells #[.int .i64 k9, .string nm9, .int .i64 n9, sv9] 34)) (htb : W.heap.size ≠ tb) (hq : q1 ≤ 1200) :
    TmQ X W rb z tb nv S gk most deep R (infE x t q1 r) ts2 ns2 n2 3 (nmT x) 0 (some ⟨nb, 0, none⟩) 2 2 cd q1 (set4 U7 tb 3 (nmT x) 0 (.slice (some ⟨nb, 0, none⟩) 2 2)) := by
  have hf := FrP.put U7 tb 3 (nmT x) 0 (.slice (some ⟨nb, 0, none⟩) 2 2)
  have htv := inf_tv (q := q1) hnb hnw ht ht2 hx
  have hst2 := (hst.put hf (hB tb (.inr rfl))).mvB (B' := tB W.heap.size tb) (FrP.refl (fun _ => False) _) (fun _ h => h.elim) (fun b hb => .inl (hB b hb))
  refine ⟨hR, fun hv => hin (fun h => hv (by rw [infE_val, h]; rfl)), told_inf htold, hst2, ?_, ?_, ?_, hq, fun u hu => ?_⟩
  · exact htv.mv hf (fun b e => by subst e; exact .inl (.inr (hB _ (.inr rfl)))) (fun b hx => .inl (by
      rcases hx with (hx | hx) | hx
      · exact .inl (.inl hx)
      · exact .inl (.inr (hB b hx))
      · exact .inr hx))
  · exact (hf.block _ (Array.getElem?_eq_some_iff.1 hz).1 htb).trans hz
  · exact set4_blk hb _ _ _ _
  · rw [infE_val] at hu
    obtain ⟨v, _, hv⟩ := Option.map_eq_some_iff.1 hu
    rw [← hv]
theorem keepAl {U : World} {o : Obj} {xb ob sb : Nat} {v1 v2 v3 v4 v5 v6 : Value} (h : (U.cell? ⟨xb, 1, none⟩ = some v1 ∧ U.cell? ⟨ob, 0, none⟩ = some v2 ∧ U.cell? ⟨sb, 0, none⟩ = some v3 ∧ U.cell? ⟨sb, 1, none⟩ = some v4 ∧ U.cell? ⟨sb, 2, none⟩ = some v5 ∧ U.cell? ⟨sb, 3, none⟩ = some v6)) : ((U.alloc o).cell? ⟨xb, 1, none⟩ = some v1 ∧ (U.alloc o).cell? ⟨ob, 0, none⟩ = some v2 ∧ (U.alloc o).cell? ⟨sb, 0, none⟩ = some v3 ∧ (U.alloc o).cell? ⟨sb, 1, none⟩ = some v4 ∧ (U.alloc o).cell? ⟨sb, 2, none⟩ = some v5 ∧ (U.alloc o).cell? ⟨sb, 3, none⟩ = some v6) := by
  obtain ⟨h1, h2, h3, h4, h5, h6⟩ := h
  exact ⟨(World.cell?_alloc_some _ _ _ (by rw [h1]; rfl)).trans h1, (World.cell?_alloc_some _ _ _ (by rw [h2]; rfl)).trans h2, (World.cell?_alloc_some _ _ _ (by rw [h3]; rfl)).trans h3, (World.cell?_alloc_some _ _ _ (by rw [h4]; rfl)).trans h4, (World.cell?_alloc_some _ _ _ (by rw [h5]; rfl)).trans h5, (World.cell?_alloc_some _ _ _ (by rw [h6]; rfl)).trans h6⟩
theorem keep_far {U : World} {tb b o : Nat} {a0 a1 a2 a3 : Value} {v : Value} (hb : b ≠ tb) (h : U.cell? ⟨b, o, none⟩ = some v) : ((((U.setCell ⟨tb, 0, none⟩ a0).setCell ⟨tb, 1, none⟩ a1).setCell ⟨tb, 2, none⟩ a2).setCell ⟨tb, 3, none⟩ a3).cell? ⟨b, o, none⟩ = some v := by
  rw [World.cell?_setCell_far _ _ _ _ (fun e => hb e.symm), World.cell?_setCell_far _ _ _ _ (fun e => hb e.symm), World.cell?_setCell_far _ _ _ _ (fun e => hb e.symm), World.cell?_setCell_far _ _ _ _ (fun e => hb e.symm), h]
theorem keepSt {U : World} {tb xb ob sb : Nat} {v1 v2 v3 v4 v5 v6 a0 a1 a2 a3 : Value} (h1 : xb ≠ tb) (h2 : ob ≠ tb) (h3 : sb ≠ tb) (h : (U.cell? ⟨xb, 1, none⟩ = some v1 ∧ U.cell? ⟨ob, 0, none⟩ = some v2 ∧ U.cell? ⟨sb, 0, none⟩ = some v3 ∧ U.cell? ⟨sb, 1, none⟩ = some v4 ∧ U.cell? ⟨sb, 2, none⟩ = some v5 ∧ U.cell? ⟨sb, 3, none⟩ = some v6)) : (((((U.setCell ⟨tb, 0, none⟩ a0).setCell ⟨tb, 1, none⟩ a1).setCell ⟨tb, 2, none⟩ a2).setCell ⟨tb, 3, none⟩ a3).cell? ⟨xb, 1, none⟩ = some v1 ∧ ((((U.setCell ⟨tb, 0, none⟩ a0).setCell ⟨tb, 1, none⟩ a1).setCell ⟨tb, 2, none⟩ a2).setCell ⟨tb, 3, none⟩ a3).cell? ⟨ob, 0, none⟩ = some v2 ∧ ((((U.setCell ⟨tb, 0, none⟩ a0).setCell ⟨tb, 1, none⟩ a1).setCell ⟨tb, 2, none⟩ a2).setCell ⟨tb, 3, none⟩ a3).cell? ⟨sb, 0, none⟩ = some v3 ∧ ((((U.setCell ⟨tb, 0, none⟩ a0).setCell ⟨tb, 1, none⟩ a1).setCell ⟨tb, 2, none⟩ a2).setCell ⟨tb, 3, none⟩ a3).cell? ⟨sb, 1, none⟩ = some v4 ∧ ((((U.setCell ⟨tb, 0, none⟩ a0).setCell ⟨tb, 1, none⟩ a1).setCell ⟨tb, 2, none⟩ a2).setCell ⟨tb, 3, none⟩ a3).cell? ⟨sb, 2, none⟩ = some v5 ∧ ((((U.setCell ⟨tb, 0, none⟩ a0).setCell ⟨tb, 1, none⟩ a1).setCell ⟨tb, 2, none⟩ a2).setCell ⟨tb, 3, none⟩ a3).cell? ⟨sb, 3, none⟩ = some v6) :=
  ⟨keep_far h1 h.1, keep_far h2 h.2.1, keep_far h3 h.2.2.1, keep_far h3 h.2.2.2.1, keep_far h3 h.2.2.2.2.1, keep_far h3 h.2.2.2.2.2⟩
theorem al_drew3 {U U7 : World} {o : Obj} (h : Below (U.drew.alloc o).heap.size (U.drew.alloc o) U7) : Below U.heap.size U U7 ∧ U7.heap[U.heap.size]? = some o ∧ U.heap.size < U7.heap.size := by
  obtain ⟨h1, h2, h3⟩ : Below U.drew.heap.size U.drew U7 ∧ U7.heap[U.drew.heap.size]? = some o ∧ U.drew.heap.size < U7.heap.size := by
    have h1 : Below U.drew.heap.size U.drew (U.drew.alloc o) := (Below.refl _ _).alloc (Nat.le_refl _) o
    have hs : U.drew.heap.size < (U.drew.alloc o).heap.size := by simp
    exact ⟨h1.trans (h.mono (by omega)), (h.block _ hs).trans (newBlk U.drew o _ rfl), Nat.lt_of_lt_of_le hs h.size⟩
  exact ⟨⟨h1.os, h1.tape, h1.output, h1.size, h1.block⟩, h2, h3⟩
set_option maxRecDepth 100000 in
set_option maxHeartbeats 8000000 in
theorem term_p (f : Nat) (IHo : POper f) (IHt : ∀ g, g ≤ f → PTerm g) : PTerm (f + 1) := by
  intro X W rb z S ts0 ns0 nv most deep hin hrd hmost hdeep
  obtain ⟨R, hR⟩ : ∃ R, rdTerm S (f + 1) most deep ts0 ns0 = R := ⟨_, rfl⟩
  rw [hR]
  rw [rdTerm_op] at hR
  have HR := Lib.hid hR
  have HIN := Lib.hid hin
  have hlt := hrd.lt
  have hst0 := (PSt.start hrd).box (.cells #[.int .i64 0, .string ⟨#[]⟩, .int .i64 0, .slice none 0 0] 34)
  have HV := Lib.hid (rfl : W.alloc (.cells #[.int .i64 0, .string ⟨#[]⟩, .int .i64 0, .slice none 0 0] 34) = W.alloc (.cells #[.int .i64 0, .string ⟨#[]⟩, .int .i64 0, .slice none 0 0] 34))
  obtain ⟨V, hV⟩ : ∃ V, W.alloc (.cells #[.int .i64 0, .string ⟨#[]⟩, .int .i64 0, .slice none 0 0] 34) = V := ⟨_, rfl⟩
  rw [hV] at hst0
  have HVV := Lib.hid hV
  have HST0 := Lib.hid hst0
  have HIHT := Lib.hid IHt
  have HOPD : Hid (Calls Tryz.prog 81 #[.pointer (some ⟨rb, 0, none⟩), .int .i64 (most : Nat), .int .i64 (deep : Nat)] V fun e W' => POpPost (Yc X (fun b => False ∨ b = W.heap.size) nv) V rb z nv S (rdOp S f most deep ts0 ns0) e W') :=
    Lib.hid (IHo _ V rb z S ts0 ns0 nv most deep (hin.less (by omega)) hst0.rd hmost hdeep)
  have hVs : V.heap.size = W.heap.size + 1 := by rw [← hV]; simp
  clear HV hR hin hrd hst0 IHo IHt
  go_enter Tryz.func61, Tryz.ntmps61
  go_upto_region 1 with fail
  clear hV
  go_wp2_with (go_at_call 81; (with_reducible refine (HOPD.out).mono ?_); rintro e U ⟨k, nm, n, g, m, c, q, cd, n2, rfl, hq, hend, htv, hvq⟩; have HQ0 : Hid (∃ ts ns, TmQ X W rb z U.heap.size nv S f most deep R (rdOp S f most deep ts0 ns0) ts ns n2 k nm n g m c cd q (U.alloc (.cells #[.int .i64 k, .string nm, .int .i64 n, .slice g m c] 34))) := Lib.hid (TmQ.start HVV.out HST0.out HR.out HIN.out hq hend htv hvq); have hUs : W.heap.size < U.heap.size := (by have h9 := hend.fr.size; omega); clear hend htv hvq hq)
  clear HST0 HOPD HVV HR HIN hVs
  obtain ⟨tb, htb⟩ : ∃ tb, U.heap.size = tb := ⟨_, rfl⟩
  obtain ⟨U0, hU0⟩ : ∃ U0, U.alloc (.cells #[.int .i64 k, .string nm, .int .i64 n, .slice g m c] 34) = U0 := ⟨_, rfl⟩
  obtain ⟨y0, hy0⟩ : ∃ y0, rdOp S f most deep ts0 ns0 = y0 := ⟨_, rfl⟩
  rw [hU0, hy0, htb] at HQ0
  rw [hU0, htb]
  rw [htb] at hUs
  clear hU0 hy0 htb
  go_loopg [9, 10] f (fun gf s9 s10 wx => ∃ (y : RRes (Tm × Nat)) (ts : Toks) (ns : Names) (nv' : Value) (k : Int) (nm : ByteArray) (n : Int) (g : Option Addr) (m c cd q : Nat), s9 = .int .i64 (q : Nat) ∧ s10 = .int .i64 (cd : Nat) ∧ gf ≤ f ∧ Hid (TmQ X W rb z tb nv S gf most deep R y ts ns nv' k nm n g m c cd q wx))
  case atStart =>
    obtain ⟨ts, ns, hq⟩ := HQ0.out
    exact ⟨y0, ts, ns, n2, k, nm, n, g, m, c, cd, q, rfl, rfl, Nat.le_refl _, Lib.hid hq⟩
  case round =>
    clear HQ0
    obtain ⟨y, ts, ns, n1, k, nm, n, g, m, c, cd, q, hs9, hs10, hgf, HQ⟩ := hrel
    subst hs9 hs10
    obtain ⟨hres, hpin, htold, hst, htv, hrs, hbx, hle, hvq⟩ := HQ.out
    cases y with
    | error e =>
      obtain ⟨c9, pl⟩ := e
      have hRe : R = .error (c9, pl) := hres.symm
      have hcd : ((cd : Int) == 0) = false := by
        obtain ⟨h1, h2, _⟩ := htold
        rw [beq_eq_false_iff_ne]
        omega
      have HST := Lib.hid hst
      have HBX := Lib.hid hrs
      have HTOLD : Hid (Told S (.error (c9, pl) : RRes Tm) cd ts ns) := Lib.hid htold
      have HTV2 : Hid (TV (Yc X (tB W.heap.size tb) n1) wr none 0 ⟨#[]⟩ 0 (.slice none 0 0)) := Lib.hid tm_none
      obtain ⟨⟨a0, a1, a2, a3⟩, af0, af1, af2, af3⟩ := row4 HBX.out
      have htw := (Array.getElem?_eq_some_iff.1 hrs).1
      subst hRe
      clear hres hpin htold hst htv hrs hbx hvq HQ
      go_wp2_with fail
      have HF := Lib.hid (p_fin (cd := cd) HST.out HTV2.out (.inl (.inr rfl)) HTOLD.out (fun t ht => by cases ht))
      have hz := set4_blk HBX.out 0 ⟨#[]⟩ 0 (.slice none 0 0)
      change bodyPost _ _ _ _ _ (set4 wr W.heap.size 0 ⟨#[]⟩ 0 (.slice none 0 0))
      obtain ⟨V', hV'⟩ : ∃ V', set4 wr W.heap.size 0 ⟨#[]⟩ 0 (.slice none 0 0) = V' := ⟨_, rfl⟩
      rw [hV'] at HF hz ⊢
      obtain ⟨⟨z0, z1, z2, z3⟩, -⟩ := row4 hz
      clear hV' hz a0 a1 a2 a3 af0 af1 af2 af3
      refine bodyPost_ret (v := .tuple #[.agg #[.int .i64 0, .string ⟨#[]⟩, .int .i64 0, .slice none 0 0], .int .i64 (cd : Nat)]) (by simp [results, Tryz.results61, go_sem, z0, z1, z2, z3]) rfl ?_
      exact HF.out
    | ok p =>
      obtain ⟨⟨t, q9⟩, ts9, n9⟩ := p
      obtain ⟨hc1, hc2, hc3⟩ := htold
      have hq9 := hvq _ rfl
      dsimp only at hq9
      subst hc1 hc2 hc3 hq9
      have hpin := hpin (by simp [valOf])
      have htv : TV (Yc X (tB W.heap.size tb) n1) wr (some t) k nm n (.slice g m c) := htv
      have hres : rdRest S gk t q most deep ts ns = R := hres
      have hroom := hpin.room
      obtain ⟨gk, rfl⟩ : ∃ q, gk = q + 1 := ⟨gk - 1, by omega⟩
      obtain ⟨x, hx⟩ : ∃ x, tkAt z ts 0 = x := ⟨_, rfl⟩
      have hsm := tkAt_small (z := z) hpin.good hpin.zl 0
      rw [hx] at hsm
      have hts := hpin.len
      have HAH := Lib.hid (ahead0_any wr rb z ts ns n1 x hx hst.rd hts)
      have HX := Lib.hid hx
      have HSM := Lib.hid hsm
      have HPIN := Lib.hid hpin
      have HST := Lib.hid hst
      have HTV := Lib.hid htv
      have HRS := Lib.hid hrs
      have HBX := Lib.hid hbx
      have HRES := Lib.hid hres
      have hlr := (Array.getElem?_eq_some_iff.1 hrs).1
      have hlb := (Array.getElem?_eq_some_iff.1 hbx).1
      clear hres hpin hst htv hrs hbx hvq HQ hroom hsm hx
      go_upto_region 4 with (go_at_call 45; (with_reducible refine (HAH.out).mono ?_); rintro e V1 ⟨rfl, hb⟩; have HST1 := Lib.hid (HST.out.next hb); have HTV1 := Lib.hid (HTV.out.mv (FrP.of_below hb) (fun _ h => h.elim) (fun _ hx => .inl hx)); have HRS1 := Lib.hid ((hb.block _ hlr).trans HRS.out); have HBX1 := Lib.hid ((hb.block _ hlb).trans HBX.out); clear hb)
      have hb1 := (Below.refl V1.heap.size V1).alloc (Nat.le_refl _) (.cells #[.int .i64 (x.1.kind : Nat), .string ⟨x.1.text.toArray⟩, .int .i64 (x.1.n : Nat), .int .i64 (x.2 : Nat), .bool x.1.opn] 103)
      have hxb := newBlk V1 (.cells #[.int .i64 (x.1.kind : Nat), .string ⟨x.1.text.toArray⟩, .int .i64 (x.1.n : Nat), .int .i64 (x.2 : Nat), .bool x.1.opn] 103) V1.heap.size rfl
      have hlr1 := (Array.getElem?_eq_some_iff.1 HRS1.out).1
      have hlb1 := (Array.getElem?_eq_some_iff.1 HBX1.out).1
      have hst2 := HST1.out.box (.cells #[.int .i64 (x.1.kind : Nat), .string ⟨x.1.text.toArray⟩, .int .i64 (x.1.n : Nat), .int .i64 (x.2 : Nat), .bool x.1.opn] 103)
      have htv2 := HTV1.out.box (.cells #[.int .i64 (x.1.kind : Nat), .string ⟨x.1.text.toArray⟩, .int .i64 (x.1.n : Nat), .int .i64 (x.2 : Nat), .bool x.1.opn] 103)
      have hrs2 := (hb1.block _ hlr1).trans HRS1.out
      have hbx2 := (hb1.block _ hlb1).trans HBX1.out
      have hs1 : V1.heap.size < (V1.alloc (.cells #[.int .i64 (x.1.kind : Nat), .string ⟨x.1.text.toArray⟩, .int .i64 (x.1.n : Nat), .int .i64 (x.2 : Nat), .bool x.1.opn] 103)).heap.size := by simp
      obtain ⟨xb, hxe⟩ : ∃ xb, V1.heap.size = xb := ⟨_, rfl⟩
      obtain ⟨V2, hV2⟩ : ∃ V2, V1.alloc (.cells #[.int .i64 (x.1.kind : Nat), .string ⟨x.1.text.toArray⟩, .int .i64 (x.1.n : Nat), .int .i64 (x.2 : Nat), .bool x.1.opn] 103) = V2 := ⟨_, rfl⟩
      rw [hV2] at hxb hst2 htv2 hrs2 hbx2 hs1 ⊢
      rw [hxe] at hxb hs1 hlr1 hlb1 hst2 htv2 ⊢
      have HST2 := Lib.hid hst2
      have HTV2 := Lib.hid htv2
      have HRS2 := Lib.hid hrs2
      have HBX2 := Lib.hid hbx2
      have HXB2 := Lib.hid hxb
      have HOP := Lib.hid (operator_any V2 rb z ts ns n1 hst2.rd (x.1.kind : Nat) (x.1.n : Nat) (x.2 : Nat) x.1.text x.1.opn HSM.out.2.1)
      obtain ⟨⟨x0, x1, x2, x3, x4⟩, -⟩ := row5t hxb
      clear hxb hst2 htv2 hrs2 hbx2 hV2 hxe hb1 HST1 HTV1 HRS1 HBX1 HST HTV HRS HBX HAH hlr hlb
      go_upto_region 5 with (go_at_call 82; (with_reducible refine (HOP.out).mono ?_); rintro e U ⟨rfl, hrd2, hfr2⟩; have hk1 := HST2.out.keep (wrt0 hfr2) (b := xb) (.inr rfl); have HRS3 := Lib.hid ((HST2.out.keep (wrt0 hfr2) (.inl (.inl (.inr rfl)))).trans HRS2.out); have HBX3 := Lib.hid ((HST2.out.keep (wrt0 hfr2) (.inl (.inr rfl))).trans HBX2.out); have HXB3 := Lib.hid (hk1.trans HXB2.out); have HTV3 := Lib.hid (HST2.out.tv HTV2.out (NvN.refl _ _) (wrt0 hfr2)); have HST3 := Lib.hid (HST2.out.call0 hrd2 hfr2); clear hrd2 hfr2 hk1)
      clear HOP HST2 HTV2 HRS2 HBX2 HXB2 x0 x1 x2 x3 x4 hs1
      obtain ⟨q1, l1, r1, qp, hin⟩ : ∃ q1 l1 r1 qp : Nat, (infixP x.1.text).1 = q1 ∧ (infixP x.1.text).2.1 = l1 ∧ (infixP x.1.text).2.2 = r1 ∧ prefP x.1.text = qp := ⟨_, _, _, _, rfl, rfl, rfl, rfl⟩
      rw [hin.1, hin.2.1, hin.2.2.1, hin.2.2.2]
      have hqle := infP_le x.1.text
      rw [hin.1, hin.2.1, hin.2.2.1] at hqle
      have HINF := Lib.hid hin
      have hxl := (Array.getElem?_eq_some_iff.1 HXB3.out).1
      have hrl := (Array.getElem?_eq_some_iff.1 HRS3.out).1
      have hbl := (Array.getElem?_eq_some_iff.1 HBX3.out).1
      have hb1 := (Below.refl U.heap.size U).alloc (Nat.le_refl _) (.cells #[.int .i64 (q1 : Nat), .int .i64 (l1 : Nat), .int .i64 (r1 : Nat), .int .i64 (qp : Nat)] 142)
      have hob := newBlk U (.cells #[.int .i64 (q1 : Nat), .int .i64 (l1 : Nat), .int .i64 (r1 : Nat), .int .i64 (qp : Nat)] 142) U.heap.size rfl
      have hst4 := HST3.out.box (.cells #[.int .i64 (q1 : Nat), .int .i64 (l1 : Nat), .int .i64 (r1 : Nat), .int .i64 (qp : Nat)] 142)
      have htv4 := HTV3.out.box (.cells #[.int .i64 (q1 : Nat), .int .i64 (l1 : Nat), .int .i64 (r1 : Nat), .int .i64 (qp : Nat)] 142)
      have hrs4 := (hb1.block _ hrl).trans HRS3.out
      have hbx4 := (hb1.block _ hbl).trans HBX3.out
      have hxb4 := (hb1.block _ hxl).trans HXB3.out
      obtain ⟨ob, hoe⟩ : ∃ ob, U.heap.size = ob := ⟨_, rfl⟩
      obtain ⟨U1, hU1⟩ : ∃ U1, U.alloc (.cells #[.int .i64 (q1 : Nat), .int .i64 (l1 : Nat), .int .i64 (r1 : Nat), .int .i64 (qp : Nat)] 142) = U1 := ⟨_, rfl⟩
      rw [hU1] at hob hst4 htv4 hrs4 hbx4 hxb4 ⊢
      rw [hoe] at hob hst4 htv4 hxl hrl hbl ⊢
      have HST4 := Lib.hid hst4
      have HTV4 := Lib.hid htv4
      have HRS4 := Lib.hid hrs4
      have HBX4 := Lib.hid hbx4
      have HXB4 := Lib.hid hxb4
      have HOB4 := Lib.hid hob
      have hop := opT_eq (z := z) (now := q) (p := most) HPIN.out.good
      rw [HX.out, hin.1, hin.2.1] at hop
      have HOPT := Lib.hid hop
      clear hin hop hst4 htv4 hrs4 hbx4 hxb4 hob hU1 hoe hb1 HST3 HTV3 HRS3 HBX3 HXB3
      obtain ⟨⟨o0, o1, o2, o3⟩, -⟩ := row4 HOB4.out
      obtain ⟨⟨b0, b1, b2, b3⟩, -⟩ := row4 HBX4.out
      obtain ⟨⟨a0, a1, a2, a3⟩, af0, af1, af2, af3⟩ := row4 HRS4.out
      have hol1 := (Array.getElem?_eq_some_iff.1 HOB4.out).1
      have hbl1 := (Array.getElem?_eq_some_iff.1 HBX4.out).1
      have htw := (Array.getElem?_eq_some_iff.1 HRS4.out).1
      have hend : opT q most ts = false → R = .ok (t, ts, ns) := fun h => by rw [← HRES.out]; exact rest_end h
      by_cases hq1 : q1 = 0
      · have g0 : ((q1 : Int) == 0) = true := by rw [beq_iff_eq]; omega
        have hRe := hend (by rw [← Bool.not_eq_true]; intro h; exact (HOPT.out.1 h).1 hq1)
        clear hend hq1
        subst hRe
        go_wp2_with fail
        have HF := Lib.hid (p_fin (cd := 0) HST4.out HTV4.out (.inl (.inl (.inl (.inr rfl)))) (show Told S (.ok (t, ts, ns) : RRes Tm) 0 ts ns from ⟨rfl, rfl, rfl⟩) (fun t ht => ht))
        have hz := set4_blk HRS4.out k nm n (.slice g m c)
        change bodyPost _ _ _ _ _ (set4 U1 W.heap.size k nm n (.slice g m c))
        obtain ⟨V', hV'⟩ : ∃ V', set4 U1 W.heap.size k nm n (.slice g m c) = V' := ⟨_, rfl⟩
        rw [hV'] at HF hz ⊢
        obtain ⟨⟨z0, z1, z2, z3⟩, -⟩ := row4 hz
        clear hV' hz a0 a1 a2 a3 af0 af1 af2 af3 b0 b1 b2 b3 o0 o1 o2 o3
        refine bodyPost_ret (v := .tuple #[.agg #[.int .i64 k, .string nm, .int .i64 n, .slice g m c], .int .i64 (0 : Nat)]) (by simp [results, Tryz.results61, go_sem, z0, z1, z2, z3]) rfl ?_
        exact HF.out
      have g0 : ((q1 : Int) == 0) = false := by rw [beq_eq_false_iff_ne]; omega
      by_cases hq2 : most < q1
      · have g1 : decide ((most : Int) < (q1 : Int)) = true := by rw [decide_eq_true_eq]; omega
        have hRe := hend (by rw [← Bool.not_eq_true]; intro h; have := (HOPT.out.1 h).2.1; omega)
        clear hend hq1
        subst hRe
        go_wp2_with fail
        have HF := Lib.hid (p_fin (cd := 0) HST4.out HTV4.out (.inl (.inl (.inl (.inr rfl)))) (show Told S (.ok (t, ts, ns) : RRes Tm) 0 ts ns from ⟨rfl, rfl, rfl⟩) (fun t ht => ht))
        have hz := set4_blk HRS4.out k nm n (.slice g m c)
        change bodyPost _ _ _ _ _ (set4 U1 W.heap.size k nm n (.slice g m c))
        obtain ⟨V', hV'⟩ : ∃ V', set4 U1 W.heap.size k nm n (.slice g m c) = V' := ⟨_, rfl⟩
        rw [hV'] at HF hz ⊢
        obtain ⟨⟨z0, z1, z2, z3⟩, -⟩ := row4 hz
        clear hV' hz a0 a1 a2 a3 af0 af1 af2 af3 b0 b1 b2 b3 o0 o1 o2 o3
        refine bodyPost_ret (v := .tuple #[.agg #[.int .i64 k, .string nm, .int .i64 n, .slice g m c], .int .i64 (0 : Nat)]) (by simp [results, Tryz.results61, go_sem, z0, z1, z2, z3]) rfl ?_
        exact HF.out
      have g1 : decide ((most : Int) < (q1 : Int)) = false := by rw [decide_eq_false_iff_not]; omega
      by_cases hq3 : l1 < q
      · have g2 : decide ((l1 : Int) < (q : Int)) = true := by rw [decide_eq_true_eq]; omega
        have hRe := hend (by rw [← Bool.not_eq_true]; intro h; have := (HOPT.out.1 h).2.2; omega)
        clear hend hq1
        subst hRe
        go_wp2_with fail
        have HF := Lib.hid (p_fin (cd := 0) HST4.out HTV4.out (.inl (.inl (.inl (.inr rfl)))) (show Told S (.ok (t, ts, ns) : RRes Tm) 0 ts ns from ⟨rfl, rfl, rfl⟩) (fun t ht => ht))
        have hz := set4_blk HRS4.out k nm n (.slice g m c)
        change bodyPost _ _ _ _ _ (set4 U1 W.heap.size k nm n (.slice g m c))
        obtain ⟨V', hV'⟩ : ∃ V', set4 U1 W.heap.size k nm n (.slice g m c) = V' := ⟨_, rfl⟩
        rw [hV'] at HF hz ⊢
        obtain ⟨⟨z0, z1, z2, z3⟩, -⟩ := row4 hz
        clear hV' hz a0 a1 a2 a3 af0 af1 af2 af3 b0 b1 b2 b3 o0 o1 o2 o3
        refine bodyPost_ret (v := .tuple #[.agg #[.int .i64 k, .string nm, .int .i64 n, .slice g m c], .int .i64 (0 : Nat)]) (by simp [results, Tryz.results61, go_sem, z0, z1, z2, z3]) rfl ?_
        exact HF.out
      have g2 : decide ((l1 : Int) < (q : Int)) = false := by rw [decide_eq_false_iff_not]; omega
      have hopt : opT q most ts = true := HOPT.out.2 ⟨hq1, by omega, by omega⟩
      obtain ⟨htr, hgo⟩ := rest_go (S := S) (f := gk) (deep := deep) (z := z) (ns := ns) (t := t) hopt
      rw [HX.out] at htr hgo
      rw [HINF.out.1, HINF.out.2.2.1, HRES.out] at hgo
      have HGO := Lib.hid hgo.symm
      obtain ⟨rr, htr⟩ := htr
      have hlen1 : 1 ≤ ts.length := by rw [htr]; simp
      have HIN2 : Hid (PIn S z gk 3 ts.tail ns) := Lib.hid (by
        have h0 := HPIN.out
        rw [htr] at h0 ⊢
        exact h0.rest (by omega))
      have HPS := Lib.hid (pass1_any U1 rb z ts ns n1 HST4.out.rd hlen1 hts)
      clear hend hopt hgo htr
      go_upto_region 8 with (go_at_call 62; (with_reducible refine (HPS.out).mono ?_); rintro e V3 ⟨rfl, hrd2, hfr2⟩; have HOB5 := Lib.hid ((HST4.out.keep (wrt0 hfr2) (.inr rfl)).trans HOB4.out); have HXB5 := Lib.hid ((HST4.out.keep (wrt0 hfr2) (.inl (.inr rfl))).trans HXB4.out); have HBX5 := Lib.hid ((HST4.out.keep (wrt0 hfr2) (.inl (.inl (.inr rfl)))).trans HBX4.out); have HRS5 := Lib.hid ((HST4.out.keep (wrt0 hfr2) (.inl (.inl (.inl (.inr rfl))))).trans HRS4.out); have HTV5 := Lib.hid (HST4.out.tv HTV4.out (NvN.refl _ _) (wrt0 hfr2)); have HST5 := Lib.hid (HST4.out.call0 hrd2 hfr2); clear hrd2 hfr2)
      clear HPS HST4 HTV4 HRS4 HBX4 HXB4 HOB4 o0 o1 o2 o3 b0 b1 b2 b3 a0 a1 a2 a3 af0 af1 af2 af3 hol1 hbl1 htw g0 g1 g2 hq1 hq2 hq3
      go_upto_region 9 with fail
      have hxl := (Array.getElem?_eq_some_iff.1 HXB5.out).1
      have hrl := (Array.getElem?_eq_some_iff.1 HRS5.out).1
      have hbl := (Array.getElem?_eq_some_iff.1 HBX5.out).1
      have hol := (Array.getElem?_eq_some_iff.1 HOB5.out).1
      have hb1 := (Below.refl V3.heap.size V3).alloc (Nat.le_refl _) (.cells #[.int .i64 0, .string ⟨#[]⟩, .int .i64 0, .slice none 0 0] 34)
      have hsb := newBlk V3 (.cells #[.int .i64 0, .string ⟨#[]⟩, .int .i64 0, .slice none 0 0] 34) V3.heap.size rfl
      have hst6 := HST5.out.box (.cells #[.int .i64 0, .string ⟨#[]⟩, .int .i64 0, .slice none 0 0] 34)
      have htv6 := HTV5.out.box (.cells #[.int .i64 0, .string ⟨#[]⟩, .int .i64 0, .slice none 0 0] 34)
      have hrs6 := (hb1.block _ hrl).trans HRS5.out
      have hbx6 := (hb1.block _ hbl).trans HBX5.out
      have hxb6 := (hb1.block _ hxl).trans HXB5.out
      have hob6 := (hb1.block _ hol).trans HOB5.out
      obtain ⟨sb, hse⟩ : ∃ sb, V3.heap.size = sb := ⟨_, rfl⟩
      obtain ⟨V4, hV4⟩ : ∃ V4, V3.alloc (.cells #[.int .i64 0, .string ⟨#[]⟩, .int .i64 0, .slice none 0 0] 34) = V4 := ⟨_, rfl⟩
      rw [hV4] at hsb hst6 htv6 hrs6 hbx6 hxb6 hob6 ⊢
      rw [hse] at hsb hst6 htv6 hxl hrl hbl hol ⊢
      have HST6 := Lib.hid hst6
      have HTV6 := Lib.hid htv6
      have HRS6 := Lib.hid hrs6
      have HBX6 := Lib.hid hbx6
      have HXB6 := Lib.hid hxb6
      have HOB6 := Lib.hid hob6
      have HSB6 := Lib.hid hsb
      have HTM : Hid (Calls Tryz.prog 61 #[.pointer (some ⟨rb, 0, none⟩), .int .i64 (r1 : Nat), .int .i64 (deep : Nat)] V4 fun e W' => PTermPost (Yc X (fun b => (((tB W.heap.size tb b ∨ b = xb) ∨ b = ob) ∨ b = sb)) n1) V4 rb z n1 S (rdTerm S gk r1 deep ts.tail ns) e W') :=
        Lib.hid (HIHT.out gk (by omega) _ V4 rb z S ts.tail ns n1 r1 deep HIN2.out hst6.rd (by omega) (by omega))
      clear hsb hst6 htv6 hrs6 hbx6 hxb6 hob6 hV4 hse hb1 HST5 HTV5 HRS5 HBX5 HXB5 HOB5
      obtain ⟨⟨o0, o1, o2, o3⟩, -⟩ := row4 HOB6.out
      have hol6 := (Array.getElem?_eq_some_iff.1 HOB6.out).1
      go_upto_region 10 with (go_at_call 61; (with_reducible refine (HTM.out).mono ?_); rintro e V5 ⟨k2, nm2, m2, g2, l2, c2, cd, n2, rfl, hend, htv⟩; obtain ⟨ts2, ns2, hrd3, htold⟩ := hend.rd; have HRS7 := Lib.hid ((HST6.out.keep hend.fr (.inl (.inl (.inl (.inl (.inr rfl)))))).trans HRS6.out); have HBX7 := Lib.hid ((HST6.out.keep hend.fr (.inl (.inl (.inl (.inr rfl))))).trans HBX6.out); have HXB7 := Lib.hid ((HST6.out.keep hend.fr (.inl (.inl (.inr rfl)))).trans HXB6.out); have HOB7 := Lib.hid ((HST6.out.keep hend.fr (.inl (.inr rfl))).trans HOB6.out); have HSB7 := Lib.hid ((HST6.out.keep hend.fr (.inr rfl)).trans HSB6.out); have HTV7 := Lib.hid (HST6.out.tv HTV6.out hend.nvn hend.fr); have HST7 := Lib.hid (HST6.out.call hrd3 hend.nvn hend.fr); have HTU7 := Lib.hid htv.back; have HTOLD : Hid (Told S (rdTerm S gk r1 deep ts.tail ns) cd ts2 ns2) := Lib.hid htold; obtain ⟨⟨s0, s1, s2, s3⟩, sf0, sf1, sf2, sf3⟩ := row4 HSB7.out; have hsl7 := (Array.getElem?_eq_some_iff.1 HSB7.out).1; clear hend htv hrd3 htold o0 o1 o2 o3)
      have hf8 := FrP.put V5 sb k2 nm2 m2 (.slice g2 l2 c2)
      have hpb : ∀ b, b = sb → Yc X (fun b => (((tB W.heap.size tb b ∨ b = xb) ∨ b = ob) ∨ b = sb)) n2 b := fun b e => .inl (.inr (.inr e))
      have hst8 := HST7.out.put hf8 (.inr rfl)
      have htv8 := HTV7.out.mv hf8 hpb (fun _ hx => .inl hx)
      have htu8 := HTU7.out.mv hf8 hpb (fun _ hx => .inl hx)
      have hrs8 := (hf8.block _ (Array.getElem?_eq_some_iff.1 HRS7.out).1 (by omega)).trans HRS7.out
      have hbx8 := (hf8.block _ (Array.getElem?_eq_some_iff.1 HBX7.out).1 (by omega)).trans HBX7.out
      have hxb8 := (hf8.block _ (Array.getElem?_eq_some_iff.1 HXB7.out).1 (by omega)).trans HXB7.out
      have hob8 := (hf8.block _ (Array.getElem?_eq_some_iff.1 HOB7.out).1 (by omega)).trans HOB7.out
      have hsb8 := set4_blk HSB7.out k2 nm2 m2 (.slice g2 l2 c2)
      clear s0 s1 s2 s3 sf0 sf1 sf2 sf3
      change Code.wp _ _ _ _ (set4 V5 sb k2 nm2 m2 (.slice g2 l2 c2))
      obtain ⟨V6, hV6⟩ : ∃ V6, set4 V5 sb k2 nm2 m2 (.slice g2 l2 c2) = V6 := ⟨_, rfl⟩
      rw [hV6] at hst8 htv8 htu8 hrs8 hbx8 hxb8 hob8 hsb8 ⊢
      have HST8 := Lib.hid hst8
      have HTV8 := Lib.hid htv8
      have HTU8 := Lib.hid htu8
      have HRS8 := Lib.hid hrs8
      have HBX8 := Lib.hid hbx8
      have HOB8 := Lib.hid hob8
      have HXB8 := Lib.hid hxb8
      have HSB8 := Lib.hid hsb8
      have htwU := (Array.getElem?_eq_some_iff.1 hrs8).1
      have htbU := (Array.getElem?_eq_some_iff.1 hbx8).1
      have hxbU := (Array.getElem?_eq_some_iff.1 hxb8).1
      have hobU := (Array.getElem?_eq_some_iff.1 hob8).1
      have hsbU := (Array.getElem?_eq_some_iff.1 hsb8).1
      obtain ⟨⟨x0, x1, x2, x3, x4⟩, -⟩ := row5t hxb8
      obtain ⟨⟨b0, b1, b2, b3⟩, -⟩ := row4 hbx8
      obtain ⟨⟨s0, s1, s2, s3⟩, -⟩ := row4 hsb8
      obtain ⟨⟨o0, o1, o2, o3⟩, -⟩ := row4 hob8
      clear hf8 hpb hst8 htv8 htu8 hrs8 hbx8 hxb8 hob8 hsb8 hV6 HST7 HTV7 HTU7 HRS7 HBX7 HXB7 HOB7 HSB7 HST6 HTV6 HRS6 HBX6 HXB6 HOB6 HSB6
      have HFN := fun g V => Lib.hid (fun_p ⟨x.1.text.toArray⟩ (some ⟨g, 0, none⟩) 2 2 V)
      have HPI : Hid (valOf (rdTerm S gk r1 deep ts.tail ns) ≠ none → PIn S z gk 2 ts2 ns2) := Lib.hid (fun hv => by
        have h1 := HTOLD.out
        cases hr : rdTerm S gk r1 deep ts.tail ns with
        | error e => rw [hr] at hv; exact absurd rfl hv
        | ok p =>
          obtain ⟨u, t9, n9⟩ := p
          rw [hr] at h1
          obtain ⟨_, h2, h3⟩ := h1
          subst h2 h3
          exact HIN2.out.term hr (by omega))
      have hne1 : xb ≠ tb := by omega
      have hne2 : ob ≠ tb := by omega
      have hne3 : sb ≠ tb := by omega
      have HNX : Hid ((nmT x).size ≤ maxLen) := Lib.hid (by have := HSM.out.2.1; show x.1.text.toArray.size ≤ maxLen; rw [List.size_toArray]; simp only [maxLen]; omega)
      have hs9 : (fun W' => W'.cell? ⟨xb, 1, none⟩ = some (.string ⟨x.1.text.toArray⟩) ∧ W'.cell? ⟨ob, 0, none⟩ = some (.int .i64 (q1 : Nat)) ∧ W'.cell? ⟨sb, 0, none⟩ = some (.int .i64 k2) ∧ W'.cell? ⟨sb, 1, none⟩ = some (.string nm2) ∧ W'.cell? ⟨sb, 2, none⟩ = some (.int .i64 m2) ∧ W'.cell? ⟨sb, 3, none⟩ = some (.slice g2 l2 c2)) V6.drew := ⟨x1, o0, s0, s1, s2, s3⟩
      refine wp_region_held_drew (S := (fun W' => W'.cell? ⟨xb, 1, none⟩ = some (.string ⟨x.1.text.toArray⟩) ∧ W'.cell? ⟨ob, 0, none⟩ = some (.int .i64 (q1 : Nat)) ∧ W'.cell? ⟨sb, 0, none⟩ = some (.int .i64 k2) ∧ W'.cell? ⟨sb, 1, none⟩ = some (.string nm2) ∧ W'.cell? ⟨sb, 2, none⟩ = some (.int .i64 m2) ∧ W'.cell? ⟨sb, 3, none⟩ = some (.slice g2 l2 c2))) (by kernel_rfl) hs9 (fun hHeld => ?_)
      clear hs9
      refine wpAnyH_take (i := 0) (oi := _) (v := ?_) rfl (by kernel_rfl) (by kernel_rfl) (by kernel_rfl) (fun _ _ _ h => h) (Or.inl ⟨by rfl, ?_⟩) hHeld ?_
      rotate_left
      · (intro w hSw; obtain ⟨x1, o0, s0, s1, s2, s3⟩ := hSw; go_simp; try with_reducible rfl)
      try simp only [Act.put, List.setIfInBounds_toArray, List.set_cons_zero, List.set_cons_succ, List.getElem_toArray, List.getElem_cons_zero]
      refine wpAnyH_take (i := 1) (oi := _) (v := ?_) rfl (by kernel_rfl) (by kernel_rfl) (by kernel_rfl) (fun _ _ _ h => h) (Or.inl ⟨by rfl, ?_⟩) hHeld ?_
      rotate_left
      · (intro w hSw; obtain ⟨x1, o0, s0, s1, s2, s3⟩ := hSw; go_simp; try with_reducible rfl)
      try simp only [Act.put, List.setIfInBounds_toArray, List.set_cons_zero, List.set_cons_succ, List.getElem_toArray, List.getElem_cons_zero, List.getElem_cons_succ]
      refine wpAnyH_take (i := 3) (oi := _) (v := ?_) rfl (by kernel_rfl) (by kernel_rfl) (by kernel_rfl) (fun _ _ _ h => h) (Or.inl ⟨by rfl, ?_⟩) hHeld ?_
      rotate_left
      · (intro w hSw; obtain ⟨x1, o0, s0, s1, s2, s3⟩ := hSw; go_simp; try with_reducible rfl)
      try simp only [Act.put, List.setIfInBounds_toArray, List.set_cons_zero, List.set_cons_succ, List.getElem_toArray, List.getElem_cons_zero, List.getElem_cons_succ]
      refine wpAnyH_take (i := 6) (oi := _) (v := ?_) rfl (by kernel_rfl) (by kernel_rfl) (by kernel_rfl) (fun _ _ _ h => h) (Or.inl ⟨by rfl, ?_⟩) hHeld ?_
      rotate_left
      · (intro w hSw; obtain ⟨x1, o0, s0, s1, s2, s3⟩ := hSw; go_simp; try with_reducible rfl)
      try simp only [Act.put, List.setIfInBounds_toArray, List.set_cons_zero, List.set_cons_succ, List.getElem_toArray, List.getElem_cons_zero, List.getElem_cons_succ]
      refine wpAnyH_take (i := 7) (oi := _) (v := ?_) rfl (by kernel_rfl) (by kernel_rfl) (by kernel_rfl) (fun _ _ _ h => h) (Or.inl ⟨by rfl, ?_⟩) hHeld ?_
      rotate_left
      · (intro w hSw; obtain ⟨x1, o0, s0, s1, s2, s3⟩ := hSw; go_simp; try with_reducible rfl)
      try simp only [Act.put, List.setIfInBounds_toArray, List.set_cons_zero, List.set_cons_succ, List.getElem_toArray, List.getElem_cons_zero, List.getElem_cons_succ]
      refine wpAnyH_ready (rs := [2]) (by kernel_rfl) (by simp) ?_
      refine AllReadyH.cons (o := _) rfl (fun K hK => ?_) AllReadyH.nil
      go_simp
      refine hK.out _ _ (hHeld) (fun hHeld => ?_)
      clear hK K
      try simp only [Act.put, List.setIfInBounds_toArray, List.set_cons_zero, List.set_cons_succ, List.getElem_toArray, List.getElem_cons_zero, List.getElem_cons_succ]
      refine wpAnyH_ready (rs := [4]) (by kernel_rfl) (by simp) ?_
      refine AllReadyH.cons (o := _) rfl (fun K hK => ?_) AllReadyH.nil
      go_simp
      refine hK.out _ _ (keepAl hHeld) (fun hHeld => ?_)
      clear hK K
      try simp only [Act.put, List.setIfInBounds_toArray, List.set_cons_zero, List.set_cons_succ, List.getElem_toArray, List.getElem_cons_zero, List.getElem_cons_succ]
      refine wpAnyH_ready (rs := [5]) (by kernel_rfl) (by simp) ?_
      refine AllReadyH.cons (o := _) rfl (fun K hK => ?_) AllReadyH.nil
      go_simp
      (with_reducible refine ((HFN _ _).out).mono ?_); rintro e U7 ⟨rfl, hb⟩; obtain ⟨hb1, hnw, hlw⟩ : Below V6.heap.size V6 U7 ∧ U7.heap[V6.heap.size]? = some (.cells #[.int .i64 k, .string nm, .int .i64 n, .slice g m c, .int .i64 k2, .string nm2, .int .i64 m2, .slice g2 l2 c2] 34) ∧ V6.heap.size < U7.heap.size := (by first | with_reducible exact al_drew3 hb | with_reducible exact al_drew hb); have HRS9 := Lib.hid ((hb1.block _ htwU).trans HRS8.out); have HBX9 := Lib.hid ((hb1.block _ htbU).trans HBX8.out); have HXB9 := Lib.hid ((hb1.block _ hxbU).trans HXB8.out); have HSB9 := Lib.hid ((hb1.block _ hsbU).trans HSB8.out); have HOB9 := Lib.hid ((hb1.block _ hobU).trans HOB8.out); have HST9 := Lib.hid (HST8.out.next hb1); have HTV9 := Lib.hid (HTV8.out.mv (FrP.of_below hb1) (fun _ h => h.elim) (fun _ hx => .inl hx)); have HTU9 := Lib.hid (HTU8.out.mv (FrP.of_below hb1) (fun _ h => h.elim) (fun _ hx => .inl hx)); have HNW := Lib.hid hnw; clear o0 o1 o2 o3 x0 x1 x2 x3 x4 b0 b1 b2 b3 s0 s1 s2 s3; obtain ⟨⟨x0, x1, x2, x3, x4⟩, -⟩ := row5t HXB9.out; obtain ⟨⟨s0, s1, s2, s3⟩, -⟩ := row4 HSB9.out; obtain ⟨⟨p0, p1, p2, p3⟩, pf0, pf1, pf2, pf3⟩ := row4 HBX9.out; obtain ⟨⟨o0, o1, o2, o3⟩, -⟩ := row4 HOB9.out; have hol8 := (Array.getElem?_eq_some_iff.1 HOB9.out).1; have htb8 := (Array.getElem?_eq_some_iff.1 HBX9.out).1; clear hb hb1 hnw
      go_wp2_with fail
      refine hK.out _ _ (⟨x1, o0, s0, s1, s2, s3⟩) (fun hHeld => ?_)
      clear hK K
      try simp only [Act.put, List.setIfInBounds_toArray, List.set_cons_zero, List.set_cons_succ, List.getElem_toArray, List.getElem_cons_zero, List.getElem_cons_succ]
      refine wpAnyH_ready (rs := [8]) (by kernel_rfl) (by simp) ?_
      refine AllReadyH.cons (o := _) rfl (fun K hK => ?_) AllReadyH.nil
      go_simp
      refine hK.out _ _ (keepSt hne1 hne2 hne3 ⟨x1, o0, s0, s1, s2, s3⟩) (fun hHeld => ?_)
      clear hK K
      try simp only [Act.put, List.setIfInBounds_toArray, List.set_cons_zero, List.set_cons_succ, List.getElem_toArray, List.getElem_cons_zero, List.getElem_cons_succ]
      refine wpAnyH_ready (rs := [9]) (by kernel_rfl) (by simp) ?_
      refine AllReadyH.cons (o := _) rfl (fun K hK => ?_) AllReadyH.nil
      go_simp
      refine hK.out _ _ (hHeld) (fun hHeld => ?_)
      clear hK K
      try simp only [Act.put, List.setIfInBounds_toArray, List.set_cons_zero, List.set_cons_succ, List.getElem_toArray, List.getElem_cons_zero, List.getElem_cons_succ]
      refine wpAnyH_done (by kernel_rfl) ?_ _
      all_goals (
        go_wp2_with fail
        go_roundg gk
        case rel =>
          exact ⟨infE x t q1 (rdTerm S gk r1 deep ts.tail ns), ts2, ns2, n2, 3, nmT x, 0, some ⟨V6.heap.size, 0, none⟩, 2, 2, cd, q1, rfl, rfl, by omega, Lib.hid (TmQ.again (fun b hb => .inl (.inl (.inl hb))) HGO.out HPI.out HTOLD.out HST9.out HTV9.out HTU9.out (fun hx => by have := HST8.out.rd.old _ hx; omega) HNW.out HNX.out HRS9.out HBX9.out (by omega) hqle.1)⟩
        case measure => exact Nat.lt_succ_self _)
end Go.Proofs.YtkjnjahmlobjiaaGreatDoor

namespace Go.Proofs.YtkjnjahmlobjiaaGreatDoor
open Go.RowKit

theorem term_lt : ∀ n f, f < n → PTerm f
  | 0, _, h => absurd h (by omega)
  | n + 1, 0, _ => fun X W rb z S ts ns nv most deep hin _ _ _ => absurd hin.room (by omega)
  | n + 1, f + 1, h => by
    have IH : ∀ g, g ≤ f → PTerm g := fun g hg => term_lt n g (by omega)
    have hT : ∀ g, g ≤ f → PTerms g := fun g hg => terms_p g (fun f' hf => IH f' (by omega))
    exact term_p f (operand_p f (simple_p f (comp_p (f - 1) (hT _ (by omega))) (paren_p f (IH f (Nat.le_refl _))) (list_p f (hT f (Nat.le_refl _)) (IH f (Nat.le_refl _)))) (IH (f - 1) (by omega))) IH
theorem term_all (f : Nat) : PTerm f := term_lt (f + 1) f (Nat.lt_succ_self f)
/-- Fuel enough for any text. -/
def FF : Nat := 100000
theorem FF_eq : FF = 100000 := rfl
attribute [irreducible] FF
def endT : Toks → Bool
  | [] => false
  | x :: _ => decide (x.1.kind = 5)
/-- A clause, purely. -/
def clE (S : List UInt8) (ts : Toks) : RRes Tm :=
  match rdTerm S FF 1200 0 ts [] with
  | .error e => .error e
  | .ok (t, r, ns) => if endT r = true then .ok (t, r.tail, ns) else .error (2, placeT S r)
/-- The reader between two clauses. -/
structure PRz (X : Nat → Prop) (W : World) (rb z : Nat) (ts : Toks) : Prop where
  cells : ∃ tv nv mv, ∃ d q : Int, W.heap[rb]? = some (.cells #[tv, .int .i64 (z : Nat), nv, .int .u32 d, .int .i32 0, .int .u32 q, mv] 101 (0, 0)) ∧ tokS W (okN X W) ts tv ∧
    ((d = 0 ∧ mv = .map none) ∨ (d = 1 ∧ ∃ mb, mv = .map (some mb) ∧ okN X W mb ∧ MapIs W mb opsN))
  own : X rb
  old : ∀ b, X b → b < W.heap.size
def nilS : Value := .slice none 0 0
theorem PRz.of {X Y : Nat → Prop} {W : World} {rb z : Nat} {ts : Toks} {ns : Names} {nv : Value} (h : PRd Y W rb z ts ns nv) (hs : ∀ b, X b → Y b) (hr : X rb) : PRz X W rb z ts := by
  have hok : ∀ b, okN Y W b → okN X W b := fun b hb => ⟨fun hx => hb.1 (hs b hx), hb.2⟩
  obtain ⟨tv, mv, d, q, hc, ht, hm⟩ := h.cells
  refine ⟨⟨tv, nv, mv, d, q, hc, ⟨toksP_mv ht.1 (FrP.refl (fun _ => False) W) (fun _ h => h.elim) (fun b hx => .inl (hs b hx)), ht.2⟩, ?_⟩, hr, fun b hb => h.old b (hs b hb)⟩
  rcases hm with hm | ⟨h1, mb, h2, h3, h4⟩
  · exact .inl hm
  · exact .inr ⟨h1, mb, h2, hok mb h3, h4⟩
theorem PRz.lt {X : Nat → Prop} {W : World} {rb z : Nat} {ts : Toks} (h : PRz X W rb z ts) : rb < W.heap.size := h.old rb h.own
theorem PRz.mv {P X X' : Nat → Prop} {W W' : World} {rb z : Nat} {ts : Toks} (h : PRz X W rb z ts) (hf : FrP P W W') (hP : ∀ b, P b → X b ∧ b ≠ rb) (hX : ∀ b, X' b → X b ∨ (W.heap.size ≤ b ∧ b < W'.heap.size)) (hr : X' rb) : PRz X' W' rb z ts := by
  have hX1 : ∀ b, X' b → X b ∨ W.heap.size ≤ b := fun b hx => (hX b hx).imp id And.left
  have hP1 : ∀ b, P b → X b := fun b hp => (hP b hp).1
  obtain ⟨tv, nv, mv, d, q, hc, ⟨ht, ht2⟩, hm⟩ := h.cells
  refine ⟨⟨tv, nv, mv, d, q, (hf.block rb h.lt (fun hp => (hP rb hp).2 rfl)).trans hc, ⟨toksP_mv ht hf hP1 hX1, ht2⟩, ?_⟩, hr, fun b hx => ?_⟩
  · rcases hm with hm | ⟨hd, mb, e, hb, hm⟩
    · exact .inl hm
    · exact .inr ⟨hd, mb, e, okN_mv hf hX1 mb hb, hm.same (hf.block mb hb.2 (fun hp => hb.1 (hP1 mb hp)))⟩
  · rcases hX b hx with h1 | h1
    · exact Nat.lt_of_lt_of_le (h.old b h1) hf.size
    · exact h1.2
theorem nil_own (b : Nat) : ¬ nilS.ownBlock = some b := fun h => by simp [nilS, Value.ownBlock] at h
/-- The names are let go. -/
theorem PRz.begin {X : Nat → Prop} {W : World} {rb z : Nat} {ts : Toks} (h : PRz X W rb z ts) : PRd X (W.setCell ⟨rb, 2, none⟩ nilS) rb z ts [] nilS := by
  have hf := FrP.set W rb 2 nilS
  obtain ⟨tv, nv, mv, d, q, hc, ⟨ht, ht2⟩, hm⟩ := h.cells
  have hP1 : ∀ b, b = rb → X b := fun b e => by subst e; exact h.own
  have hs : (W.setCell ⟨rb, 2, none⟩ nilS).heap.size = W.heap.size := by simp [World.setCell]
  refine ⟨⟨tv, mv, d, q, set_blk hc, ⟨toksP_mv ht hf hP1 (fun b hx => .inl hx), ht2⟩, ?_⟩, World.ownsRow_nil _ _ _ _, fun b hb => absurd hb (nil_own b), h.own, fun b hx => by rw [hs]; exact h.old b hx⟩
  rcases hm with hm | ⟨hd, mb, e, hb, hm⟩
  · exact .inl hm
  · exact .inr ⟨hd, mb, e, okN_mv hf (fun b hx => .inl hx) mb hb, hm.same (hf.block mb hb.2 (fun hp => hb.1 (hP1 mb hp)))⟩
def ZC : Obj := .cells #[.int .i64 0, .string ⟨#[]⟩, .int .i64 0, .slice none 0 0, .slice none 0 0] 67
/-- A clause is begun. -/
theorem PRz.start {X : Nat → Prop} {W : World} {rb z : Nat} {ts : Toks} (h : PRz X W rb z ts) : PSt X (fun b => False ∨ b = W.heap.size) W rb z nilS ts [] nilS ((W.setCell ⟨rb, 2, none⟩ nilS).alloc ZC) := by
  have h2 := h.begin
  have hs : (W.setCell ⟨rb, 2, none⟩ nilS).heap.size = W.heap.size := by simp [World.setCell]
  have h3 : PSt X (fun _ => False) W rb z nilS ts [] nilS (W.setCell ⟨rb, 2, none⟩ nilS) := by
    refine ⟨h2.less (fun b hx => ?_) (.inl (.inl h.own)) (fun b hb => absurd hb (nil_own b)), NvN.refl _ _, (FrP.set _ rb 2 nilS).mono (fun b _ e => .inl e), fun b hb => hb.elim, h.own, fun b hb => absurd hb (nil_own b), h.old⟩
    rcases hx with (hx | hx) | hx
    · exact hx
    · exact hx.elim
    · exact absurd hx (nil_own b)
  have h4 := h3.box ZC
  rw [hs] at h4
  exact h4
theorem own_shape {W : World} {base : Nat} {e : TypeId} {size : Nat} {v : Value} {k : Nat} {xs : List Value} (h : W.ownsRow base e size v k xs) : ∃ g m c, v = .slice g m c := by
  rcases h.2 with ⟨hv, _⟩ | ⟨g, cap, _, hv, _⟩
  · exact ⟨_, _, _, hv⟩
  · exact ⟨_, _, _, hv⟩
theorem Tryz.fieldTk0 (k n p : Int) (tx : ByteArray) (o : Bool) (w : World) : (Instr.field 103 (.agg #[.int .i64 k, .string tx, .int .i64 n, .int .i64 p, .bool o]) 0).run Tryz.prog w = .ok (.int .i64 k) w := by kernel_rfl
theorem Tryz.fieldTk3 (k n p : Int) (tx : ByteArray) (o : Bool) (w : World) : (Instr.field 103 (.agg #[.int .i64 k, .string tx, .int .i64 n, .int .i64 p, .bool o]) 3).run Tryz.prog w = .ok (.int .i64 p) w := by kernel_rfl
def set5 (W : World) (b : Nat) (k : Int) (nm : ByteArray) (n : Int) (sv nv : Value) : World := (set4 W b k nm n sv).setCell ⟨b, 4, none⟩ nv
theorem FrP.put5 (W : World) (b : Nat) (k : Int) (nm : ByteArray) (n : Int) (sv nv : Value) : FrP (fun x => x = b) W (set5 W b k nm n sv nv) := (FrP.put W b k nm n sv).trans (FrP.set _ b 4 nv) (fun _ _ h => h) (fun _ _ h => h)
theorem set5_blk {W : World} {b : Nat} {v0 v1 v2 v3 v4 : Value} {t : TypeId} (h : W.heap[b]? = some (Obj.cells #[v0, v1, v2, v3, v4] t (0, 0))) (k : Int) (nm : ByteArray) (n : Int) (sv nv : Value) : (set5 W b k nm n sv nv).heap[b]? = some (.cells #[.int .i64 k, .string nm, .int .i64 n, sv, nv] t (0, 0)) :=
  set_blk (set_blk (set_blk (set_blk (set_blk h))))
theorem row5f {w : World} {b : Nat} {a0 a1 a2 a3 a4 : Value} {t : TypeId} (h : w.heap[b]? = some (Obj.cells #[a0, a1, a2, a3, a4] t (0, 0))) :
    (w.cell? ⟨b, 0, none⟩ = some a0 ∧ w.cell? ⟨b, 1, none⟩ = some a1 ∧ w.cell? ⟨b, 2, none⟩ = some a2 ∧ w.cell? ⟨b, 3, none⟩ = some a3 ∧ w.cell? ⟨b, 4, none⟩ = some a4) ∧
    (w.frozen? ⟨b, 0, none⟩ = false ∧ w.frozen? ⟨b, 1, none⟩ = false ∧ w.frozen? ⟨b, 2, none⟩ = false ∧ w.frozen? ⟨b, 3, none⟩ = false ∧ w.frozen? ⟨b, 4, none⟩ = false) := by
  simp [World.cell?, World.frozen?, h]
/-- What a clause's call is to do. -/
def PClPost (X : Nat → Prop) (W : World) (rb z : Nat) (S : List UInt8) (ts : Toks) (e : Ending) (W' : World) : Prop :=
  ∃ k nm n g m c gn mn cn cd ts', e = .returned (.tuple #[.agg #[.int .i64 k, .string nm, .int .i64 n, .slice g m c, .slice gn mn cn], .int .i64 (cd : Nat)]) ∧ PRz X W' rb z ts' ∧ FrP (fun b => b = rb) W W' ∧
    (match clE S ts with
      | .ok (t, r, ns) => cd = 0 ∧ ts' = r ∧ TV X W' (some t) k nm n (.slice g m c) ∧ namesP W' (okN X W') ns (.slice gn mn cn)
      | .error (c9, pl) => cd = c9 ∧ (c9 = 2 ∨ c9 = 3) ∧ placeT S ts' = pl)
theorem c_fin {X : Nat → Prop} {W : World} {rb z : Nat} {ts : Toks} {ns : Names} {nv' : Value} {V : World} {S : List UInt8} {ts0 : Toks} {t : Tm} {k : Int} {nm : ByteArray} {n : Int} {g : Option Addr} {m c : Nat}
    (h : PSt X (fun b => False ∨ b = W.heap.size) W rb z nilS ts ns nv' V) (ht : TV (Yc X (fun b => False ∨ b = W.heap.size) nv') V (some t) k nm n (.slice g m c)) (hr : clE S ts0 = .ok (t, ts, ns)) :
    PClPost X W rb z S ts0 (.returned (.tuple #[.agg #[.int .i64 k, .string nm, .int .i64 n, .slice g m c, nv'], .int .i64 (0 : Nat)])) (set5 V W.heap.size k nm n (.slice g m c) nv') := by
  obtain ⟨gn, mn, cn, rfl⟩ := own_shape h.rd.nms
  have hf := FrP.put5 V W.heap.size k nm n (.slice g m c) (.slice gn mn cn)
  have hlt := h.lt
  have hs := h.put hf (.inr rfl)
  have hXY : ∀ b, X b → Yc X (fun b => False ∨ b = W.heap.size) (.slice gn mn cn) b := fun b hb => .inl (.inl hb)
  have htv := ht.mv hf (fun b e => .inl (.inr (.inr e))) (X' := X) (fun b hx => .inl (hXY b hx))
  refine ⟨k, nm, n, g, m, c, gn, mn, cn, 0, ts, rfl, PRz.of hs.rd hXY h.xr, hs.fr.mono (fun b hb hw => ?_), ?_⟩
  · rcases hw with hw | hw
    · exact hw
    · exact absurd hw (nil_own b)
  · rw [hr]
    refine ⟨rfl, rfl, htv, ?_⟩
    have ho := hs.rd.nms
    rcases ho.2 with ⟨hv, h0⟩ | ⟨gb, cap, cur, hv, h1, h2, hle, -⟩
    · have hz : ns = [] := List.eq_nil_of_length_eq_zero h0
      subst hz
      exact ⟨none, 0, hv, Nat.le_refl _, .inl rfl⟩
    · have hob : (Value.slice gn mn cn).ownBlock = some gb := by rw [hv]; rfl
      refine ⟨some ⟨gb, 0, none⟩, cap, hv, hle, .inr ⟨gb, 0, rfl, ⟨fun hx => ?_, (ho.lt gb hob).2⟩, fun i hi => ?_⟩⟩
      · have h1 := h.old gb hx
        rcases h.nvn gb hob with h2 | h2
        · exact absurd h2 (nil_own gb)
        · omega
      · have := World.ownsRow.cells ho (g := gb) hob i (.string ⟨ns[i].toArray⟩) (by simp [hi])
        rw [Addr.add_lit] at this
        simpa using this
theorem c_err {X : Nat → Prop} {W : World} {rb z : Nat} {ts : Toks} {ns : Names} {nv' : Value} {V : World} {S : List UInt8} {ts0 : Toks} {c9 pl : Nat}
    (h : PSt X (fun b => False ∨ b = W.heap.size) W rb z nilS ts ns nv' V) (hr : clE S ts0 = .error (c9, pl)) (hc : c9 = 2 ∨ c9 = 3) (hp : placeT S ts = pl) :
    PClPost X W rb z S ts0 (.returned (.tuple #[.agg #[.int .i64 0, .string ⟨#[]⟩, .int .i64 0, .slice none 0 0, .slice none 0 0], .int .i64 (c9 : Nat)])) (set5 V W.heap.size 0 ⟨#[]⟩ 0 (.slice none 0 0) (.slice none 0 0)) := by
  have hf := FrP.put5 V W.heap.size 0 ⟨#[]⟩ 0 (.slice none 0 0) (.slice none 0 0)
  have hs := h.put hf (.inr rfl)
  refine ⟨0, ⟨#[]⟩, 0, none, 0, 0, none, 0, 0, c9, ts, rfl, PRz.of hs.rd (fun b hb => .inl (.inl hb)) h.xr, hs.fr.mono (fun b hb hw => ?_), ?_⟩
  · rcases hw with hw | hw
    · exact hw
    · exact absurd hw (nil_own b)
  · rw [hr]
    exact ⟨rfl, hc, hp⟩
set_option maxRecDepth 100000 in
set_option maxHeartbeats 8000000 in
theorem clause_p {X : Nat → Prop} (W : World) (rb z : Nat) (S : List UInt8) (ts : Toks) (h : PRz X W rb z ts) (hin : PIn S z FF 3 ts []) :
    Calls Tryz.prog 46 #[.pointer (some ⟨rb, 0, none⟩)] W fun e W' => PClPost X W rb z S ts e W' := by
  have HST := Lib.hid h.start
  have HIN := Lib.hid hin
  have HT := Lib.hid (term_all FF)
  have hlt := h.lt
  have HH := Lib.hid h
  clear h hin
  go_enter Tryz.func46, Tryz.ntmps46
  obtain ⟨tv, nv0, mv, d, q, hcc, -, -⟩ := HH.out.cells
  obtain ⟨⟨r0, r1, r2, r3, r4, r5, r6⟩, rf0, rf1, rf2, rf3, rf4, rf5, rf6⟩ := row7 hcc
  clear hcc
  go_upto_region 2 with fail
  have hs0 : (W.setCell ⟨rb, 2, none⟩ nilS).heap.size = W.heap.size := by simp [World.setCell]
  have hzb := newBlk (W.setCell ⟨rb, 2, none⟩ nilS) ZC W.heap.size hs0.symm
  change Code.wp _ _ _ _ ((W.setCell ⟨rb, 2, none⟩ nilS).alloc ZC)
  obtain ⟨V, hV⟩ : ∃ V, (W.setCell ⟨rb, 2, none⟩ nilS).alloc ZC = V := ⟨_, rfl⟩
  rw [hV] at HST hzb ⊢
  have HZB := Lib.hid hzb
  clear hV hzb hs0 r0 r1 r2 r3 r4 r5 r6 rf0 rf1 rf2 rf3 rf4 rf5 rf6
  have HTM : Hid (Calls Tryz.prog 61 #[.pointer (some ⟨rb, 0, none⟩), .int .i64 1200, .int .i64 0] V fun e W' => PTermPost (Yc X (fun b => False ∨ b = W.heap.size) nilS) V rb z nilS S (rdTerm S FF 1200 0 ts []) e W') :=
    Lib.hid (HT.out _ V rb z S ts [] nilS 1200 0 HIN.out HST.out.rd (by omega) (by omega))
  go_upto_region 3 with (go_at_call 61; (with_reducible refine (HTM.out).mono ?_); rintro e U ⟨k, nm, n, g, m, c, cd, n1, rfl, hend, htv⟩; obtain ⟨ts1, ns1, hrd1, htold⟩ := hend.rd; have HZB1 := Lib.hid ((HST.out.keep hend.fr (.inr rfl)).trans HZB.out); have HST1 := Lib.hid (HST.out.call hrd1 hend.nvn hend.fr); have HTV1 := Lib.hid htv.back; have HTOLD : Hid (Told S (rdTerm S FF 1200 0 ts []) cd ts1 ns1) := Lib.hid htold; clear hend htv hrd1 htold)
  clear HTM HST HZB
  have hb0 : Below U.heap.size U (U.alloc (.cells #[.int .i64 k, .string nm, .int .i64 n, .slice g m c] 34)) := (Below.refl _ _).alloc (Nat.le_refl _) _
  have hzl := (Array.getElem?_eq_some_iff.1 HZB1.out).1
  have htb := newBlk U (.cells #[.int .i64 k, .string nm, .int .i64 n, .slice g m c] 34) U.heap.size rfl
  replace HST1 := Lib.hid (HST1.out.next hb0)
  replace HTV1 := Lib.hid (HTV1.out.mv (FrP.of_below hb0) (fun _ h => h.elim) (fun _ hx => .inl hx))
  replace HZB1 := Lib.hid ((hb0.block _ hzl).trans HZB1.out)
  have hst : U.heap.size < (U.alloc (.cells #[.int .i64 k, .string nm, .int .i64 n, .slice g m c] 34)).heap.size := by simp
  obtain ⟨tb, hte⟩ : ∃ tb, U.heap.size = tb := ⟨_, rfl⟩
  obtain ⟨U1, hU1⟩ : ∃ U1, U.alloc (.cells #[.int .i64 k, .string nm, .int .i64 n, .slice g m c] 34) = U1 := ⟨_, rfl⟩
  rw [hU1] at HZB1 HST1 HTV1 htb hst ⊢
  rw [hte] at htb hst hzl ⊢
  clear hb0 hU1 hte
  cases hr : rdTerm S FF 1200 0 ts [] with
  | error e =>
    obtain ⟨c9, pl⟩ := e
    rw [hr] at HTOLD
    obtain ⟨hc1, hc2, hc3⟩ := HTOLD.out
    subst hc1
    have hcl : clE S ts = .error (cd, pl) := by unfold clE; rw [hr]
    have HF := Lib.hid (c_err HST1.out hcl hc2 hc3)
    have hcd : ((cd : Int) == 0) = false := by rw [beq_eq_false_iff_ne]; omega
    have hcd2 : ((cd : Int) != 0) = true := by simp [bne, hcd]
    clear hc2 hc3 hr hcl
    obtain ⟨⟨a0, a1, a2, a3, a4⟩, af0, af1, af2, af3, af4⟩ := row5f HZB1.out
    have htw := (Array.getElem?_eq_some_iff.1 HZB1.out).1
    go_wp2_with fail
    have hz := set5_blk HZB1.out 0 ⟨#[]⟩ 0 (.slice none 0 0) (.slice none 0 0)
    change bodyPost _ _ _ _ _ (set5 U1 W.heap.size 0 ⟨#[]⟩ 0 (.slice none 0 0) (.slice none 0 0))
    obtain ⟨V', hV'⟩ : ∃ V', set5 U1 W.heap.size 0 ⟨#[]⟩ 0 (.slice none 0 0) (.slice none 0 0) = V' := ⟨_, rfl⟩
    rw [hV'] at HF hz ⊢
    obtain ⟨⟨z0, z1, z2, z3, z4⟩, -⟩ := row5f hz
    clear hV' hz a0 a1 a2 a3 a4 af0 af1 af2 af3 af4
    refine bodyPost_ret (v := .tuple #[.agg #[.int .i64 0, .string ⟨#[]⟩, .int .i64 0, .slice none 0 0, .slice none 0 0], .int .i64 (cd : Nat)]) (by simp [results, Tryz.results46, go_sem, z0, z1, z2, z3, z4]) rfl ?_
    exact HF.out
  | ok p =>
    obtain ⟨t, ts9, n9⟩ := p
    rw [hr] at HTOLD HTV1
    obtain ⟨hc1, hc2, hc3⟩ := HTOLD.out
    subst hc1 hc2 hc3
    have HIN2 := Lib.hid (HIN.out.term (f' := FF) (k' := 0) hr (by omega))
    obtain ⟨x, hx⟩ : ∃ x, tkAt z ts1 0 = x := ⟨_, rfl⟩
    have hsm := tkAt_small (z := z) HIN2.out.good HIN2.out.zl 0
    rw [hx] at hsm
    have hend : endT ts1 = decide (x.1.kind = 5) := by
      rw [← hx]
      cases ts1 with
      | nil => rfl
      | cons a b => rfl
    have HAH := Lib.hid (ahead0_any U1 rb z ts1 ns1 n1 x hx HST1.out.rd HIN2.out.len)
    have hfl := fun w => Tryz.fieldTk0 (x.1.kind : Nat) (x.1.n : Nat) (x.2 : Nat) ⟨x.1.text.toArray⟩ x.1.opn w
    have HRr := Lib.hid hr
    have HTB := Lib.hid htb
    clear hr hx htb
    by_cases hk : x.1.kind = 5
    · have hcl : clE S ts = .ok (t, ts1.tail, ns1) := by
        unfold clE
        rw [HRr.out]
        dsimp only
        rw [if_pos (by rw [hend, hk]; rfl)]
      have hone : 1 ≤ ts1.length := by
        cases ts1 with
        | nil => cases (show endT [] = true by rw [hend, hk]; rfl)
        | cons a b => simp
      have kk : ((x.1.kind : Int) == 5) = true := by rw [beq_iff_eq]; omega
      have kk2 : ((x.1.kind : Int) != 5) = false := by simp [bne, kk]
      have HCL := Lib.hid hcl
      clear hcl hend hk
      go_upto_region 7 with (go_at_call 45; (with_reducible refine (HAH.out).mono ?_); rintro e U2 ⟨rfl, hb⟩; have HST2 := Lib.hid (HST1.out.next hb); have HTV2 := Lib.hid (HTV1.out.mv (FrP.of_below hb) (fun _ h => h.elim) (fun _ hx => .inl hx)); have HZB2 := Lib.hid ((hb.block _ (Array.getElem?_eq_some_iff.1 HZB1.out).1).trans HZB1.out); have HTB2 := Lib.hid ((hb.block _ hst).trans HTB.out); have hst2 : tb < U2.heap.size := Nat.lt_of_lt_of_le hst hb.size; clear hb)
      have HPS := Lib.hid (pass1_any U2 rb z ts1 ns1 n1 HST2.out.rd hone HIN2.out.len)
      go_upto_region 8 with (go_at_call 62; (with_reducible refine (HPS.out).mono ?_); rintro e U3 ⟨rfl, hrd2, hfr2⟩; have HTB3 := Lib.hid ((hfr2.block tb hst2 (by omega)).trans HTB2.out); have HZB3 := Lib.hid ((HST2.out.keep (wrt0 hfr2) (.inr rfl)).trans HZB2.out); have HTV3 := Lib.hid (HST2.out.tv HTV2.out (NvN.refl _ _) (wrt0 hfr2)); have HST3 := Lib.hid (HST2.out.call0 hrd2 hfr2); clear hrd2 hfr2)
      obtain ⟨gn, mn, cn, hnv⟩ := own_shape HST3.out.rd.nms
      subst hnv
      obtain ⟨tv3, mv3, d3, q3, hcc, -, -⟩ := HST3.out.rd.cells
      obtain ⟨⟨r0, r1, r2, r3, r4, r5, r6⟩, -⟩ := row7 hcc
      have hrl := (Array.getElem?_eq_some_iff.1 hcc).1
      obtain ⟨⟨b0, b1, b2, b3⟩, -⟩ := row4 HTB3.out
      obtain ⟨⟨a0, a1, a2, a3, a4⟩, af0, af1, af2, af3, af4⟩ := row5f HZB3.out
      have htl := (Array.getElem?_eq_some_iff.1 HTB3.out).1
      have htw := (Array.getElem?_eq_some_iff.1 HZB3.out).1
      have hdw : Below U3.heap.size U3 U3.drew := ⟨rfl, rfl, rfl, Nat.le_refl _, fun _ _ => rfl⟩
      have HF := Lib.hid (c_fin (HST3.out.next hdw) (HTV3.out.mv (FrP.of_below hdw) (fun _ h => h.elim) (fun _ hx => .inl hx)) HCL.out)
      have HZB4 := Lib.hid ((hdw.block _ htw).trans HZB3.out)
      clear hdw
      clear HPS HST2 HTV2 HZB2 HTB2 HST1 HTV1 HZB1 HTB HAH hcc
      go_region
      go_wp2_with fail
      have hz := set5_blk HZB4.out k nm n (.slice g m c) (.slice gn mn cn)
      change bodyPost _ _ _ _ _ (set5 U3.drew W.heap.size k nm n (.slice g m c) (.slice gn mn cn))
      obtain ⟨V', hV'⟩ : ∃ V', set5 U3.drew W.heap.size k nm n (.slice g m c) (.slice gn mn cn) = V' := ⟨_, rfl⟩
      rw [hV'] at HF hz ⊢
      obtain ⟨⟨z0, z1, z2, z3, z4⟩, -⟩ := row5f hz
      clear hV' hz a0 a1 a2 a3 a4 af0 af1 af2 af3 af4 r0 r1 r2 r3 r4 r5 r6 b0 b1 b2 b3
      refine bodyPost_ret (v := .tuple #[.agg #[.int .i64 k, .string nm, .int .i64 n, .slice g m c, .slice gn mn cn], .int .i64 (0 : Nat)]) (by simp [results, Tryz.results46, go_sem, z0, z1, z2, z3, z4]) rfl ?_
      exact HF.out
    · have hcl : clE S ts = .error (2, placeT S ts1) := by
        unfold clE
        rw [HRr.out]
        dsimp only
        rw [if_neg (by rw [hend]; simpa using hk)]
      have kk : ((x.1.kind : Int) == 5) = false := by rw [beq_eq_false_iff_ne]; omega
      have kk2 : ((x.1.kind : Int) != 5) = true := by simp [bne, kk]
      have HCL := Lib.hid hcl
      clear hcl hend hk
      go_wp2_with (go_at_call 45; (with_reducible refine (HAH.out).mono ?_); rintro e U2 ⟨rfl, hb⟩; have HST2 := Lib.hid (HST1.out.next hb); have HZB2 := Lib.hid ((hb.block _ (Array.getElem?_eq_some_iff.1 HZB1.out).1).trans HZB1.out); obtain ⟨⟨a0, a1, a2, a3, a4⟩, af0, af1, af2, af3, af4⟩ := row5f HZB2.out; have htw := (Array.getElem?_eq_some_iff.1 HZB2.out).1; clear hb)
      have HF := Lib.hid (c_err HST2.out HCL.out (.inl rfl) rfl)
      have hz := set5_blk HZB2.out 0 ⟨#[]⟩ 0 (.slice none 0 0) (.slice none 0 0)
      change bodyPost _ _ _ _ _ (set5 U2 W.heap.size 0 ⟨#[]⟩ 0 (.slice none 0 0) (.slice none 0 0))
      obtain ⟨V', hV'⟩ : ∃ V', set5 U2 W.heap.size 0 ⟨#[]⟩ 0 (.slice none 0 0) (.slice none 0 0) = V' := ⟨_, rfl⟩
      rw [hV'] at HF hz ⊢
      obtain ⟨⟨z0, z1, z2, z3, z4⟩, -⟩ := row5f hz
      clear hV' hz a0 a1 a2 a3 a4 af0 af1 af2 af3 af4
      refine bodyPost_ret (v := .tuple #[.agg #[.int .i64 0, .string ⟨#[]⟩, .int .i64 0, .slice none 0 0, .slice none 0 0], .int .i64 (2 : Nat)]) (by simp [results, Tryz.results46, go_sem, z0, z1, z2, z3, z4]) rfl ?_
      exact HF.out
end Go.Proofs.YtkjnjahmlobjiaaGreatDoor
