/-
  The document's rest: what stands behind a term.
  The document's Term when something is amiss, and its row.
-/
import Derived.Test.YtilfglcjcmpfeaaGreatDoorRdA
import Derived.StillTailTactics
namespace Go.Proofs.YtilfglcjcmpfeaaGreatDoor
open Go.RowKit

theorem rdRest_nil (S : List UInt8) (f : Nat) (t : Tm) (now p deep : Nat) (ns : Names) : rdRest S (f + 1) t now p deep [] ns = .ok (t, [], ns) := by rw [rdRest]
theorem rdRest_stop {S : List UInt8} {f : Nat} {t : Tm} {now p deep : Nat} {x : Tk × Nat} {r : Toks} {ns : Names} (h : opT now p (x :: r) = false) : rdRest S (f + 1) t now p deep (x :: r) ns = .ok (t, x :: r, ns) := by
  rw [rdRest, if_neg (by rw [h]; simp)]
theorem rdRest_go {S : List UInt8} {f : Nat} {t : Tm} {now p deep : Nat} {x : Tk × Nat} {r : Toks} {ns : Names} (h : opT now p (x :: r) = true) : rdRest S (f + 1) t now p deep (x :: r) ns = restE S f (infixP x.1.text).1 p deep (match rdTerm S f (infixP x.1.text).2.2 deep r ns with | .error e => .error e | .ok (u, r', ns') => .ok (funT (nmT x) [t, u], r', ns')) := by
  rw [rdRest, if_pos h]
  cases rdTerm S f (infixP x.1.text).2.2 deep r ns <;> rfl
/-- More blocks are left alone. -/
theorem St.ext {X X' : Nat → Prop} {W W' : World} {rb : Nat} {s : ByteArray} {L : Toks} {lv : Value} {x : RSt} (h : St X W rb s L lv x) (hb : Below W.heap.size W W') (hX : ∀ b, X' b → X b ∨ (W.heap.size ≤ b ∧ b < W'.heap.size)) (hr : X' rb) : St X' W' rb s L lv x := by
  have hold : ∀ b, X' b → b < W'.heap.size := fun b hx => by
    rcases hX b hx with h1 | h1
    · exact Nat.lt_of_lt_of_le (h.old b h1) hb.size
    · exact h1.2
  refine ⟨hr, hold, ?_⟩
  cases x with
  | error e => exact ⟨h.is.1.next hb, h.is.2⟩
  | ok x =>
    obtain ⟨a, h1, h2⟩ := h.is
    refine ⟨a, h1, ?_⟩
    obtain ⟨nv, pl, hc, hn⟩ := h2.cells
    have hok : ∀ b, okN X W b → okN X' W' b := fun b hb' => ⟨fun hx => by rcases hX b hx with h | h; exact hb'.1 h; have := hb'.2; omega, Nat.lt_of_lt_of_le hb'.2 hb.size⟩
    have hcell : ∀ b o v, okN X W b → W.cell? ⟨b, o, none⟩ = some v → W'.cell? ⟨b, o, none⟩ = some v := fun b o v hb' hv => (hb.cell (p := ⟨b, o, none⟩) hb'.2).trans hv
    refine ⟨⟨nv, pl, (hb.block rb h2.lt).trans hc, namesP_same hok hcell hn⟩, ?_, h2.le, hr, hold⟩
    obtain ⟨g, cap, e, h9⟩ := toksP_same hcell h2.toks
    refine ⟨g, cap, e, ?_⟩
    rcases h9 with h9 | ⟨b, off, e1, hb', h9⟩
    · exact .inl h9
    · exact .inr ⟨b, off, e1, hok b hb', h9⟩
theorem St.less {X X' : Nat → Prop} {W : World} {rb : Nat} {s : ByteArray} {L : Toks} {lv : Value} {x : RSt} (h : St X' W rb s L lv x) (hX : ∀ b, X b → X' b) (hr : X rb) : St X W rb s L lv x := by
  refine ⟨hr, fun b hx => h.old b (hX b hx), ?_⟩
  cases x with
  | error e => exact h.is
  | ok x =>
    obtain ⟨a, h1, h2⟩ := h.is
    refine ⟨a, h1, ?_⟩
    obtain ⟨nv, pl, hc, hn⟩ := h2.cells
    have hok : ∀ b, okN X' W b → okN X W b := fun b hb => ⟨fun hx => hb.1 (hX b hx), hb.2⟩
    refine ⟨⟨nv, pl, hc, namesP_same hok (fun _ _ _ _ h => h) hn⟩, ?_, h2.le, hr, fun b hx => h2.old b (hX b hx)⟩
    obtain ⟨g, cap, e, h9⟩ := h2.toks
    refine ⟨g, cap, e, ?_⟩
    rcases h9 with h9 | ⟨b, off, e1, hb', h9⟩
    · exact .inl h9
    · exact .inr ⟨b, off, e1, hok b hb', h9⟩
/-- A store elsewhere. -/
theorem St.other {X : Nat → Prop} {W W' : World} {rb tb : Nat} {s : ByteArray} {L : Toks} {lv : Value} {x : RSt} (h : St X W rb s L lv x) (ht : X tb) (hne : tb ≠ rb) (hg : W.grownBy W' (some tb)) : St X W' rb s L lv x := by
  refine ⟨h.own, fun b hx => Nat.lt_of_lt_of_le (h.old b hx) hg.size, ?_⟩
  cases x with
  | error e =>
    obtain ⟨⟨s', lv', a, nv, hc⟩, h2⟩ := h.is
    exact ⟨⟨s', lv', a, nv, (hg.block rb (Array.getElem?_eq_some_iff.1 hc).1 (by simp [Ne.symm hne])).trans hc⟩, h2⟩
  | ok x =>
    obtain ⟨a, h1, h2⟩ := h.is
    refine ⟨a, h1, ?_⟩
    obtain ⟨nv, pl, hc, hn⟩ := h2.cells
    have hcell : ∀ b o v, okN X W b → W.cell? ⟨b, o, none⟩ = some v → W'.cell? ⟨b, o, none⟩ = some v := fun b o v hb hv => cell_grown ht hg b o v hb hv
    refine ⟨⟨nv, pl, (hg.block rb h2.lt (by simp [Ne.symm hne])).trans hc, namesP_same (okN_grown hg) hcell hn⟩, toksP_mono ht hg h2.toks, h2.le, h2.own, fun b hx => Nat.lt_of_lt_of_le (h2.old b hx) hg.size⟩
theorem TV.ext {X X' : Nat → Prop} {W W' : World} {u : Option Tm} {k : Int} {nm : ByteArray} {n : Int} {sv : Value} (h : TV X W u k nm n sv) (hb : Below W.heap.size W W') (hX : ∀ b, X' b → X b ∨ W.heap.size ≤ b) : TV X' W' u k nm n sv := by
  refine ⟨h.1, h.2.1, h.2.2.1, fun t ht => ?_⟩
  obtain ⟨h1, h2, h3, h4⟩ := h.2.2.2 t ht
  exact ⟨h1, h2, h3, Tm.innP_same (fun b hb' => ⟨fun hx => by rcases hX b hx with h | h; exact hb'.1 h; have := hb'.2; omega, Nat.lt_of_lt_of_le hb'.2 hb.size⟩) (fun b o v hb' hv => (hb.cell (p := ⟨b, o, none⟩) hb'.2).trans hv) t sv h4⟩
theorem TV.less {X X' : Nat → Prop} {W : World} {u : Option Tm} {k : Int} {nm : ByteArray} {n : Int} {sv : Value} (h : TV X' W u k nm n sv) (hX : ∀ b, X b → X' b) : TV X W u k nm n sv := by
  refine ⟨h.1, h.2.1, h.2.2.1, fun t ht => ?_⟩
  obtain ⟨h1, h2, h3, h4⟩ := h.2.2.2 t ht
  exact ⟨h1, h2, h3, Tm.innP_same (fun b hb => ⟨fun hx => hb.1 (hX b hx), hb.2⟩) (fun _ _ _ _ h => h) t sv h4⟩
/-- What is left alone besides: the two boxes of the call. -/
def X2 (X : Nat → Prop) (tb : Nat) (b : Nat) : Prop := X b ∨ b = tb ∨ b = tb + 1
structure RestSt (X : Nat → Prop) (W : World) (rb : Nat) (s : ByteArray) (L : Toks) (lv : Value) (y : RRes Tm) (k : Int) (nm : ByteArray) (n : Int) (sv : Value) (wx : World) : Prop where
  st : St (X2 X W.heap.size) wx rb s L lv (stOf y)
  tv : TV (X2 X W.heap.size) wx (valOf y) k nm n sv
  box : wx.heap[W.heap.size]? = some (.cells #[.int .i64 k, .string nm, .int .i64 n, sv] 33 (0, 0))
  res : wx.heap[W.heap.size + 1]? = some (.cells #[.int .i64 0, .string ⟨#[]⟩, .int .i64 0, .slice none 0 0] 33 (0, 0))
  gr : W.grownBy wx (some rb)
theorem RestSt.dn {X : Nat → Prop} {W : World} {rb : Nat} {s : ByteArray} {L : Toks} {lv : Value} {y : RRes Tm} {k : Int} {nm : ByteArray} {n : Int} {sv : Value} {wx : World} (h : RestSt X W rb s L lv y k nm n sv wx) (q : Nat) : RestSt X W rb s L lv y k nm n sv (wx.drewN q) :=
  ⟨h.st.dn q, h.tv.grown h.st.own ⟨rfl, rfl, rfl, Nat.le_refl _, fun _ _ _ => rfl⟩, h.box, h.res, grown_dn h.gr q⟩
theorem row5t {w : World} {b : Nat} {a0 a1 a2 a3 a4 : Value} {t : TypeId} (h : w.heap[b]? = some (Obj.cells #[a0, a1, a2, a3, a4] t (0, 0))) :
    (w.cell? ⟨b, 0, none⟩ = some a0 ∧ w.cell? ⟨b, 1, none⟩ = some a1 ∧ w.cell? ⟨b, 2, none⟩ = some a2 ∧ w.cell? ⟨b, 3, none⟩ = some a3 ∧ w.cell? ⟨b, 4, none⟩ = some a4) ∧
    (w.frozen? ⟨b, 0, none⟩ = false ∧ w.frozen? ⟨b, 1, none⟩ = false ∧ w.frozen? ⟨b, 2, none⟩ = false ∧ w.frozen? ⟨b, 3, none⟩ = false ∧ w.frozen? ⟨b, 4, none⟩ = false) := by
  simp [World.cell?, World.frozen?, h]
theorem RestSt.next {X : Nat → Prop} {W : World} {rb : Nat} {s : ByteArray} {L : Toks} {lv : Value} {y : RRes Tm} {k : Int} {nm : ByteArray} {n : Int} {sv : Value} {wx wy : World} (h : RestSt X W rb s L lv y k nm n sv wx) (hb : Below wx.heap.size wx wy) : RestSt X W rb s L lv y k nm n sv wy :=
  have _hz := h.gr.size
  ⟨h.st.next hb, h.tv.ext hb (fun _ hx => .inl hx), (hb.block _ (Array.getElem?_eq_some_iff.1 h.box).1).trans h.box, (hb.block _ (Array.getElem?_eq_some_iff.1 h.res).1).trans h.res, grown_trans h.gr (r' := some rb) ⟨hb.os, hb.tape, hb.output, hb.size, fun q hq _ => hb.block q hq⟩ (fun _ e => .inl e)⟩
theorem infixP_le (tx : List UInt8) : (infixP tx).1 ≤ 1200 ∧ (infixP tx).2.1 ≤ 1200 ∧ (infixP tx).2.2 ≤ 1200 := by
  unfold infixP
  repeat' split
  all_goals decide
theorem RestSt.after {X : Nat → Prop} {W : World} {rb : Nat} {s : ByteArray} {L : Toks} {lv : Value} {y : RRes Tm} {k : Int} {nm : ByteArray} {n : Int} {sv : Value} {wx wy : World} (h : RestSt X W rb s L lv y k nm n sv wx) (hlt : rb < W.heap.size) (hg : wx.grownBy wy (some rb)) : TV (X2 X W.heap.size) wy (valOf y) k nm n sv ∧ wy.heap[W.heap.size]? = some (.cells #[.int .i64 k, .string nm, .int .i64 n, sv] 33 (0, 0)) ∧ wy.heap[W.heap.size + 1]? = some (.cells #[.int .i64 0, .string ⟨#[]⟩, .int .i64 0, .slice none 0 0] 33 (0, 0)) ∧ W.grownBy wy (some rb) :=
  ⟨h.tv.grown h.st.own hg, (hg.block _ (Array.getElem?_eq_some_iff.1 h.box).1 (fun e => by cases e; omega)).trans h.box, (hg.block _ (Array.getElem?_eq_some_iff.1 h.res).1 (fun e => by cases e; omega)).trans h.res, grown_trans h.gr hg (fun _ e => .inl e)⟩
/-- A term of two. -/
def madeE (x : Tk × Nat) (t : Tm) : RRes Tm → RRes Tm
  | .error e => .error e
  | .ok (u, r, ns) => .ok (funT (nmT x) [t, u], r, ns)
theorem madeE_st (x : Tk × Nat) (t : Tm) (r : RRes Tm) : stOf (madeE x t r) = stOf r := by cases r <;> rfl
theorem madeE_val (x : Tk × Nat) (t : Tm) (r : RRes Tm) : valOf (madeE x t r) = (valOf r).map (fun u => funT (nmT x) [t, u]) := by cases r <;> rfl
theorem madeE_ok {x : Tk × Nat} {t : Tm} {r : RRes Tm} {ts : Toks} {ns : Names} (h : stOf (madeE x t r) = .ok (ts, ns)) : ∃ u, r = .ok (u, ts, ns) := by
  rw [madeE_st] at h
  cases r with
  | error e => cases h
  | ok r => obtain ⟨u, ts', ns'⟩ := r; injection h with h; injection h with h1 h2; subst h1 h2; exact ⟨u, rfl⟩
def set4 (W : World) (b : Nat) (k : Int) (nm : ByteArray) (n : Int) (sv : Value) : World := (((W.setCell ⟨b, 0, none⟩ (.int .i64 k)).setCell ⟨b, 1, none⟩ (.string nm)).setCell ⟨b, 2, none⟩ (.int .i64 n)).setCell ⟨b, 3, none⟩ sv
theorem set4_grown (W : World) (b : Nat) (k : Int) (nm : ByteArray) (n : Int) (sv : Value) : W.grownBy (set4 W b k nm n sv) (some b) :=
  grown_trans (grown_trans (grown_trans (grown_set W b 0 _) (grown_set _ b 1 _) (fun _ e => .inl e)) (grown_set _ b 2 _) (fun _ e => .inl e)) (grown_set _ b 3 _) (fun _ e => .inl e)
theorem set4_blk {W : World} {b : Nat} {v0 v1 v2 v3 : Value} {t : TypeId} {fz : Nat × Nat} (h : W.heap[b]? = some (Obj.cells #[v0, v1, v2, v3] t fz)) (k : Int) (nm : ByteArray) (n : Int) (sv : Value) : (set4 W b k nm n sv).heap[b]? = some (.cells #[.int .i64 k, .string nm, .int .i64 n, sv] t fz) := set_blk (set_blk (set_blk (set_blk h)))
theorem RestSt.fin {X : Nat → Prop} {W : World} {rb : Nat} {s : ByteArray} {L : Toks} {lv : Value} {y : RRes Tm} {k : Int} {nm : ByteArray} {n : Int} {g : Option Addr} {m c : Nat} {V : World} (h : RestSt X W rb s L lv y k nm n (.slice g m c) V) (hX : X rb) (hlt : rb < W.heap.size) : TermPost X W rb s L lv y (.returned (.agg #[.int .i64 k, .string nm, .int .i64 n, .slice g m c])) (set4 V (W.heap.size + 1) k nm n (.slice g m c)) := by
  have hg := set4_grown V (W.heap.size + 1) k nm n (.slice g m c)
  have hne : W.heap.size + 1 ≠ rb := by
    intro e
    omega
  have hst := h.st.other (tb := W.heap.size + 1) (.inr (.inr rfl)) hne hg
  refine ⟨k, nm, n, g, m, c, rfl, grown_trans h.gr hg (fun b e => .inr (by cases e; omega)), hst.less (fun b hx => .inl hx) hX, ?_⟩
  exact (h.tv.grown (.inr (.inr rfl)) hg).less (fun b hx => .inl hx)
theorem pair_slice {W : World} {ok : Nat → Prop} {b : Nat} {t u : Tm} {sv sv' : Value} {T : TypeId} {fz : Nat × Nat} (h : W.heap[b]? = some (Obj.cells #[.int .i64 t.kind, .string t.name, .int .i64 t.n, sv, .int .i64 u.kind, .string u.name, .int .i64 u.n, sv'] T fz)) (hb : ok b) (ht : Tm.innP W ok t sv) (hu : Tm.innP W ok u sv') : Tm.sliceP W ok [t, u] (.slice (some ⟨b, 0, none⟩) 2 2) := by
  refine ⟨_, 2, rfl, by simp, by simp, .inr ⟨b, 0, rfl, hb, Tm.rowP_of_cells [t, u] [.int .i64 t.kind, .string t.name, .int .i64 t.n, sv, .int .i64 u.kind, .string u.name, .int .i64 u.n, sv'] 0 ⟨_, _, rfl, ht, _, _, rfl, hu, rfl⟩ fun j v hj => ?_⟩⟩
  simp only [World.cell?, h, Nat.zero_add]
  simpa using hj
theorem RestSt.made {X : Nat → Prop} {W : World} {rb : Nat} {s : ByteArray} {L : Toks} {lv : Value} {y : RRes Tm} {x : RSt} {t : Tm} {uo : Option Tm} {k : Int} {nm : ByteArray} {n : Int} {sv : Value} {k2 : Int} {nm2 : ByteArray} {n2 : Int} {sv2 : Value} {U : World} {nx : ByteArray}
    (hlt : rb < W.heap.size) (hst : St (X2 X W.heap.size) U rb s L lv x) (h1 : TV (X2 X W.heap.size) U (some t) k nm n sv) (h2 : TV (X2 X W.heap.size) U uo k2 nm2 n2 sv2)
    (hbox : U.heap[W.heap.size]? = some (.cells #[.int .i64 k, .string nm, .int .i64 n, sv] 33 (0, 0))) (hres : U.heap[W.heap.size + 1]? = some (.cells #[.int .i64 0, .string ⟨#[]⟩, .int .i64 0, .slice none 0 0] 33 (0, 0))) (hgr : W.grownBy U (some rb))
    (hnx : nx.size ≤ maxLen) (hy1 : stOf y = x) (hy2 : valOf y = uo.map (fun u => funT nx [t, u])) :
    RestSt X W rb s L lv y 3 nx 0 (.slice (some ⟨U.heap.size + 1, 0, none⟩) 2 2) (((set4 U W.heap.size 3 nx 0 (.slice (some ⟨U.heap.size + 1, 0, none⟩) 2 2)).alloc (.cells #[.int .i64 k2, .string nm2, .int .i64 n2, sv2] 33)).alloc (.cells #[.int .i64 k, .string nm, .int .i64 n, sv, .int .i64 k2, .string nm2, .int .i64 n2, sv2] 33)) := by
  obtain ⟨U4, hU4⟩ : ∃ U4, set4 U W.heap.size 3 nx 0 (.slice (some ⟨U.heap.size + 1, 0, none⟩) 2 2) = U4 := ⟨_, rfl⟩
  have hg : U.grownBy U4 (some W.heap.size) := by rw [← hU4]; exact set4_grown _ _ _ _ _ _
  have hz : U4.heap.size = U.heap.size := by rw [← hU4]; simp [set4, World.setCell]
  have hbx : U4.heap[W.heap.size]? = some (.cells #[.int .i64 3, .string nx, .int .i64 0, .slice (some ⟨U.heap.size + 1, 0, none⟩) 2 2] 33 (0, 0)) := by rw [← hU4]; exact set4_blk hbox _ _ _ _
  rw [hU4]
  have hb : Below U4.heap.size U4 ((U4.alloc (.cells #[.int .i64 k2, .string nm2, .int .i64 n2, sv2] 33)).alloc (.cells #[.int .i64 k, .string nm, .int .i64 n, sv, .int .i64 k2, .string nm2, .int .i64 n2, sv2] 33)) := ((Below.refl _ _).alloc (Nat.le_refl _) _).alloc (by simp) _
  have hnew := newBlk (U4.alloc (.cells #[.int .i64 k2, .string nm2, .int .i64 n2, sv2] 33)) (.cells #[.int .i64 k, .string nm, .int .i64 n, sv, .int .i64 k2, .string nm2, .int .i64 n2, sv2] 33) (n := U.heap.size + 1) (by simp [hz])
  obtain ⟨U6, hU6⟩ : ∃ U6, (U4.alloc (.cells #[.int .i64 k2, .string nm2, .int .i64 n2, sv2] 33)).alloc (.cells #[.int .i64 k, .string nm, .int .i64 n, sv, .int .i64 k2, .string nm2, .int .i64 n2, sv2] 33) = U6 := ⟨_, rfl⟩
  rw [hU6] at hb hnew ⊢
  have htv1 := (h1.grown (.inr (.inl rfl)) hg).ext (X' := X2 X W.heap.size) hb (fun _ hx => .inl hx)
  have htv2 := (h2.grown (.inr (.inl rfl)) hg).ext (X' := X2 X W.heap.size) hb (fun _ hx => .inl hx)
  have hlt1 : W.heap.size < U4.heap.size := (Array.getElem?_eq_some_iff.1 hbx).1
  refine ⟨?_, ⟨by decide, by decide, ⟨_, _, _, rfl⟩, fun t' ht' => ?_⟩, (hb.block _ hlt1).trans hbx, ?_, ?_⟩
  · rw [hy1]
    exact (hst.other (tb := W.heap.size) (.inr (.inl rfl)) (by omega) hg).next hb
  · rw [hy2] at ht'
    cases uo with
    | none => simp at ht'
    | some u =>
      obtain rfl : funT nx [t, u] = t' := by simpa using ht'
      obtain ⟨a1, a2, a3, a4⟩ := htv1.2.2.2 t rfl
      obtain ⟨e1, e2, e3, e4⟩ := htv2.2.2.2 u rfl
      subst a1 a2 a3 e1 e2 e3
      refine ⟨rfl, rfl, rfl, ?_⟩
      rw [funT, Tm.innP_mk]
      refine ⟨⟨by decide, hnx, by decide⟩, pair_slice hnew ⟨fun hx => ?_, (Array.getElem?_eq_some_iff.1 hnew).1⟩ a4 e4⟩
      have := hst.old _ hx
      omega
  · have hlt2 := (Array.getElem?_eq_some_iff.1 hres).1
    exact (hb.block _ (by omega)).trans ((hg.block _ hlt2 (fun e => by injection e; omega)).trans hres)
  · exact grown_trans (grown_trans hgr hg (fun b e => .inr (by injection e; omega))) (r' := some rb) ⟨hb.os, hb.tape, hb.output, hb.size, fun q hq _ => hb.block q hq⟩ (fun _ e => .inl e)
set_option maxRecDepth 100000 in
set_option maxHeartbeats 8000000 in
theorem rest_any (f : Nat) (IH : ∀ f', f' < f → TermC f') : RestC f := by
  intro X W rb s L lv y k nm n g m c now p deep hS hst htv hroom hnow hp hdeep
  obtain ⟨R, hR⟩ : ∃ R, restE (bs s) f now p deep y = R := ⟨_, rfl⟩
  rw [hR]
  have hlt := hst.lt
  have hX := hst.own
  have HIH := Lib.hid IH
  have HS := Lib.hid hS
  have HR := Lib.hid hR
  have HST := Lib.hid hst
  have HTV := Lib.hid htv
  have HRM := Lib.hid hroom
  clear IH hS hR hst htv hroom
  go_enter Tryz.func36, Tryz.ntmps36
  go_wp2_with fail
  go_loopg [2] f (fun gf s2 wx => ∃ (y : RRes Tm) (now : Nat) (k : Int) (nm : ByteArray) (n : Int) (g : Option Addr) (m c : Nat), s2 = .int .i64 (now : Nat) ∧ now ≤ 1200 ∧ gf ≤ f ∧ Hid (restE (bs s) gf now p deep y = R ∧ Room gf 3 (stOf y)) ∧ Hid (RestSt X W rb s L lv y k nm n (.slice g m c) wx))
  case atStart =>
    refine ⟨y, now, k, nm, n, g, m, c, rfl, hnow, Nat.le_refl _, Lib.hid ⟨HR.out, HRM.out⟩, Lib.hid ?_⟩
    have hb : Below W.heap.size W ((W.alloc (.cells #[.int .i64 k, .string nm, .int .i64 n, .slice g m c] 33)).alloc (.cells #[.int .i64 0, .string ⟨#[]⟩, .int .i64 0, .slice none 0 0] 33)) := ((Below.refl _ _).alloc (Nat.le_refl _) _).alloc (by simp) _
    refine ⟨HST.out.ext hb (fun b hx => ?_) (.inl HST.out.own), HTV.out.ext hb (fun b hx => ?_), ?_, newBlk _ _ _ (by simp), ⟨hb.os, hb.tape, hb.output, hb.size, fun q hq _ => hb.block q hq⟩⟩
    · rcases hx with h | rfl | rfl
      · exact .inl h
      · exact .inr ⟨Nat.le_refl _, by simp; omega⟩
      · exact .inr ⟨by omega, by simp⟩
    · rcases hx with h | rfl | rfl
      · exact .inl h
      · exact .inr (Nat.le_refl _)
      · exact .inr (by omega)
    · rw [Below.heap_alloc _ _ _ (by simp)]
      exact newBlk _ _ _ rfl
  case round =>
    obtain ⟨y, now, k, nm, n, g, m, c, rfl, hnow, hgf, hR, hst⟩ := hrel
    have HRR := Lib.hid hR.out
    have HST := Lib.hid hst.out
    clear hR hst HTV
    obtain ⟨⟨b0, b1, b2, b3⟩, bf0, bf1, bf2, bf3⟩ := row4 HST.out.box
    obtain ⟨⟨r0, r1, r2, r3⟩, rf0, rf1, rf2, rf3⟩ := row4 HST.out.res
    cases y with
    | error e =>
      obtain ⟨cd, pl⟩ := e
      have hRe : R = .error (cd, pl) := by rw [← HRR.out.1]; rfl
      obtain ⟨⟨s', lv', a', nv', hblk⟩, hcd⟩ := HST.out.st.is
      obtain ⟨⟨c0, c1, c2, c3, c4, c5⟩, f0, f1, f2, f3, f4, f5⟩ := row6 hblk
      have hcd2 : ((cd : Int) == 0) = false := by rw [beq_eq_false_iff_ne]; omega
      have HCD := Lib.hid hcd
      clear hblk hcd
      subst hRe
      go_wp2_with fail
      go_quiet (fail)
      obtain ⟨V, hV⟩ : ∃ V, wr.drewN nq = V := ⟨_, rfl⟩
      replace HST := Lib.hid (HST.out.dn nq)
      rw [hV] at HST
      rw [hV]
      clear hV b0 b1 b2 b3 bf0 bf1 bf2 bf3 r0 r1 r2 r3 rf0 rf1 rf2 rf3 c0 c1 c2 c3 c4 c5 f0 f1 f2 f3 f4 f5
      obtain ⟨⟨b0, b1, b2, b3⟩, bf0, bf1, bf2, bf3⟩ := row4 HST.out.box
      obtain ⟨⟨r0, r1, r2, r3⟩, rf0, rf1, rf2, rf3⟩ := row4 HST.out.res
      go_wp2_with fail
      have HF := Lib.hid (HST.out.fin hX hlt)
      have hz := set4_blk HST.out.res k nm n (.slice g m c)
      change bodyPost _ _ _ _ _ (set4 V (W.heap.size + 1) k nm n (.slice g m c))
      obtain ⟨V', hV'⟩ : ∃ V', set4 V (W.heap.size + 1) k nm n (.slice g m c) = V' := ⟨_, rfl⟩
      rw [hV'] at HF hz ⊢
      obtain ⟨⟨z0, z1, z2, z3⟩, zf0, zf1, zf2, zf3⟩ := row4 hz
      clear hV' hz b0 b1 b2 b3 bf0 bf1 bf2 bf3 r0 r1 r2 r3 rf0 rf1 rf2 rf3 zf0 zf1 zf2 zf3
      refine bodyPost_ret (v := .agg #[.int .i64 k, .string nm, .int .i64 n, .slice g m c]) (by simp [results, Tryz.results36, go_sem, z0, z1, z2, z3]) rfl ?_
      exact HF.out
    | ok y =>
      obtain ⟨t, ts, ns⟩ := y
      obtain ⟨a, ets, hrd⟩ := HST.out.st.is
      obtain rfl : ts = L.drop a := ets
      have hle := hrd.le
      have hgk : 4 * (L.drop a).length + 3 ≤ gk := (HRR.out.2 _ _ rfl).1
      obtain ⟨gk, rfl⟩ : ∃ q, gk = q + 1 := ⟨gk - 1, by omega⟩
      obtain ⟨tg, tcap, rfl, _⟩ := id hrd.toks
      by_cases ha : a < L.length
      · obtain ⟨b, off, cap', e1, hb, x0, x1, x2, x3, x4⟩ := toksP_at hrd.toks a ha
        injection e1 with e1 _ e3
        subst e1 e3
        obtain ⟨x, hx⟩ : ∃ x, L[a] = x := ⟨_, rfl⟩
        rw [hx] at x0 x1 x2 x3 x4
        have HDROP := Lib.hid (show L.drop a = x :: L.drop (a + 1) by rw [List.drop_eq_getElem_cons ha, hx])
        have HMEM := Lib.hid hx
        have hb2 : b < wr.heap.size := hb.2
        have HB := Lib.hid hb
        have hlen := HS.out.len
        have j0 : (0 : Int) ≤ (a : Int) := by omega
        have j1 : (a : Int) < (L.length : Int) := by omega
        have jw : IntKind.i64.wrap (a : Int) = (a : Int) := by rw [IntKind.wrap_i64]; omega
        obtain ⟨nv, pl, hblk, hns⟩ := hrd.cells
        obtain ⟨⟨c0, c1, c2, c3, c4, c5⟩, f0, f1, f2, f3, f4, f5⟩ := row6 hblk
        have HRD := Lib.hid hrd
        clear hblk hns hrd hle hgk hx hb
        go_wp2_with fail
        go_quiet (fail)
        obtain ⟨V, hV⟩ : ∃ V, wr.drewN nq = V := ⟨_, rfl⟩
        have hsame : ∀ p, V.cell? p = wr.cell? p := fun p => by rw [← hV]; rfl
        have hsz : V.heap.size = wr.heap.size := by rw [← hV]; rfl
        replace HST := Lib.hid (HST.out.dn nq)
        replace HRD := Lib.hid (HRD.out.dn nq)
        rw [hV] at HST HRD
        rw [hV]
        rw [← hsame] at x0 x1 x2 x3 x4 c0 c1 c2 c3 c4 c5
        rw [← hsz] at hb2
        clear hV hsame hsz b0 b1 b2 b3 bf0 bf1 bf2 bf3 r0 r1 r2 r3 rf0 rf1 rf2 rf3 f0 f1 f2 f3 f4 f5
        go_wp2_with fail
        have hrbV : rb < V.heap.size := HST.out.st.lt
        go_region
        obtain ⟨U, hU⟩ : ∃ U, (V.alloc (.cells #[.int .i64 (x.1.kind : Nat), .string ⟨x.1.text.toArray⟩, .int .i64 (x.1.n : Nat), .int .i64 (x.2 : Nat), .bool x.1.opn] 75)).drew = U := ⟨_, rfl⟩
        have hVU : Below V.heap.size V U := by rw [← hU]; exact ((Below.refl _ _).alloc (Nat.le_refl _) _).drew
        have hxb : U.heap[V.heap.size]? = some (.cells #[.int .i64 (x.1.kind : Nat), .string ⟨x.1.text.toArray⟩, .int .i64 (x.1.n : Nat), .int .i64 (x.2 : Nat), .bool x.1.opn] 75 (0, 0)) := by rw [← hU]; exact newBlk V _ _ rfl
        rw [hU]
        obtain ⟨xb, hxe⟩ : ∃ xb, V.heap.size = xb := ⟨_, rfl⟩
        have hxlo : W.heap.size + 2 ≤ xb := by
          have h0 := (Array.getElem?_eq_some_iff.1 HST.out.res).1
          omega
        replace HST := Lib.hid (HST.out.next hVU)
        replace HRD := Lib.hid (HRD.out.next hVU)
        rw [hxe] at hxb ⊢
        have hxlt : xb < U.heap.size := (Array.getElem?_eq_some_iff.1 hxb).1
        clear x0 x1 x2 x3 x4 c0 c1 c2 c3 c4 c5 hb2 hrbV hU hVU hxe HB
        obtain ⟨⟨x0, x1, x2, x3, x4⟩, -⟩ := row5t hxb
        clear hxb
        obtain ⟨Q, LE, RI, hi⟩ : ∃ Q LE RI, infixP x.1.text = (Q, LE, RI) := ⟨_, _, _, rfl⟩
        have HI := infix_any x.1.text U
        unfold InfPost at HI
        rw [hi] at HI
        replace HI := Lib.hid HI
        have HQ := Lib.hid hi
        clear hi
        by_cases k1 : x.1.kind = 1
        · have q1 : ((x.1.kind : Int) == 1) = true := by rw [beq_iff_eq]; omega
          have q2 : ((x.1.kind : Int) != 1) = false := by simp [bne, q1]
          have HK := Lib.hid (show x.1.kind = 1 ∨ (x.1.kind = 4 ∧ x.1.text = [44]) from .inl k1)
          clear k1
          by_cases hq0 : Q = 0
          · subst hq0
            go_wp2_with (go_at_call 67; (with_reducible refine (HI.out).mono ?_); rintro e U1 ⟨rfl, hb⟩; replace HST := Lib.hid (HST.out.next hb); obtain ⟨⟨b0, b1, b2, b3⟩, bf0, bf1, bf2, bf3⟩ := row4 HST.out.box; obtain ⟨⟨r0, r1, r2, r3⟩, rf0, rf1, rf2, rf3⟩ := row4 HST.out.res; clear hb)
            have hRe : R = .ok (t, L.drop a, ns) := by
              rw [← HRR.out.1, HDROP.out]
              refine rdRest_stop ?_
              rw [opT, decide_eq_false_iff_not, HQ.out]
              rintro ⟨_, h1, h2, h3⟩
              exact h1 rfl
            subst hRe
            have HF := Lib.hid (HST.out.fin hX hlt)
            have hz := set4_blk HST.out.res k nm n (.slice g m c)
            change bodyPost _ _ _ _ _ (set4 U1 (W.heap.size + 1) k nm n (.slice g m c))
            obtain ⟨V', hV'⟩ : ∃ V', set4 U1 (W.heap.size + 1) k nm n (.slice g m c) = V' := ⟨_, rfl⟩
            rw [hV'] at HF hz ⊢
            obtain ⟨⟨z0, z1, z2, z3⟩, zf0, zf1, zf2, zf3⟩ := row4 hz
            clear hV' hz b0 b1 b2 b3 bf0 bf1 bf2 bf3 r0 r1 r2 r3 rf0 rf1 rf2 rf3 zf0 zf1 zf2 zf3
            refine bodyPost_ret (v := .agg #[.int .i64 k, .string nm, .int .i64 n, .slice g m c]) (by simp [results, Tryz.results36, go_sem, z0, z1, z2, z3]) rfl ?_
            exact HF.out
          · have hq0' : ((Q : Int) == 0) = false := by rw [beq_eq_false_iff_ne]; omega
            by_cases hpq : p < Q
            · go_wp2_with (go_at_call 67; (with_reducible refine (HI.out).mono ?_); rintro e U1 ⟨rfl, hb⟩; replace HST := Lib.hid (HST.out.next hb); obtain ⟨⟨b0, b1, b2, b3⟩, bf0, bf1, bf2, bf3⟩ := row4 HST.out.box; obtain ⟨⟨r0, r1, r2, r3⟩, rf0, rf1, rf2, rf3⟩ := row4 HST.out.res; clear hb)
              have hRe : R = .ok (t, L.drop a, ns) := by
                rw [← HRR.out.1, HDROP.out]
                refine rdRest_stop ?_
                rw [opT, decide_eq_false_iff_not, HQ.out]
                rintro ⟨_, h1, h2, h3⟩
                exact absurd (show Q ≤ p from h2) (by omega)
              subst hRe
              have HF := Lib.hid (HST.out.fin hX hlt)
              have hz := set4_blk HST.out.res k nm n (.slice g m c)
              change bodyPost _ _ _ _ _ (set4 U1 (W.heap.size + 1) k nm n (.slice g m c))
              obtain ⟨V', hV'⟩ : ∃ V', set4 U1 (W.heap.size + 1) k nm n (.slice g m c) = V' := ⟨_, rfl⟩
              rw [hV'] at HF hz ⊢
              obtain ⟨⟨z0, z1, z2, z3⟩, zf0, zf1, zf2, zf3⟩ := row4 hz
              clear hV' hz b0 b1 b2 b3 bf0 bf1 bf2 bf3 r0 r1 r2 r3 rf0 rf1 rf2 rf3 zf0 zf1 zf2 zf3
              refine bodyPost_ret (v := .agg #[.int .i64 k, .string nm, .int .i64 n, .slice g m c]) (by simp [results, Tryz.results36, go_sem, z0, z1, z2, z3]) rfl ?_
              exact HF.out
            · by_cases hnl : LE < now
              · go_wp2_with (go_at_call 67; (with_reducible refine (HI.out).mono ?_); rintro e U1 ⟨rfl, hb⟩; replace HST := Lib.hid (HST.out.next hb); obtain ⟨⟨b0, b1, b2, b3⟩, bf0, bf1, bf2, bf3⟩ := row4 HST.out.box; obtain ⟨⟨r0, r1, r2, r3⟩, rf0, rf1, rf2, rf3⟩ := row4 HST.out.res; clear hb)
                have hRe : R = .ok (t, L.drop a, ns) := by
                  rw [← HRR.out.1, HDROP.out]
                  refine rdRest_stop ?_
                  rw [opT, decide_eq_false_iff_not, HQ.out]
                  rintro ⟨_, h1, h2, h3⟩
                  exact absurd (show now ≤ LE from h3) (by omega)
                subst hRe
                have HF := Lib.hid (HST.out.fin hX hlt)
                have hz := set4_blk HST.out.res k nm n (.slice g m c)
                change bodyPost _ _ _ _ _ (set4 U1 (W.heap.size + 1) k nm n (.slice g m c))
                obtain ⟨V', hV'⟩ : ∃ V', set4 U1 (W.heap.size + 1) k nm n (.slice g m c) = V' := ⟨_, rfl⟩
                rw [hV'] at HF hz ⊢
                obtain ⟨⟨z0, z1, z2, z3⟩, zf0, zf1, zf2, zf3⟩ := row4 hz
                clear hV' hz b0 b1 b2 b3 bf0 bf1 bf2 bf3 r0 r1 r2 r3 rf0 rf1 rf2 rf3 zf0 zf1 zf2 zf3
                refine bodyPost_ret (v := .agg #[.int .i64 k, .string nm, .int .i64 n, .slice g m c]) (by simp [results, Tryz.results36, go_sem, z0, z1, z2, z3]) rfl ?_
                exact HF.out
              · have HOP := Lib.hid (show opT now p (x :: L.drop (a + 1)) = true by
                  rw [opT, decide_eq_true_eq, HQ.out]
                  exact ⟨HK.out, hq0, by show Q ≤ p; omega, by show now ≤ LE; omega⟩)
                have hq9 := infixP_le x.1.text
                rw [HQ.out] at hq9
                obtain ⟨hq1, hq2, hq3⟩ := hq9
                dsimp only at hq1 hq2 hq3
                have jw1 : IntKind.i64.wrap ((a : Int) + 1) = (a : Int) + 1 := by rw [IntKind.wrap_i64]; omega
                go_wp2_with (go_at_call 67; (with_reducible refine (HI.out).mono ?_); rintro e U1 ⟨rfl, hb⟩; replace HST := Lib.hid (HST.out.next hb); replace HRD := Lib.hid (HRD.out.next hb); replace x1 := (hb.cell (p := ⟨xb, 1, none⟩) hxlt).trans x1; replace hxlt := Nat.lt_of_lt_of_le hxlt hb.size; obtain ⟨nv, pl, hblk, hns⟩ := HRD.out.cells; obtain ⟨⟨c0, c1, c2, c3, c4, c5⟩, f0, f1, f2, f3, f4, f5⟩ := row6 hblk; clear hb hblk hns)
                have hroom := HRR.out.2 _ _ rfl
                rw [HDROP.out, List.length_cons] at hroom
                have HT := HIH.out gk (by omega) (X2 X W.heap.size) (U1.setCell ⟨rb, 2, none⟩ (.int .i64 ((a : Int) + 1))) rb s L _ (.ok (L.drop (a + 1), ns)) RI deep HS.out (St.of (HRD.out.step (a' := a + 1) (by omega))) (fun ts' ns' e => by
                  injection e with e
                  injection e with e1 e2
                  subst e1 e2
                  exact ⟨by omega, by omega⟩) hq3 hdeep
                have HROOM := Lib.hid hroom
                clear hroom
                with_reducible refine HT.mono ?_
                rintro e U3 ⟨k2, nm2, n2, g2, m2, c2', rfl, hg, hst2, htv2⟩
                obtain ⟨htv1, hbox, hres, hgr⟩ := HST.out.after hlt (grown_trans (grown_set U1 rb 2 _) hg (fun _ e => .inl e))
                replace x1 := (grown_trans (grown_set U1 rb 2 (.int .i64 ((a : Int) + 1))) hg (fun _ e => .inl e)).cell x1 (by intro e; simp at e; omega)
                replace hxlt : xb < U3.heap.size := Nat.lt_of_lt_of_le hxlt (grown_trans (grown_set U1 rb 2 (.int .i64 ((a : Int) + 1))) hg (fun _ e => .inl e)).size
                have hWlt : W.heap.size < U3.heap.size := (Array.getElem?_eq_some_iff.1 hbox).1
                have HST2 := Lib.hid hst2
                have HTV2 := Lib.hid htv2
                have HTV1 := Lib.hid htv1
                have HBOX := Lib.hid hbox
                have HRES := Lib.hid hres
                have HGR := Lib.hid hgr
                clear c0 c1 c2 c3 c4 c5 f0 f1 f2 f3 f4 f5 HT
                obtain ⟨⟨b0, b1, b2, b3⟩, bf0, bf1, bf2, bf3⟩ := row4 hbox
                clear hst2 htv2 htv1 hbox hres hgr hg HST HRD jw jw1 j0 j1
                go_wp2_with fail
                go_roundg gk
                case rel =>
                  refine ⟨madeE x t (rdTerm (bs s) gk RI deep (L.drop (a + 1)) ns), Q, 3, nmT x, 0, some ⟨U3.heap.size + 1, 0, none⟩, 2, 2, rfl, hq1, by omega, Lib.hid ⟨?_, ?_⟩, Lib.hid ?_⟩
                  · rw [← HRR.out.1, HDROP.out]
                    refine Eq.trans ?_ (rdRest_go HOP.out).symm
                    rw [HQ.out]
                    rfl
                  · have h0 := HROOM.out
                    intro ts' ns' e
                    obtain ⟨u, hu⟩ := madeE_ok e
                    have h1 := (rd_went (bs s) gk).2.1 _ _ _ _ _ _ _ hu
                    have h2 := h1.len
                    have h3 := h1.nms
                    exact ⟨by omega, by omega⟩
                  · exact RestSt.made hlt HST2.out HTV1.out HTV2.out HBOX.out HRES.out HGR.out (by
                      have h0 := (HS.out.tok x (by rw [← HMEM.out]; exact List.getElem_mem _)).1
                      show x.1.text.toArray.size ≤ maxLen
                      simp only [maxLen, List.size_toArray]
                      omega) (madeE_st _ _ _) (madeE_val _ _ _)
                case measure => exact Nat.lt_succ_self _
        · have q1 : ((x.1.kind : Int) == 1) = false := by rw [beq_eq_false_iff_ne]; omega
          have q2 : ((x.1.kind : Int) != 1) = true := by simp [bne, q1]
          by_cases k4 : x.1.kind = 4
          · have q3 : ((x.1.kind : Int) == 4) = true := by rw [beq_iff_eq]; omega
            have q4 : ((x.1.kind : Int) != 4) = false := by simp [bne, q3]
            have hs1 : (⟨x.1.text.toArray⟩ : ByteArray).toList = x.1.text := by rw [bs_toList]; simp [bs]
            have hs2 : (⟨#[44]⟩ : ByteArray).toList = [44] := by rw [bs_toList]; rfl
            by_cases htx : x.1.text = [44]
            · have q5 : ((⟨x.1.text.toArray⟩ : ByteArray).toList == (⟨#[44]⟩ : ByteArray).toList) = true := by rw [hs1, hs2, htx]; rfl
              have q6 : (x.1.text == [44]) = true := by rw [htx]; rfl
              have HK := Lib.hid (show x.1.kind = 1 ∨ (x.1.kind = 4 ∧ x.1.text = [44]) from .inr ⟨k4, htx⟩)
              clear k1 k4 htx hs1 hs2 q5
              by_cases hq0 : Q = 0
              · subst hq0
                go_wp2_with (go_at_call 67; (with_reducible refine (HI.out).mono ?_); rintro e U1 ⟨rfl, hb⟩; replace HST := Lib.hid (HST.out.next hb); obtain ⟨⟨b0, b1, b2, b3⟩, bf0, bf1, bf2, bf3⟩ := row4 HST.out.box; obtain ⟨⟨r0, r1, r2, r3⟩, rf0, rf1, rf2, rf3⟩ := row4 HST.out.res; clear hb)
                have hRe : R = .ok (t, L.drop a, ns) := by
                  rw [← HRR.out.1, HDROP.out]
                  refine rdRest_stop ?_
                  rw [opT, decide_eq_false_iff_not, HQ.out]
                  rintro ⟨_, h1, h2, h3⟩
                  exact h1 rfl
                subst hRe
                have HF := Lib.hid (HST.out.fin hX hlt)
                have hz := set4_blk HST.out.res k nm n (.slice g m c)
                change bodyPost _ _ _ _ _ (set4 U1 (W.heap.size + 1) k nm n (.slice g m c))
                obtain ⟨V', hV'⟩ : ∃ V', set4 U1 (W.heap.size + 1) k nm n (.slice g m c) = V' := ⟨_, rfl⟩
                rw [hV'] at HF hz ⊢
                obtain ⟨⟨z0, z1, z2, z3⟩, zf0, zf1, zf2, zf3⟩ := row4 hz
                clear hV' hz b0 b1 b2 b3 bf0 bf1 bf2 bf3 r0 r1 r2 r3 rf0 rf1 rf2 rf3 zf0 zf1 zf2 zf3
                refine bodyPost_ret (v := .agg #[.int .i64 k, .string nm, .int .i64 n, .slice g m c]) (by simp [results, Tryz.results36, go_sem, z0, z1, z2, z3]) rfl ?_
                exact HF.out
              · have hq0' : ((Q : Int) == 0) = false := by rw [beq_eq_false_iff_ne]; omega
                by_cases hpq : p < Q
                · go_wp2_with (go_at_call 67; (with_reducible refine (HI.out).mono ?_); rintro e U1 ⟨rfl, hb⟩; replace HST := Lib.hid (HST.out.next hb); obtain ⟨⟨b0, b1, b2, b3⟩, bf0, bf1, bf2, bf3⟩ := row4 HST.out.box; obtain ⟨⟨r0, r1, r2, r3⟩, rf0, rf1, rf2, rf3⟩ := row4 HST.out.res; clear hb)
                  have hRe : R = .ok (t, L.drop a, ns) := by
                    rw [← HRR.out.1, HDROP.out]
                    refine rdRest_stop ?_
                    rw [opT, decide_eq_false_iff_not, HQ.out]
                    rintro ⟨_, h1, h2, h3⟩
                    exact absurd (show Q ≤ p from h2) (by omega)
                  subst hRe
                  have HF := Lib.hid (HST.out.fin hX hlt)
                  have hz := set4_blk HST.out.res k nm n (.slice g m c)
                  change bodyPost _ _ _ _ _ (set4 U1 (W.heap.size + 1) k nm n (.slice g m c))
                  obtain ⟨V', hV'⟩ : ∃ V', set4 U1 (W.heap.size + 1) k nm n (.slice g m c) = V' := ⟨_, rfl⟩
                  rw [hV'] at HF hz ⊢
                  obtain ⟨⟨z0, z1, z2, z3⟩, zf0, zf1, zf2, zf3⟩ := row4 hz
                  clear hV' hz b0 b1 b2 b3 bf0 bf1 bf2 bf3 r0 r1 r2 r3 rf0 rf1 rf2 rf3 zf0 zf1 zf2 zf3
                  refine bodyPost_ret (v := .agg #[.int .i64 k, .string nm, .int .i64 n, .slice g m c]) (by simp [results, Tryz.results36, go_sem, z0, z1, z2, z3]) rfl ?_
                  exact HF.out
                · by_cases hnl : LE < now
                  · go_wp2_with (go_at_call 67; (with_reducible refine (HI.out).mono ?_); rintro e U1 ⟨rfl, hb⟩; replace HST := Lib.hid (HST.out.next hb); obtain ⟨⟨b0, b1, b2, b3⟩, bf0, bf1, bf2, bf3⟩ := row4 HST.out.box; obtain ⟨⟨r0, r1, r2, r3⟩, rf0, rf1, rf2, rf3⟩ := row4 HST.out.res; clear hb)
                    have hRe : R = .ok (t, L.drop a, ns) := by
                      rw [← HRR.out.1, HDROP.out]
                      refine rdRest_stop ?_
                      rw [opT, decide_eq_false_iff_not, HQ.out]
                      rintro ⟨_, h1, h2, h3⟩
                      exact absurd (show now ≤ LE from h3) (by omega)
                    subst hRe
                    have HF := Lib.hid (HST.out.fin hX hlt)
                    have hz := set4_blk HST.out.res k nm n (.slice g m c)
                    change bodyPost _ _ _ _ _ (set4 U1 (W.heap.size + 1) k nm n (.slice g m c))
                    obtain ⟨V', hV'⟩ : ∃ V', set4 U1 (W.heap.size + 1) k nm n (.slice g m c) = V' := ⟨_, rfl⟩
                    rw [hV'] at HF hz ⊢
                    obtain ⟨⟨z0, z1, z2, z3⟩, zf0, zf1, zf2, zf3⟩ := row4 hz
                    clear hV' hz b0 b1 b2 b3 bf0 bf1 bf2 bf3 r0 r1 r2 r3 rf0 rf1 rf2 rf3 zf0 zf1 zf2 zf3
                    refine bodyPost_ret (v := .agg #[.int .i64 k, .string nm, .int .i64 n, .slice g m c]) (by simp [results, Tryz.results36, go_sem, z0, z1, z2, z3]) rfl ?_
                    exact HF.out
                  · have HOP := Lib.hid (show opT now p (x :: L.drop (a + 1)) = true by
                      rw [opT, decide_eq_true_eq, HQ.out]
                      exact ⟨HK.out, hq0, by show Q ≤ p; omega, by show now ≤ LE; omega⟩)
                    have hq9 := infixP_le x.1.text
                    rw [HQ.out] at hq9
                    obtain ⟨hq1, hq2, hq3⟩ := hq9
                    dsimp only at hq1 hq2 hq3
                    have jw1 : IntKind.i64.wrap ((a : Int) + 1) = (a : Int) + 1 := by rw [IntKind.wrap_i64]; omega
                    go_wp2_with (go_at_call 67; (with_reducible refine (HI.out).mono ?_); rintro e U1 ⟨rfl, hb⟩; replace HST := Lib.hid (HST.out.next hb); replace HRD := Lib.hid (HRD.out.next hb); replace x1 := (hb.cell (p := ⟨xb, 1, none⟩) hxlt).trans x1; replace hxlt := Nat.lt_of_lt_of_le hxlt hb.size; obtain ⟨nv, pl, hblk, hns⟩ := HRD.out.cells; obtain ⟨⟨c0, c1, c2, c3, c4, c5⟩, f0, f1, f2, f3, f4, f5⟩ := row6 hblk; clear hb hblk hns)
                    have hroom := HRR.out.2 _ _ rfl
                    rw [HDROP.out, List.length_cons] at hroom
                    have HT := HIH.out gk (by omega) (X2 X W.heap.size) (U1.setCell ⟨rb, 2, none⟩ (.int .i64 ((a : Int) + 1))) rb s L _ (.ok (L.drop (a + 1), ns)) RI deep HS.out (St.of (HRD.out.step (a' := a + 1) (by omega))) (fun ts' ns' e => by
                      injection e with e
                      injection e with e1 e2
                      subst e1 e2
                      exact ⟨by omega, by omega⟩) hq3 hdeep
                    have HROOM := Lib.hid hroom
                    clear hroom
                    with_reducible refine HT.mono ?_
                    rintro e U3 ⟨k2, nm2, n2, g2, m2, c2', rfl, hg, hst2, htv2⟩
                    obtain ⟨htv1, hbox, hres, hgr⟩ := HST.out.after hlt (grown_trans (grown_set U1 rb 2 _) hg (fun _ e => .inl e))
                    replace x1 := (grown_trans (grown_set U1 rb 2 (.int .i64 ((a : Int) + 1))) hg (fun _ e => .inl e)).cell x1 (by intro e; simp at e; omega)
                    replace hxlt : xb < U3.heap.size := Nat.lt_of_lt_of_le hxlt (grown_trans (grown_set U1 rb 2 (.int .i64 ((a : Int) + 1))) hg (fun _ e => .inl e)).size
                    have hWlt : W.heap.size < U3.heap.size := (Array.getElem?_eq_some_iff.1 hbox).1
                    have HST2 := Lib.hid hst2
                    have HTV2 := Lib.hid htv2
                    have HTV1 := Lib.hid htv1
                    have HBOX := Lib.hid hbox
                    have HRES := Lib.hid hres
                    have HGR := Lib.hid hgr
                    clear c0 c1 c2 c3 c4 c5 f0 f1 f2 f3 f4 f5 HT
                    obtain ⟨⟨b0, b1, b2, b3⟩, bf0, bf1, bf2, bf3⟩ := row4 hbox
                    clear hst2 htv2 htv1 hbox hres hgr hg HST HRD jw jw1 j0 j1
                    go_wp2_with fail
                    go_roundg gk
                    case rel =>
                      refine ⟨madeE x t (rdTerm (bs s) gk RI deep (L.drop (a + 1)) ns), Q, 3, nmT x, 0, some ⟨U3.heap.size + 1, 0, none⟩, 2, 2, rfl, hq1, by omega, Lib.hid ⟨?_, ?_⟩, Lib.hid ?_⟩
                      · rw [← HRR.out.1, HDROP.out]
                        refine Eq.trans ?_ (rdRest_go HOP.out).symm
                        rw [HQ.out]
                        rfl
                      · have h0 := HROOM.out
                        intro ts' ns' e
                        obtain ⟨u, hu⟩ := madeE_ok e
                        have h1 := (rd_went (bs s) gk).2.1 _ _ _ _ _ _ _ hu
                        have h2 := h1.len
                        have h3 := h1.nms
                        exact ⟨by omega, by omega⟩
                      · exact RestSt.made hlt HST2.out HTV1.out HTV2.out HBOX.out HRES.out HGR.out (by
                          have h0 := (HS.out.tok x (by rw [← HMEM.out]; exact List.getElem_mem _)).1
                          show x.1.text.toArray.size ≤ maxLen
                          simp only [maxLen, List.size_toArray]
                          omega) (madeE_st _ _ _) (madeE_val _ _ _)
                    case measure => exact Nat.lt_succ_self _
            · have q5 : ((⟨x.1.text.toArray⟩ : ByteArray).toList == (⟨#[44]⟩ : ByteArray).toList) = false := by rw [hs1, hs2, beq_eq_false_iff_ne]; exact htx
              have q6 : (x.1.text == [44]) = false := by rw [beq_eq_false_iff_ne]; exact htx
              have hRe : R = .ok (t, L.drop a, ns) := by
                rw [← HRR.out.1, HDROP.out]
                refine rdRest_stop ?_
                rw [opT, decide_eq_false_iff_not]
                rintro ⟨h1 | h1, _⟩
                · exact k1 h1
                · exact htx h1.2
              clear k1 k4 htx hs1 hs2 q5
              subst hRe
              obtain ⟨⟨b0, b1, b2, b3⟩, bf0, bf1, bf2, bf3⟩ := row4 HST.out.box
              obtain ⟨⟨r0, r1, r2, r3⟩, rf0, rf1, rf2, rf3⟩ := row4 HST.out.res
              go_wp2_with fail
              have HF := Lib.hid (HST.out.fin hX hlt)
              have hz := set4_blk HST.out.res k nm n (.slice g m c)
              change bodyPost _ _ _ _ _ (set4 U (W.heap.size + 1) k nm n (.slice g m c))
              obtain ⟨V', hV'⟩ : ∃ V', set4 U (W.heap.size + 1) k nm n (.slice g m c) = V' := ⟨_, rfl⟩
              rw [hV'] at HF hz ⊢
              obtain ⟨⟨z0, z1, z2, z3⟩, zf0, zf1, zf2, zf3⟩ := row4 hz
              clear hV' hz b0 b1 b2 b3 bf0 bf1 bf2 bf3 r0 r1 r2 r3 rf0 rf1 rf2 rf3 zf0 zf1 zf2 zf3
              refine bodyPost_ret (v := .agg #[.int .i64 k, .string nm, .int .i64 n, .slice g m c]) (by simp [results, Tryz.results36, go_sem, z0, z1, z2, z3]) rfl ?_
              exact HF.out
          · have q3 : ((x.1.kind : Int) == 4) = false := by rw [beq_eq_false_iff_ne]; omega
            have q4 : ((x.1.kind : Int) != 4) = true := by simp [bne, q3]
            have hRe : R = .ok (t, L.drop a, ns) := by
              rw [← HRR.out.1, HDROP.out]
              refine rdRest_stop ?_
              rw [opT, decide_eq_false_iff_not]
              rintro ⟨h1 | h1, _⟩
              · exact k1 h1
              · exact k4 h1.1
            clear k1 k4
            subst hRe
            obtain ⟨⟨b0, b1, b2, b3⟩, bf0, bf1, bf2, bf3⟩ := row4 HST.out.box
            obtain ⟨⟨r0, r1, r2, r3⟩, rf0, rf1, rf2, rf3⟩ := row4 HST.out.res
            go_wp2_with fail
            have HF := Lib.hid (HST.out.fin hX hlt)
            have hz := set4_blk HST.out.res k nm n (.slice g m c)
            change bodyPost _ _ _ _ _ (set4 U (W.heap.size + 1) k nm n (.slice g m c))
            obtain ⟨V', hV'⟩ : ∃ V', set4 U (W.heap.size + 1) k nm n (.slice g m c) = V' := ⟨_, rfl⟩
            rw [hV'] at HF hz ⊢
            obtain ⟨⟨z0, z1, z2, z3⟩, zf0, zf1, zf2, zf3⟩ := row4 hz
            clear hV' hz b0 b1 b2 b3 bf0 bf1 bf2 bf3 r0 r1 r2 r3 rf0 rf1 rf2 rf3 zf0 zf1 zf2 zf3
            refine bodyPost_ret (v := .agg #[.int .i64 k, .string nm, .int .i64 n, .slice g m c]) (by simp [results, Tryz.results36, go_sem, z0, z1, z2, z3]) rfl ?_
            exact HF.out
      · obtain rfl : a = L.length := by omega
        have hRe : R = .ok (t, L.drop L.length, ns) := by
          rw [← HRR.out.1]
          have h0 : L.drop L.length = [] := List.drop_eq_nil_of_le (Nat.le_refl _)
          rw [h0]
          exact rdRest_nil _ _ _ _ _ _ _
        obtain ⟨nv, pl, hblk, hns⟩ := hrd.cells
        obtain ⟨⟨c0, c1, c2, c3, c4, c5⟩, f0, f1, f2, f3, f4, f5⟩ := row6 hblk
        clear hblk hns hrd hle hgk ha
        subst hRe
        go_wp2_with fail
        go_quiet (fail)
        obtain ⟨V, hV⟩ : ∃ V, wr.drewN nq = V := ⟨_, rfl⟩
        replace HST := Lib.hid (HST.out.dn nq)
        rw [hV] at HST
        rw [hV]
        clear hV b0 b1 b2 b3 bf0 bf1 bf2 bf3 r0 r1 r2 r3 rf0 rf1 rf2 rf3 c0 c1 c2 c3 c4 c5 f0 f1 f2 f3 f4 f5
        obtain ⟨⟨b0, b1, b2, b3⟩, bf0, bf1, bf2, bf3⟩ := row4 HST.out.box
        obtain ⟨⟨r0, r1, r2, r3⟩, rf0, rf1, rf2, rf3⟩ := row4 HST.out.res
        go_wp2_with fail
        have HF := Lib.hid (HST.out.fin hX hlt)
        have hz := set4_blk HST.out.res k nm n (.slice g m c)
        change bodyPost _ _ _ _ _ (set4 V (W.heap.size + 1) k nm n (.slice g m c))
        obtain ⟨V', hV'⟩ : ∃ V', set4 V (W.heap.size + 1) k nm n (.slice g m c) = V' := ⟨_, rfl⟩
        rw [hV'] at HF hz ⊢
        obtain ⟨⟨z0, z1, z2, z3⟩, zf0, zf1, zf2, zf3⟩ := row4 hz
        clear hV' hz b0 b1 b2 b3 bf0 bf1 bf2 bf3 r0 r1 r2 r3 rf0 rf1 rf2 rf3 zf0 zf1 zf2 zf3
        refine bodyPost_ret (v := .agg #[.int .i64 k, .string nm, .int .i64 n, .slice g m c]) (by simp [results, Tryz.results36, go_sem, z0, z1, z2, z3]) rfl ?_
        exact HF.out
end Go.Proofs.YtilfglcjcmpfeaaGreatDoor

namespace Go.Proofs.YtilfglcjcmpfeaaGreatDoor
open Go.RowKit

set_option maxRecDepth 100000 in
set_option maxHeartbeats 4000000 in
theorem term_bad (X : Nat → Prop) (W : World) (rb : Nat) (s : ByteArray) (L : Toks) (lv : Value) (e : Nat × Nat) (p deep : Nat) (hst : St X W rb s L lv (.error e)) :
    Calls Tryz.prog 20 #[.pointer (some ⟨rb, 0, none⟩), .int .i64 (p : Nat), .int .i64 (deep : Nat)] W fun e' W' => TermPost X W rb s L lv (.error e) e' W' := by
  obtain ⟨cd, pl⟩ := e
  have hlt := hst.lt
  obtain ⟨⟨s', lv', a', nv', hblk⟩, hcd⟩ := hst.is
  obtain ⟨⟨c0, c1, c2, c3, c4, c5⟩, f0, f1, f2, f3, f4, f5⟩ := row6 hblk
  have hcd2 : ((cd : Int) == 0) = false := by rw [beq_eq_false_iff_ne]; omega
  have hcd3 : ((cd : Int) != 0) = true := by simp [bne, hcd2]
  have HST := Lib.hid hst
  clear hblk hcd hst
  go_enter Tryz.func20, Tryz.ntmps20
  go_wp2_with fail
  have hb : Below W.heap.size W ((W.alloc (.cells #[.int .i64 0, .string ⟨#[]⟩, .int .i64 0, .slice none 0 0] 33)).alloc (.cells #[.int .i64 0, .string ⟨#[]⟩, .int .i64 0, .slice none 0 0] 33)) := ((Below.refl _ _).alloc (Nat.le_refl _) _).alloc (by simp) _
  have hz : ((W.alloc (.cells #[.int .i64 0, .string ⟨#[]⟩, .int .i64 0, .slice none 0 0] 33)).alloc (.cells #[.int .i64 0, .string ⟨#[]⟩, .int .i64 0, .slice none 0 0] 33)).heap[W.heap.size]? = some (.cells #[.int .i64 0, .string ⟨#[]⟩, .int .i64 0, .slice none 0 0] 33 (0, 0)) := by
    rw [Below.heap_alloc _ _ _ (by simp)]
    exact newBlk _ _ _ rfl
  obtain ⟨V, hV⟩ : ∃ V, (W.alloc (.cells #[.int .i64 0, .string ⟨#[]⟩, .int .i64 0, .slice none 0 0] 33)).alloc (.cells #[.int .i64 0, .string ⟨#[]⟩, .int .i64 0, .slice none 0 0] 33) = V := ⟨_, rfl⟩
  rw [hV] at hb hz ⊢
  obtain ⟨⟨z0, z1, z2, z3⟩, zf0, zf1, zf2, zf3⟩ := row4 hz
  clear hV hz zf0 zf1 zf2 zf3
  refine bodyPost_ret (v := .agg #[.int .i64 0, .string ⟨#[]⟩, .int .i64 0, .slice none 0 0]) (by simp [results, Tryz.results20, go_sem, z0, z1, z2, z3]) rfl ?_
  exact ⟨0, ⟨#[]⟩, 0, none, 0, 0, rfl, ⟨hb.os, hb.tape, hb.output, hb.size, fun q hq _ => hb.block q hq⟩, HST.out.next hb, by decide, by decide, ⟨_, _, _, rfl⟩, fun t ht => by cases ht⟩
/-- Term, where there is fuel or something is amiss. -/
theorem term_at {f : Nat} (IH : ∀ f', f' < f → TermC f') (X : Nat → Prop) (W : World) (rb : Nat) (s : ByteArray) (L : Toks) (lv : Value) (x : RSt) (p deep : Nat) (hS : Small s L) (hst : St X W rb s L lv x) (hroom : Room f 4 x) (hp : p ≤ 1200) (hdeep : deep ≤ 1000) :
    Calls Tryz.prog 20 #[.pointer (some ⟨rb, 0, none⟩), .int .i64 (p : Nat), .int .i64 (deep : Nat)] W fun e W' => TermPost X W rb s L lv (termE (bs s) (f - 1) p deep x) e W' := by
  cases x with
  | error e => exact term_bad X W rb s L lv e p deep hst
  | ok x =>
    obtain ⟨ts, ns⟩ := x
    have h0 := (hroom ts ns rfl).1
    exact IH (f - 1) (by omega) X W rb s L lv _ p deep hS hst (fun ts' ns' e => by
      have h1 := hroom ts' ns' e
      exact ⟨by omega, h1.2⟩) hp hdeep
theorem Tryz.infoTmR : (Tryz.prog.info? 33).map (fun i => (i.zero, i.size, i.bytes)) = some (some (.agg #[.int .i64 0, .string ⟨#[]⟩, .int .i64 0, .slice none 0 0]), 4, 56) := by kernel_rfl
/-- Out of the row's block too. -/
def XV (X : Nat → Prop) (v : Value) (b : Nat) : Prop := X b ∨ v.ownBlock = some b
def rowF (S : List UInt8) (f deep : Nat) : RRes (List Tm) → RRes (List Tm)
  | .error e => .error e
  | .ok (l, ts, ns) => if seeT 44 ts = true then (match rdRow S f deep ts.tail ns with | .error e => .error e | .ok (l', r, n) => .ok (l ++ l', r, n)) else .ok (l, ts, ns)
def addE (l : List Tm) : RRes Tm → RRes (List Tm)
  | .error e => .error e
  | .ok (t, ts, ns) => .ok (l ++ [t], ts, ns)
theorem addE_st (l : List Tm) (r : RRes Tm) : stOf (addE l r) = stOf r := by cases r <;> rfl
theorem addE_val (l : List Tm) (r : RRes Tm) : valOf (addE l r) = (valOf r).map fun t => l ++ [t] := by cases r <;> rfl
theorem rdRow_eq (S : List UInt8) (f deep : Nat) (ts : Toks) (ns : Names) : rdRow S (f + 1) deep ts ns = rowF S f deep (addE [] (rdTerm S f 999 (deep + 1) ts ns)) := by
  rw [rdRow]
  cases rdTerm S f 999 (deep + 1) ts ns with
  | error e => rfl
  | ok r =>
    obtain ⟨t, r, ns1⟩ := r
    simp only [addE, rowF, List.nil_append]
    by_cases h : seeT 44 r = true
    · rw [if_pos h, if_pos h]
      cases rdRow S f deep r.tail ns1 <;> rfl
    · rw [if_neg h, if_neg h]
theorem rowF_step {S : List UInt8} {f deep : Nat} {l : List Tm} {ts : Toks} {ns : Names} (h : seeT 44 ts = true) : rowF S (f + 1) deep (.ok (l, ts, ns)) = rowF S f deep (addE l (rdTerm S f 999 (deep + 1) ts.tail ns)) := by
  simp only [rowF, if_pos h]
  rw [rdRow_eq]
  cases rdTerm S f 999 (deep + 1) ts.tail ns with
  | error e => rfl
  | ok r =>
    obtain ⟨t, r, ns1⟩ := r
    simp only [addE, rowF, List.nil_append]
    by_cases h : seeT 44 r = true
    · rw [if_pos h, if_pos h]
      cases rdRow S f deep r.tail ns1 with
      | error e => rfl
      | ok r => simp
    · rw [if_neg h, if_neg h]
theorem rowF_stop {S : List UInt8} {f deep : Nat} {y : RRes (List Tm)} (h : seeE 44 (stOf y) = false) : rowF S f deep y = y := by
  cases y with
  | error e => rfl
  | ok y =>
    obtain ⟨l, ts, ns⟩ := y
    have h1 : ¬ seeT 44 ts = true := by rw [show seeT 44 ts = seeE 44 (stOf (.ok (l, ts, ns))) from rfl, h]; simp
    simp only [rowF, if_neg h1]
theorem rowE_eq {S : List UInt8} {f deep : Nat} {x : RSt} (hroom : Room f 4 x) : rowE S f deep x = rowF S (f - 1) deep (addE [] (termE S (f - 1) 999 (deep + 1) x)) := by
  cases x with
  | error e => rfl
  | ok x =>
    obtain ⟨ts, ns⟩ := x
    have h0 := (hroom ts ns rfl).1
    obtain ⟨g, rfl⟩ : ∃ g, f = g + 1 := ⟨f - 1, by omega⟩
    exact rdRow_eq S g deep ts ns
/-- A term's values, whatever they are. -/
structure Raw where
  k : Int
  nm : ByteArray
  n : Int
  g : Option Addr
  m : Nat
  c : Nat
def Raw.vs (r : Raw) : List Value := [.int .i64 r.k, .string r.nm, .int .i64 r.n, .slice r.g r.m r.c]
structure RowSt (X : Nat → Prop) (W : World) (rb : Nat) (s : ByteArray) (L : Toks) (lv : Value) (y : RRes (List Tm)) (v : Value) (q : List Raw) (wx : World) : Prop where
  own : wx.ownsRow W.heap.size 33 4 v q.length (q.flatMap Raw.vs)
  tms : ∀ l, valOf y = some l → l.length = q.length ∧ Tm.cellsP wx (okN (XV X v) wx) l (q.flatMap Raw.vs)
  st : St (XV X v) wx rb s L lv (stOf y)
  gr : W.grownBy wx (some rb)
  one : 1 ≤ q.length
  few : q.length ≤ 1000001
  room : ∀ ts ns, stOf y = .ok (ts, ns) → q.length + ts.length ≤ 1000001
theorem raw_at : ∀ (q : List Raw) (i j : Nat) (h : i < q.length), j < 4 → (q.flatMap Raw.vs)[i * 4 + j]? = (q[i].vs)[j]?
  | r :: q, 0, j, _, hj => by
    rw [List.flatMap_cons, List.getElem?_append_left (by simp [Raw.vs]; omega)]
    simp
  | r :: q, i + 1, j, h, hj => by
    rw [List.flatMap_cons, List.getElem?_append_right (by simp [Raw.vs]; omega)]
    have h1 : (i + 1) * 4 + j - r.vs.length = i * 4 + j := by simp [Raw.vs]; omega
    rw [h1]
    have h2 := raw_at q i j (by simpa using h) hj
    simpa using h2
theorem RowSt.fin {X : Nat → Prop} {W : World} {rb : Nat} {s : ByteArray} {L : Toks} {lv : Value} {y : RRes (List Tm)} {v : Value} {q : List Raw} {wx : World} (h : RowSt X W rb s L lv y v q wx) (hX : X rb) (hold : ∀ b, X b → b < W.heap.size) : RowPost X W rb s L lv y (.returned v) wx := by
  obtain ⟨g, cap, hv⟩ := own_pos h.own h.one
  have hlt := h.own.lt g (by rw [hv]; rfl)
  have hok : okN X wx g := ⟨fun hx => by have := hold g hx; omega, hlt.2⟩
  have hle : q.length ≤ cap := by
    rcases h.own.2 with ⟨e, h0⟩ | ⟨g', cap', cur, e, _, _, hn, _⟩
    · have := h.one; omega
    · rw [hv] at e
      injection e with e1 e2 e3
      omega
  refine ⟨q.length, v, rfl, h.gr, h.st.less (fun b hx => .inl hx) hX, h.one, h.few, ⟨g, 0, cap, hv, hle, hok, fun i hi => ?_⟩, fun l hl => ⟨(h.tms l hl).1, ?_⟩⟩
  · have hc := h.own.cells (g := g) (by rw [hv]; rfl)
    have hat : ∀ j u, j < 4 → (q[i].vs)[j]? = some u → wx.cell? ⟨g, 0 + i * 4 + j, none⟩ = some u := fun j u hj hu => by
      have h1 := hc (i * 4 + j) u (by rw [raw_at q i j hi hj]; exact hu)
      rw [Addr.add_lit] at h1
      rw [Nat.zero_add] at h1 ⊢
      exact h1
    exact ⟨q[i].k, q[i].nm, q[i].n, q[i].g, q[i].m, q[i].c, hat 0 _ (by omega) rfl, hat 1 _ (by omega) rfl, hat 2 _ (by omega) rfl, hat 3 _ (by omega) rfl⟩
  · obtain ⟨e, hc⟩ := h.tms l hl
    have ho := h.own
    rw [← e] at ho
    exact Tm.sliceP_of_owns ho hc (by have := h.few; omega) (fun b hb => ⟨fun hx => hb.1 (.inl hx), hb.2⟩) (fun b hb => by
      rw [hv] at hb
      injection hb with hb
      rw [← hb]
      exact hok)
theorem news4r (w : World) (k : Int) (nm : ByteArray) (n : Int) (sv : Value) (T : TypeId) (b : Nat) (hb : b = w.heap.size) : ∀ j u, ([.int .i64 k, .string nm, .int .i64 n, sv] : List Value)[j]? = some u → (w.alloc (.cells #[.int .i64 k, .string nm, .int .i64 n, sv] T)).cell? ((⟨b, 0, none⟩ : Addr).add j) = some u := by
  intro j u hj
  have h := newBlk w (.cells #[.int .i64 k, .string nm, .int .i64 n, sv] T) b hb
  rw [Addr.add_lit]
  simp only [World.cell?, h, Nat.zero_add]
  simpa using hj
/-- The first row: a term alone. -/
theorem RowSt.first {X : Nat → Prop} {W : World} {rb : Nat} {s : ByteArray} {L : Toks} {lv : Value} {r : RRes Tm} {k : Int} {nm : ByteArray} {n : Int} {g : Option Addr} {m c : Nat} {U : World} (hgr : W.grownBy U (some rb)) (hst : St X U rb s L lv (stOf r)) (htv : TV X U (valOf r) k nm n (.slice g m c)) (hL : L.length ≤ 1000000) :
    RowSt X W rb s L lv (addE [] r) (.slice (some ⟨U.heap.size, 0, none⟩) 1 1) [⟨k, nm, n, g, m, c⟩] (U.alloc (.cells #[.int .i64 k, .string nm, .int .i64 n, .slice g m c] 33)) := by
  have hb : Below U.heap.size U (U.alloc (.cells #[.int .i64 k, .string nm, .int .i64 n, .slice g m c] 33)) := (Below.refl _ _).alloc (Nat.le_refl _) _
  have hXV : ∀ b, XV X (.slice (some ⟨U.heap.size, 0, none⟩) 1 1) b → X b ∨ (U.heap.size ≤ b ∧ b < (U.alloc (.cells #[.int .i64 k, .string nm, .int .i64 n, .slice g m c] 33)).heap.size) := by
    rintro b (h | h)
    · exact .inl h
    · have h : U.heap.size = b := by simpa [Value.ownBlock] using h
      exact .inr ⟨by omega, by simp; omega⟩
  refine ⟨?_, ?_, ?_, ?_, by simp, by simp, ?_⟩
  · have := World.ownsRow_lit (base := W.heap.size) (e := 33) (size := 4) U #[.int .i64 k, .string nm, .int .i64 n, .slice g m c] 1 hgr.size (by unfold maxLen; omega) rfl
    exact this
  · intro l hl
    rw [addE_val] at hl
    cases hr : valOf r with
    | none => rw [hr] at hl; cases hl
    | some t =>
      rw [hr] at hl
      obtain rfl : [t] = l := by simpa using hl
      have h2 := htv.ext (X' := XV X (.slice (some ⟨U.heap.size, 0, none⟩) 1 1)) hb (fun b hx => (hXV b hx).imp id And.left)
      obtain ⟨rfl, rfl, rfl, h3⟩ := h2.2.2.2 t hr
      exact ⟨rfl, _, _, rfl, h3, rfl⟩
  · rw [addE_st]
    exact hst.ext hb hXV (.inl hst.own)
  · exact grown_trans hgr (r' := some rb) ⟨hb.os, hb.tape, hb.output, hb.size, fun q hq _ => hb.block q hq⟩ (fun _ e => .inl e)
  · intro ts ns h
    rw [addE_st] at h
    have h0 := hst.is
    rw [h] at h0
    obtain ⟨a, rfl, _⟩ := h0
    simp
    omega
theorem RowSt.dn {X : Nat → Prop} {W : World} {rb : Nat} {s : ByteArray} {L : Toks} {lv : Value} {y : RRes (List Tm)} {v : Value} {q : List Raw} {wx : World} (h : RowSt X W rb s L lv y v q wx) (k : Nat) : RowSt X W rb s L lv y v q (wx.drewN k) :=
  ⟨h.own, fun l hl => ⟨(h.tms l hl).1, Tm.cellsP_same (w := wx) (w' := wx.drewN k) (ok := okN (XV X v) wx) (ok' := okN (XV X v) (wx.drewN k)) (fun _ h => h) (fun _ _ _ _ h => h) _ _ (h.tms l hl).2⟩, h.st.dn k, grown_dn h.gr k, h.one, h.few, h.room⟩
/-- What grows: more blocks are left alone, those that are left alone may be written. -/
theorem okN_grow {X X' : Nat → Prop} {W W' : World} {r : Option Nat} (hg : W.grownBy W' r) (hX : ∀ b, X' b → X b ∨ W.heap.size ≤ b) (b : Nat) (h : okN X W b) : okN X' W' b :=
  ⟨fun hx => by rcases hX b hx with h1 | h1; exact h.1 h1; have := h.2; omega, Nat.lt_of_lt_of_le h.2 hg.size⟩
theorem cell_grow {X : Nat → Prop} {W W' : World} {r : Option Nat} (hg : W.grownBy W' r) (hr : ∀ b, r = some b → X b) (b o : Nat) (v : Value) (hb : okN X W b) (h : W.cell? ⟨b, o, none⟩ = some v) : W'.cell? ⟨b, o, none⟩ = some v := hg.cell h (fun e => hb.1 (hr b e.symm))
theorem St.grow {X X' : Nat → Prop} {W W' : World} {rb : Nat} {s : ByteArray} {L : Toks} {lv : Value} {x : RSt} {r : Option Nat} (h : St X W rb s L lv x) (hg : W.grownBy W' r) (hr : ∀ b, r = some b → X b ∧ b ≠ rb) (hX : ∀ b, X' b → X b ∨ (W.heap.size ≤ b ∧ b < W'.heap.size)) (hrb : X' rb) : St X' W' rb s L lv x := by
  have hold : ∀ b, X' b → b < W'.heap.size := fun b hx => by
    rcases hX b hx with h1 | h1
    · exact Nat.lt_of_lt_of_le (h.old b h1) hg.size
    · exact h1.2
  have hne : some rb ≠ r := fun e => (hr rb e.symm).2 rfl
  refine ⟨hrb, hold, ?_⟩
  cases x with
  | error e =>
    obtain ⟨⟨s', lv', a, nv, hc⟩, h2⟩ := h.is
    exact ⟨⟨s', lv', a, nv, (hg.block rb (Array.getElem?_eq_some_iff.1 hc).1 hne).trans hc⟩, h2⟩
  | ok x =>
    obtain ⟨a, h1, h2⟩ := h.is
    refine ⟨a, h1, ?_⟩
    obtain ⟨nv, pl, hc, hn⟩ := h2.cells
    have hok := okN_grow (X := X) (X' := X') hg (fun b hx => (hX b hx).imp id And.left)
    have hcell := cell_grow (X := X) hg (fun b e => (hr b e).1)
    refine ⟨⟨nv, pl, (hg.block rb h2.lt hne).trans hc, namesP_same hok hcell hn⟩, ?_, h2.le, hrb, hold⟩
    obtain ⟨g, cap, e, h9⟩ := toksP_same hcell h2.toks
    refine ⟨g, cap, e, ?_⟩
    rcases h9 with h9 | ⟨b, off, e1, hb', h9⟩
    · exact .inl h9
    · exact .inr ⟨b, off, e1, hok b hb', h9⟩
theorem grown_allc (w : World) (o : Obj) (r : Option Nat) : w.grownBy (w.alloc o) r :=
  have hb := (Below.refl w.heap.size w).alloc (Nat.le_refl _) o
  ⟨hb.os, hb.tape, hb.output, hb.size, fun q hq _ => hb.block q hq⟩
/-- One more. -/
theorem RowSt.app {X : Nat → Prop} {W : World} {rb : Nat} {s : ByteArray} {L : Toks} {lv : Value} {l : List Tm} {ts : Toks} {ns : Names} {v v' : Value} {q : List Raw} {wx W3 W5 : World} {r : RRes Tm} {k : Int} {nm : ByteArray} {n : Int} {g : Option Addr} {m c : Nat} (hlt : rb < W.heap.size)
    (h : RowSt X W rb s L lv (.ok (l, ts, ns)) v q wx) (hg : wx.grownBy W3 (some rb)) (hst : St (XV X v) W3 rb s L lv (stOf r)) (htv : TV (XV X v) W3 (valOf r) k nm n (.slice g m c))
    (ho : W5.ownsRow W.heap.size 33 4 v' (q.length + 1) (q.flatMap Raw.vs ++ [.int .i64 k, .string nm, .int .i64 n, .slice g m c])) (hg5 : (W3.alloc (.cells #[.int .i64 k, .string nm, .int .i64 n, .slice g m c] 33)).grownBy W5 v.ownBlock)
    (hs5 : v'.ownBlock = v.ownBlock ∨ v'.ownBlock = some (W3.alloc (.cells #[.int .i64 k, .string nm, .int .i64 n, .slice g m c] 33)).heap.size) (hone : 1 ≤ ts.length) (hlen : ∀ ts' ns', stOf r = .ok (ts', ns') → ts'.length + 1 ≤ ts.length) :
    RowSt X W rb s L lv (addE l r) v' (q ++ [⟨k, nm, n, g, m, c⟩]) W5 := by
  have hfl : (q ++ [(⟨k, nm, n, g, m, c⟩ : Raw)]).flatMap Raw.vs = q.flatMap Raw.vs ++ [.int .i64 k, .string nm, .int .i64 n, .slice g m c] := by simp [Raw.vs]
  have h35 : W3.grownBy W5 v.ownBlock := grown_trans (grown_allc _ _ v.ownBlock) hg5 (fun _ e => .inl e)
  have hown : ∀ b, v.ownBlock = some b → XV X v b ∧ b ≠ rb := fun b e => ⟨.inr e, by have := (h.own.lt b e).1; omega⟩
  have hv5 : ∀ b, XV X v' b → XV X v b ∨ (W3.heap.size ≤ b ∧ b < W5.heap.size) := by
    rintro b (hx | hx)
    · exact .inl (.inl hx)
    · have hb5 := (ho.lt b hx).2
      rcases hs5 with e | e
      · exact .inl (.inr (by rw [← e]; exact hx))
      · rw [e] at hx
        simp only [World.size_alloc, Option.some.injEq] at hx
        exact .inr ⟨by omega, hb5⟩
  have hv5' : ∀ b, XV X v' b → XV X v b ∨ W3.heap.size ≤ b := fun b hx => (hv5 b hx).imp id And.left
  refine ⟨?_, ?_, ?_, ?_, by simp, ?_, ?_⟩
  · rw [hfl]
    simpa using ho
  · intro l' hl'
    rw [addE_val] at hl'
    cases hr : valOf r with
    | none => rw [hr] at hl'; cases hl'
    | some t =>
      rw [hr] at hl'
      obtain rfl : l ++ [t] = l' := by simpa using hl'
      obtain ⟨e0, h0⟩ := h.tms l rfl
      obtain ⟨e1, e2, e3, e4⟩ := htv.2.2.2 t hr
      subst e1 e2 e3
      have h1 := Tm.cellsP_same (ok' := okN (XV X v') W5) (w' := W5) (fun b hb => okN_grow h35 hv5' b (okN_grow hg (fun b hx => .inl hx) b hb)) (fun b o u hb hc => cell_grow (X := XV X v) h35 (fun b e => (hown b e).1) b o u (okN_grow hg (fun b hx => .inl hx) b hb) (cell_grow (X := XV X v) hg (fun b e => by cases e; exact h.st.own) b o u hb hc)) _ _ h0
      have h2 := Tm.innP_same (ok' := okN (XV X v') W5) (w' := W5) (fun b hb => okN_grow h35 hv5' b hb) (fun b o u hb hc => cell_grow (X := XV X v) h35 (fun b e => (hown b e).1) b o u hb hc) _ _ e4
      refine ⟨by simp [e0], ?_⟩
      rw [hfl]
      exact Tm.cellsP_snoc h2 _ _ h1
  · rw [addE_st]
    refine hst.grow h35 hown hv5 (.inl ?_)
    rcases h.st.own with h9 | h9
    · exact h9
    · exact absurd rfl (hown rb h9).2
  · exact grown_trans (grown_trans h.gr hg (fun _ e => .inl e)) h35 (fun b e => .inr (h.own.lt b e.symm).1)
  · have := h.room ts ns rfl
    simp
    omega
  · intro ts' ns' e
    rw [addE_st] at e
    have h1 := hlen ts' ns' e
    have h2 := h.room ts ns rfl
    simp
    omega
theorem room_term {S : List UInt8} {f p deep : Nat} {x : RSt} (h : Room f 4 x) : Room (f - 1) 0 (stOf (termE S (f - 1) p deep x)) := by
  intro ts ns e
  cases x with
  | error e' => cases e
  | ok x =>
    obtain ⟨ts0, ns0⟩ := x
    have h0 := h ts0 ns0 rfl
    cases hr : rdTerm S (f - 1) p deep ts0 ns0 with
    | error e' => rw [termE, hr] at e; cases e
    | ok r =>
      obtain ⟨u, r1, n1⟩ := r
      rw [termE, hr] at e
      injection e with e
      injection e with e1 e2
      subst e1 e2
      have h1 := (rd_went S (f - 1)).2.1 _ _ _ _ _ _ _ hr
      have h2 := h1.len
      have h3 := h1.nms
      exact ⟨by omega, by omega⟩
set_option maxRecDepth 100000 in
set_option maxHeartbeats 8000000 in
theorem row_any (f : Nat) (IH : ∀ f', f' < f → TermC f') : RowC f := by
  intro X W rb s L lv x deep hS hst hroom hdeep
  rw [rowE_eq hroom]
  obtain ⟨R, hR⟩ : ∃ R, rowF (bs s) (f - 1) deep (addE [] (termE (bs s) (f - 1) 999 (deep + 1) x)) = R := ⟨_, rfl⟩
  rw [hR]
  have hlt := hst.lt
  have HX := Lib.hid (And.intro hst.own hst.old)
  have HT0 : Hid (Calls Tryz.prog 20 #[.pointer (some ⟨rb, 0, none⟩), .int .i64 999, .int .i64 ((deep : Int) + 1)] W fun e W' => TermPost X W rb s L lv (termE (bs s) (f - 1) 999 (deep + 1) x) e W') := Lib.hid (term_at IH X W rb s L lv x 999 (deep + 1) hS hst hroom (by omega) (by omega))
  have HIH := Lib.hid IH
  have HS := Lib.hid hS
  have HR := Lib.hid hR
  have HRM := Lib.hid hroom
  have jd : IntKind.i64.wrap ((deep : Int) + 1) = (deep : Int) + 1 := by rw [IntKind.wrap_i64]; omega
  clear IH hS hR hst hroom
  go_enter Tryz.func41, Tryz.ntmps41
  go_wp2_with (go_at_call 20; (with_reducible refine (HT0.out).mono ?_); rintro e W1 ⟨k, nm, n, g, m, c, rfl, hg, hst1, htv1⟩; have HFST := Lib.hid (RowSt.first hg hst1 htv1 HS.out.len); clear hg hst1 htv1)
  go_loopg [5] (f - 1) (fun gf s5 wx => ∃ (y : RRes (List Tm)) (v : Value) (q : List Raw), s5 = v ∧ gf ≤ f - 1 ∧ Hid (rowF (bs s) gf deep y = R ∧ Room gf 0 (stOf y)) ∧ Hid (RowSt X W rb s L lv y v q wx))
  case atStart =>
    refine ⟨_, _, _, rfl, Nat.le_refl _, Lib.hid ⟨HR.out, ?_⟩, HFST⟩
    rw [addE_st]
    exact room_term HRM.out
  case round =>
    obtain ⟨y, v, q, hs5, hgf, hR, hst⟩ := hrel
    obtain rfl : v = _ := hs5.symm
    have HRR := Lib.hid hR.out
    have HST := Lib.hid hst.out
    clear hR hst HFST
    have HSEE := Lib.hid (see_c wr rb s L lv (stOf y) 44 HS.out HST.out.st)
    cases hs : seeE 44 (stOf y) with
    | false =>
      have hRe : R = y := by rw [← HRR.out.1]; exact rowF_stop hs
      subst hRe
      rw [hs] at HSEE
      go_wp2_with (go_at_call 39; (with_reducible refine (HSEE.out).mono ?_); rintro e W2 ⟨rfl, k2, rfl⟩)
      go_ret
      exact (HST.out.dn k2).fin HX.out.1 HX.out.2
    | true =>
      cases y with
      | error e => cases hs
      | ok y =>
        obtain ⟨l, ts, ns⟩ := y
        obtain ⟨a, ets, hrd⟩ := HST.out.st.is
        obtain rfl : ts = L.drop a := ets
        have ha : a < L.length := by
          by_cases ha : a < L.length
          · exact ha
          · have h0 : L.drop a = [] := List.drop_eq_nil_of_le (by omega)
            rw [show seeE 44 (stOf (.ok (l, L.drop a, ns))) = seeT 44 (L.drop a) from rfl, h0] at hs
            cases hs
        have HDR := Lib.hid (show L.drop a = L[a] :: L.drop (a + 1) from List.drop_eq_getElem_cons ha)
        have hroom := HRR.out.2 _ _ rfl
        rw [HDR.out, List.length_cons] at hroom
        obtain ⟨gk, rfl⟩ : ∃ z, gk = z + 1 := ⟨gk - 1, by omega⟩
        have HSS := Lib.hid (show seeT 44 (L.drop a) = true from hs)
        rw [hs] at HSEE
        have HRD := Lib.hid hrd
        have hlen := HS.out.len
        have jw1 : IntKind.i64.wrap ((a : Int) + 1) = (a : Int) + 1 := by rw [IntKind.wrap_i64]; omega
        have HROOM := Lib.hid hroom
        clear hrd hs hroom
        have HIG := Lib.hid (HIH.out gk (by omega))
        go_wp2_with (go_at_call 39; (with_reducible refine (HSEE.out).mono ?_); rintro e W2 ⟨rfl, k2, rfl⟩; replace HST := Lib.hid (HST.out.dn k2); replace HRD := Lib.hid (HRD.out.dn k2); obtain ⟨V, hV⟩ : ∃ V, wr.drewN k2 = V := ⟨_, rfl⟩; rw [hV] at HST HRD; rw [hV]; obtain ⟨nv, pl, hblk, hns⟩ := HRD.out.cells; obtain ⟨⟨c0, c1, c2, c3, c4, c5⟩, f0, f1, f2, f3, f4, f5⟩ := row6 hblk; clear hblk hns hV)
        have HT : Hid (Calls Tryz.prog 20 #[.pointer (some ⟨rb, 0, none⟩), .int .i64 999, .int .i64 ((deep : Int) + 1)] (V.setCell ⟨rb, 2, none⟩ (.int .i64 ((a : Int) + 1))) fun e W' => TermPost (XV X v) (V.setCell ⟨rb, 2, none⟩ (.int .i64 ((a : Int) + 1))) rb s L _ (termE (bs s) gk 999 (deep + 1) (.ok (L.drop (a + 1), ns))) e W') :=
          Lib.hid (HIG.out (XV X v) _ rb s L _ (.ok (L.drop (a + 1), ns)) 999 (deep + 1) HS.out (St.of (HRD.out.step (a' := a + 1) (by omega))) (fun ts' ns' e => by
            injection e with e
            injection e with e1 e2
            subst e1 e2
            have h0 := HROOM.out
            exact ⟨by omega, by omega⟩) (by omega) (by omega))
        obtain ⟨i0, hi, hz0, hz1, hz2⟩ := info_parts Tryz.infoTmR
        have hq1 := HST.out.one
        have hq2 := HST.out.few
        clear c0 c1 c2 c3 c4 c5 f0 f1 f2 f3 f4 f5
        with_reducible refine (HT.out).mono ?_
        rintro e W3 ⟨k3, nm3, n3, g3, m3, c3, rfl, hg, hst3, htv3⟩
        have HG := Lib.hid (grown_trans (grown_set V rb 2 (.int .i64 ((a : Int) + 1))) hg (fun _ e => .inl e))
        have HST3 := Lib.hid hst3
        have HTV3 := Lib.hid htv3
        have HOW := Lib.hid (HST.out.own.kept HG.out (.inr (fun e => by have := (HST.out.own.lt rb e).1; omega)))
        have HSZ := Lib.hid (Nat.le_trans HST.out.gr.size HG.out.size)
        clear hg hst3 htv3 HT
        go_wp2_with (at_builtin; refine wpList_append_any rfl _ _ 31 rfl W.heap.size 33 i0 _ 4 56 Tryz.underlying31 hi hz0 hz1 hz2 rfl (by decide) v q.length (q.flatMap Raw.vs) rfl (HOW.out.alloc _) (some ⟨W3.heap.size, 0, none⟩) 1 1 [.int .i64 k3, .string nm3, .int .i64 n3, .slice g3 m3 c3] rfl rfl (.inr ⟨_, rfl, news4r W3 _ _ _ _ _ _ rfl⟩) (by intro u hu; simp at hu; rcases hu with rfl | rfl | rfl | rfl <;> rfl) (by unfold maxLen; omega) (by omega) (by have := HSZ.out; simp; omega) ?_; intro v5 W5 ho5 hg5 hs5; have HO5 := Lib.hid ho5; have HG5 := Lib.hid hg5; have HS5 := Lib.hid hs5; clear ho5 hg5 hs5)
        have hwent : ∀ ts' ns', stOf (termE (bs s) gk 999 (deep + 1) (.ok (L.drop (a + 1), ns))) = .ok (ts', ns') → ts'.length + 1 ≤ (L.drop (a + 1)).length ∧ ns'.length + ts'.length ≤ ns.length + (L.drop (a + 1)).length := by
          intro ts' ns' e
          cases hr : rdTerm (bs s) gk 999 (deep + 1) (L.drop (a + 1)) ns with
          | error e' => rw [termE, hr] at e; cases e
          | ok r =>
            obtain ⟨u, r1, n1⟩ := r
            rw [termE, hr] at e
            injection e with e
            injection e with e1 e2
            subst e1 e2
            have h1 := (rd_went (bs s) gk).2.1 _ _ _ _ _ _ _ hr
            exact ⟨h1.len, h1.nms⟩
        have hl0 : (L.drop a).length = (L.drop (a + 1)).length + 1 := by rw [HDR.out, List.length_cons]
        have HWE := Lib.hid hwent
        clear hwent
        go_roundg gk
        case rel =>
          refine ⟨addE l (termE (bs s) gk 999 (deep + 1) (.ok (L.drop (a + 1), ns))), v5, q ++ [⟨k3, nm3, n3, g3, m3, c3⟩], rfl, by omega, Lib.hid ⟨?_, ?_⟩, Lib.hid ?_⟩
          · rw [← HRR.out.1, rowF_step HSS.out, List.tail_drop]
            rfl
          · intro ts' ns' e
            rw [addE_st] at e
            have h1 := HWE.out ts' ns' e
            have h0 := HROOM.out
            exact ⟨by omega, by omega⟩
          · exact RowSt.app hlt HST.out HG.out HST3.out HTV3.out HO5.out HG5.out HS5.out (by omega) (fun ts' ns' e => by
              have h1 := HWE.out ts' ns' e
              omega)
        case measure => exact Nat.lt_succ_self _
end Go.Proofs.YtilfglcjcmpfeaaGreatDoor
