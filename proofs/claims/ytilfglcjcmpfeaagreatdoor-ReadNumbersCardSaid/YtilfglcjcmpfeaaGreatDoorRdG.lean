/-
  The document's name: what begins with a name.
-/
import Derived.Test.YtilfglcjcmpfeaaGreatDoorRdE
import Derived.Deep.DeepCutAuto
namespace Go.Proofs.YtilfglcjcmpfeaaGreatDoor
open Go.RowKit

def zeroTk : Tk × Nat := (⟨0, [], 0, false⟩, 0)
theorem Rdr.grow {X X' : Nat → Prop} {W W' : World} {rb : Nat} {s : ByteArray} {L : Toks} {lv : Value} {a : Nat} {ns : Names} {r : Option Nat} (h : Rdr X W rb s L lv a ns) (hg : W.grownBy W' r) (hr : ∀ b, r = some b → X b ∧ b ≠ rb) (hX : ∀ b, X' b → X b ∨ (W.heap.size ≤ b ∧ b < W'.heap.size)) (hrb : X' rb) : Rdr X' W' rb s L lv a ns := by
  have hold : ∀ b, X' b → b < W'.heap.size := fun b hx => by
    rcases hX b hx with h1 | h1
    · exact Nat.lt_of_lt_of_le (h.old b h1) hg.size
    · exact h1.2
  have hne : some rb ≠ r := fun e => (hr rb e.symm).2 rfl
  obtain ⟨nv, pl, hc, hn⟩ := h.cells
  have hok := okN_grow (X := X) (X' := X') hg (fun b hx => (hX b hx).imp id And.left)
  have hcell := cell_grow (X := X) hg (fun b e => (hr b e).1)
  refine ⟨⟨nv, pl, (hg.block rb h.lt hne).trans hc, namesP_same hok hcell hn⟩, ?_, h.le, hrb, hold⟩
  obtain ⟨g, cap, e, h9⟩ := toksP_same hcell h.toks
  refine ⟨g, cap, e, ?_⟩
  rcases h9 with h9 | ⟨b, off, e1, hb', h9⟩
  · exact .inl h9
  · exact .inr ⟨b, off, e1, hok b hb', h9⟩
/-- The call's own boxes: the token, the result. -/
structure NmB (X : Nat → Prop) (W : World) (rb : Nat) (s : ByteArray) (L : Toks) (lv : Value) (a : Nat) (ns : Names) (x : Tk × Nat) (wx : World) : Prop where
  rd : Rdr (X2 X W.heap.size) wx rb s L lv a ns
  bx : wx.heap[W.heap.size]? = some (.cells #[.int .i64 (x.1.kind : Nat), .string ⟨x.1.text.toArray⟩, .int .i64 (x.1.n : Nat), .int .i64 (x.2 : Nat), .bool x.1.opn] 75 (0, 0))
  rs : wx.heap[W.heap.size + 1]? = some (.cells #[.int .i64 0, .string ⟨#[]⟩, .int .i64 0, .slice none 0 0] 33 (0, 0))
  gr : W.grownBy wx (some rb)
theorem NmB.lt {X : Nat → Prop} {W : World} {rb : Nat} {s : ByteArray} {L : Toks} {lv : Value} {a : Nat} {ns : Names} {x : Tk × Nat} {wx : World} (h : NmB X W rb s L lv a ns x wx) : W.heap.size + 1 < wx.heap.size := (Array.getElem?_eq_some_iff.1 h.rs).1
theorem NmB.next {X : Nat → Prop} {W : World} {rb : Nat} {s : ByteArray} {L : Toks} {lv : Value} {a : Nat} {ns : Names} {x : Tk × Nat} {wx wy : World} (h : NmB X W rb s L lv a ns x wx) (hb : Below wx.heap.size wx wy) : NmB X W rb s L lv a ns x wy :=
  have hl := h.lt
  ⟨h.rd.next hb, (hb.block _ (by omega)).trans h.bx, (hb.block _ hl).trans h.rs, grown_trans h.gr (r' := some rb) ⟨hb.os, hb.tape, hb.output, hb.size, fun q hq _ => hb.block q hq⟩ (fun _ e => .inl e)⟩
theorem NmB.dn {X : Nat → Prop} {W : World} {rb : Nat} {s : ByteArray} {L : Toks} {lv : Value} {a : Nat} {ns : Names} {x : Tk × Nat} {wx : World} (h : NmB X W rb s L lv a ns x wx) (k : Nat) : NmB X W rb s L lv a ns x (wx.drewN k) := ⟨h.rd.dn k, h.bx, h.rs, grown_dn h.gr k⟩
theorem NmB.start {X : Nat → Prop} {W : World} {rb : Nat} {s : ByteArray} {L : Toks} {lv : Value} {a : Nat} {ns : Names} (x : Tk × Nat) (h : Rdr X W rb s L lv a ns) (ha : a < L.length) :
    NmB X W rb s L lv (a + 1) ns x (((W.setCell ⟨rb, 2, none⟩ (.int .i64 ((a : Int) + 1))).alloc (.cells #[.int .i64 (x.1.kind : Nat), .string ⟨x.1.text.toArray⟩, .int .i64 (x.1.n : Nat), .int .i64 (x.2 : Nat), .bool x.1.opn] 75)).alloc (.cells #[.int .i64 0, .string ⟨#[]⟩, .int .i64 0, .slice none 0 0] 33)) := by
  have h1 : Rdr X (W.setCell ⟨rb, 2, none⟩ (.int .i64 ((a : Int) + 1))) rb s L lv (a + 1) ns := h.step (a' := a + 1) (by omega)
  have hg1 := grown_set W rb 2 (.int .i64 ((a : Int) + 1))
  obtain ⟨V, hV⟩ : ∃ V, W.setCell ⟨rb, 2, none⟩ (.int .i64 ((a : Int) + 1)) = V := ⟨_, rfl⟩
  have hz : V.heap.size = W.heap.size := by rw [← hV]; simp [World.setCell]
  rw [hV] at h1 hg1 ⊢
  have hb : Below V.heap.size V ((V.alloc (.cells #[.int .i64 (x.1.kind : Nat), .string ⟨x.1.text.toArray⟩, .int .i64 (x.1.n : Nat), .int .i64 (x.2 : Nat), .bool x.1.opn] 75)).alloc (.cells #[.int .i64 0, .string ⟨#[]⟩, .int .i64 0, .slice none 0 0] 33)) := ((Below.refl _ _).alloc (Nat.le_refl _) _).alloc (by simp) _
  have hg : V.grownBy ((V.alloc (.cells #[.int .i64 (x.1.kind : Nat), .string ⟨x.1.text.toArray⟩, .int .i64 (x.1.n : Nat), .int .i64 (x.2 : Nat), .bool x.1.opn] 75)).alloc (.cells #[.int .i64 0, .string ⟨#[]⟩, .int .i64 0, .slice none 0 0] 33)) none := ⟨hb.os, hb.tape, hb.output, hb.size, fun q hq _ => hb.block q hq⟩
  refine ⟨h1.grow hg (fun b e => by cases e) ?_ (.inl h.own), ?_, newBlk _ _ _ (by simp [hz]), grown_trans hg1 (r' := some rb) ⟨hb.os, hb.tape, hb.output, hb.size, fun q hq _ => hb.block q hq⟩ (fun _ e => .inl e)⟩
  · rintro b (hx | rfl | rfl)
    · exact .inl hx
    · exact .inr ⟨by omega, by simp; omega⟩
    · exact .inr ⟨by omega, by simp; omega⟩
  · rw [Below.heap_alloc _ _ _ (by simp [hz])]
    exact newBlk _ _ _ hz.symm
structure NmSt (X : Nat → Prop) (W : World) (rb : Nat) (s : ByteArray) (L : Toks) (lv : Value) (a : Nat) (ns : Names) (x y : Tk × Nat) (nb : Nat) (wx : World) : Prop where
  b : NmB X W rb s L lv a ns x wx
  nx : wx.heap[nb]? = some (.cells #[.int .i64 (y.1.kind : Nat), .string ⟨y.1.text.toArray⟩, .int .i64 (y.1.n : Nat), .int .i64 (y.2 : Nat), .bool y.1.opn] 75 (0, 0))
  nlo : W.heap.size + 2 ≤ nb
theorem NmSt.dn {X : Nat → Prop} {W : World} {rb : Nat} {s : ByteArray} {L : Toks} {lv : Value} {a : Nat} {ns : Names} {x y : Tk × Nat} {nb : Nat} {wx : World} (h : NmSt X W rb s L lv a ns x y nb wx) (k : Nat) : NmSt X W rb s L lv a ns x y nb (wx.drewN k) := ⟨h.b.dn k, h.nx, h.nlo⟩
theorem NmSt.next {X : Nat → Prop} {W : World} {rb : Nat} {s : ByteArray} {L : Toks} {lv : Value} {a : Nat} {ns : Names} {x y : Tk × Nat} {nb : Nat} {wx wy : World} (h : NmSt X W rb s L lv a ns x y nb wx) (hb : Below wx.heap.size wx wy) : NmSt X W rb s L lv a ns x y nb wy := ⟨h.b.next hb, (hb.block _ (Array.getElem?_eq_some_iff.1 h.nx).1).trans h.nx, h.nlo⟩
theorem NmB.grow {X : Nat → Prop} {W : World} {rb : Nat} {s : ByteArray} {L : Toks} {lv : Value} {a a' : Nat} {ns ns' : Names} {x : Tk × Nat} {wx wy : World} (h : NmB X W rb s L lv a ns x wx) (hlt : rb < W.heap.size) (hr : Rdr (X2 X W.heap.size) wy rb s L lv a' ns') (hg : wx.grownBy wy (some rb)) : NmB X W rb s L lv a' ns' x wy :=
  have hl := h.lt
  ⟨hr, (hg.block _ (by omega) (fun e => by injection e; omega)).trans h.bx, (hg.block _ hl (fun e => by injection e; omega)).trans h.rs, grown_trans h.gr hg (fun _ e => .inl e)⟩
theorem NmSt.step {X : Nat → Prop} {W : World} {rb : Nat} {s : ByteArray} {L : Toks} {lv : Value} {a a' : Nat} {ns : Names} {x y : Tk × Nat} {nb : Nat} {wx : World} (h : NmSt X W rb s L lv a ns x y nb wx) (hlt : rb < W.heap.size) (ha : a' ≤ L.length) : NmSt X W rb s L lv a' ns x y nb (wx.setCell ⟨rb, 2, none⟩ (.int .i64 (a' : Nat))) :=
  ⟨h.b.grow hlt (h.b.rd.step ha) (grown_set _ _ _ _), ((grown_set wx rb 2 _).block _ (Array.getElem?_eq_some_iff.1 h.nx).1 (fun e => by have := h.nlo; injection e; omega)).trans h.nx, h.nlo⟩
theorem nm_fin {X : Nat → Prop} {W : World} {rb : Nat} {s : ByteArray} {L : Toks} {lv : Value} {y : RRes (Tm × Nat)} {k : Int} {nm : ByteArray} {n : Int} {g : Option Addr} {m c q : Nat} {V : World} (hX : X rb) (hlt : rb < W.heap.size) (hst : St (X2 X W.heap.size) V rb s L lv (stOf y)) (hgr : W.grownBy V (some rb)) (htv : TV (X2 X W.heap.size) V ((valOf y).map Prod.fst) k nm n (.slice g m c)) (hq : q ≤ 1200) (hv : ∀ u, valOf y = some u → q = u.2) :
    NamePostR X W rb s L lv y (.returned (.tuple #[.agg #[.int .i64 k, .string nm, .int .i64 n, .slice g m c], .int .i64 (q : Nat)])) (set4 V (W.heap.size + 1) k nm n (.slice g m c)) := by
  have hg := set4_grown V (W.heap.size + 1) k nm n (.slice g m c)
  have hst' := hst.other (tb := W.heap.size + 1) (.inr (.inr rfl)) (by omega) hg
  exact ⟨k, nm, n, g, m, c, q, rfl, hq, grown_trans hgr hg (fun b e => .inr (by cases e; omega)), hst'.less (fun b hx => .inl hx) hX, (htv.grown (.inr (.inr rfl)) hg).less (fun b hx => .inl hx), hv⟩
theorem wf64 {n : Int} (h1 : -9223372036854775808 ≤ n) (h2 : n ≤ 9223372036854775807) : (Lit.int .i64 n).wf = true := by
  show (decide (IntKind.i64.min ≤ n) && decide (n ≤ IntKind.i64.max)) = true
  rw [Bool.and_eq_true, decide_eq_true_eq, decide_eq_true_eq]
  exact ⟨h1, h2⟩
/-- A name with its brackets. -/
def openE (S : List UInt8) (f deep : Nat) (x : Tk × Nat) (st : RSt) : RRes (Tm × Nat) :=
  match rowE S f deep (needE S 40 st) with
  | .error e => .error e
  | .ok (l, r, n) => match needE S 41 (.ok (r, n)) with
    | .error e => .error e
    | .ok (r', n') => .ok ((funT (nmT x) l, 0), r', n')
theorem openE_eq (S : List UInt8) (f deep : Nat) (x : Tk × Nat) (ts : Toks) (ns : Names) : openE S f deep x (.ok (ts, ns)) = (match needT S 40 ts with
      | .error e => .error e
      | .ok r1 => match rdRow S f deep r1 ns with
        | .error e => .error e
        | .ok (l, r2, ns2) => match needT S 41 r2 with
          | .error e => .error e
          | .ok r3 => .ok ((funT (nmT x) l, 0), r3, ns2)) := by
  unfold openE needE
  dsimp only
  cases needT S 40 ts with
  | error e => rfl
  | ok r1 =>
    simp only [rowE]
    cases rdRow S f deep r1 ns with
    | error e => rfl
    | ok q =>
      obtain ⟨l, r2, ns2⟩ := q
      dsimp only
      cases needT S 41 r2 <;> rfl
theorem openE_st (S : List UInt8) (f deep : Nat) (x : Tk × Nat) (st : RSt) : stOf (openE S f deep x st) = needE S 41 (stOf (rowE S f deep (needE S 40 st))) := by
  unfold openE
  cases rowE S f deep (needE S 40 st) with
  | error e => rfl
  | ok r =>
    obtain ⟨l, r, n⟩ := r
    show stOf (match needE S 41 (.ok (r, n)) with | .error e => .error e | .ok (r', n') => .ok ((funT (nmT x) l, 0), r', n')) = needE S 41 (.ok (r, n))
    cases needE S 41 (.ok (r, n)) <;> rfl
theorem openE_val {S : List UInt8} {f deep : Nat} {x : Tk × Nat} {st : RSt} {u : Tm × Nat} (h : valOf (openE S f deep x st) = some u) : ∃ l, valOf (rowE S f deep (needE S 40 st)) = some l ∧ u = (funT (nmT x) l, 0) := by
  unfold openE at h
  cases hr : rowE S f deep (needE S 40 st) with
  | error e => rw [hr] at h; cases h
  | ok r =>
    obtain ⟨l, r, n⟩ := r
    rw [hr] at h
    dsimp only at h
    cases hn : needE S 41 (.ok (r, n)) with
    | error e => rw [hn] at h; cases h
    | ok q =>
      rw [hn] at h
      injection h with h
      exact ⟨l, rfl, h.symm⟩
theorem needE_room {S : List UInt8} {m : UInt8} {f k : Nat} {x : RSt} (h : Room f k x) : Room f (k + 4) (needE S m x) := by
  intro ts ns e
  cases x with
  | error e' => cases e
  | ok x =>
    obtain ⟨t0, n0⟩ := x
    have h0 := h t0 n0 rfl
    unfold needE at e
    dsimp only at e
    cases hn : needT S m t0 with
    | error e' => rw [hn] at e; cases e
    | ok r =>
      rw [hn] at e
      injection e with e
      injection e with e1 e2
      subst e1 e2
      have h1 := (Went.need (ns := n0) hn)
      have h2 := h1.len
      exact ⟨by omega, by omega⟩
theorem TV.fn {X : Nat → Prop} {W : World} {u : Option Tm} {nm : ByteArray} {g : Option Addr} {m c : Nat} (hs : nm.size ≤ maxLen) (h : ∀ t, u = some t → ∃ l, t = funT nm l ∧ Tm.sliceP W (okN X W) l (.slice g m c)) : TV X W u 3 nm 0 (.slice g m c) := by
  refine ⟨by decide, by decide, ⟨_, _, _, rfl⟩, fun t ht => ?_⟩
  obtain ⟨l, rfl, hl⟩ := h t ht
  refine ⟨rfl, rfl, rfl, ?_⟩
  rw [funT, Tm.innP_mk]
  exact ⟨⟨by decide, hs, by decide⟩, hl⟩
theorem sliceP_grow {X : Nat → Prop} {W W' : World} {r : Option Nat} {l : List Tm} {sv : Value} (h : Tm.sliceP W (okN X W) l sv) (hg : W.grownBy W' r) (hr : ∀ b, r = some b → X b) : Tm.sliceP W' (okN X W') l sv :=
  Tm.sliceP_same (fun t _ sv' ht => Tm.innP_same (okN_grow hg (fun _ hx => .inl hx)) (cell_grow hg hr) t sv' ht) (okN_grow hg (fun _ hx => .inl hx)) (cell_grow hg hr) h
def prefE (x : Tk × Nat) (q : Nat) : RRes Tm → RRes (Tm × Nat)
  | .error e => .error e
  | .ok (u, r, ns) => .ok ((funT (nmT x) [u], q), r, ns)
theorem prefE_st (x : Tk × Nat) (q : Nat) (r : RRes Tm) : stOf (prefE x q r) = stOf r := by cases r <;> rfl
theorem prefE_val (x : Tk × Nat) (q : Nat) (r : RRes Tm) : valOf (prefE x q r) = (valOf r).map (fun u => (funT (nmT x) [u], q)) := by cases r <;> rfl
theorem one_slice {W : World} {ok : Nat → Prop} {b : Nat} {t : Tm} {sv : Value} {T : TypeId} {fz : Nat × Nat} (h : W.heap[b]? = some (Obj.cells #[.int .i64 t.kind, .string t.name, .int .i64 t.n, sv] T fz)) (hb : ok b) (ht : Tm.innP W ok t sv) : Tm.sliceP W ok [t] (.slice (some ⟨b, 0, none⟩) 1 1) := by
  refine ⟨_, 1, rfl, by simp, by simp, .inr ⟨b, 0, rfl, hb, Tm.rowP_of_cells [t] [.int .i64 t.kind, .string t.name, .int .i64 t.n, sv] 0 ⟨_, _, rfl, ht, rfl⟩ fun j v hj => ?_⟩⟩
  simp only [World.cell?, h, Nat.zero_add]
  simpa using hj
theorem nm_pref {X : Nat → Prop} {W : World} {rb : Nat} {s : ByteArray} {L : Toks} {lv : Value} {x : Tk × Nat} {r : RRes Tm} {k : Int} {nm : ByteArray} {n : Int} {sv : Value} {q : Nat} {U : World} (hX : X rb) (hlt : rb < W.heap.size) (_hlt2 : W.heap.size + 1 < U.heap.size) (hst : St (X2 X W.heap.size) U rb s L lv (stOf r)) (hgr : W.grownBy U (some rb)) (htv : TV (X2 X W.heap.size) U (valOf r) k nm n sv) (hq : q ≤ 1200) (hnx : (nmT x).size ≤ maxLen) :
    NamePostR X W rb s L lv (prefE x q r) (.returned (.tuple #[.agg #[.int .i64 3, .string (nmT x), .int .i64 0, .slice (some ⟨U.heap.size, 0, none⟩) 1 1], .int .i64 (q : Nat)])) ((set4 U (W.heap.size + 1) 3 (nmT x) 0 (.slice (some ⟨U.heap.size, 0, none⟩) 1 1)).alloc (.cells #[.int .i64 k, .string nm, .int .i64 n, sv] 33)) := by
  obtain ⟨U4, hU4⟩ : ∃ U4, set4 U (W.heap.size + 1) 3 (nmT x) 0 (.slice (some ⟨U.heap.size, 0, none⟩) 1 1) = U4 := ⟨_, rfl⟩
  have hg : U.grownBy U4 (some (W.heap.size + 1)) := by rw [← hU4]; exact set4_grown _ _ _ _ _ _
  have hz : U4.heap.size = U.heap.size := by rw [← hU4]; simp [set4, World.setCell]
  rw [hU4]
  have hb : Below U4.heap.size U4 (U4.alloc (.cells #[.int .i64 k, .string nm, .int .i64 n, sv] 33)) := (Below.refl _ _).alloc (Nat.le_refl _) _
  have hnew := newBlk U4 (.cells #[.int .i64 k, .string nm, .int .i64 n, sv] 33) (n := U.heap.size) hz.symm
  obtain ⟨U6, hU6⟩ : ∃ U6, U4.alloc (.cells #[.int .i64 k, .string nm, .int .i64 n, sv] 33) = U6 := ⟨_, rfl⟩
  rw [hU6] at hb hnew ⊢
  have htv1 := (htv.grown (.inr (.inr rfl)) hg).ext (X' := X2 X W.heap.size) hb (fun _ hx => .inl hx)
  have hst1 := (hst.other (tb := W.heap.size + 1) (.inr (.inr rfl)) (by omega) hg).next hb
  refine ⟨3, nmT x, 0, _, 1, 1, q, rfl, hq, grown_trans (grown_trans hgr hg (fun b e => .inr (by injection e; omega))) (r' := some rb) ⟨hb.os, hb.tape, hb.output, hb.size, fun q hq _ => hb.block q hq⟩ (fun _ e => .inl e), ?_, TV.fn hnx fun t ht => ?_, fun u hu => ?_⟩
  · rw [prefE_st]
    exact hst1.less (fun b hx => .inl hx) hX
  · rw [prefE_val, Option.map_map] at ht
    obtain ⟨u, hu, rfl⟩ := Option.map_eq_some_iff.1 ht
    obtain ⟨rfl, rfl, rfl, h4⟩ := htv1.2.2.2 u hu
    refine ⟨[u], rfl, one_slice hnew ⟨fun hx => ?_, (Array.getElem?_eq_some_iff.1 hnew).1⟩ ?_⟩
    · have := hst.old _ (.inl hx)
      omega
    · exact Tm.innP_same (fun b hb' => ⟨fun hx => hb'.1 (.inl hx), hb'.2⟩) (fun _ _ _ _ h => h) u sv h4
  · rw [prefE_val] at hu
    obtain ⟨t, ht, rfl⟩ := Option.map_eq_some_iff.1 hu
    rfl
/-- A term without arguments. -/
theorem TV.atom {X : Nat → Prop} {W : World} (t : Tm) (ha : t.args = []) (h1 : (Lit.int .i64 t.kind).wf = true) (h2 : (Lit.int .i64 t.n).wf = true) (h3 : t.name.size ≤ maxLen) : TV X W (some t) t.kind t.name t.n (.slice none 0 0) := by
  refine ⟨h1, h2, ⟨_, _, _, rfl⟩, fun u hu => ?_⟩
  obtain rfl : t = u := by simpa using hu
  refine ⟨rfl, rfl, rfl, ?_⟩
  obtain ⟨k, nm, n, l⟩ := t
  obtain rfl : l = [] := ha
  rw [Tm.innP_mk]
  exact ⟨⟨h1, h3, h2⟩, none, 0, rfl, by simp, by simp, .inl rfl⟩
set_option maxRecDepth 100000 in
set_option maxHeartbeats 8000000 in
theorem name_any (f : Nat) (IH : ∀ f', f' < f → TermC f' ∧ RowC f') : NameC f := by
  intro X W rb s L lv a ns ha p deep hS hrd hk hf hns hp hdeep
  obtain ⟨x, hx⟩ : ∃ x, L[a] = x := ⟨_, rfl⟩
  rw [hx] at hk ⊢
  obtain ⟨f, rfl⟩ : ∃ q, f = q + 1 := ⟨f - 1, by omega⟩
  obtain ⟨R, hR⟩ : ∃ R, rdName (bs s) (f + 1) x p deep (L.drop (a + 1)) ns = R := ⟨_, rfl⟩
  rw [hR]
  have hlt := hrd.lt
  have hle := hrd.le
  obtain ⟨tg, tcap, rfl, _⟩ := id hrd.toks
  obtain ⟨nv, pl, hblk, hnsm⟩ := hrd.cells
  obtain ⟨⟨c0, c1, c2, c3, c4, c5⟩, f0, f1, f2, f3, f4, f5⟩ := row6 hblk
  have hlen := hS.len
  have jw1 : IntKind.i64.wrap ((a : Int) + 1) = (a : Int) + 1 := by rw [IntKind.wrap_i64]; omega
  have HIH := Lib.hid (IH f (by omega))
  have HS := Lib.hid hS
  have HR := Lib.hid hR
  have HNB := Lib.hid (NmB.start x hrd ha)
  have HXX := Lib.hid hx
  have HK := Lib.hid hk
  have HXB := Lib.hid hrd.own
  clear IH hS hR hrd hblk hnsm hx hk
  go_enter Tryz.func38, Tryz.ntmps38
  go_upto_region 2 with fail
  obtain ⟨V, hV⟩ : ∃ V, (((W.setCell ⟨rb, 2, none⟩ (.int .i64 ((a : Int) + 1))).alloc (.cells #[.int .i64 (x.1.kind : Nat), .string ⟨x.1.text.toArray⟩, .int .i64 (x.1.n : Nat), .int .i64 (x.2 : Nat), .bool x.1.opn] 75)).alloc (.cells #[.int .i64 0, .string ⟨#[]⟩, .int .i64 0, .slice none 0 0] 33)) = V := ⟨_, rfl⟩
  rw [hV] at HNB ⊢
  clear hV c0 c1 c2 c3 c4 c5 f0 f1 f2 f3 f4 f5
  obtain ⟨nv, pl, hblk, hnsm⟩ := HNB.out.rd.cells
  obtain ⟨⟨c0, c1, c2, c3, c4, c5⟩, f0, f1, f2, f3, f4, f5⟩ := row6 hblk
  have hrbV := HNB.out.rd.lt
  clear hblk hnsm
  go_quiet (fail)
  obtain ⟨V2, hV⟩ : ∃ V2, V.drewN nq = V2 := ⟨_, rfl⟩
  replace HNB := Lib.hid (HNB.out.dn nq)
  rw [hV] at HNB ⊢
  clear hV c0 c1 c2 c3 c4 c5 f0 f1 f2 f3 f4 f5 hrbV
  go_upto_if 35 with fail
  obtain ⟨y, hy⟩ : ∃ y, (L.drop (a + 1)).headD zeroTk = y := ⟨_, rfl⟩
  have HY := Lib.hid hy
  clear hy
  go_cut [10] from 34 to 45 (fun _ wx => Hid (NmSt X W rb s L (.slice tg L.length tcap) (a + 1) ns x y V2.heap.size wx))
  case first =>
    by_cases haa : a + 1 < L.length
    · have hbi : decide ((a : Int) + 1 < (L.length : Int)) = true := by rw [decide_eq_true_eq]; omega
      obtain ⟨b, off, cap', e1, hb, x0, x1, x2, x3, x4⟩ := toksP_at HNB.out.rd.toks (a + 1) haa
      injection e1 with e1 _ e3
      subst e1 e3
      have hyx : L[a + 1] = y := by
        rw [← HY.out, List.drop_eq_getElem_cons haa]
        rfl
      rw [hyx] at x0 x1 x2 x3 x4
      obtain ⟨nv, pl, hblk, hnsm⟩ := HNB.out.rd.cells
      obtain ⟨⟨c0, c1, c2, c3, c4, c5⟩, f0, f1, f2, f3, f4, f5⟩ := row6 hblk
      have hrbV := HNB.out.rd.lt
      have hb2 : b < V2.heap.size := hb.2
      have j0 : (0 : Int) ≤ (a : Int) + 1 := by omega
      have j1 : (a : Int) + 1 < (L.length : Int) := by omega
      have j2 : ((a : Int) + 1).toNat = a + 1 := by omega
      clear hblk hnsm hb hyx
      go_wp2_with fail
      go_region
      go_wp2_with fail
      go_meet
      refine Lib.hid ⟨HNB.out.next (((Below.refl _ _).alloc (Nat.le_refl _) _).drew), newBlk V2 _ _ rfl, ?_⟩
      have := HNB.out.lt
      omega
    · have hbi : decide ((a : Int) + 1 < (L.length : Int)) = false := by rw [decide_eq_false_iff_not]; omega
      have hyx : y = zeroTk := by
        rw [← HY.out, List.drop_eq_nil_of_le (by omega)]
        rfl
      subst hyx
      go_wp2_with fail
      go_meet
      refine Lib.hid ⟨HNB.out.next ((Below.refl _ _).alloc (Nat.le_refl _) _), newBlk V2 _ _ rfl, ?_⟩
      have := HNB.out.lt
      omega
  case rest =>
    have hst := hcut.out
    have HST := Lib.hid hst
    clear hst hcut
    go_upto_region 6 with fail
    have hx2 := (HS.out.tok x (by rw [← HXX.out]; exact List.getElem_mem _)).2.2.1
    have hnum : numAt (x.2 + 1) (L.drop (a + 1)) = decide (y.1.kind = 3 ∧ y.2 = x.2 + 1) := by
      rw [← HY.out]
      cases L.drop (a + 1) with
      | nil => rfl
      | cons z r => rfl
    have hsb : (bs s)[x.2]? = some s[x.2] := by rw [List.getElem?_eq_getElem (by rw [bs_length]; exact hx2), bs_get]
    obtain ⟨B, hB⟩ : ∃ B, decide (x.1.text = [45] ∧ (bs s)[x.2]? = some 45 ∧ numAt (x.2 + 1) (L.drop (a + 1)) = true) = B := ⟨_, rfl⟩
    have HB := Lib.hid hB
    have hBI : B = true ↔ x.1.text = [45] ∧ s[x.2] = 45 ∧ y.1.kind = 3 ∧ y.2 = x.2 + 1 := by
      rw [← hB, decide_eq_true_eq, hnum, hsb, decide_eq_true_eq, Option.some.injEq]
    have HBI := Lib.hid hBI
    clear hnum hsb hB hBI
    have hsz := HS.out.size
    go_cut [71] from 46 to 71 (fun t wx => t = .bool B ∧ Hid (NmSt X W rb s L (.slice tg L.length tcap) (a + 1) ns x y V2.heap.size wx))
    case first =>
      have hs1 : (⟨x.1.text.toArray⟩ : ByteArray).toList = x.1.text := by rw [bs_toList]; simp [bs]
      obtain ⟨⟨x0, x1, x2, x3, x4⟩, -⟩ := row5t HST.out.b.bx
      obtain ⟨⟨y0, y1, y2, y3, y4⟩, -⟩ := row5t HST.out.nx
      obtain ⟨nv, pl, hblk, hnsm⟩ := HST.out.b.rd.cells
      obtain ⟨⟨c0, c1, c2, c3, c4, c5⟩, f0, f1, f2, f3, f4, f5⟩ := row6 hblk
      clear hblk hnsm
      by_cases t1 : x.1.text = [45]
      · have q1 : (x.1.text == [45]) = true := by rw [t1]; rfl
        by_cases t2 : s[x.2] = 45
        · have q2 : ((s[x.2].toNat : Int) == 45) = true := by rw [t2]; rfl
          by_cases t3 : y.1.kind = 3
          · have q3 : ((y.1.kind : Int) == 3) = true := by rw [t3]; rfl
            by_cases t4 : y.2 = x.2 + 1
            · have q4 : ((y.2 : Int) == (x.2 : Int) + 1) = true := by rw [t4]; simp
              obtain rfl : true = B := (HBI.out.2 ⟨t1, t2, t3, t4⟩).symm
              clear t1 t2 t3 t4
              go_wp2_with fail
              go_quiet (fail)
              go_wp2_with fail
              go_meet
              exact ⟨rfl, Lib.hid (HST.out.dn nq)⟩
            · have q4 : ((y.2 : Int) == (x.2 : Int) + 1) = false := by rw [beq_eq_false_iff_ne]; omega
              obtain rfl : false = B := by
                cases B with
                | false => rfl
                | true => exact absurd (HBI.out.1 rfl).2.2.2 t4
              clear t1 t2 t3 t4
              go_wp2_with fail
              go_quiet (fail)
              go_wp2_with fail
              go_meet
              exact ⟨rfl, Lib.hid (HST.out.dn nq)⟩
          · have q3 : ((y.1.kind : Int) == 3) = false := by rw [beq_eq_false_iff_ne]; omega
            obtain rfl : false = B := by
              cases B with
              | false => rfl
              | true => exact absurd (HBI.out.1 rfl).2.2.1 t3
            clear t1 t2 t3
            go_wp2_with fail
            go_quiet (fail)
            go_wp2_with fail
            go_meet
            exact ⟨rfl, Lib.hid (HST.out.dn nq)⟩
        · have q2 : ((s[x.2].toNat : Int) == 45) = false := by
            rw [beq_eq_false_iff_ne]
            intro h
            exact t2 (UInt8.toNat_inj.1 (show s[x.2].toNat = 45 by omega))
          obtain rfl : false = B := by
            cases B with
            | false => rfl
            | true => exact absurd (HBI.out.1 rfl).2.1 t2
          clear t1 t2
          go_wp2_with fail
          go_quiet (fail)
          go_wp2_with fail
          go_meet
          exact ⟨rfl, Lib.hid (HST.out.dn nq)⟩
      · have q1 : (x.1.text == [45]) = false := by rw [beq_eq_false_iff_ne]; exact t1
        obtain rfl : false = B := by
          cases B with
          | false => rfl
          | true => exact absurd (HBI.out.1 rfl).1 t1
        clear t1
        go_wp2_with fail
        go_quiet (fail)
        go_wp2_with fail
        go_meet
        exact ⟨rfl, Lib.hid (HST.out.dn nq)⟩
    case rest =>
      obtain ⟨rfl, hw⟩ := hcut
      replace HST := Lib.hid hw.out
      clear hw
      cases B with
      | true =>
        obtain ⟨g1, g2, g3, g4⟩ := HBI.out.1 rfl
        have haa : a + 1 < L.length := by
          by_cases haa : a + 1 < L.length
          · exact haa
          · rw [← HY.out, List.drop_eq_nil_of_le (by omega)] at g3
            cases g3
        have hyx : L[a + 1] = y := by
          rw [← HY.out, List.drop_eq_getElem_cons haa]
          rfl
        have hyn := (HS.out.tok y (by rw [← hyx]; exact List.getElem_mem _)).2.1
        have hRe : R = .ok ((numT (-(y.1.n : Int)), 0), L.drop (a + 2), ns) := by
          have h0 : L.drop (a + 1) = y :: L.drop (a + 2) := by rw [List.drop_eq_getElem_cons haa, hyx]
          rw [← HR.out, rdName.eq_def]
          dsimp only
          rw [if_pos (of_decide_eq_true HB.out), h0]
          rfl
        obtain ⟨⟨y0, y1, y2, y3, y4⟩, -⟩ := row5t HST.out.nx
        obtain ⟨nv, pl, hblk, hnsm⟩ := HST.out.b.rd.cells
        obtain ⟨⟨c0, c1, c2, c3, c4, c5⟩, f0, f1, f2, f3, f4, f5⟩ := row6 hblk
        clear hblk hnsm hyx g1 g2 g3 g4
        subst hRe
        have jw2 : IntKind.i64.wrap ((a : Int) + 1 + 1) = (a : Int) + 1 + 1 := by rw [IntKind.wrap_i64]; omega
        have jw3 : IntKind.i64.wrap (-(y.1.n : Int)) = -(y.1.n : Int) := by rw [IntKind.wrap_i64]; omega
        go_upto_region 8 with fail
        have hst2 : NmSt X W rb s L _ (a + 2) ns x y V2.heap.size (wc.setCell ⟨rb, 2, none⟩ (.int .i64 ((a : Int) + 1 + 1))) := HST.out.step (a' := a + 2) hlt (by omega)
        obtain ⟨U, hU⟩ : ∃ U, wc.setCell ⟨rb, 2, none⟩ (.int .i64 ((a : Int) + 1 + 1)) = U := ⟨_, rfl⟩
        rw [hU] at hst2 ⊢
        replace HST := Lib.hid hst2
        clear hU hst2 y0 y1 y2 y3 y4 c0 c1 c2 c3 c4 c5 f0 f1 f2 f3 f4 f5
        obtain ⟨⟨y0, y1, y2, y3, y4⟩, -⟩ := row5t HST.out.nx
        obtain ⟨⟨r0, r1, r2, r3⟩, rf0, rf1, rf2, rf3⟩ := row4 HST.out.b.rs
        have HRS := Lib.hid HST.out.b.rs
        go_wp2_with fail
        have HF := Lib.hid (nm_fin (y := .ok ((numT (-(y.1.n : Int)), 0), L.drop (a + 2), ns)) (k := 2) (nm := ⟨#[]⟩) (n := -(y.1.n : Int)) (g := none) (m := 0) (c := 0) (q := 0) HXB.out hlt (St.of HST.out.b.rd) HST.out.b.gr (TV.atom (numT (-(y.1.n : Int))) rfl (wf64 (show (-9223372036854775808 : Int) ≤ 2 by omega) (show (2 : Int) ≤ 9223372036854775807 by omega)) (wf64 (show -9223372036854775808 ≤ -(y.1.n : Int) by omega) (show -(y.1.n : Int) ≤ 9223372036854775807 by omega)) (by show (0 : Nat) ≤ maxLen; omega)) (by omega) (fun u hu => by injection hu with hu; rw [← hu]))
        have hz := set4_blk HRS.out (2) (⟨#[]⟩) (-(y.1.n : Int)) (.slice none 0 0)
        change bodyPost _ _ _ _ _ (set4 U (W.heap.size + 1) (2) (⟨#[]⟩) (-(y.1.n : Int)) (.slice none 0 0))
        obtain ⟨V', hV'⟩ : ∃ V', set4 U (W.heap.size + 1) (2) (⟨#[]⟩) (-(y.1.n : Int)) (.slice none 0 0) = V' := ⟨_, rfl⟩
        rw [hV'] at HF hz ⊢
        obtain ⟨⟨z0, z1, z2, z3⟩, zf0, zf1, zf2, zf3⟩ := row4 hz
        clear hV' hz r0 r1 r2 r3 rf0 rf1 rf2 rf3 zf0 zf1 zf2 zf3
        refine bodyPost_ret (v := .tuple #[.agg #[.int .i64 (2), .string (⟨#[]⟩), .int .i64 (-(y.1.n : Int)), .slice none 0 0], .int .i64 (0)]) (by simp [results, Tryz.results38, go_sem, z0, z1, z2, z3]) rfl ?_
        exact HF.out
      | false =>
        have hnb : ¬ (x.1.text = [45] ∧ (bs s)[x.2]? = some 45 ∧ numAt (x.2 + 1) (L.drop (a + 1)) = true) := of_decide_eq_false HB.out
        obtain ⟨⟨x0, x1, x2, x3, x4⟩, -⟩ := row5t HST.out.b.bx
        obtain ⟨⟨r0, r1, r2, r3⟩, rf0, rf1, rf2, rf3⟩ := row4 HST.out.b.rs
        obtain ⟨op, hop⟩ : ∃ op, x.1.opn = op := ⟨_, rfl⟩
        rw [hop] at x4
        cases op with
        | true =>
          have hRe : R = openE (bs s) f deep x (.ok (L.drop (a + 1), ns)) := by
            rw [← HR.out, rdName.eq_def]
            dsimp only
            rw [if_neg hnb, if_pos hop]
            exact (openE_eq _ _ _ _ _ _).symm
          subst hRe
          have hroom : Room f 4 (needE (bs s) 40 (.ok (L.drop (a + 1), ns))) := needE_room (k := 0) (fun ts ns' e => by
            injection e with e
            injection e with e1 e2
            subst e1 e2
            rw [List.length_drop]
            exact ⟨by omega, by omega⟩)
          have HN1 := Lib.hid (need_c wc rb s L (.slice tg L.length tcap) (.ok (L.drop (a + 1), ns)) 40 HS.out (St.of HST.out.b.rd))
          have HROOM := Lib.hid hroom
          have HRW := Lib.hid HIH.out.2
          clear hop hnb hroom
          go_wp2_with fail
          with_reducible refine (HN1.out).mono ?_
          rintro e W1 ⟨rfl, hg1, hst1⟩
          have HR1 := Lib.hid (HRW.out (X2 X W.heap.size) W1 rb s L _ _ deep HS.out hst1 HROOM.out hdeep)
          have HG1 := Lib.hid hg1
          clear hg1 hst1
          go_wp2_with fail
          with_reducible refine (HR1.out).mono ?_
          rintro e W2 ⟨m, sv, rfl, hg2, hst2, hm1, hm2, hrow, hl⟩
          have HN2 := Lib.hid (need_c W2 rb s L (.slice tg L.length tcap) _ 41 HS.out hst2)
          have HG2 := Lib.hid (grown_trans HG1.out hg2 (fun _ e => .inl e))
          have HL2 := Lib.hid hl
          obtain ⟨lb, loff, lc, rfl, -⟩ := hrow
          clear hg2 hst2 hm1 hm2 hl
          go_wp2_with fail
          with_reducible refine (HN2.out).mono ?_
          rintro e U ⟨rfl, hg3, hst3⟩
          have HG3 := Lib.hid (grown_trans HG2.out hg3 (fun _ e => .inl e))
          have HGR3 := Lib.hid hg3
          have HST3 := Lib.hid hst3
          have hbl := HST.out.b.lt
          have hbx := (HG3.out.block _ (by omega) (fun e => by injection e; omega)).trans HST.out.b.bx
          have hrs := (HG3.out.block _ hbl (fun e => by injection e; omega)).trans HST.out.b.rs
          have HRS := Lib.hid hrs
          clear hg3 hst3 x0 x1 x2 x3 x4 r0 r1 r2 r3 rf0 rf1 rf2 rf3
          obtain ⟨⟨x0, x1, x2, x3, x4⟩, -⟩ := row5t hbx
          obtain ⟨⟨r0, r1, r2, r3⟩, rf0, rf1, rf2, rf3⟩ := row4 hrs
          clear hbx hrs
          go_wp2_with fail
          have hnx : (⟨x.1.text.toArray⟩ : ByteArray).size ≤ maxLen := by
            have h0 := (HS.out.tok x (by rw [← HXX.out]; exact List.getElem_mem _)).1
            show x.1.text.toArray.size ≤ maxLen
            simp only [maxLen, List.size_toArray]
            omega
          have HF := Lib.hid (nm_fin (y := openE (bs s) f deep x (.ok (L.drop (a + 1), ns))) (k := 3) (nm := ⟨x.1.text.toArray⟩) (n := 0) (g := some ⟨lb, loff, none⟩) (m := m) (c := lc) (q := 0) HXB.out hlt (by rw [openE_st]; exact HST3.out) (grown_trans HST.out.b.gr HG3.out (fun _ e => .inl e)) (TV.fn hnx (fun t ht => by
            obtain ⟨u, hu, rfl⟩ := Option.map_eq_some_iff.1 ht
            obtain ⟨l, h1, rfl⟩ := openE_val hu
            exact ⟨l, rfl, sliceP_grow (HL2.out l h1).2 HGR3.out (fun b e => by cases e; exact .inl HXB.out)⟩)) (by omega) (fun u hu => by
            obtain ⟨l, h1, rfl⟩ := openE_val hu
            rfl))
          clear hnx
          have hz := set4_blk HRS.out (3) (⟨x.1.text.toArray⟩) (0) (.slice (some ⟨lb, loff, none⟩) m lc)
          change bodyPost _ _ _ _ _ (set4 U (W.heap.size + 1) (3) (⟨x.1.text.toArray⟩) (0) (.slice (some ⟨lb, loff, none⟩) m lc))
          obtain ⟨V', hV'⟩ : ∃ V', set4 U (W.heap.size + 1) (3) (⟨x.1.text.toArray⟩) (0) (.slice (some ⟨lb, loff, none⟩) m lc) = V' := ⟨_, rfl⟩
          rw [hV'] at HF hz ⊢
          obtain ⟨⟨z0, z1, z2, z3⟩, zf0, zf1, zf2, zf3⟩ := row4 hz
          clear hV' hz r0 r1 r2 r3 rf0 rf1 rf2 rf3 zf0 zf1 zf2 zf3
          refine bodyPost_ret (v := .tuple #[.agg #[.int .i64 (3), .string (⟨x.1.text.toArray⟩), .int .i64 (0), .slice (some ⟨lb, loff, none⟩) m lc], .int .i64 (0)]) (by simp [results, Tryz.results38, go_sem, z0, z1, z2, z3]) rfl ?_
          exact HF.out
        | false =>
          have hRe : R = (if prefP x.1.text = 0 ∨ begT (L.drop (a + 1)) = false then .ok ((funT (nmT x) [], 0), L.drop (a + 1), ns) else if p < prefP x.1.text then .error (2, x.2) else match rdTerm (bs s) f (prefP x.1.text) (deep + 1) (L.drop (a + 1)) ns with | .error e => .error e | .ok (t, r', ns') => .ok ((funT (nmT x) [t], prefP x.1.text), r', ns')) := by
            rw [← HR.out, rdName.eq_def]
            dsimp only
            rw [if_neg hnb, if_neg (by rw [hop]; simp)]
            by_cases h1 : prefP x.1.text = 0 ∨ begT (L.drop (a + 1)) = false
            · rw [if_pos h1, if_pos h1]
            · rw [if_neg h1, if_neg h1]
              by_cases h2 : p < prefP x.1.text
              · rw [if_pos h2, if_pos h2]
              · rw [if_neg h2, if_neg h2]
                cases rdTerm (bs s) f (prefP x.1.text) (deep + 1) (L.drop (a + 1)) ns <;> rfl
          have HRE := Lib.hid hRe
          clear hRe hop hnb
          go_upto_if 98 with fail
          obtain ⟨b9, hb9⟩ : ∃ b9, (x.1.text == [45]) = b9 := ⟨_, rfl⟩
          rw [hb9]
          have HB9 := Lib.hid hb9
          clear hb9
          go_cut [13] (fun t wx => t = .int .i64 (((if x.1.text = [45] then 200 else 0) : Nat) : Int) ∧ Hid (NmSt X W rb s L (.slice tg L.length tcap) (a + 1) ns x y V2.heap.size wx))
          case first =>
            cases b9 with
            | true =>
              go_wp2_with fail
              go_meet
              exact ⟨by rw [if_pos (by simpa using HB9.out)]; rfl, HST⟩
            | false =>
              go_wp2_with fail
              go_meet
              exact ⟨by rw [if_neg (by simpa using HB9.out)]; rfl, HST⟩
          case rest =>
            obtain ⟨rfl, hw⟩ := hcut
            replace HST := Lib.hid hw.out
            clear hw x0 x1 x2 x3 x4 r0 r1 r2 r3 rf0 rf1 rf2 rf3
            obtain ⟨⟨x0, x1, x2, x3, x4⟩, -⟩ := row5t HST.out.b.bx
            obtain ⟨q0, hq0⟩ : ∃ q0 : Nat, (if x.1.text = [45] then 200 else 0) = q0 := ⟨_, rfl⟩
            rw [hq0]
            have HQ0 := Lib.hid hq0
            clear hq0
            go_upto_if 101 with fail
            obtain ⟨b10, hb10⟩ : ∃ b10, (x.1.text == [92, 43]) = b10 := ⟨_, rfl⟩
            rw [hb10]
            have HB10 := Lib.hid hb10
            clear hb10
            go_cut [13] (fun t wx => t = .int .i64 ((prefP x.1.text : Nat) : Int) ∧ Hid (NmSt X W rb s L (.slice tg L.length tcap) (a + 1) ns x y V2.heap.size wx))
            case first =>
              cases b10 with
              | true =>
                go_wp2_with fail
                go_meet
                exact ⟨by rw [show x.1.text = [92, 43] by simpa using HB10.out]; rfl, HST⟩
              | false =>
                go_wp2_with fail
                go_meet
                exact ⟨by rw [← HQ0.out]; unfold prefP; rw [if_neg (show ¬ x.1.text = [92, 43] by simpa using HB10.out)], HST⟩
            case rest =>
              obtain ⟨rfl, hw⟩ := hcut
              replace HST := Lib.hid hw.out
              clear hw x0 x1 x2 x3 x4
              obtain ⟨⟨y0, y1, y2, y3, y4⟩, -⟩ := row5t HST.out.nx
              obtain ⟨Q, LE, RI, hi⟩ : ∃ Q LE RI, infixP y.1.text = (Q, LE, RI) := ⟨_, _, _, rfl⟩
              have HI := infix_any y.1.text wc
              unfold InfPost at HI
              rw [hi] at HI
              replace HI := Lib.hid HI
              have HQ := Lib.hid hi
              clear hi
              go_upto_region 20 with (go_at_call 67; (with_reducible refine (HI.out).mono ?_); rintro e U1 ⟨rfl, hb⟩; replace HST := Lib.hid (HST.out.next hb); clear hb)
              obtain ⟨⟨y0, y1, y2, y3, y4⟩, -⟩ := row5t HST.out.nx
              obtain ⟨B2, hB2⟩ : ∃ B2, begT (L.drop (a + 1)) = B2 := ⟨_, rfl⟩
              have hBE : B2 = true ↔ y.1.kind = 2 ∨ y.1.kind = 3 ∨ (y.1.kind = 1 ∧ Q = 0) ∨ (y.1.kind = 4 ∧ (y.1.text = [40] ∨ y.1.text = [91])) := by
                rw [← hB2, show Q = (infixP y.1.text).1 by rw [HQ.out], ← HY.out]
                cases L.drop (a + 1) with
                | nil => simp [begT, zeroTk]
                | cons z r => simp [begT]
              have HBE := Lib.hid hBE
              have HB2 := Lib.hid hB2
              clear hBE hB2
              go_cut [17] (fun t wx => t = .bool B2 ∧ Hid (NmSt X W rb s L (.slice tg L.length tcap) (a + 1) ns x y V2.heap.size wx))
              case first =>
                by_cases k2 : y.1.kind = 2
                · have e2 : ((y.1.kind : Int) == 2) = true := by rw [beq_iff_eq]; omega
                  obtain rfl : true = B2 := (HBE.out.2 (.inl k2)).symm
                  clear k2
                  go_wp2_with fail
                  go_meet
                  exact ⟨rfl, HST⟩
                · by_cases k3 : y.1.kind = 3
                  · have e2 : ((y.1.kind : Int) == 2) = false := by rw [beq_eq_false_iff_ne]; omega
                    have e3 : ((y.1.kind : Int) == 3) = true := by rw [beq_iff_eq]; omega
                    obtain rfl : true = B2 := (HBE.out.2 (.inr (.inl k3))).symm
                    clear k2 k3
                    go_wp2_with fail
                    go_meet
                    exact ⟨rfl, HST⟩
                  · by_cases k1 : y.1.kind = 1
                    · by_cases kq : Q = 0
                      · have e2 : ((y.1.kind : Int) == 2) = false := by rw [beq_eq_false_iff_ne]; omega
                        have e3 : ((y.1.kind : Int) == 3) = false := by rw [beq_eq_false_iff_ne]; omega
                        have e1 : ((y.1.kind : Int) == 1) = true := by rw [beq_iff_eq]; omega
                        have e0 : ((Q : Int) == 0) = true := by rw [beq_iff_eq]; omega
                        obtain rfl : true = B2 := (HBE.out.2 (.inr (.inr (.inl ⟨k1, kq⟩)))).symm
                        clear k2 k3 k1 kq
                        go_wp2_with fail
                        go_meet
                        exact ⟨rfl, HST⟩
                      · have e2 : ((y.1.kind : Int) == 2) = false := by rw [beq_eq_false_iff_ne]; omega
                        have e3 : ((y.1.kind : Int) == 3) = false := by rw [beq_eq_false_iff_ne]; omega
                        have e1 : ((y.1.kind : Int) == 1) = true := by rw [beq_iff_eq]; omega
                        have e4 : ((y.1.kind : Int) == 4) = false := by rw [beq_eq_false_iff_ne]; omega
                        have e0 : ((Q : Int) == 0) = false := by rw [beq_eq_false_iff_ne]; omega
                        obtain rfl : false = B2 := by
                          cases B2 with
                          | false => rfl
                          | true => rcases HBE.out.1 rfl with h | h | h | h
                                    · exact absurd h (by omega)
                                    · exact absurd h (by omega)
                                    · exact absurd h.2 kq
                                    · exact absurd h.1 (by omega)
                        clear k2 k3 k1 kq
                        go_wp2_with fail
                        go_meet
                        exact ⟨rfl, HST⟩
                    · by_cases k4 : y.1.kind = 4
                      · by_cases t0 : y.1.text = [40]
                        · have e2 : ((y.1.kind : Int) == 2) = false := by rw [beq_eq_false_iff_ne]; omega
                          have e3 : ((y.1.kind : Int) == 3) = false := by rw [beq_eq_false_iff_ne]; omega
                          have e1 : ((y.1.kind : Int) == 1) = false := by rw [beq_eq_false_iff_ne]; omega
                          have e4 : ((y.1.kind : Int) == 4) = true := by rw [beq_iff_eq]; omega
                          have f0 : (y.1.text == [40]) = true := by rw [t0]; rfl
                          obtain rfl : true = B2 := (HBE.out.2 (.inr (.inr (.inr ⟨k4, .inl t0⟩)))).symm
                          clear k2 k3 k1 k4 t0
                          go_wp2_with fail
                          go_meet
                          exact ⟨rfl, HST⟩
                        · by_cases t1 : y.1.text = [91]
                          · have e2 : ((y.1.kind : Int) == 2) = false := by rw [beq_eq_false_iff_ne]; omega
                            have e3 : ((y.1.kind : Int) == 3) = false := by rw [beq_eq_false_iff_ne]; omega
                            have e1 : ((y.1.kind : Int) == 1) = false := by rw [beq_eq_false_iff_ne]; omega
                            have e4 : ((y.1.kind : Int) == 4) = true := by rw [beq_iff_eq]; omega
                            have f0 : (y.1.text == [40]) = false := by rw [beq_eq_false_iff_ne]; exact t0
                            have f1 : (y.1.text == [91]) = true := by rw [t1]; rfl
                            obtain rfl : true = B2 := (HBE.out.2 (.inr (.inr (.inr ⟨k4, .inr t1⟩)))).symm
                            clear k2 k3 k1 k4 t0 t1
                            go_wp2_with fail
                            go_meet
                            exact ⟨rfl, HST⟩
                          · have e2 : ((y.1.kind : Int) == 2) = false := by rw [beq_eq_false_iff_ne]; omega
                            have e3 : ((y.1.kind : Int) == 3) = false := by rw [beq_eq_false_iff_ne]; omega
                            have e1 : ((y.1.kind : Int) == 1) = false := by rw [beq_eq_false_iff_ne]; omega
                            have e4 : ((y.1.kind : Int) == 4) = true := by rw [beq_iff_eq]; omega
                            have f0 : (y.1.text == [40]) = false := by rw [beq_eq_false_iff_ne]; exact t0
                            have f1 : (y.1.text == [91]) = false := by rw [beq_eq_false_iff_ne]; exact t1
                            obtain rfl : false = B2 := by
                              cases B2 with
                              | false => rfl
                              | true => rcases HBE.out.1 rfl with h | h | h | h
                                        · exact absurd h (by omega)
                                        · exact absurd h (by omega)
                                        · exact absurd h.1 k1
                                        · exact h.2.elim (fun e => absurd e t0) (fun e => absurd e t1)
                            clear k2 k3 k1 k4 t0 t1
                            go_wp2_with fail
                            go_meet
                            exact ⟨rfl, HST⟩
                      · have e2 : ((y.1.kind : Int) == 2) = false := by rw [beq_eq_false_iff_ne]; omega
                        have e3 : ((y.1.kind : Int) == 3) = false := by rw [beq_eq_false_iff_ne]; omega
                        have e1 : ((y.1.kind : Int) == 1) = false := by rw [beq_eq_false_iff_ne]; omega
                        have e4 : ((y.1.kind : Int) == 4) = false := by rw [beq_eq_false_iff_ne]; omega
                        obtain rfl : false = B2 := by
                          cases B2 with
                          | false => rfl
                          | true => rcases HBE.out.1 rfl with h | h | h | h
                                    · exact absurd h (by omega)
                                    · exact absurd h (by omega)
                                    · exact absurd h.1 k1
                                    · exact absurd h.1 k4
                        clear k2 k3 k1 k4
                        go_wp2_with fail
                        go_meet
                        exact ⟨rfl, HST⟩
              case rest =>
                obtain ⟨rfl, hw⟩ := hcut
                replace HST := Lib.hid hw.out
                clear hw y0 y1 y2 y3 y4
                obtain ⟨⟨x0, x1, x2, x3, x4⟩, -⟩ := row5t HST.out.b.bx
                obtain ⟨⟨r0, r1, r2, r3⟩, rf0, rf1, rf2, rf3⟩ := row4 HST.out.b.rs
                have HNX : Hid ((⟨x.1.text.toArray⟩ : ByteArray).size ≤ maxLen) := Lib.hid (by
                  have h0 := (HS.out.tok x (by rw [← HXX.out]; exact List.getElem_mem _)).1
                  show x.1.text.toArray.size ≤ maxLen
                  simp only [maxLen, List.size_toArray]
                  omega)
                obtain ⟨q, hq⟩ : ∃ q, prefP x.1.text = q := ⟨_, rfl⟩
                have hq2 : q ≤ 900 := by
                  rw [← hq]
                  unfold prefP
                  split
                  · omega
                  · split <;> omega
                have HQQ := Lib.hid hq
                have hre := HRE.out
                rw [hq, HB2.out] at hre
                rw [hq]
                clear hq HRE
                by_cases hq0 : q = 0
                · subst hq0
                  have hRe : R = .ok ((funT (nmT x) [], 0), L.drop (a + 1), ns) := by rw [hre, if_pos (.inl rfl)]
                  clear hre
                  have HRS := Lib.hid HST.out.b.rs
                  obtain ⟨U, hU⟩ : ∃ U, wc = U := ⟨_, rfl⟩
                  rw [hU] at HST HRS x0 x1 x2 x3 x4 r0 r1 r2 r3 rf0 rf1 rf2 rf3 ⊢
                  clear hU
                  subst hRe
                  go_wp2_with fail
                  have HF := Lib.hid (nm_fin (y := .ok ((funT (nmT x) [], 0), L.drop (a + 1), ns)) (k := 3) (nm := ⟨x.1.text.toArray⟩) (n := 0) (g := none) (m := 0) (c := 0) (q := 0) HXB.out hlt (St.of HST.out.b.rd) HST.out.b.gr (TV.atom (funT (nmT x) []) rfl (wf64 (show (-9223372036854775808 : Int) ≤ 3 by omega) (show (3 : Int) ≤ 9223372036854775807 by omega)) (wf64 (show (-9223372036854775808 : Int) ≤ 0 by omega) (show (0 : Int) ≤ 9223372036854775807 by omega)) HNX.out) (by omega) (fun u hu => by injection hu with hu; rw [← hu]))
                  have hz := set4_blk HRS.out (3) (⟨x.1.text.toArray⟩) (0) (.slice none 0 0)
                  change bodyPost _ _ _ _ _ (set4 U (W.heap.size + 1) (3) (⟨x.1.text.toArray⟩) (0) (.slice none 0 0))
                  obtain ⟨V', hV'⟩ : ∃ V', set4 U (W.heap.size + 1) (3) (⟨x.1.text.toArray⟩) (0) (.slice none 0 0) = V' := ⟨_, rfl⟩
                  rw [hV'] at HF hz ⊢
                  obtain ⟨⟨z0, z1, z2, z3⟩, zf0, zf1, zf2, zf3⟩ := row4 hz
                  clear hV' hz r0 r1 r2 r3 rf0 rf1 rf2 rf3 zf0 zf1 zf2 zf3
                  refine bodyPost_ret (v := .tuple #[.agg #[.int .i64 (3), .string (⟨x.1.text.toArray⟩), .int .i64 (0), .slice none 0 0], .int .i64 (0)]) (by simp [results, Tryz.results38, go_sem, z0, z1, z2, z3]) rfl ?_
                  exact HF.out
                · have e5 : ((q : Int) == 0) = false := by rw [beq_eq_false_iff_ne]; omega
                  cases B2 with
                  | false =>
                    have hRe : R = .ok ((funT (nmT x) [], 0), L.drop (a + 1), ns) := by rw [hre, if_pos (.inr rfl)]
                    clear hre
                    have HRS := Lib.hid HST.out.b.rs
                    obtain ⟨U, hU⟩ : ∃ U, wc = U := ⟨_, rfl⟩
                    rw [hU] at HST HRS x0 x1 x2 x3 x4 r0 r1 r2 r3 rf0 rf1 rf2 rf3 ⊢
                    clear hU
                    subst hRe
                    go_wp2_with fail
                    have HF := Lib.hid (nm_fin (y := .ok ((funT (nmT x) [], 0), L.drop (a + 1), ns)) (k := 3) (nm := ⟨x.1.text.toArray⟩) (n := 0) (g := none) (m := 0) (c := 0) (q := 0) HXB.out hlt (St.of HST.out.b.rd) HST.out.b.gr (TV.atom (funT (nmT x) []) rfl (wf64 (show (-9223372036854775808 : Int) ≤ 3 by omega) (show (3 : Int) ≤ 9223372036854775807 by omega)) (wf64 (show (-9223372036854775808 : Int) ≤ 0 by omega) (show (0 : Int) ≤ 9223372036854775807 by omega)) HNX.out) (by omega) (fun u hu => by injection hu with hu; rw [← hu]))
                    have hz := set4_blk HRS.out (3) (⟨x.1.text.toArray⟩) (0) (.slice none 0 0)
                    change bodyPost _ _ _ _ _ (set4 U (W.heap.size + 1) (3) (⟨x.1.text.toArray⟩) (0) (.slice none 0 0))
                    obtain ⟨V', hV'⟩ : ∃ V', set4 U (W.heap.size + 1) (3) (⟨x.1.text.toArray⟩) (0) (.slice none 0 0) = V' := ⟨_, rfl⟩
                    rw [hV'] at HF hz ⊢
                    obtain ⟨⟨z0, z1, z2, z3⟩, zf0, zf1, zf2, zf3⟩ := row4 hz
                    clear hV' hz r0 r1 r2 r3 rf0 rf1 rf2 rf3 zf0 zf1 zf2 zf3
                    refine bodyPost_ret (v := .tuple #[.agg #[.int .i64 (3), .string (⟨x.1.text.toArray⟩), .int .i64 (0), .slice none 0 0], .int .i64 (0)]) (by simp [results, Tryz.results38, go_sem, z0, z1, z2, z3]) rfl ?_
                    exact HF.out
                  | true =>
                    rw [if_neg (fun h => h.elim hq0 (fun h => by cases h))] at hre
                    by_cases hpq : p < q
                    · rw [if_pos hpq] at hre
                      have hRe : R = .error (2, x.2) := hre
                      subst hRe
                      clear hre
                      obtain ⟨nv, pl, hblk, hnsm⟩ := HST.out.b.rd.cells
                      obtain ⟨⟨c0, c1, c2, c3, c4, c5⟩, f0, f1, f2, f3, f4, f5⟩ := row6 hblk
                      clear hblk hnsm
                      have jw5 : IntKind.i64.wrap ((a : Int) + 1 - 1) = (a : Int) := by rw [IntKind.wrap_i64]; omega
                      go_upto_region 25 with fail
                      have hsa := HST.out.step (a' := a) hlt (by omega)
                      have HFA := Lib.hid (fail_any (X := X2 X W.heap.size) (wc.setCell ⟨rb, 2, none⟩ (.int .i64 (a : Int))) rb s L _ a ns 2 hsa.b.rd HS.out.size HS.out.len)
                      have HSA := Lib.hid hsa
                      have hpl : placeT (bs s) (L.drop a) = x.2 := by rw [List.drop_eq_getElem_cons ha, HXX.out]; rfl
                      rw [hpl] at HFA
                      clear hsa hpl c0 c1 c2 c3 c4 c5 f0 f1 f2 f3 f4 f5 r0 r1 r2 r3 rf0 rf1 rf2 rf3
                      go_upto_region 26 with (go_at_call 21; (refine (HFA.out).mono ?_); rintro e U ⟨rfl, hg, hbad⟩; have HG := Lib.hid hg; have HBAD := Lib.hid hbad; clear hg hbad)
                      have hrs := (HG.out.block _ HSA.out.b.lt (fun e => by injection e; omega)).trans HSA.out.b.rs
                      have HRS := Lib.hid hrs
                      obtain ⟨⟨r0, r1, r2, r3⟩, rf0, rf1, rf2, rf3⟩ := row4 hrs
                      clear hrs
                      go_wp2_with fail
                      have HF := Lib.hid (nm_fin (lv := .slice tg L.length tcap) (y := .error (2, x.2)) (k := 0) (nm := ⟨#[]⟩) (n := 0) (g := none) (m := 0) (c := 0) (q := 0) HXB.out hlt (show St (X2 X W.heap.size) U rb s L _ (.error (2, x.2)) from ⟨.inl HXB.out, fun b hb => Nat.lt_of_lt_of_le (HSA.out.b.rd.old b hb) HG.out.size, HBAD.out, .inl rfl⟩) (grown_trans HSA.out.b.gr HG.out (fun _ e => .inl e)) ⟨by decide, by decide, ⟨_, _, _, rfl⟩, fun t ht => by cases ht⟩ (by omega) (fun u hu => by cases hu))
                      have hz := set4_blk HRS.out (0) (⟨#[]⟩) (0) (.slice none 0 0)
                      change bodyPost _ _ _ _ _ (set4 U (W.heap.size + 1) (0) (⟨#[]⟩) (0) (.slice none 0 0))
                      obtain ⟨V', hV'⟩ : ∃ V', set4 U (W.heap.size + 1) (0) (⟨#[]⟩) (0) (.slice none 0 0) = V' := ⟨_, rfl⟩
                      rw [hV'] at HF hz ⊢
                      obtain ⟨⟨z0, z1, z2, z3⟩, zf0, zf1, zf2, zf3⟩ := row4 hz
                      clear hV' hz r0 r1 r2 r3 rf0 rf1 rf2 rf3 zf0 zf1 zf2 zf3
                      refine bodyPost_ret (v := .tuple #[.agg #[.int .i64 (0), .string (⟨#[]⟩), .int .i64 (0), .slice none 0 0], .int .i64 (0)]) (by simp [results, Tryz.results38, go_sem, z0, z1, z2, z3]) rfl ?_
                      exact HF.out
                    · rw [if_neg hpq] at hre
                      have hRe : R = prefE x q (termE (bs s) f q (deep + 1) (.ok (L.drop (a + 1), ns))) := by
                        rw [hre]
                        show _ = prefE x q (rdTerm (bs s) f q (deep + 1) (L.drop (a + 1)) ns)
                        cases rdTerm (bs s) f q (deep + 1) (L.drop (a + 1)) ns <;> rfl
                      subst hRe
                      clear hre
                      have jd : IntKind.i64.wrap ((deep : Int) + 1) = (deep : Int) + 1 := by rw [IntKind.wrap_i64]; omega
                      have hroom : Room f 3 (.ok (L.drop (a + 1), ns)) := fun ts ns' e => by
                        injection e with e
                        injection e with e1 e2
                        subst e1 e2
                        rw [List.length_drop]
                        exact ⟨by omega, by omega⟩
                      have HT : Hid (Calls Tryz.prog 20 #[.pointer (some ⟨rb, 0, none⟩), .int .i64 (q : Nat), .int .i64 ((deep : Int) + 1)] wc.drew fun e W' => TermPost (X2 X W.heap.size) wc.drew rb s L (.slice tg L.length tcap) (termE (bs s) f q (deep + 1) (.ok (L.drop (a + 1), ns))) e W') :=
                        Lib.hid (HIH.out.1 (X2 X W.heap.size) wc.drew rb s L _ (.ok (L.drop (a + 1), ns)) q (deep + 1) HS.out (show St (X2 X W.heap.size) wc.drew rb s L _ _ from (St.of HST.out.b.rd).dn 1) hroom (by omega) (by omega))
                      have HBL := Lib.hid HST.out.b.lt
                      clear hroom r0 r1 r2 r3 rf0 rf1 rf2 rf3
                      go_wp2_with fail
                      go_region_with (go_at_call 20; (with_reducible refine (HT.out).mono ?_); rintro e U ⟨k9, nm9, n9, g9, m9, c9, rfl, hg9, hst9, htv9⟩; have hbx9 := (hg9.block _ (show W.heap.size < wc.drew.heap.size from Nat.lt_of_succ_lt HBL.out) (fun e => by injection e; omega)).trans HST.out.b.bx; have hrs9 := (hg9.block _ (show W.heap.size + 1 < wc.drew.heap.size from HBL.out) (fun e => by injection e; omega)).trans HST.out.b.rs; obtain ⟨⟨l0, l1, l2, l3, l4⟩, -⟩ := row5t hbx9; obtain ⟨⟨r0, r1, r2, r3⟩, rf0, rf1, rf2, rf3⟩ := row4 hrs9; have hul : W.heap.size + 1 < U.heap.size := Nat.lt_of_lt_of_le HBL.out hg9.size; have hul0 : W.heap.size < U.heap.size := Nat.lt_of_succ_lt hul; have HRS := Lib.hid hrs9; have HG9 := Lib.hid hg9; have HST9 := Lib.hid hst9; have HTV9 := Lib.hid htv9; clear hbx9 hrs9 hg9 hst9 htv9)
                      all_goals
                        go_wp2_with fail
                        have HF := Lib.hid (nm_pref (x := x) (q := q) HXB.out hlt hul HST9.out (grown_trans HST.out.b.gr (w1 := wc) (w2 := U) ⟨HG9.out.os, HG9.out.tape, HG9.out.output, HG9.out.size, HG9.out.block⟩ (fun _ e => .inl e)) HTV9.out (by omega) HNX.out)
                        have hrs5 : ((set4 U (W.heap.size + 1) 3 (nmT x) 0 (.slice (some ⟨U.heap.size, 0, none⟩) 1 1)).alloc (.cells #[.int .i64 k9, .string nm9, .int .i64 n9, .slice g9 m9 c9] 33)).heap[W.heap.size + 1]? = some (.cells #[.int .i64 3, .string (nmT x), .int .i64 0, .slice (some ⟨U.heap.size, 0, none⟩) 1 1] 33 (0, 0)) := by
                          rw [Below.heap_alloc _ _ _ (by simp only [set4, World.setCell, Array.size_modify]; exact hul)]
                          exact set4_blk HRS.out _ _ _ _
                        change bodyPost _ _ _ _ _ ((set4 U (W.heap.size + 1) 3 (nmT x) 0 (.slice (some ⟨U.heap.size, 0, none⟩) 1 1)).alloc (.cells #[.int .i64 k9, .string nm9, .int .i64 n9, .slice g9 m9 c9] 33))
                        obtain ⟨V', hV'⟩ : ∃ V', ((set4 U (W.heap.size + 1) 3 (nmT x) 0 (.slice (some ⟨U.heap.size, 0, none⟩) 1 1)).alloc (.cells #[.int .i64 k9, .string nm9, .int .i64 n9, .slice g9 m9 c9] 33)) = V' := ⟨_, rfl⟩
                        rw [hV'] at HF hrs5 ⊢
                        obtain ⟨⟨z0, z1, z2, z3⟩, zf0, zf1, zf2, zf3⟩ := row4 hrs5
                        clear hV' hrs5 r0 r1 r2 r3 rf0 rf1 rf2 rf3 zf0 zf1 zf2 zf3 l0 l1 l2 l3 l4
                        refine bodyPost_ret (v := .tuple #[.agg #[.int .i64 3, .string (nmT x), .int .i64 0, .slice (some ⟨U.heap.size, 0, none⟩) 1 1], .int .i64 (q : Nat)]) (by simp [results, Tryz.results38, go_sem, z0, z1, z2, z3]) rfl ?_
                        exact HF.out
end Go.Proofs.YtilfglcjcmpfeaaGreatDoor
