/-
  A list as the document's Term makes it: its box, the row of its elements.
-/
import Derived.Test.YtliapkajonbndaaGreatDoorG14
namespace Go.Proofs.YtliapkajonbndaaGreatDoor
open Go.RowKit

abbrev zeroT : Obj := .cells #[.int .i64 0, .string ⟨#[]⟩, .int .i64 0, .slice none 0 0] 24
theorem findN_lt (tx : List UInt8) : ∀ (ns : Names) (i : Nat), findN tx ns = some i → i < ns.length
  | [], i, h => by cases h
  | x :: r, i, h => by
    unfold findN at h
    split at h
    · injection h with h; subst h; simp
    · obtain ⟨j, hj, rfl⟩ := Option.map_eq_some_iff.1 h
      have := findN_lt tx r j hj
      simp
      omega
theorem varN_le (ns : Names) (tx : List UInt8) : (varN ns tx).1 ≤ ns.length := by
  unfold varN
  split
  · exact Nat.le_refl _
  · split
    · next i h => exact Nat.le_of_lt (findN_lt tx ns i h)
    · exact Nat.le_refl _
def restE2 (S : List UInt8) (f p deep : Nat) : RRes (Tm × Nat) → RRes Tm
  | .error e => .error e
  | .ok ((t, q), r, ns) => rdRest S f t q p deep r ns
/-- A term in brackets. -/
def parE (S : List UInt8) (f deep : Nat) (st : RSt) : RRes Tm :=
  match termE S f 1200 (deep + 1) st with
  | .error e => .error e
  | .ok (t, r, n) => match needE S 41 (.ok (r, n)) with
    | .error e => .error e
    | .ok (r', n') => .ok (t, r', n')
theorem parE_eq (S : List UInt8) (f deep : Nat) (ts : Toks) (ns : Names) : parE S f deep (.ok (ts, ns)) = (match rdTerm S f 1200 (deep + 1) ts ns with
      | .error e => .error e
      | .ok (t, r1, ns1) => match needT S 41 r1 with
        | .error e => .error e
        | .ok r2 => .ok (t, r2, ns1)) := by
  unfold parE needE
  simp only [termE]
  cases rdTerm S f 1200 (deep + 1) ts ns with
  | error e => rfl
  | ok q =>
    obtain ⟨l, r2, ns2⟩ := q
    dsimp only
    cases needT S 41 r2 <;> rfl
theorem parE_st (S : List UInt8) (f deep : Nat) (st : RSt) : stOf (parE S f deep st) = needE S 41 (stOf (termE S f 1200 (deep + 1) st)) := by
  unfold parE
  cases termE S f 1200 (deep + 1) st with
  | error e => rfl
  | ok r =>
    obtain ⟨l, r, n⟩ := r
    show stOf (match needE S 41 (.ok (r, n)) with | .error e => (.error e : RRes Tm) | .ok (r', n') => .ok (l, r', n')) = needE S 41 (.ok (r, n))
    cases needE S 41 (.ok (r, n)) <;> rfl
theorem parE_val {S : List UInt8} {f deep : Nat} {st : RSt} {u : Tm} (h : valOf (parE S f deep st) = some u) : valOf (termE S f 1200 (deep + 1) st) = some u := by
  unfold parE at h
  cases hr : termE S f 1200 (deep + 1) st with
  | error e => rw [hr] at h; cases h
  | ok r =>
    obtain ⟨l, r, n⟩ := r
    rw [hr] at h
    dsimp only at h
    cases hn : needE S 41 (.ok (r, n)) with
    | error e => rw [hn] at h; cases h
    | ok q =>
      rw [hn] at h
      injection h with h
      subst h
      rfl
theorem TV.sub {X : Nat → Prop} {W : World} {u u' : Option Tm} {k : Int} {nm : ByteArray} {n : Int} {sv : Value} (h : TV X W u k nm n sv) (hu : ∀ t, u' = some t → u = some t) : TV X W u' k nm n sv := ⟨h.1, h.2.1, h.2.2.1, fun t ht => h.2.2.2 t (hu t ht)⟩
theorem term_room {S : List UInt8} {f p deep k : Nat} {x : RSt} (h : Room f k x) : Room f (k + 4) (stOf (termE S f p deep x)) := by
  intro ts ns e
  cases x with
  | error e' => cases e
  | ok x =>
    obtain ⟨ts0, ns0⟩ := x
    have h0 := h ts0 ns0 rfl
    cases hr : rdTerm S f p deep ts0 ns0 with
    | error e' => rw [termE, hr] at e; cases e
    | ok r =>
      obtain ⟨u, r1, n1⟩ := r
      rw [termE, hr] at e
      injection e with e
      injection e with e1 e2
      subst e1 e2
      have h1 := (rd_went S f).2.1 _ _ _ _ _ _ _ hr
      have h2 := h1.len
      have h3 := h1.nms
      exact ⟨by omega, by omega⟩
theorem Room.less {f k j : Nat} {x : RSt} (h : Room f k x) (hj : j ≤ k) : Room f j x := fun ts ns e => by
  have h0 := h ts ns e
  exact ⟨by omega, h0.2⟩
theorem par_room {S : List UInt8} {f p deep k : Nat} {m : UInt8} {x : RSt} (h : Room f k x) : Room f k (needE S m (stOf (termE S f p deep x))) := (needE_room (term_room h)).less (by omega)
theorem tm_none {X : Nat → Prop} {W : World} : TV X W none 0 ⟨#[]⟩ 0 (.slice none 0 0) := ⟨by decide, by decide, ⟨_, _, _, rfl⟩, fun t ht => by cases ht⟩
theorem grown_drew (w : World) : w.grownBy w.drew none := ⟨rfl, rfl, rfl, Nat.le_refl _, fun _ _ _ => rfl⟩
def tlS : RSt → RSt
  | .ok (ts, ns) => .ok (ts.tail, ns)
  | .error e => .error e
def nilE : RSt → RRes Tm
  | .ok (ts, ns) => .ok (funT ⟨#[91, 93]⟩ [], ts, ns)
  | .error e => .error e
/-- What a list ends in. -/
def tlE (S : List UInt8) (f deep : Nat) (st : RSt) : RRes Tm := if seeE 124 st = true then termE S f 999 (deep + 1) (tlS st) else nilE st
/-- A list. -/
def lstE (S : List UInt8) (f deep : Nat) (st : RSt) : RRes Tm :=
  match rowE S f deep st with
  | .error e => .error e
  | .ok (l, r, n) => match tlE S f deep (.ok (r, n)) with
    | .error e => .error e
    | .ok (t, r2, n2) => match needE S 93 (.ok (r2, n2)) with
      | .error e => .error e
      | .ok (r3, n3) => .ok (listT l t, r3, n3)
theorem lstE_eq (S : List UInt8) (f p deep : Nat) (ts : Toks) (ns : Names) : restE S f 0 p deep (lstE S f deep (.ok (ts, ns))) = (match rdRow S f deep ts ns with
        | .error e => .error e
        | .ok (l, r1, ns1) =>
          if seeT 124 r1 = true then
            match rdTerm S f 999 (deep + 1) r1.tail ns1 with
            | .error e => .error e
            | .ok (t, r2, ns2) => match needT S 93 r2 with
              | .error e => .error e
              | .ok r3 => rdRest S f (listT l t) 0 p deep r3 ns2
          else match needT S 93 r1 with
            | .error e => .error e
            | .ok r3 => rdRest S f (listT l (funT ⟨#[91, 93]⟩ [])) 0 p deep r3 ns1) := by
  unfold lstE
  simp only [rowE]
  cases rdRow S f deep ts ns with
  | error e => rfl
  | ok q =>
    obtain ⟨l, r1, ns1⟩ := q
    dsimp only
    unfold tlE
    simp only [seeE, tlS, nilE]
    rcases Bool.eq_false_or_eq_true (seeT 124 r1) with h | h
    · simp only [h, ↓reduceIte, termE]
      cases rdTerm S f 999 (deep + 1) r1.tail ns1 with
      | error e => rfl
      | ok q =>
        obtain ⟨t, r2, ns2⟩ := q
        simp only [needE]
        cases needT S 93 r2 <;> rfl
    · simp only [h, Bool.false_eq_true, ↓reduceIte, needE]
      cases needT S 93 r1 <;> rfl
theorem lstE_st (S : List UInt8) (f deep : Nat) (st : RSt) : stOf (lstE S f deep st) = needE S 93 (stOf (tlE S f deep (stOf (rowE S f deep st)))) := by
  unfold lstE
  cases rowE S f deep st with
  | error e => rfl
  | ok q =>
    obtain ⟨l, r1, ns1⟩ := q
    show stOf (match tlE S f deep (.ok (r1, ns1)) with
      | .error e => (.error e : RRes Tm)
      | .ok (t, r2, n2) => match needE S 93 (.ok (r2, n2)) with
        | .error e => .error e
        | .ok (r3, n3) => .ok (listT l t, r3, n3)) = needE S 93 (stOf (tlE S f deep (.ok (r1, ns1))))
    cases tlE S f deep (.ok (r1, ns1)) with
    | error e => rfl
    | ok q =>
      obtain ⟨t, r2, ns2⟩ := q
      show stOf (match needE S 93 (.ok (r2, ns2)) with | .error e => (.error e : RRes Tm) | .ok (r3, n3) => .ok (listT l t, r3, n3)) = needE S 93 (.ok (r2, ns2))
      cases needE S 93 (.ok (r2, ns2)) <;> rfl
theorem lstE_val {S : List UInt8} {f deep : Nat} {st : RSt} {u : Tm} (h : valOf (lstE S f deep st) = some u) : ∃ l t, valOf (rowE S f deep st) = some l ∧ valOf (tlE S f deep (stOf (rowE S f deep st))) = some t ∧ u = listT l t := by
  unfold lstE at h
  cases hr : rowE S f deep st with
  | error e => rw [hr] at h; cases h
  | ok q =>
    obtain ⟨l, r1, ns1⟩ := q
    rw [hr] at h
    dsimp only at h
    cases ht : tlE S f deep (.ok (r1, ns1)) with
    | error e => rw [ht] at h; cases h
    | ok q =>
      obtain ⟨t, r2, ns2⟩ := q
      rw [ht] at h
      dsimp only at h
      cases hn : needE S 93 (.ok (r2, ns2)) with
      | error e => rw [hn] at h; cases h
      | ok q =>
        rw [hn] at h
        injection h with h
        refine ⟨l, t, rfl, ?_, h.symm⟩
        show valOf (tlE S f deep (.ok (r1, ns1))) = some t
        rw [ht]
        rfl
theorem row_room {S : List UInt8} {f deep k : Nat} {x : RSt} (h : Room f k x) : Room f (k + 4) (stOf (rowE S f deep x)) := by
  intro ts ns e
  cases x with
  | error e' => cases e
  | ok x =>
    obtain ⟨ts0, ns0⟩ := x
    have h0 := h ts0 ns0 rfl
    cases hr : rdRow S f deep ts0 ns0 with
    | error e' => rw [rowE, hr] at e; cases e
    | ok r =>
      obtain ⟨u, r1, n1⟩ := r
      rw [rowE, hr] at e
      injection e with e
      injection e with e1 e2
      subst e1 e2
      have h1 := (rd_went S f).2.2.2 _ _ _ _ _ _ hr
      have h2 := h1.len
      have h3 := h1.nms
      exact ⟨by omega, by omega⟩
theorem tl_room {S : List UInt8} {f deep k : Nat} {x : RSt} (h : Room f k x) : Room f k (stOf (tlE S f deep x)) := by
  cases x with
  | error e => intro ts ns h9; cases h9
  | ok x =>
    obtain ⟨ts0, ns0⟩ := x
    unfold tlE
    rcases Bool.eq_false_or_eq_true (seeE 124 (.ok (ts0, ns0))) with h9 | h9
    · simp only [h9, ↓reduceIte]
      refine (term_room (k := k) ?_).less (by omega)
      intro ts ns e
      injection e with e
      injection e with e1 e2
      subst e1 e2
      have h0 := h ts0 ns0 rfl
      rw [List.length_tail]
      exact ⟨by omega, by omega⟩
    · simp only [h9, Bool.false_eq_true, ↓reduceIte]
      exact h
theorem lst_room {S : List UInt8} {f deep k : Nat} {x : RSt} (h : Room f k x) : Room f k (stOf (lstE S f deep x)) := by
  rw [lstE_st]
  exact (needE_room (tl_room (row_room h))).less (by omega)
/-- The list from a place of the row on. -/
def curV (vl : Option (List Tm)) (vt : Option Tm) (j : Nat) : Option Tm := vl.bind fun l => vt.map fun t => listT (l.drop j) t
theorem curV_some {vl : Option (List Tm)} {vt : Option Tm} {j : Nat} {u : Tm} (h : curV vl vt j = some u) : ∃ l t, vl = some l ∧ vt = some t ∧ u = listT (l.drop j) t := by
  unfold curV at h
  cases vl with
  | none => cases h
  | some l =>
    cases vt with
    | none => cases h
    | some t =>
      injection h with h
      exact ⟨l, t, rfl, rfl, h.symm⟩
theorem curV_last {vl : Option (List Tm)} {vt : Option Tm} {m : Nat} (hm : ∀ l, vl = some l → l.length = m) {u : Tm} (h : curV vl vt m = some u) : vt = some u := by
  obtain ⟨l, t, hl, ht, rfl⟩ := curV_some h
  rw [ht, List.drop_eq_nil_of_le (by have := hm l hl; omega)]
  rfl
theorem RowJ.grow {X X' : Nat → Prop} {W W' : World} {r : Option Nat} {m : Nat} {sv : Value} (h : RowJ X W m sv) (hg : W.grownBy W' r) (hr : ∀ b, r = some b → X b) (hX : ∀ b, X' b → X b ∨ W.heap.size ≤ b) : RowJ X' W' m sv := by
  obtain ⟨b, off, c, rfl, hc, hb, h⟩ := h
  refine ⟨b, off, c, rfl, hc, okN_grow hg hX b hb, fun i hi => ?_⟩
  obtain ⟨k, nm, n, g', m', c', h0, h1, h2, h3⟩ := h i hi
  exact ⟨k, nm, n, g', m', c', cell_grow hg hr b _ _ hb h0, cell_grow hg hr b _ _ hb h1, cell_grow hg hr b _ _ hb h2, cell_grow hg hr b _ _ hb h3⟩
theorem slP_grow {X X' : Nat → Prop} {W W' : World} {r : Option Nat} {l : List Tm} {sv : Value} (h : Tm.sliceP W (okN X W) l sv) (hg : W.grownBy W' r) (hr : ∀ b, r = some b → X b) (hX : ∀ b, X' b → X b ∨ W.heap.size ≤ b) : Tm.sliceP W' (okN X' W') l sv :=
  Tm.sliceP_same (fun t _ sv' ht => Tm.innP_same (okN_grow hg hX) (cell_grow hg hr) t sv' ht) (okN_grow hg hX) (cell_grow hg hr) h
theorem TV.grow {X X' : Nat → Prop} {W W' : World} {r : Option Nat} {u : Option Tm} {k : Int} {nm : ByteArray} {n : Int} {sv : Value} (h : TV X W u k nm n sv) (hg : W.grownBy W' r) (hr : ∀ b, r = some b → X b) (hX : ∀ b, X' b → X b ∨ W.heap.size ≤ b) : TV X' W' u k nm n sv := by
  refine ⟨h.1, h.2.1, h.2.2.1, fun t ht => ?_⟩
  obtain ⟨h1, h2, h3, h4⟩ := h.2.2.2 t ht
  exact ⟨h1, h2, h3, Tm.innP_same (okN_grow hg hX) (cell_grow hg hr) t sv h4⟩
theorem rowP_at {w : World} {ok : Nat → Prop} {b : Nat} : ∀ (l : List Tm) (off i : Nat) (hi : i < l.length), Tm.rowP w ok b off l → ∃ sv, w.cell? ⟨b, off + i * 4, none⟩ = some (.int .i64 l[i].kind) ∧ w.cell? ⟨b, off + i * 4 + 1, none⟩ = some (.string l[i].name) ∧ w.cell? ⟨b, off + i * 4 + 2, none⟩ = some (.int .i64 l[i].n) ∧ w.cell? ⟨b, off + i * 4 + 3, none⟩ = some sv ∧ Tm.innP w ok l[i] sv
  | [], _, i, hi, _ => by simp at hi
  | t :: r, off, 0, _, h => by
    simp only [Tm.rowP] at h
    obtain ⟨⟨sv, h⟩, _⟩ := h
    exact ⟨sv, by simpa using h⟩
  | t :: r, off, i + 1, hi, h => by
    simp only [Tm.rowP] at h
    obtain ⟨sv, h9⟩ := rowP_at r (off + 4) i (by simpa using hi) h.2
    refine ⟨sv, ?_⟩
    rw [show off + (i + 1) * 4 = off + 4 + i * 4 by omega]
    simpa using h9
/-- The elements: whatever they are; what they are worth. -/
structure Els (X : Nat → Prop) (W : World) (vl : Option (List Tm)) (m b off c : Nat) : Prop where
  raw : RowJ X W m (.slice (some ⟨b, off, none⟩) m c)
  val : ∀ l, vl = some l → l.length = m ∧ Tm.sliceP W (okN X W) l (.slice (some ⟨b, off, none⟩) m c)
theorem Els.grow {X X' : Nat → Prop} {W W' : World} {r : Option Nat} {vl : Option (List Tm)} {m b off c : Nat} (h : Els X W vl m b off c) (hg : W.grownBy W' r) (hr : ∀ b, r = some b → X b) (hX : ∀ b, X' b → X b ∨ W.heap.size ≤ b) : Els X' W' vl m b off c :=
  ⟨h.raw.grow hg hr hX, fun l hl => ⟨(h.val l hl).1, slP_grow (h.val l hl).2 hg hr hX⟩⟩
/-- One element. -/
theorem Els.at {X : Nat → Prop} {W : World} {vl : Option (List Tm)} {m b off c : Nat} (h : Els X W vl m b off c) (i : Nat) (hi : i < m) : b < W.heap.size ∧ ∃ k nm n g' m' c', W.cell? ⟨b, off + i * 4, none⟩ = some (.int .i64 k) ∧ W.cell? ⟨b, off + i * 4 + 1, none⟩ = some (.string nm) ∧ W.cell? ⟨b, off + i * 4 + 2, none⟩ = some (.int .i64 n) ∧ W.cell? ⟨b, off + i * 4 + 3, none⟩ = some (.slice g' m' c') ∧
    ∀ l, vl = some l → ∃ h : i < l.length, l[i].kind = k ∧ l[i].name = nm ∧ l[i].n = n ∧ Tm.innP W (okN X W) l[i] (.slice g' m' c') := by
  obtain ⟨b', off', c', e, _, hb, hc⟩ := h.raw
  injection e with e1 _ _
  injection e1 with e1
  injection e1 with e1 e2 _
  subst e1 e2
  obtain ⟨k, nm, n, g', m', c9, h0, h1, h2, h3⟩ := hc i hi
  refine ⟨hb.2, k, nm, n, g', m', c9, h0, h1, h2, h3, fun l hl => ?_⟩
  obtain ⟨hlen, hsl⟩ := h.val l hl
  have hi' : i < l.length := by omega
  obtain ⟨g, cap, e, _, _, h9 | ⟨b2, off2, e2, hb2, hrow⟩⟩ := hsl
  · rw [h9] at hi'; simp at hi'
  · injection e with e3 _ _
    rw [← e3] at e2
    injection e2 with e2
    injection e2 with e4 e5 _
    subst e4 e5
    obtain ⟨sv, a0, a1, a2, a3, a4⟩ := rowP_at l off i hi' hrow
    rw [h0] at a0; rw [h1] at a1; rw [h2] at a2; rw [h3] at a3
    injection a0 with a0; injection a0 with _ a0
    injection a1 with a1; injection a1 with a1
    injection a2 with a2; injection a2 with _ a2
    injection a3 with a3
    subst a3
    exact ⟨hi', a0.symm, a1.symm, a2.symm, a4⟩
def X3 (X : Nat → Prop) (tb lb : Nat) (b : Nat) : Prop := X2 X tb b ∨ b = lb
end Go.Proofs.YtliapkajonbndaaGreatDoor
