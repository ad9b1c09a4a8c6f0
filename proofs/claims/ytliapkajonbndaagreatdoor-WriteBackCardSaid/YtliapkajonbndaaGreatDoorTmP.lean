/-
  Terms in memory whose blocks obey any test; rows of terms that a call itself makes; the law for append that tells whether the row is a new one.
-/
import Derived.Test.YtliapkajonbndaaGreatDoorG01
import Derived.Deep.Onto
import Derived.Lib.Hide
namespace Go.Proofs.YtliapkajonbndaaGreatDoor
open Go.RowKit

namespace Tm
mutual
def innP (w : World) (ok : Nat → Prop) : Tm → Value → Prop
  | .mk k s n l, sv => ((Lit.int .i64 k).wf = true ∧ s.size ≤ maxLen ∧ (Lit.int .i64 n).wf = true) ∧
      ∃ g cap, sv = .slice g l.length cap ∧ l.length ≤ cap ∧ l.length ≤ 2513169434900 ∧ (l = [] ∨ ∃ b off, g = some ⟨b, off, none⟩ ∧ ok b ∧ rowP w ok b off l)
def rowP (w : World) (ok : Nat → Prop) (b off : Nat) : List Tm → Prop
  | [] => True
  | t :: r => (∃ sv, w.cell? ⟨b, off, none⟩ = some (.int .i64 t.kind) ∧ w.cell? ⟨b, off + 1, none⟩ = some (.string t.name) ∧ w.cell? ⟨b, off + 2, none⟩ = some (.int .i64 t.n) ∧ w.cell? ⟨b, off + 3, none⟩ = some sv ∧ innP w ok t sv) ∧
      rowP w ok b (off + 4) r
end
def sliceP (w : World) (ok : Nat → Prop) (l : List Tm) (sv : Value) : Prop :=
  ∃ g cap, sv = .slice g l.length cap ∧ l.length ≤ cap ∧ l.length ≤ 2513169434900 ∧ (l = [] ∨ ∃ b off, g = some ⟨b, off, none⟩ ∧ ok b ∧ rowP w ok b off l)
theorem innP_mk {w : World} {ok : Nat → Prop} {k : Int} {s : ByteArray} {n : Int} {l : List Tm} {sv : Value} :
    innP w ok (.mk k s n l) sv ↔ ((Lit.int .i64 k).wf = true ∧ s.size ≤ maxLen ∧ (Lit.int .i64 n).wf = true) ∧ sliceP w ok l sv := by
  simp only [innP, sliceP]
theorem innP_iff {w : World} {ok : Nat → Prop} {t : Tm} {sv : Value} : innP w ok t sv ↔ t.headOk ∧ sliceP w ok t.args sv := by
  cases t
  exact innP_mk

theorem rowP_same {w w' : World} {ok ok' : Nat → Prop} {b : Nat} {l : List Tm} (hl : ∀ t ∈ l, ∀ sv, innP w ok t sv → innP w' ok' t sv)
    (hc : ∀ o v, w.cell? ⟨b, o, none⟩ = some v → w'.cell? ⟨b, o, none⟩ = some v) : ∀ {off : Nat}, rowP w ok b off l → rowP w' ok' b off l := by
  induction l with
  | nil => intro off _; simp [rowP]
  | cons t r ih =>
    intro off h
    simp only [rowP] at h ⊢
    obtain ⟨⟨sv, h0, h1, h2, h3, h4⟩, h5⟩ := h
    exact ⟨⟨sv, hc _ _ h0, hc _ _ h1, hc _ _ h2, hc _ _ h3, hl t (by simp) _ h4⟩, ih (fun u hu => hl u (by simp [hu])) h5⟩
theorem sliceP_same {w w' : World} {ok ok' : Nat → Prop} {l : List Tm} (hl : ∀ t ∈ l, ∀ sv, innP w ok t sv → innP w' ok' t sv) (hB : ∀ b, ok b → ok' b)
    (hc : ∀ b o v, ok b → w.cell? ⟨b, o, none⟩ = some v → w'.cell? ⟨b, o, none⟩ = some v) {sv : Value} (h : sliceP w ok l sv) : sliceP w' ok' l sv := by
  obtain ⟨g, cap, rfl, h1, h2, h3⟩ := h
  refine ⟨g, cap, rfl, h1, h2, ?_⟩
  rcases h3 with h3 | ⟨b, off, rfl, hb, hr⟩
  · exact .inl h3
  · exact .inr ⟨b, off, rfl, hB b hb, rowP_same hl (fun o v => hc b o v hb) hr⟩
theorem innP_same {w w' : World} {ok ok' : Nat → Prop} (hB : ∀ b, ok b → ok' b) (hc : ∀ b o v, ok b → w.cell? ⟨b, o, none⟩ = some v → w'.cell? ⟨b, o, none⟩ = some v) :
    ∀ (t : Tm) (sv : Value), innP w ok t sv → innP w' ok' t sv := by
  refine ind fun k s n l ih sv h => ?_
  rw [innP_mk] at h ⊢
  exact ⟨h.1, sliceP_same ih hB hc h.2⟩

theorem rowIn_of_P {w : World} {ok : Nat → Prop} {B b : Nat} {l : List Tm} (hl : ∀ t ∈ l, ∀ sv, innP w ok t sv → inn w B t sv) : ∀ {off : Nat}, rowP w ok b off l → rowIn w B b off l := by
  induction l with
  | nil => intro off _; simp [rowIn]
  | cons t r ih =>
    intro off h
    simp only [rowP, rowIn] at h ⊢
    obtain ⟨⟨sv, h0, h1, h2, h3, h4⟩, h5⟩ := h
    exact ⟨⟨sv, h0, h1, h2, h3, hl t (by simp) _ h4⟩, ih (fun u hu => hl u (by simp [hu])) h5⟩
theorem sliceIn_of_P' {w : World} {ok : Nat → Prop} {B : Nat} {l : List Tm} (hl : ∀ t ∈ l, ∀ sv, innP w ok t sv → inn w B t sv) (hB : ∀ b, ok b → b < B) {sv : Value} (h : sliceP w ok l sv) : sliceIn w B l sv := by
  obtain ⟨g, cap, rfl, h1, h2, h3⟩ := h
  refine ⟨g, cap, rfl, h1, h2, ?_⟩
  rcases h3 with h3 | ⟨b, off, rfl, hb, hr⟩
  · exact .inl h3
  · exact .inr ⟨b, off, rfl, hB b hb, rowIn_of_P hl hr⟩
theorem inn_of_P {w : World} {ok : Nat → Prop} {B : Nat} (hB : ∀ b, ok b → b < B) : ∀ (t : Tm) (sv : Value), innP w ok t sv → inn w B t sv := by
  refine ind fun k s n l ih sv h => ?_
  rw [innP_mk] at h
  rw [inn_mk]
  exact ⟨h.1, sliceIn_of_P' ih hB h.2⟩
theorem sliceIn_of_P {w : World} {ok : Nat → Prop} {B : Nat} {l : List Tm} (hB : ∀ b, ok b → b < B) {sv : Value} (h : sliceP w ok l sv) : sliceIn w B l sv :=
  sliceIn_of_P' (fun t _ sv => inn_of_P hB t sv) hB h

/-- The cells of a row of terms. -/
def cellsP (w : World) (ok : Nat → Prop) : List Tm → List Value → Prop
  | [], xs => xs = []
  | t :: r, xs => ∃ sv xs', xs = .int .i64 t.kind :: .string t.name :: .int .i64 t.n :: sv :: xs' ∧ innP w ok t sv ∧ cellsP w ok r xs'
theorem cellsP_same {w w' : World} {ok ok' : Nat → Prop} (hB : ∀ b, ok b → ok' b) (hc : ∀ b o v, ok b → w.cell? ⟨b, o, none⟩ = some v → w'.cell? ⟨b, o, none⟩ = some v) :
    ∀ (l : List Tm) (xs : List Value), cellsP w ok l xs → cellsP w' ok' l xs
  | [], _, h => h
  | t :: r, _, ⟨sv, xs', h1, h2, h3⟩ => ⟨sv, xs', h1, innP_same hB hc t sv h2, cellsP_same hB hc r xs' h3⟩
theorem cellsP_snoc {w : World} {ok : Nat → Prop} {t : Tm} {sv : Value} (ht : innP w ok t sv) : ∀ (l : List Tm) (xs : List Value), cellsP w ok l xs →
    cellsP w ok (l ++ [t]) (xs ++ [.int .i64 t.kind, .string t.name, .int .i64 t.n, sv])
  | [], _, h => by
    simp only [cellsP] at h
    subst h
    exact ⟨sv, [], rfl, ht, rfl⟩
  | u :: r, _, ⟨sv', xs', h1, h2, h3⟩ => ⟨sv', _, by rw [h1]; rfl, h2, cellsP_snoc ht r xs' h3⟩
theorem rowP_of_cells {w : World} {ok : Nat → Prop} {b : Nat} : ∀ (l : List Tm) (xs : List Value) (off : Nat), cellsP w ok l xs → (∀ j u, xs[j]? = some u → w.cell? ⟨b, off + j, none⟩ = some u) → rowP w ok b off l
  | [], _, _, _, _ => by simp [rowP]
  | t :: r, _, off, ⟨sv, xs', h1, h2, h3⟩, hc => by
    subst h1
    simp only [rowP]
    refine ⟨⟨sv, hc 0 _ rfl, hc 1 _ rfl, hc 2 _ rfl, hc 3 _ rfl, h2⟩, rowP_of_cells r xs' (off + 4) h3 fun j u hj => ?_⟩
    have := hc (j + 4) u (by simpa using hj)
    rwa [show off + (j + 4) = off + 4 + j by omega] at this
/-- The slice that owns them. -/
theorem sliceP_of_owns {w : World} {base : Nat} {e : TypeId} {v : Value} {l : List Tm} {xs : List Value} {ok ok' : Nat → Prop} (h : w.ownsRow base e 4 v l.length xs) (hc : cellsP w ok l xs) (hlen : l.length ≤ 2513169434900)
    (hB : ∀ b, ok b → ok' b) (hv : ∀ b, v.ownBlock = some b → ok' b) : sliceP w ok' l v := by
  rcases h.2 with ⟨rfl, h0⟩ | ⟨g, cap, cur, rfl, _, hg, hn, _⟩
  · exact ⟨none, 0, by rw [h0], by omega, hlen, .inl (List.eq_nil_of_length_eq_zero h0)⟩
  · refine ⟨_, cap, rfl, hn, hlen, ?_⟩
    by_cases hl : l = []
    · exact .inl hl
    · refine .inr ⟨g, 0, rfl, hv g rfl, rowP_of_cells l xs 0 (cellsP_same hB (fun _ _ _ _ h => h) l xs hc) fun j u hj => ?_⟩
      have := h.cells (g := g) rfl j u hj
      simpa [Addr.add_lit] using this
end Tm

theorem grown_trans {w w1 w2 : World} {r r' : Option Nat} (h : w.grownBy w1 r) (g : w1.grownBy w2 r') (hr : ∀ k, some k = r' → some k = r ∨ w.heap.size ≤ k) : w.grownBy w2 r :=
  ⟨g.os.trans h.os, g.tape.trans h.tape, g.output.trans h.output, Nat.le_trans h.size g.size, fun k hk hne => (g.block k (Nat.lt_of_lt_of_le hk h.size) (fun e => by
    rcases hr k e with e' | e'
    · exact hne e'
    · omega)).trans (h.block k hk hne)⟩
theorem newBlk (w : World) (o : Obj) (n : Nat) (hn : n = w.heap.size) : (w.alloc o).heap[n]? = some o := by
  subst hn
  show (w.heap.push o)[w.heap.size]? = some o
  simp
theorem row4 {w : World} {b : Nat} {a0 a1 a2 a3 : Value} {t : TypeId} (h : w.heap[b]? = some (Obj.cells #[a0, a1, a2, a3] t (0, 0))) :
    (w.cell? ⟨b, 0, none⟩ = some a0 ∧ w.cell? ⟨b, 1, none⟩ = some a1 ∧ w.cell? ⟨b, 2, none⟩ = some a2 ∧ w.cell? ⟨b, 3, none⟩ = some a3) ∧
    (w.frozen? ⟨b, 0, none⟩ = false ∧ w.frozen? ⟨b, 1, none⟩ = false ∧ w.frozen? ⟨b, 2, none⟩ = false ∧ w.frozen? ⟨b, 3, none⟩ = false) := by
  simp [World.cell?, World.frozen?, h]
theorem grownBy_any {w w' : World} (h : w.grownBy w' none) (row : Option Nat) : w.grownBy w' row := ⟨h.os, h.tape, h.output, h.size, fun k hk _ => h.block k hk (by simp)⟩
theorem ownsRow_below {W W' : World} {base : Nat} {e : TypeId} {size : Nat} {v : Value} {n : Nat} {xs : List Value} (h : W.ownsRow base e size v n xs) (hb : Below W.heap.size W W') : W'.ownsRow base e size v n xs := by
  refine ⟨h.1, ?_⟩
  rcases h.2 with hn | ⟨g, cap, cur, rfl, h1, h2, h3⟩
  · exact .inl hn
  · exact .inr ⟨g, cap, cur, rfl, h1, (hb.block g (Array.getElem?_eq_some_iff.1 h2).1).trans h2, h3⟩

theorem ownsRow_block {W W' : World} {base : Nat} {e : TypeId} {size : Nat} {v : Value} {n : Nat} {xs : List Value} (h : W.ownsRow base e size v n xs) (hb : ∀ b, v.ownBlock = some b → W'.heap[b]? = W.heap[b]?) : W'.ownsRow base e size v n xs := by
  refine ⟨h.1, ?_⟩
  rcases h.2 with hn | ⟨g, cap, cur, rfl, h1, h2, h3⟩
  · exact .inl hn
  · exact .inr ⟨g, cap, cur, rfl, h1, (hb g rfl).trans h2, h3⟩
/-- Which blocks the terms of a row that is being gathered may lie in: any of the call's own but the row itself. -/
def okRow (lo : Nat) (W : World) (v : Value) (b : Nat) : Prop := lo ≤ b ∧ b < W.heap.size ∧ v.ownBlock ≠ some b
/-- One term more in a row that a call gathers: from the world before the term was made to the one behind the append. -/
theorem row_step {wr w2 w3 : World} {lo : Nat} {e : TypeId} {v v' : Value} {k : Nat} {l : List Tm} {t : Tm} {xs : List Value} {sv : Value} {tmp : Obj}
    (hrow : wr.ownsRow lo e 4 v k xs) (hcells : Tm.cellsP wr (okRow lo wr v) l xs) (hb : Below wr.heap.size wr w2) (hlo : lo ≤ wr.heap.size)
    (ht : Tm.innP w2 (fun b => wr.heap.size ≤ b ∧ b < w2.heap.size) t sv) (hgrow : (w2.alloc tmp).grownBy w3 v.ownBlock)
    (hsep : v'.ownBlock = v.ownBlock ∨ ∀ b, v'.ownBlock = some b → (w2.alloc tmp).heap.size ≤ b) :
    Tm.cellsP w3 (okRow lo w3 v') (l ++ [t]) (xs ++ [.int .i64 t.kind, .string t.name, .int .i64 t.n, sv]) := by
  have hs3 : w2.heap.size + 1 ≤ w3.heap.size := by simpa using hgrow.size
  have hs2 := hb.size
  have cell3 : ∀ b o u, b < w2.heap.size → v.ownBlock ≠ some b → w2.cell? ⟨b, o, none⟩ = some u → w3.cell? ⟨b, o, none⟩ = some u := fun b o u hlt hne hc =>
    hgrow.cell (a := ⟨b, o, none⟩) (by rw [World.cell?_alloc_lt _ _ _ (by exact hlt)]; exact hc) (fun e => hne e.symm)
  have sep : ∀ b, b < w2.heap.size → v.ownBlock ≠ some b → v'.ownBlock ≠ some b := fun b hlt hne => by
    rcases hsep with h | h
    · rw [h]; exact hne
    · intro e
      have := h b e
      simp at this
      omega
  refine Tm.cellsP_snoc (Tm.innP_same (fun b hb' => ?_) (fun b o u hb' hc => ?_) t sv ht) l xs (Tm.cellsP_same (fun b hb' => ?_) (fun b o u hb' hc => ?_) l xs hcells)
  · have hne : v.ownBlock ≠ some b := fun e => by have := (hrow.lt b e).2; omega
    exact ⟨by omega, by omega, sep b hb'.2 hne⟩
  · have hne : v.ownBlock ≠ some b := fun e => by have := (hrow.lt b e).2; omega
    exact cell3 b o u hb'.2 hne hc
  · exact ⟨hb'.1, by have := hb'.2.1; omega, sep b (by have := hb'.2.1; omega) hb'.2.2⟩
  · exact cell3 b o u (by have := hb'.2.1; omega) hb'.2.2 ((hb.cell (p := ⟨b, o, none⟩) hb'.2.1).trans hc)

theorem blk_step {wr w2 w3 : World} {v : Value} {tmp o : Obj} {j : Nat} (hb : Below wr.heap.size wr w2) (hgrow : (w2.alloc tmp).grownBy w3 v.ownBlock) (h : wr.heap[j]? = some o) (hne : v.ownBlock ≠ some j) : w3.heap[j]? = some o := by
  have hlt := (Array.getElem?_eq_some_iff.1 h).1
  have h2 := (hb.block j hlt).trans h
  have hlt2 := (Array.getElem?_eq_some_iff.1 h2).1
  exact (hgrow.block j (by simp; omega) (fun e => hne e.symm)).trans ((Below.heap_alloc _ _ _ hlt2).trans h2)
theorem owns_slice {w : World} {base : Nat} {e : TypeId} {size : Nat} {v : Value} {n : Nat} {xs : List Value} (h : w.ownsRow base e size v n xs) : ∃ g cap, v = .slice g n cap := by
  rcases h.2 with ⟨rfl, rfl⟩ | ⟨g, cap, _, rfl, _⟩
  · exact ⟨none, 0, rfl⟩
  · exact ⟨_, cap, rfl⟩

/-- A row of terms that a call has gathered, as the slice that it hands on, behind a store of a whole term into a box of its own. -/
theorem sliceP_done {wr wf : World} {lo base : Nat} {e : TypeId} {v : Value} {l : List Tm} {xs : List Value} (hrow : wr.ownsRow lo e 4 v l.length xs) (hcells : Tm.cellsP wr (okRow lo wr v) l xs) (hlen : l.length ≤ 2513169434900)
    (hbl : base ≤ lo) (hsz : wr.heap.size ≤ wf.heap.size) (hsame : ∀ k, lo ≤ k → k < wr.heap.size → wf.heap[k]? = wr.heap[k]?) : Tm.sliceP wf (fun b => base ≤ b ∧ b < wf.heap.size) l v := by
  have hrow' : wf.ownsRow lo e 4 v l.length xs := by
    refine ⟨hrow.1, ?_⟩
    rcases hrow.2 with hn | ⟨g, cap, cur, rfl, h1, h2, h3⟩
    · exact .inl hn
    · exact .inr ⟨g, cap, cur, rfl, h1, (hsame g h1 (Array.getElem?_eq_some_iff.1 h2).1).trans h2, h3⟩
  have hcells' : Tm.cellsP wf (okRow lo wf v) l xs := Tm.cellsP_same (fun b hb => ⟨hb.1, by have := hb.2.1; omega, hb.2.2⟩) (fun b o u hb hc => (World.cell?_of_block (a := ⟨b, o, none⟩) (hsame b hb.1 hb.2.1)).trans hc) l xs hcells
  exact Tm.sliceP_of_owns hrow' hcells' hlen (fun b hb => ⟨by have := hb.1; omega, hb.2.1⟩) (fun b hb => ⟨by have := (hrow'.lt b hb).1; omega, (hrow'.lt b hb).2⟩)
theorem set4_other (W : World) (B : Nat) (a b c d : Value) (k : Nat) (hk : k ≠ B) : ((((W.setCell ⟨B, 0, none⟩ a).setCell ⟨B, 1, none⟩ b).setCell ⟨B, 2, none⟩ c).setCell ⟨B, 3, none⟩ d).heap[k]? = W.heap[k]? := by
  rw [Below.heap_setCell _ _ _ _ hk, Below.heap_setCell _ _ _ _ hk, Below.heap_setCell _ _ _ _ hk, Below.heap_setCell _ _ _ _ hk]

/-- append onto a slice of the call's own: the row is the one that it was, or a new one. -/
theorem wpList_append_sep {P : Program} (w : World) {ops : Array Oper} {rest : List Oper} {o : Oper} {a : Act} {Q : Exit → Act → World → Prop}
    (hg : o.guard = none) (s x : Operand) (t : TypeId) (hop : o.op = Op.call { callee := Callee.builtin Builtin.append, args := #[s, x], argTypes := #[t, t] })
    (base : Nat) (e : TypeId) (i : TypeInfo) (z : Value) (size bytes : Nat) (h1 : P.underlying t = some (.slice e)) (h2 : P.info? e = some i) (h3 : i.zero = some z) (h4 : i.size = size) (h5 : i.bytes = bytes) (h6 : z.cells.size = size) (h7 : 0 < size)
    (v : Value) (k : Nat) (xs : List Value) (hs : a.eval s = v) (hown : w.ownsRow base e size v k xs) (ad : Addr) (m c : Nat) (news : List Value) (hx : a.eval x = .slice (some ad) m c) (hm : 0 < m) (hn : news.length = m * size)
    (hc : ∀ j u, news[j]? = some u → w.cell? (ad.add j) = some u) (h1c : ∀ u ∈ news, u.oneCell' = true) (b1 : k + m ≤ maxLen) (b2 : (k + m) * bytes ≤ 140737488355328) (b3 : base ≤ w.heap.size)
    (hK : ∀ v' w', w'.ownsRow base e size v' (k + m) (xs ++ news) → w.grownBy w' v.ownBlock → (v'.ownBlock = v.ownBlock ∨ ∀ b, v'.ownBlock = some b → w.heap.size ≤ b) → wpList P ops Q rest (a.put o.dst v') w') :
    wpList P ops Q (o :: rest) a w := by
  have fresh : ∀ v' w', w'.ownsRow w.heap.size e size v' (k + m) (xs ++ news) → w.grownBy w' none → wpList P ops Q rest (a.put o.dst v') w' := fun v' w' r1 r2 =>
    hK v' w' (r1.mono b3) (grownBy_any r2 _) (.inr fun b hb => (r1.lt b hb).1)
  rcases hown.2 with ⟨rfl, h0⟩ | ⟨g, cap, cur, rfl, _, _, _⟩
  · exact wpList_append_grows w hg s x t hop e i z size bytes h1 h2 h3 h4 h5 h6 h7 none k 0 xs (by rw [hs, h0]) (fun _ => ⟨h0, rfl⟩) hown.1 (fun b hb => by cases hb) ad m c news hx hn hc h1c (by omega) b1 b2 fresh
  · by_cases hr : k + m ≤ cap
    · exact wpList_append_fits w hg s x t hop base e i size h1 h2 h4 g k cap xs hs hown ad m c news hx hn hc h1c hr fun w' r1 r2 => hK _ w' r1 r2 (.inl rfl)
    · exact wpList_append_grows w hg s x t hop e i z size bytes h1 h2 h3 h4 h5 h6 h7 (some ⟨g, 0, none⟩) k cap xs hs (fun h => by cases h) hown.1 (fun b hb j u hj => by cases hb; exact hown.cells (g := g) rfl j u hj) ad m c news hx hn hc h1c (by omega) b1 b2 fresh
end Go.Proofs.YtliapkajonbndaaGreatDoor
