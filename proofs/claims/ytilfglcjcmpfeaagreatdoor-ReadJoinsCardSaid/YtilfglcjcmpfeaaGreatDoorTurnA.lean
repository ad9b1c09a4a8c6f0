/-
  The place of a number in a row, and what it becomes; append of one term at a step; what a write elsewhere leaves of a row.
-/
import Derived.Test.YtilfglcjcmpfeaaGreatDoorWith
import Derived.Test.YtilfglcjcmpfeaaGreatDoorRen
import Derived.Deep.RegionLaw
namespace Go.Proofs.YtilfglcjcmpfeaaGreatDoor
open Go.RowKit

theorem idx_first (l : List Int) (n : Int) : ∀ (k : Nat) (hk : k < l.length), l[k] = n → (∀ j (hj : j < l.length), j < k → l[j] ≠ n) → l.idxOf n = k := by
  induction l with
  | nil => intro k hk; simp at hk
  | cons a r ih =>
    intro k hk h hp
    cases k with
    | zero => simp at h; simp [h]
    | succ k =>
      have h0 := hp 0 (by simp) (by omega)
      simp only [List.getElem_cons_zero] at h0
      have hb : (a == n) = false := by simpa using h0
      rw [List.idxOf_cons, hb, cond_false, ih k (by simpa using hk) (by simpa using h) (fun j hj hjk => hp (j + 1) (by simpa using hj) (by omega))]

/-- Where a number stands; below 0: nowhere. -/
def atOf (l : List Int) (n : Int) : Int := if n ∈ l then (l.idxOf n : Int) else -1


/-- append of one term, at a step of a region that draws its order: the row is the one that it was, or a new one. -/
theorem step_append_term {P : Program} {w : World} {ops : Array Oper} {o : Oper} {a : Act} {K : Act → World → Prop} {Q : Exit → Act → World → Prop} {E : Prop} (hgd : o.guard = none) (s x : Operand) (t : TypeId)
    (ho : o.op = .call { callee := .builtin .append, args := #[s, x], argTypes := #[t, t] })
    (base : Nat) (e : TypeId) (i : TypeInfo) (z : Value) (bytes : Nat) (ht : P.underlying t = some (.slice e)) (hi : P.info? e = some i) (hz : i.zero = some z)
    (hsize : i.size = 4) (hby : i.bytes = bytes) (hzs : z.cells.size = 4)
    (v : Value) (n : Nat) (xs : List Value) (hs : a.eval s = v) (hown : w.ownsRow base e 4 v n xs)
    (H c : Nat) (news : List Value) (hx : a.eval x = .slice (some ⟨H, 0, none⟩) 1 c) (hl : news.length = 4) (hnews : ∀ j u, news[j]? = some u → w.cell? ((⟨H, 0, none⟩ : Addr).add j) = some u) (h1 : ∀ u ∈ news, u.oneCell' = true)
    (h63 : n + 1 ≤ maxLen) (hbytes : (n + 1) * bytes ≤ 140737488355328) (hbase : base ≤ w.heap.size)
    (h : ∀ g' c' w', w'.ownsRow base e 4 (.slice g' (n + 1) c') (n + 1) (xs ++ news) → w.grownBy w' v.ownBlock → ((Value.slice g' (n + 1) c').ownBlock = v.ownBlock ∨ ∀ b, (Value.slice g' (n + 1) c').ownBlock = some b → w.heap.size ≤ b) → K (a.put o.dst (.slice g' (n + 1) c')) w') :
    if Region.wanted o (yielded ops a.tmps) = true then Oper.wp P o a w K Q else E := by
  have hw : Region.wanted o (yielded ops a.tmps) = true := by simp [Region.wanted, hgd]
  rw [if_pos hw]
  obtain ⟨v', w', hr, h2, h3, h4⟩ := run_append_any (P := P) (w := w) base t o.type e i z 4 bytes ht hi hz hsize hby hzs (by decide) v n xs hown (some ⟨H, 0, none⟩) 1 c news (by omega) (.inr ⟨_, rfl, hnews⟩) h1 h63 hbytes hbase
  obtain ⟨g', c', rfl⟩ := owns_slice h2
  unfold Oper.wp execOp
  simp only [ho, resolve, invoke, builtin, Sem.run_bind, Sem.run_pure, Result.andThen_ok, List.map_toArray, List.map_cons, List.map_nil, hs, hx, hr]
  refine h g' c' w' h2 h3 ?_
  rcases h4 with h4 | h4
  · exact .inl h4
  · exact .inr fun b hb => by rw [h4] at hb; cases hb; exact Nat.le_refl _

theorem step_open {P : Program} {w : World} {ops : Array Oper} {o : Oper} {a : Act} {K : Act → World → Prop} {Q : Exit → Act → World → Prop} {E : Prop} (hgd : o.guard = none) (h : Oper.wp P o a w K Q) : if Region.wanted o (yielded ops a.tmps) = true then Oper.wp P o a w K Q else E := by
  have hw : Region.wanted o (yielded ops a.tmps) = true := by simp [Region.wanted, hgd]
  rw [if_pos hw]
  exact h

/-- What a number becomes. -/
def toOf (fs tos : List Int) (v : Int) : Int := tos.getD (fs.idxOf v) 0
theorem toOf_wf {fs tos : List Int} (h : ∀ x ∈ tos, (Lit.int .i64 x).wf = true) (v : Int) : (Lit.int .i64 (toOf fs tos v)).wf = true := by
  unfold toOf
  rw [List.getD_eq_getElem?_getD]
  cases hq : tos[fs.idxOf v]? with
  | none => decide
  | some x => exact h x (List.mem_of_getElem? hq)

theorem nodesL_mem {l : List Tm} {k : Nat} (hk : k < l.length) {d : Int} {x : Key} (hx : x ∈ l[k].nodes d) : x ∈ Tm.nodesL l d := by
  induction l generalizing k with
  | nil => simp at hk
  | cons t r ih =>
    simp only [Tm.nodesL, List.mem_append]
    cases k with
    | zero => exact .inl hx
    | succ k => exact .inr (ih (by simpa using hk) hx)

/-- What the loop's own blocks hold, and what lay ahead, while a term more is made. -/
theorem TuS.step {m b0 o0 b1 o1 b o : Nat} {v u : Value} {t : Tm} {sv : Value} {w0 W W' : World} (hb : Below m W W') (hm : b0 < m ∧ b1 < m ∧ b < m)
    (h : W.cell? ⟨b0, o0, none⟩ = some v ∧ W.cell? ⟨b1, o1, none⟩ = some u ∧ W.cell? ⟨b, o, none⟩ = some (.int .i64 t.kind) ∧ W.cell? ⟨b, o + 1, none⟩ = some (.string t.name) ∧ W.cell? ⟨b, o + 2, none⟩ = some (.int .i64 t.n) ∧ W.cell? ⟨b, o + 3, none⟩ = some sv ∧ W.frozen? ⟨b0, o0, none⟩ = false ∧ Below m w0 W) :
    W'.cell? ⟨b0, o0, none⟩ = some v ∧ W'.cell? ⟨b1, o1, none⟩ = some u ∧ W'.cell? ⟨b, o, none⟩ = some (.int .i64 t.kind) ∧ W'.cell? ⟨b, o + 1, none⟩ = some (.string t.name) ∧ W'.cell? ⟨b, o + 2, none⟩ = some (.int .i64 t.n) ∧ W'.cell? ⟨b, o + 3, none⟩ = some sv ∧ W'.frozen? ⟨b0, o0, none⟩ = false ∧ Below m w0 W' := by
  obtain ⟨h0, h1, h2, h3, h4, h5, hf, h6⟩ := h
  exact ⟨(hb.cell (p := ⟨b0, o0, none⟩) hm.1).trans h0, (hb.cell (p := ⟨b1, o1, none⟩) hm.2.1).trans h1, (hb.cell (p := ⟨b, o, none⟩) hm.2.2).trans h2, (hb.cell (p := ⟨b, o + 1, none⟩) hm.2.2).trans h3, (hb.cell (p := ⟨b, o + 2, none⟩) hm.2.2).trans h4, (hb.cell (p := ⟨b, o + 3, none⟩) hm.2.2).trans h5, (World.frozen?_of_block (hb.block b0 hm.1)).trans hf, h6.trans hb⟩

theorem ownsRow_set {W : World} {base : Nat} {e : TypeId} {size : Nat} {v : Value} {n : Nat} {xs : List Value} (h : W.ownsRow base e size v n xs) {B : Nat} (hB : B < base) (o : Nat) (u : Value) : (W.setCell ⟨B, o, none⟩ u).ownsRow base e size v n xs := by
  refine ⟨h.1, ?_⟩
  rcases h.2 with hn | ⟨g, cap, cur, rfl, h1, h2, h3⟩
  · exact .inl hn
  · exact .inr ⟨g, cap, cur, rfl, h1, (Below.heap_setCell _ _ _ _ (by show g ≠ B; omega)).trans h2, h3⟩
theorem set1_same {W : World} {B i : Nat} {cs : Array Value} {t : TypeId} (h : W.heap[B]? = some (Obj.cells cs t (0, 0))) (v : Value) : (W.setCell ⟨B, i, none⟩ v).heap[B]? = some (Obj.cells (cs.setIfInBounds i v) t (0, 0)) := by
  obtain ⟨hlt, hk⟩ := Array.getElem?_eq_some_iff.1 h
  show (W.heap.modify B _)[B]? = _
  rw [Array.getElem?_eq_getElem (by rw [Array.size_modify]; exact hlt), Array.getElem_modify_self, hk]
  rfl

theorem cellsP_set {W : World} {lo B o : Nat} {v u : Value} {l : List Tm} {xs : List Value} (hB : B < lo) (h : Tm.cellsP W (okRow lo W v) l xs) : Tm.cellsP (W.setCell ⟨B, o, none⟩ u) (okRow lo (W.setCell ⟨B, o, none⟩ u) v) l xs :=
  Tm.cellsP_same (fun b hb => ⟨hb.1, by have := hb.2.1; simp; omega, hb.2.2⟩) (fun b o' x hb hc => (World.cell?_of_block (a := ⟨b, o', none⟩) (Below.heap_setCell _ _ _ _ (by have := hb.1; show b ≠ B; omega))).trans hc) l xs h

end Go.Proofs.YtilfglcjcmpfeaaGreatDoor
