/-
  Rows of terms that a call gathers of terms that lay before: append of any such row.
-/
import Derived.Test.YtjbicfimoiiglaaRen
import Derived.Test.YtjbicfimoiiglaaWith
namespace Go.Proofs.Ytjbicfimoiiglaa
open Go.RowKit

/-- The cells of a term in a row, and their source. -/
theorem cellsP_length {w : World} {ok : Nat → Prop} : ∀ (l : List Tm) (xs : List Value), Tm.cellsP w ok l xs → xs.length = l.length * 4
  | [], xs, h => by simp only [Tm.cellsP] at h; subst h; rfl
  | t :: r, xs, ⟨sv, xs', h1, _, h3⟩ => by
    have := cellsP_length r xs' h3
    subst h1
    simp only [List.length_cons, this]
    omega
theorem cellsP_one {w : World} {ok : Nat → Prop} : ∀ (l : List Tm) (xs : List Value), Tm.cellsP w ok l xs → ∀ u ∈ xs, u.oneCell' = true
  | [], xs, h, u, hu => by simp only [Tm.cellsP] at h; subst h; cases hu
  | t :: r, xs, ⟨sv, xs', h1, h2, h3⟩, u, hu => by
    subst h1
    obtain ⟨_, g, c, rfl, _⟩ := Tm.innP_iff.1 h2
    simp only [List.mem_cons] at hu
    rcases hu with rfl | rfl | rfl | rfl | hu
    · rfl
    · rfl
    · rfl
    · rfl
    · exact cellsP_one r xs' h3 u hu
theorem cellsP_app {w : World} {ok : Nat → Prop} : ∀ (a b : List Tm) (xs ys : List Value), Tm.cellsP w ok a xs → Tm.cellsP w ok b ys → Tm.cellsP w ok (a ++ b) (xs ++ ys)
  | [], b, xs, ys, ha, hb => by simp only [Tm.cellsP] at ha; subst ha; exact hb
  | t :: r, b, xs, ys, ⟨sv, xs', h1, h2, h3⟩, hb => ⟨sv, xs' ++ ys, by rw [h1]; rfl, h2, cellsP_app r b xs' ys h3 hb⟩
theorem cellsP_take {w : World} {ok : Nat → Prop} : ∀ (l : List Tm) (xs : List Value) (p : Nat), Tm.cellsP w ok l xs → Tm.cellsP w ok (l.take p) (xs.take (p * 4)) ∧ Tm.cellsP w ok (l.drop p) (xs.drop (p * 4))
  | l, xs, 0, h => by simpa [Tm.cellsP] using h
  | [], xs, p + 1, h => by simp only [Tm.cellsP] at h; subst h; simp [Tm.cellsP]
  | t :: r, xs, p + 1, ⟨sv, xs', h1, h2, h3⟩ => by
    obtain ⟨i1, i2⟩ := cellsP_take r xs' p h3
    subst h1
    rw [show (p + 1) * 4 = p * 4 + 1 + 1 + 1 + 1 by omega]
    exact ⟨⟨sv, xs'.take (p * 4), rfl, h2, i1⟩, i2⟩
/-- A row of terms that lie, but for the row itself, below n₀. -/
def ownTms (w : World) (n₀ base : Nat) (v : Value) (l : List Tm) : Prop := ∃ xs, w.ownsRow base 24 4 v l.length xs ∧ Tm.cellsP w (fun b => b < n₀) l xs
theorem ownTms_below {W W' : World} {n₀ base : Nat} {v : Value} {l : List Tm} (h : ownTms W n₀ base v l) (hb : Below W.heap.size W W') (hn : n₀ ≤ W.heap.size) : ownTms W' n₀ base v l := by
  obtain ⟨xs, h1, h2⟩ := h
  exact ⟨xs, ownsRow_below h1 hb, Tm.cellsP_same (fun _ h => h) (fun b o v hlt hc => (hb.cell (p := ⟨b, o, none⟩) (by show b < _; omega)).trans hc) _ _ h2⟩
theorem ownTms_base {w : World} {n₀ base base' : Nat} {v : Value} {l : List Tm} (hb : base' ≤ base) (h : ownTms w n₀ base v l) : ownTms w n₀ base' v l := by
  obtain ⟨xs, h1, h2⟩ := h
  refine ⟨xs, ⟨h1.1, ?_⟩, h2⟩
  rcases h1.2 with h3 | ⟨b, cap, cur, h3, h4, h5⟩
  · exact .inl h3
  · exact .inr ⟨b, cap, cur, h3, Nat.le_trans hb h4, h5⟩
theorem ownTms_none (w : World) (n₀ base : Nat) : ownTms w n₀ base (.slice none 0 0) [] := ⟨[], World.ownsRow_nil _ _ _ _, by simp [Tm.cellsP]⟩
theorem ownTms_made {X : World} {n₀ base : Nat} (hb : base ≤ X.heap.size) : ownTms (X.alloc (.cells #[] 24)) n₀ base (.slice (some ⟨X.heap.size, 0, none⟩) 0 0) [] :=
  ⟨[], World.ownsRow_lit X #[] 0 hb (by decide) rfl, by simp [Tm.cellsP]⟩
/-- Where the cells of a row of terms lie that is appended. -/
def srcTms (w : World) (n₀ : Nat) (l : List Tm) (g : Option Addr) : Prop := ∃ xs, Tm.cellsP w (fun b => b < n₀) l xs ∧ (l = [] ∨ ∃ a, g = some a ∧ ∀ j u, xs[j]? = some u → w.cell? (a.add j) = some u)
theorem srcTms_below {W W' : World} {n₀ : Nat} {g : Option Addr} {l : List Tm} (h : srcTms W n₀ l g) (hb : Below W.heap.size W W') (hn : n₀ ≤ W.heap.size) : srcTms W' n₀ l g := by
  obtain ⟨xs, h1, h2⟩ := h
  refine ⟨xs, Tm.cellsP_same (fun _ h => h) (fun b o v hlt hc => (hb.cell (p := ⟨b, o, none⟩) (by show b < _; omega)).trans hc) _ _ h1, ?_⟩
  rcases h2 with h2 | ⟨a, rfl, hc⟩
  · exact .inl h2
  · exact .inr ⟨a, rfl, fun j u hj => (hb.cell (World.block_lt_of_cell? _ _ (hc j u hj))).trans (hc j u hj)⟩

theorem run_append_tms {w : World} (n₀ base : Nat) (ty : TypeId) (v : Value) (l : List Tm) (hown : ownTms w n₀ base v l) (m : List Tm) (g : Option Addr) (c : Nat) (hsrc : srcTms w n₀ m g)
    (hmax : l.length + m.length ≤ 1000000000) (hbase : base ≤ w.heap.size) (hn : n₀ ≤ base) :
    ∃ v' w', (Builtin.append_ #[22, 22] ty #[v, .slice g m.length c]).run Try.prog w = .ok v' w' ∧ ownTms w' n₀ base v' (l ++ m) ∧ w.grownBy w' v.ownBlock ∧ (∀ j, v.ownBlock = some j → base ≤ j) ∧ (v'.ownBlock = v.ownBlock ∨ v'.ownBlock = some w.heap.size) := by
  obtain ⟨i0, hi, hz0, hz1, hz2⟩ := info_parts Try.infoTm
  obtain ⟨xs, h1, h2⟩ := hown
  obtain ⟨ys, h3, h4⟩ := hsrc
  obtain ⟨v', w', hr, ho, hg, hs⟩ := run_append_any (P := Try.prog) (w := w) base 22 ty 24 i0 _ 4 56 Try.underlying22 hi hz0 hz1 hz2 rfl (by decide) v l.length xs h1 g m.length c ys (cellsP_length _ _ h3) (by
    rcases h4 with h4 | ⟨a, ha, hc⟩
    · exact .inl (by rw [h4]; rfl)
    · exact .inr ⟨a, ha, hc⟩) (cellsP_one _ _ h3) (by unfold maxLen; omega) (by omega) hbase
  have hlow : ∀ j, v.ownBlock = some j → base ≤ j := fun j e => (World.ownsRow.lt h1 j e).1
  have hbw : Below n₀ w w' := (Below.refl _ _).grown hg (by omega) (fun k e => by have := hlow k e; omega)
  refine ⟨v', w', hr, ⟨xs ++ ys, by rw [List.length_append]; exact ho, ?_⟩, hg, hlow, hs⟩
  exact Tm.cellsP_same (fun _ h => h) (fun b o v hlt hc => (hbw.cell (p := ⟨b, o, none⟩) hlt).trans hc) _ _ (cellsP_app _ _ _ _ h2 h3)

theorem wp_append_tms {w : World} {o : Oper} {a : Act} {K : Act → World → Prop} {Q : Exit → Act → World → Prop} (s x : Operand)
    (ho : o.op = .call { callee := .builtin .append, args := #[s, x], argTypes := #[22, 22] })
    (n₀ base : Nat) (v : Value) (l : List Tm) (hs : a.eval s = v) (hown : ownTms w n₀ base v l) (m : List Tm) (g : Option Addr) (c : Nat) (hx : a.eval x = .slice g m.length c) (hsrc : srcTms w n₀ m g)
    (hmax : l.length + m.length ≤ 1000000000) (hbase : base ≤ w.heap.size) (hn : n₀ ≤ base)
    (h : ∀ v' w', ownTms w' n₀ base v' (l ++ m) → w.grownBy w' v.ownBlock → (∀ j, v.ownBlock = some j → base ≤ j) → (v'.ownBlock = v.ownBlock ∨ v'.ownBlock = some w.heap.size) → K (a.put o.dst v') w') : o.wp Try.prog a w K Q := by
  obtain ⟨v', w', hr, h2, h3, h4, h5⟩ := run_append_tms (w := w) n₀ base o.type v l hown m g c hsrc hmax hbase hn
  unfold Oper.wp execOp
  simp only [ho, resolve, invoke, builtin, Sem.run_bind, Sem.run_pure, Result.andThen_ok, List.map_toArray, List.map_cons, List.map_nil, hs, hx, hr]
  exact h v' w' h2 h3 h4 h5
theorem wpList_append_tms {w : World} {ops : Array Oper} {rest : List Oper} {o : Oper} {a : Act} {Q : Exit → Act → World → Prop} (hgd : o.guard = none) (s x : Operand)
    (ho : o.op = .call { callee := .builtin .append, args := #[s, x], argTypes := #[22, 22] })
    (n₀ base : Nat) (v : Value) (l : List Tm) (hs : a.eval s = v) (hown : ownTms w n₀ base v l) (m : List Tm) (g : Option Addr) (c : Nat) (hx : a.eval x = .slice g m.length c) (hsrc : srcTms w n₀ m g)
    (hmax : l.length + m.length ≤ 1000000000) (hbase : base ≤ w.heap.size) (hn : n₀ ≤ base)
    (h : ∀ v' w', ownTms w' n₀ base v' (l ++ m) → w.grownBy w' v.ownBlock → (∀ j, v.ownBlock = some j → base ≤ j) → (v'.ownBlock = v.ownBlock ∨ v'.ownBlock = some w.heap.size) → wpList Try.prog ops Q rest (a.put o.dst v') w') : wpList Try.prog ops Q (o :: rest) a w :=
  wpList_plain hgd fun _ hK => wp_append_tms s x ho n₀ base v l hs hown m g c hx hsrc hmax hbase hn fun v' w' h2 h3 h4 h5 => hK _ _ (h v' w' h2 h3 h4 h5)
theorem ownTms_slice {w : World} {n₀ base : Nat} {v : Value} {l : List Tm} (h : ownTms w n₀ base v l) (hn : n₀ ≤ w.heap.size) (hl : l.length ≤ 1000000) : Tm.sliceIn w w.heap.size l v := by
  obtain ⟨xs, h1, h2⟩ := h
  exact Tm.sliceIn_of_P (ok := fun b => b < w.heap.size) (fun b hb => hb) (Tm.sliceP_of_owns h1 h2 (by omega) (fun b hb => Nat.lt_of_lt_of_le hb hn) (fun b e => (World.ownsRow.lt h1 b e).2))
/-- A row that isn't empty: its block; its parts as sources. -/
theorem ownTms_parts {w : World} {n₀ base : Nat} {v : Value} {l : List Tm} (h : ownTms w n₀ base v l) (h0 : 0 < l.length) :
    ∃ b cap, v = .slice (some ⟨b, 0, none⟩) l.length cap ∧ l.length ≤ cap ∧ base ≤ b ∧ b < w.heap.size ∧ (∀ p, srcTms w n₀ (l.take p) (some ⟨b, 0, none⟩)) ∧ ∀ p g, (p < l.length → g = some ⟨b, p * 4, none⟩) → srcTms w n₀ (l.drop p) g := by
  obtain ⟨xs, h1, h2⟩ := h
  rcases id h1.2 with ⟨_, hx⟩ | ⟨b, cap, cur, rfl, hbase, hcur, hcap, _⟩
  · omega
  · have hc := World.ownsRow.cells h1 (g := b) rfl
    refine ⟨b, cap, rfl, hcap, hbase, (Array.getElem?_eq_some_iff.1 hcur).1, fun p => ?_, fun p g hg => ?_⟩
    · refine ⟨xs.take (p * 4), (cellsP_take _ _ p h2).1, .inr ⟨_, rfl, fun j u hj => hc j u ?_⟩⟩
      rw [List.getElem?_take] at hj
      split at hj
      · exact hj
      · cases hj
    · refine ⟨xs.drop (p * 4), (cellsP_take _ _ p h2).2, ?_⟩
      by_cases hp : p < l.length
      · refine .inr ⟨_, hg hp, fun j u hj => ?_⟩
        rw [List.getElem?_drop] at hj
        have := hc _ u hj
        simpa [Addr.add_lit] using this
      · exact .inl (List.drop_of_length_le (by omega))
theorem rowP_of_in {w : World} {B b : Nat} {l : List Tm} (hl : ∀ t ∈ l, ∀ sv, Tm.inn w B t sv → Tm.innP w (fun b => b < B) t sv) : ∀ {off : Nat}, Tm.rowIn w B b off l → Tm.rowP w (fun b => b < B) b off l := by
  induction l with
  | nil => intro off _; simp [Tm.rowP]
  | cons t r ih =>
    intro off h
    simp only [Tm.rowIn] at h
    simp only [Tm.rowP]
    obtain ⟨⟨sv, h0, h1, h2, h3, h4⟩, h5⟩ := h
    exact ⟨⟨sv, h0, h1, h2, h3, hl t (by simp) sv h4⟩, ih (fun u hu => hl u (by simp [hu])) h5⟩
theorem innP_of_inn {w : World} {B : Nat} : ∀ (t : Tm) (sv : Value), Tm.inn w B t sv → Tm.innP w (fun b => b < B) t sv := by
  refine Tm.ind fun k s n l ih sv h => ?_
  rw [Tm.inn_mk] at h
  rw [Tm.innP_mk]
  obtain ⟨h1, g, cap, rfl, h2, h3, h4⟩ := h
  refine ⟨h1, g, cap, rfl, h2, h3, ?_⟩
  rcases h4 with h4 | ⟨b, off, rfl, hb, hr⟩
  · exact .inl h4
  · exact .inr ⟨b, off, rfl, hb, rowP_of_in ih hr⟩
/-- One term as a source. -/
theorem srcTms_one {w X : World} {t : Tm} {g : Option Addr} {m c : Nat} {T : TypeId} (h : Tm.inn w w.heap.size t (.slice g m c)) (hb : Below w.heap.size w X) : srcTms (X.alloc (.cells #[.int .i64 t.kind, .string t.name, .int .i64 t.n, .slice g m c] T)) w.heap.size [t] (some ⟨X.heap.size, 0, none⟩) := by
  have hb2 := hb.alloc hb.size (.cells #[.int .i64 t.kind, .string t.name, .int .i64 t.n, .slice g m c] T)
  exact ⟨[.int .i64 t.kind, .string t.name, .int .i64 t.n, .slice g m c], ⟨_, [], rfl, innP_of_inn _ _ (Tm.inn_below h hb2 (Nat.le_refl _)), by simp [Tm.cellsP]⟩, .inr ⟨_, rfl, news4⟩⟩
theorem srcTms_one_at {w X : World} {t : Tm} {g : Option Addr} {m c : Nat} {T : TypeId} {z : Nat} (hz : X.heap.size = z) (h : Tm.inn w w.heap.size t (.slice g m c)) (hb : Below w.heap.size w X) : srcTms (X.alloc (.cells #[.int .i64 t.kind, .string t.name, .int .i64 t.n, .slice g m c] T)) w.heap.size [t] (some ⟨z, 0, none⟩) := by
  subst hz
  exact srcTms_one h hb
end Go.Proofs.Ytjbicfimoiiglaa
