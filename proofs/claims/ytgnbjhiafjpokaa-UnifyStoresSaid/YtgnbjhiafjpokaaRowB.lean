/-
  Rows of binds that a call gathers of binds that lay before: append of any such row.
-/
import Derived.Test.YtgnbjhiafjpokaaFlat
import Derived.Test.YtgnbjhiafjpokaaRowT
namespace Go.Proofs.Ytgnbjhiafjpokaa
open Go.RowKit Go.Shelf Go.Maps

/-- Binds that lie in a row of the call's own, as they are read. -/
structure BRow (W : World) (B lo : Nat) (bs : List Bd) (sv : Value) (xs : List Value) : Prop where
  row : W.ownsRow lo 33 5 sv bs.length xs
  cells : cellsB W (fun b => b < B) bs xs
theorem BRow.slice {W : World} {B lo : Nat} {bs : List Bd} {sv : Value} {xs : List Value} (h : BRow W B lo bs sv xs) : ∃ g c, sv = .slice g bs.length c := by
  rcases h.row.2 with ⟨e, h0⟩ | ⟨g, cap, cur, e, _⟩
  · exact ⟨none, 0, by rw [e, h0]⟩
  · exact ⟨_, _, e⟩
theorem BRow.keep {W W' : World} {B lo : Nat} {bs : List Bd} {sv : Value} {xs : List Value} (h : BRow W B lo bs sv xs) (hB : ∀ b, b < B → W'.heap[b]? = W.heap[b]?) (hb : ∀ b, sv.ownBlock = some b → W'.heap[b]? = W.heap[b]?) : BRow W' B lo bs sv xs :=
  ⟨ownsRow_block h.row hb, cellsB_same (fun _ h => h) (fun b o _v hlt hc => (World.cell?_of_block (a := ⟨b, o, none⟩) (hB b hlt)).trans hc) _ _ h.cells⟩
theorem BRow.get {W : World} {B lo : Nat} {bs : List Bd} {g : Option Addr} {n c : Nat} {xs : List Value} (h : BRow W B lo bs (.slice g n c) xs) (i : Nat) (hi : i < bs.length) :
    ∃ b sv, g = some ⟨b, 0, none⟩ ∧ lo ≤ b ∧ b < W.heap.size ∧ W.cell? ⟨b, i * 5, none⟩ = some (.int .i64 bs[i].v) ∧ W.cell? ⟨b, i * 5 + 1, none⟩ = some (.int .i64 bs[i].t.kind) ∧ W.cell? ⟨b, i * 5 + 2, none⟩ = some (.string bs[i].t.name) ∧
      W.cell? ⟨b, i * 5 + 3, none⟩ = some (.int .i64 bs[i].t.n) ∧ W.cell? ⟨b, i * 5 + 4, none⟩ = some sv ∧ Tm.inn W B bs[i].t sv := by
  rcases h.row.2 with ⟨_, h0⟩ | ⟨gr, cap, cur, e, h1, h2, h3⟩
  · omega
  · injection e with e1 e2 e3
    have hob : (Value.slice g n c).ownBlock = some gr := by rw [e1]; rfl
    obtain ⟨sv, c0, c1, c2, c3, c4, c5⟩ := rowB_of_cells (B := B) (b := gr) (fun _ h => h) bs xs 0 h.cells (fun j u hj => by
      have := World.ownsRow.cells h.row (g := gr) hob j u hj
      simpa [Addr.add_lit] using this) i hi
    simp only [Nat.zero_add] at c0 c1 c2 c3 c4
    exact ⟨gr, sv, e1, h1, (h.row.lt gr hob).2, c0, c1, c2, c3, c4, c5⟩
theorem cellsB_length {w : World} {ok : Nat → Prop} : ∀ (l : List Bd) (xs : List Value), cellsB w ok l xs → xs.length = l.length * 5
  | [], _, h => by simp only [cellsB] at h; subst h; rfl
  | t :: r, _, ⟨sv, xs', h1, _, h3⟩ => by
    have := cellsB_length r xs' h3
    rw [h1]
    simp only [List.length_cons, this]
    omega
theorem cellsB_one {w : World} {ok : Nat → Prop} : ∀ (l : List Bd) (xs : List Value), cellsB w ok l xs → ∀ u ∈ xs, u.oneCell' = true
  | [], _, h => by simp only [cellsB] at h; subst h; simp
  | t :: r, _, ⟨sv, xs', h1, h2, h3⟩ => by
    intro u hu
    rw [h1] at hu
    obtain ⟨_, g, c, rfl, _⟩ := Tm.innP_iff.1 h2
    simp only [List.mem_cons] at hu
    rcases hu with rfl | rfl | rfl | rfl | rfl | hu
    · rfl
    · rfl
    · rfl
    · rfl
    · rfl
    · exact cellsB_one r xs' h3 u hu
theorem cellsB_app {w : World} {ok : Nat → Prop} : ∀ (a b : List Bd) (xs ys : List Value), cellsB w ok a xs → cellsB w ok b ys → cellsB w ok (a ++ b) (xs ++ ys)
  | [], _, _, _, h, h' => by simp only [cellsB] at h; subst h; simpa using h'
  | t :: r, b, _, ys, ⟨sv, xs', h1, h2, h3⟩, h' => ⟨sv, xs' ++ ys, by rw [h1]; rfl, h2, cellsB_app r b xs' ys h3 h'⟩
/-- The cells of a row of binds that is to be appended. -/
def srcBds (w : World) (B : Nat) (l : List Bd) (g : Option Addr) : Prop := ∃ xs, cellsB w (fun b => b < B) l xs ∧ (l = [] ∨ ∃ a, g = some a ∧ ∀ j u, xs[j]? = some u → w.cell? (a.add j) = some u)
theorem BRow.src {W : World} {B lo : Nat} {l : List Bd} {g : Option Addr} {n c : Nat} {xs : List Value} (h : BRow W B lo l (.slice g n c) xs) : srcBds W B l g := by
  refine ⟨xs, h.cells, ?_⟩
  rcases h.row.2 with ⟨_, h0⟩ | ⟨gr, cap, cur, e, h1, h2, h3⟩
  · exact .inl (List.eq_nil_of_length_eq_zero h0)
  · injection e with e1 e2 e3
    have hob : (Value.slice g n c).ownBlock = some gr := by rw [e1]; rfl
    exact .inr ⟨_, e1, fun j u hj => World.ownsRow.cells h.row (g := gr) hob j u hj⟩
theorem BRow.zero (W : World) (B lo : Nat) : BRow W B lo [] (.slice none 0 0) [] := ⟨World.ownsRow_nil _ _ _ _, by simp [cellsB]⟩
theorem BRow.next {W W' : World} {B lo : Nat} {l : List Bd} {sv : Value} {xs : List Value} (h : BRow W B lo l sv xs) (hb : Below W.heap.size W W') (hB : B ≤ W.heap.size) : BRow W' B lo l sv xs :=
  h.keep (fun b hlt => hb.block b (by omega)) (fun b e => hb.block b (h.row.lt b e).2)
theorem BRow.low {W : World} {B lo lo' : Nat} {l : List Bd} {sv : Value} {xs : List Value} (h : BRow W B lo l sv xs) (hl : lo' ≤ lo) : BRow W B lo' l sv xs := ⟨h.row.mono hl, h.cells⟩
theorem run_append_bds {w : World} {B base : Nat} (ty : TypeId) {v : Value} {l : List Bd} {xs : List Value} (hown : BRow w B base l v xs) (m : List Bd) (g : Option Addr) (c : Nat) (hsrc : srcBds w B m g)
    (hmax : l.length + m.length ≤ 1000000000) (hbase : base ≤ w.heap.size) (hn : B ≤ base) :
    ∃ v' w', (Builtin.append_ #[22, 22] ty #[v, .slice g m.length c]).run Try.prog w = .ok v' w' ∧ (∃ zs, BRow w' B base (l ++ m) v' zs) ∧ w.grownBy w' v.ownBlock ∧ (v'.ownBlock = v.ownBlock ∨ v'.ownBlock = some w.heap.size) := by
  obtain ⟨i0, hi, hz0, hz1, hz2⟩ := info_parts Try.infoBd
  obtain ⟨ys, h3, h4⟩ := hsrc
  obtain ⟨v', w', hr, ho, hg, hs⟩ := run_append_any (P := Try.prog) (w := w) base 22 ty 33 i0 _ 5 64 Try.underlying22 hi hz0 hz1 hz2 rfl (by decide) v l.length xs hown.row g m.length c ys (cellsB_length _ _ h3) (by
    rcases h4 with h4 | ⟨a, ha, hc⟩
    · exact .inl (by rw [h4]; rfl)
    · exact .inr ⟨a, ha, hc⟩) (cellsB_one _ _ h3) (by unfold maxLen; omega) (by omega) hbase
  have hbw : Below B w w' := (Below.refl _ _).grown hg (by omega) (fun k e => by have := (hown.row.lt k e).1; omega)
  refine ⟨v', w', hr, ⟨xs ++ ys, by rw [List.length_append]; exact ho, ?_⟩, hg, hs⟩
  exact cellsB_same (fun _ h => h) (fun b o v hlt hc => (hbw.cell (p := ⟨b, o, none⟩) hlt).trans hc) _ _ (cellsB_app _ _ _ _ hown.cells h3)
theorem wpList_append_bds {w : World} {ops : Array Oper} {rest : List Oper} {o : Oper} {a : Act} {Q : Exit → Act → World → Prop} (hgd : o.guard = none) (s x : Operand)
    (ho : o.op = .call { callee := .builtin .append, args := #[s, x], argTypes := #[22, 22] })
    (B base : Nat) (v : Value) (l : List Bd) (xs : List Value) (hs : a.eval s = v) (hown : BRow w B base l v xs) (m : List Bd) (g : Option Addr) (n c : Nat) (hx : a.eval x = .slice g n c) (hnm : n = m.length) (hsrc : srcBds w B m g)
    (hmax : l.length + m.length ≤ 1000000000) (hbase : base ≤ w.heap.size) (hn : B ≤ base)
    (h : ∀ v' w' zs, BRow w' B base (l ++ m) v' zs → w.grownBy w' v.ownBlock → (v'.ownBlock = v.ownBlock ∨ v'.ownBlock = some w.heap.size) → wpList Try.prog ops Q rest (a.put o.dst v') w') : wpList Try.prog ops Q (o :: rest) a w := by
  subst hnm
  refine wpList_plain hgd fun K hK => ?_
  obtain ⟨v', w', hr, ⟨zs, h2⟩, h3, h4⟩ := run_append_bds (w := w) o.type hown m g c hsrc hmax hbase hn
  unfold Oper.wp execOp
  simp only [ho, resolve, invoke, builtin, Sem.run_bind, Sem.run_pure, Result.andThen_ok, List.map_toArray, List.map_cons, List.map_nil, hs, hx, hr]
  exact hK _ _ (h v' w' zs h2 h3 h4)
/-- A row of one bind, newly made. -/
theorem BRow.one {W : World} {B : Nat} {x : Bd} {sv : Value} {n : Nat} (hn : n = W.heap.size) (hB : B ≤ W.heap.size) (hin : Tm.inn W B x.t sv) :
    BRow (W.alloc (.cells #[.int .i64 x.v, .int .i64 x.t.kind, .string x.t.name, .int .i64 x.t.n, sv] 33 (0, 0))) B n [x] (.slice (some ⟨n, 0, none⟩) 1 1) [.int .i64 x.v, .int .i64 x.t.kind, .string x.t.name, .int .i64 x.t.n, sv] := by
  subst hn
  obtain ⟨_, g, c, rfl, _⟩ := Tm.inn_iff.1 hin
  refine ⟨?_, ⟨_, [], rfl, innP_of_inn _ _ (Tm.inn_below hin ((Below.refl _ _).alloc (Nat.le_refl _) _) hB), by simp [cellsB]⟩⟩
  exact ⟨rfl, .inr ⟨W.heap.size, 1, _, rfl, Nat.le_refl _, newBlk _ _ _ rfl, Nat.le_refl _, by unfold maxLen; omega, rfl, rfl⟩⟩
end Go.Proofs.Ytgnbjhiafjpokaa
