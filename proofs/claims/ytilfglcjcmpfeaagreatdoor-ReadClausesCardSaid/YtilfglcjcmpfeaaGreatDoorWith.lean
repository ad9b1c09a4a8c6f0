/-
  Whether variables have no Args, and the document's variables, purely.
  The document's own answers: the variables of terms.
  The document's own answers: the variables of a row of terms.
-/
import Derived.Test.YtilfglcjcmpfeaaGreatDoorVars
import Derived.Test.YtilfglcjcmpfeaaGreatDoorRdA
import Derived.Deep.RegionHeld3
import Derived.Maps.AppendAt
import Derived.RegionTactic
namespace Go.Proofs.YtilfglcjcmpfeaaGreatDoor
open Go.RowKit

theorem plain_iff (l : List Tm) : Tm.plain l = true ↔ ∀ j (h : j < l.length), l[j].noArgs = true := by
  rw [Tm.plain_all, List.all_eq_true]
  constructor
  · intro h j hj
    exact h _ (List.getElem_mem hj)
  · intro h x hx
    obtain ⟨j, hj, rfl⟩ := List.getElem_of_mem hx
    exact h j hj
theorem noArgs_eq (t : Tm) : t.noArgs = ((if t.kind = 1 ∧ 0 < t.args.length then false else true) && Tm.plain t.args) := by
  obtain ⟨k, s, n, l⟩ := t
  simp only [Tm.noArgs, Tm.kind, Tm.args]
  rfl
theorem plain_cut {l : List Tm} {k : Nat} (hk : k < l.length) (h : l[k].noArgs = false) : Tm.plain l = false := by
  rw [Bool.eq_false_iff]
  intro hp
  rw [(plain_iff l).1 hp k hk] at h
  cases h

namespace Tm
mutual
/-- The document's own walk for variables. -/
def withT : List Int → Tm → List Int
  | l, .mk k _ n ts => if k = 1 then (if n ∈ l then l else l ++ [n]) else withs l ts
def withs : List Int → List Tm → List Int
  | l, [] => l
  | l, t :: r => withs (withT l t) r
end
end Tm
theorem withs_foldl (ts : List Tm) : ∀ l, Tm.withs l ts = ts.foldl Tm.withT l := by
  induction ts with
  | nil => intro l; simp [Tm.withs]
  | cons t r ih => intro l; simp [Tm.withs, ih]
theorem withs_take_succ (ts : List Tm) (l : List Int) (k : Nat) (hk : k < ts.length) : Tm.withs l (ts.take (k + 1)) = Tm.withT (Tm.withs l (ts.take k)) ts[k] := by
  rw [withs_foldl, withs_foldl, List.take_succ_eq_append_getElem hk, List.foldl_append]; rfl
theorem withs_eq (ts : List Tm) (h : ∀ t ∈ ts, t.noArgs = true → ∀ (l : List Int) (d : Int), Tm.withT l t = (t.nodes d).foldl addV l) (hp : Tm.plain ts = true) (l : List Int) (d : Int) : Tm.withs l ts = (Tm.nodesL ts d).foldl addV l := by
  induction ts generalizing l with
  | nil => simp [Tm.withs, Tm.nodesL]
  | cons t r ih =>
    simp only [Tm.plain, Bool.and_eq_true] at hp
    simp only [Tm.withs, Tm.nodesL, List.foldl_append]
    rw [h t (by simp) hp.1 l d]
    exact ih (fun u hu => h u (by simp [hu])) hp.2 _
theorem withT_eq : ∀ (t : Tm), t.noArgs = true → ∀ (l : List Int) (d : Int), Tm.withT l t = (t.nodes d).foldl addV l := Tm.ind fun k s n ts ih hn l d => by
  simp only [Tm.noArgs, Bool.and_eq_true] at hn
  by_cases hk : k = 1
  · subst hk
    have : ts = [] := by
      cases ts with
      | nil => rfl
      | cons a r => simp at hn
    subst this
    simp only [Tm.withT, Tm.nodes, Tm.nodesL, List.foldl_cons, List.foldl_nil, addV]
    by_cases hm : n ∈ l <;> simp [hm]
  · simp only [Tm.withT, if_neg hk, Tm.nodes, List.foldl_cons]
    rw [withs_eq ts ih hn.2 l (d + 1)]
    simp [addV, hk]
theorem withs_vars (ts : List Tm) (hp : Tm.plain ts = true) : Tm.withs [] ts = varsOf ts := withs_eq ts (fun t _ => withT_eq t) hp [] 1
theorem withT_length : ∀ (t : Tm) (l : List Int), (Tm.withT l t).length ≤ l.length + t.size := Tm.ind fun k s n ts ih l => by
  simp only [Tm.withT, Tm.size]
  split
  · split <;> simp <;> omega
  · rename_i hk
    have : ∀ (ts : List Tm) (_ : ∀ t ∈ ts, ∀ l : List Int, (Tm.withT l t).length ≤ l.length + t.size) (l : List Int), (Tm.withs l ts).length ≤ l.length + Tm.sizes ts := by
      intro ts
      induction ts with
      | nil => intro _ l; simp [Tm.withs, Tm.sizes]
      | cons t r ihr =>
        intro h l
        have h1 := h t (by simp) l
        have h2 := ihr (fun u hu => h u (by simp [hu])) (Tm.withT l t)
        simp only [Tm.withs, Tm.sizes]
        omega
    have := this ts ih l
    omega
theorem withs_length (ts : List Tm) : ∀ l : List Int, (Tm.withs l ts).length ≤ l.length + Tm.sizes ts := by
  induction ts with
  | nil => intro l; simp [Tm.withs, Tm.sizes]
  | cons t r ih =>
    intro l
    have h1 := withT_length t l
    have h2 := ih (Tm.withT l t)
    simp only [Tm.withs, Tm.sizes]
    omega
end Go.Proofs.YtilfglcjcmpfeaaGreatDoor

namespace Go.Proofs.YtilfglcjcmpfeaaGreatDoor
open Go.RowKit

theorem intsIn_mono {w : World} {B B' : Nat} {l : List Int} {v : Value} (h : intsIn w B l v) (hB : B ≤ B') : intsIn w B' l v := intsIn_same h hB (fun _ _ _ _ hc => hc)

/-- The cells of a row of numbers that is to be appended. -/
def srcInts (w : World) (l : List Int) (g : Option Addr) : Prop := l = [] ∨ ∃ b off, g = some ⟨b, off, none⟩ ∧ ∀ i (h : i < l.length), w.cell? ⟨b, off + i, none⟩ = some (.int .i64 l[i])
def ownInts (w : World) (base : Nat) (v : Value) (l : List Int) : Prop := w.ownsRow base 3 1 v l.length (l.map (Value.int .i64))

theorem run_append_ints {w : World} (base : Nat) (ty : TypeId) (v : Value) (vs : List Int) (hown : ownInts w base v vs) (l : List Int) (g : Option Addr) (c : Nat) (hsrc : srcInts w l g)
    (hmax : vs.length + l.length ≤ 1000000000) (hbase : base ≤ w.heap.size) :
    ∃ v' w', (Builtin.append_ #[79, 79] ty #[v, .slice g l.length c]).run Tryz.prog w = .ok v' w' ∧ ownInts w' base v' (vs ++ l) ∧ w.grownBy w' v.ownBlock ∧ (∀ j, v.ownBlock = some j → base ≤ j) := by
  obtain ⟨i0, hi, hz0, hz1, hz2⟩ := info_parts Tryz.infoInt
  obtain ⟨v', w', h1, h2, h3, h4⟩ := run_append_any (P := Tryz.prog) (w := w) base 79 ty 3 i0 (.int .i64 0) 1 8 Tryz.underlying79 hi hz0 hz1 hz2 rfl (by decide) v vs.length _ hown g l.length c (l.map (Value.int .i64)) (by simp) (by
    rcases hsrc with h | ⟨b, off, rfl, hc⟩
    · exact .inl (by rw [h]; rfl)
    · refine .inr ⟨_, rfl, fun j u hu => ?_⟩
      rw [List.getElem?_map] at hu
      obtain ⟨x, hx, rfl⟩ := Option.map_eq_some_iff.1 hu
      obtain ⟨hj, rfl⟩ := List.getElem?_eq_some_iff.1 hx
      rw [Addr.add_lit]
      exact hc j hj) (by
    intro u hu
    obtain ⟨x, _, rfl⟩ := List.mem_map.1 hu
    rfl) (by unfold maxLen; omega) (by omega) hbase
  refine ⟨v', w', h1, ?_, h3, fun j e => (World.ownsRow.lt hown j e).1⟩
  unfold ownInts
  rw [List.length_append, List.map_append]
  exact h2

theorem wp_append_ints {w : World} {o : Oper} {a : Act} {K : Act → World → Prop} {Q : Exit → Act → World → Prop} (s x : Operand)
    (ho : o.op = .call { callee := .builtin .append, args := #[s, x], argTypes := #[79, 79] })
    (base : Nat) (v : Value) (vs : List Int) (hs : a.eval s = v) (hown : ownInts w base v vs) (l : List Int) (g : Option Addr) (c : Nat) (hx : a.eval x = .slice g l.length c) (hsrc : srcInts w l g)
    (hmax : vs.length + l.length ≤ 1000000000) (hbase : base ≤ w.heap.size)
    (h : ∀ v' w', ownInts w' base v' (vs ++ l) → w.grownBy w' v.ownBlock → (∀ j, v.ownBlock = some j → base ≤ j) → K (a.put o.dst v') w') : o.wp Tryz.prog a w K Q := by
  obtain ⟨v', w', hr, h2, h3, h4⟩ := run_append_ints (w := w) base o.type v vs hown l g c hsrc hmax hbase
  unfold Oper.wp execOp
  simp only [ho, resolve, invoke, builtin, Sem.run_bind, Sem.run_pure, Result.andThen_ok, List.map_toArray, List.map_cons, List.map_nil, hs, hx, hr]
  exact h v' w' h2 h3 h4
theorem step_append_ints {w : World} {ops : Array Oper} {o : Oper} {a : Act} {K : Act → World → Prop} {Q : Exit → Act → World → Prop} {E : Prop} (hgd : o.guard = none) (s x : Operand)
    (ho : o.op = .call { callee := .builtin .append, args := #[s, x], argTypes := #[79, 79] })
    (base : Nat) (v : Value) (vs : List Int) (hs : a.eval s = v) (hown : ownInts w base v vs) (l : List Int) (g : Option Addr) (c : Nat) (hx : a.eval x = .slice g l.length c) (hsrc : srcInts w l g)
    (hmax : vs.length + l.length ≤ 1000000000) (hbase : base ≤ w.heap.size)
    (h : ∀ v' w', ownInts w' base v' (vs ++ l) → w.grownBy w' v.ownBlock → (∀ j, v.ownBlock = some j → base ≤ j) → K (a.put o.dst v') w') :
    if Region.wanted o (yielded ops a.tmps) = true then Oper.wp Tryz.prog o a w K Q else E := by
  have hw : Region.wanted o (yielded ops a.tmps) = true := by simp [Region.wanted, hgd]
  rw [if_pos hw]
  exact wp_append_ints s x ho base v vs hs hown l g c hx hsrc hmax hbase h

theorem own0 {X : World} {base : Nat} (H : Nat) (hH : X.heap.size = H) (hb : base ≤ H) : ownInts (X.alloc (.cells #[] 3)) base (.slice (some ⟨H, 0, none⟩) 0 0) [] := by
  subst hH
  exact World.ownsRow_lit X #[] 0 hb (by decide) rfl
theorem ownInts.alloc {X : World} {base : Nat} {v : Value} {l : List Int} (h : ownInts X base v l) (o : Obj) : ownInts (X.alloc o) base v l := World.ownsRow.alloc h o
theorem src_of {w X : World} {l : List Int} {g : Option Addr} {c : Nat} (h : intsIn w w.heap.size l (.slice g l.length c)) (hb : Below w.heap.size w X) : srcInts X l g := by
  obtain ⟨g', cap', he, _, _, h3⟩ := intsIn_below h hb (Nat.le_refl _)
  injection he with e1 e2 e3
  subst e1
  rcases h3 with h3 | ⟨b, off, rfl, _, hc⟩
  · exact .inl h3
  · exact .inr ⟨b, off, rfl, hc⟩
theorem src_at {w X : World} {l : List Int} {g : Option Addr} {c : Nat} {p : Prop} (h : intsIn w w.heap.size l (.slice g l.length c)) (hb : p ∧ Below w.heap.size w X ∧ w.heap.size < X.heap.size) : srcInts X l g := src_of h hb.2.1
theorem held_size {w X : World} {p : Prop} (hb : p ∧ Below w.heap.size w X ∧ w.heap.size < X.heap.size) : w.heap.size + 1 ≤ X.heap.size := hb.2.2
theorem held_below {w X : World} {p : Prop} (hb : p ∧ Below w.heap.size w X ∧ w.heap.size < X.heap.size) : Below w.heap.size w X := hb.2.1
theorem src1_drew {X : World} {l : List Int} {g : Option Addr} (h : srcInts X l g) : srcInts X.drew l g := h
theorem ownInts.drew {X : World} {base : Nat} {v : Value} {l : List Int} (h : ownInts X base v l) : ownInts X.drew base v l := h
theorem src1 {X : World} {n : Int} (H : Nat) (hH : X.heap.size = H) : srcInts (X.alloc (.cells #[.int .i64 n] 3)) [n] (some ⟨H, 0, none⟩) := by
  subst hH
  refine .inr ⟨_, 0, rfl, fun i hi => ?_⟩
  obtain rfl : i = 0 := by simpa using hi
  simp [World.cell?_alloc_new]
theorem src1_alloc {X : World} {n : Int} {H : Nat} (h : srcInts X [n] (some ⟨H, 0, none⟩)) (o : Obj) : srcInts (X.alloc o) [n] (some ⟨H, 0, none⟩) := by
  rcases h with h | ⟨b, off, e, hc⟩
  · cases h
  · refine .inr ⟨b, off, e, fun i hi => ?_⟩
    have h1 := hc i hi
    rw [World.cell?_alloc_old _ _ _ (Nat.ne_of_lt (World.block_lt_of_cell? _ _ h1))]
    exact h1
theorem src1_grown {X X' : World} {n : Int} {H : Nat} {row : Option Nat} (h : srcInts X [n] (some ⟨H, 0, none⟩)) (hg : X.grownBy X' row) (hr : some H ≠ row) : srcInts X' [n] (some ⟨H, 0, none⟩) := by
  rcases h with h | ⟨b, off, e, hc⟩
  · cases h
  · refine .inr ⟨b, off, e, fun i hi => ?_⟩
    injection e with e
    injection e with e1 e2
    subst e1
    exact hg.cell (hc i hi) hr

/-- What stays while the row is made: what lay ahead, and the term's box. -/
def WSt (w W : World) : Prop := Below w.heap.size w W ∧ w.heap.size < W.heap.size
theorem WSt.alloc {w W : World} {n : Int} (h : W.cell? ⟨w.heap.size, 2, none⟩ = some (.int .i64 n) ∧ WSt w W) (o : Obj) : (W.alloc o).cell? ⟨w.heap.size, 2, none⟩ = some (.int .i64 n) ∧ WSt w (W.alloc o) :=
  ⟨by rw [World.cell?_alloc_old _ _ _ (Nat.ne_of_lt h.2.2)]; exact h.1, h.2.1.alloc (by have := h.2.2; omega) o, by have := h.2.2; simp; omega⟩
theorem WSt.drew {w W : World} {n : Int} (h : W.cell? ⟨w.heap.size, 2, none⟩ = some (.int .i64 n) ∧ WSt w W) : (W.drew).cell? ⟨w.heap.size, 2, none⟩ = some (.int .i64 n) ∧ WSt w (W.drew) :=
  ⟨h.1, h.2.1.drew, h.2.2⟩
theorem WSt.grown {w W W' : World} {n : Int} {row : Option Nat} (h : W.cell? ⟨w.heap.size, 2, none⟩ = some (.int .i64 n) ∧ WSt w W) (hg : W.grownBy W' row) (hr : ∀ j, row = some j → w.heap.size + 1 ≤ j) :
    W'.cell? ⟨w.heap.size, 2, none⟩ = some (.int .i64 n) ∧ WSt w W' :=
  ⟨hg.cell h.1 (fun e => by have := hr _ e.symm; simp at this; omega), h.2.1.grown hg (by have := h.2.2; omega) (fun k e => by have := hr k e; omega), by have := hg.size; have := h.2.2; omega⟩

theorem ints_of_own {w : World} {base : Nat} {v : Value} {l : List Int} (h : ownInts w base v l) (hl : l.length ≤ 1000000000) : intsIn w w.heap.size l v := by
  rcases h.2 with ⟨rfl, h0⟩ | ⟨gr, cr, cur, rfl, hbase, hg, hn, hcap, hsz, htake⟩
  · refine ⟨none, 0, ?_, by omega, by omega, .inl (List.eq_nil_of_length_eq_zero h0)⟩
    rw [h0]
  · refine ⟨_, cr, rfl, hn, by omega, .inr ⟨gr, 0, rfl, (Array.getElem?_eq_some_iff.1 hg).1, fun i hi => ?_⟩⟩
    have hc := World.ownsRow.cells h (g := gr) rfl i (.int .i64 l[i]) (by simp [hi])
    rw [Addr.add_lit] at hc
    exact hc

theorem wpList_append_ints {w : World} {ops : Array Oper} {rest : List Oper} {o : Oper} {a : Act} {Q : Exit → Act → World → Prop} (hgd : o.guard = none) (s x : Operand)
    (ho : o.op = .call { callee := .builtin .append, args := #[s, x], argTypes := #[79, 79] })
    (base : Nat) (v : Value) (vs : List Int) (hs : a.eval s = v) (hown : ownInts w base v vs) (l : List Int) (g : Option Addr) (c : Nat) (hx : a.eval x = .slice g l.length c) (hsrc : srcInts w l g)
    (hmax : vs.length + l.length ≤ 1000000000) (hbase : base ≤ w.heap.size)
    (h : ∀ v' w', ownInts w' base v' (vs ++ l) → w.grownBy w' v.ownBlock → (∀ j, v.ownBlock = some j → base ≤ j) → wpList Tryz.prog ops Q rest (a.put o.dst v') w') : wpList Tryz.prog ops Q (o :: rest) a w :=
  wpList_plain hgd fun _ hK => wp_append_ints s x ho base v vs hs hown l g c hx hsrc hmax hbase fun v' w' h2 h3 h4 => hK _ _ (h v' w' h2 h3 h4)
theorem ownInts_below {W W' : World} {base : Nat} {v : Value} {l : List Int} (h : ownInts W base v l) (hb : Below W.heap.size W W') : ownInts W' base v l := ownsRow_below h hb
end Go.Proofs.YtilfglcjcmpfeaaGreatDoor

namespace Go.Proofs.YtilfglcjcmpfeaaGreatDoor
open Go.RowKit

end Go.Proofs.YtilfglcjcmpfeaaGreatDoor
