/-
  Whether variables have no Args, and the document's variables, purely.
  The document's own answers: the variables of terms.
  The document's own answers: the variables of a row of terms.
  The program's copy of a term with other variables: for each of the two functions that it is called with.
  The place of a number in a row, and what it becomes; append of one term at a step; what a write elsewhere leaves of a row.
-/
import Derived.Test.YtliapkajonbndaaGreatDoorG24
import Derived.Test.YtliapkajonbndaaGreatDoorG14
import Derived.Deep.RegionHeld3
import Derived.Maps.AppendAt
import Derived.RegionTactic
import Derived.Test.YtliapkajonbndaaGreatDoorTmP
import Derived.Test.YtliapkajonbndaaGreatDoorChecked
import Derived.Lib.Hide
import Derived.Deep.RegionLaw
namespace Go.Proofs.YtliapkajonbndaaGreatDoor
open Go.RowKit

theorem plain_iff (l : List Tm) : Tm.plain l = true ↔ ∀ j (h : j < l.length), l[j].noArgs = true := by
  rw [Tm.plain_all, List.all_eq_true]
  constructor
  · intro h j hj
    exact h _ (List.getElem_mem hj)
  · intro h x hx
    obtain ⟨j, hj, rfl⟩ := List.getElem_of_mem hx
    exact h j hj
theorem noArgs_eq (t : Tm) : t.noArgs = ((if t.kind = 1 ∧ 0 < t.args.length then false else true) && Tm.plain t.args) := by
  obtain ⟨k, s, n, l⟩ := t
  simp only [Tm.noArgs, Tm.kind, Tm.args]
  rfl
theorem plain_cut {l : List Tm} {k : Nat} (hk : k < l.length) (h : l[k].noArgs = false) : Tm.plain l = false := by
  rw [Bool.eq_false_iff]
  intro hp
  rw [(plain_iff l).1 hp k hk] at h
  cases h

namespace Tm
mutual
/-- The document's own walk for variables. -/
def withT : List Int → Tm → List Int
  | l, .mk k _ n ts => if k = 1 then (if n ∈ l then l else l ++ [n]) else withs l ts
def withs : List Int → List Tm → List Int
  | l, [] => l
  | l, t :: r => withs (withT l t) r
end
end Tm
theorem withs_foldl (ts : List Tm) : ∀ l, Tm.withs l ts = ts.foldl Tm.withT l := by
  induction ts with
  | nil => intro l; simp [Tm.withs]
  | cons t r ih => intro l; simp [Tm.withs, ih]
theorem withs_take_succ (ts : List Tm) (l : List Int) (k : Nat) (hk : k < ts.length) : Tm.withs l (ts.take (k + 1)) = Tm.withT (Tm.withs l (ts.take k)) ts[k] := by
  rw [withs_foldl, withs_foldl, List.take_succ_eq_append_getElem hk, List.foldl_append]; rfl
theorem withs_eq (ts : List Tm) (h : ∀ t ∈ ts, t.noArgs = true → ∀ (l : List Int) (d : Int), Tm.withT l t = (t.nodes d).foldl addV l) (hp : Tm.plain ts = true) (l : List Int) (d : Int) : Tm.withs l ts = (Tm.nodesL ts d).foldl addV l := by
  induction ts generalizing l with
  | nil => simp [Tm.withs, Tm.nodesL]
  | cons t r ih =>
    simp only [Tm.plain, Bool.and_eq_true] at hp
    simp only [Tm.withs, Tm.nodesL, List.foldl_append]
    rw [h t (by simp) hp.1 l d]
    exact ih (fun u hu => h u (by simp [hu])) hp.2 _
theorem withT_eq : ∀ (t : Tm), t.noArgs = true → ∀ (l : List Int) (d : Int), Tm.withT l t = (t.nodes d).foldl addV l := Tm.ind fun k s n ts ih hn l d => by
  simp only [Tm.noArgs, Bool.and_eq_true] at hn
  by_cases hk : k = 1
  · subst hk
    have : ts = [] := by
      cases ts with
      | nil => rfl
      | cons a r => simp at hn
    subst this
    simp only [Tm.withT, Tm.nodes, Tm.nodesL, List.foldl_cons, List.foldl_nil, addV]
    by_cases hm : n ∈ l <;> simp [hm]
  · simp only [Tm.withT, if_neg hk, Tm.nodes, List.foldl_cons]
    rw [withs_eq ts ih hn.2 l (d + 1)]
    simp [addV, hk]
theorem withs_vars (ts : List Tm) (hp : Tm.plain ts = true) : Tm.withs [] ts = varsOf ts := withs_eq ts (fun t _ => withT_eq t) hp [] 1
theorem withT_length : ∀ (t : Tm) (l : List Int), (Tm.withT l t).length ≤ l.length + t.size := Tm.ind fun k s n ts ih l => by
  simp only [Tm.withT, Tm.size]
  split
  · split <;> simp <;> omega
  · rename_i hk
    have : ∀ (ts : List Tm) (_ : ∀ t ∈ ts, ∀ l : List Int, (Tm.withT l t).length ≤ l.length + t.size) (l : List Int), (Tm.withs l ts).length ≤ l.length + Tm.sizes ts := by
      intro ts
      induction ts with
      | nil => intro _ l; simp [Tm.withs, Tm.sizes]
      | cons t r ihr =>
        intro h l
        have h1 := h t (by simp) l
        have h2 := ihr (fun u hu => h u (by simp [hu])) (Tm.withT l t)
        simp only [Tm.withs, Tm.sizes]
        omega
    have := this ts ih l
    omega
theorem withs_length (ts : List Tm) : ∀ l : List Int, (Tm.withs l ts).length ≤ l.length + Tm.sizes ts := by
  induction ts with
  | nil => intro l; simp [Tm.withs, Tm.sizes]
  | cons t r ih =>
    intro l
    have h1 := withT_length t l
    have h2 := ih (Tm.withT l t)
    simp only [Tm.withs, Tm.sizes]
    omega
end Go.Proofs.YtliapkajonbndaaGreatDoor

namespace Go.Proofs.YtliapkajonbndaaGreatDoor
open Go.RowKit

theorem intsIn_mono {w : World} {B B' : Nat} {l : List Int} {v : Value} (h : intsIn w B l v) (hB : B ≤ B') : intsIn w B' l v := intsIn_same h hB (fun _ _ _ _ hc => hc)

/-- The cells of a row of numbers that is to be appended. -/
def srcInts (w : World) (l : List Int) (g : Option Addr) : Prop := l = [] ∨ ∃ b off, g = some ⟨b, off, none⟩ ∧ ∀ i (h : i < l.length), w.cell? ⟨b, off + i, none⟩ = some (.int .i64 l[i])
def ownInts (w : World) (base : Nat) (v : Value) (l : List Int) : Prop := w.ownsRow base 3 1 v l.length (l.map (Value.int .i64))

theorem run_append_ints {w : World} (base : Nat) (ty : TypeId) (v : Value) (vs : List Int) (hown : ownInts w base v vs) (l : List Int) (g : Option Addr) (c : Nat) (hsrc : srcInts w l g)
    (hmax : vs.length + l.length ≤ 1000000000) (hbase : base ≤ w.heap.size) :
    ∃ v' w', (Builtin.append_ #[61, 61] ty #[v, .slice g l.length c]).run Tryz.prog w = .ok v' w' ∧ ownInts w' base v' (vs ++ l) ∧ w.grownBy w' v.ownBlock ∧ (∀ j, v.ownBlock = some j → base ≤ j) := by
  obtain ⟨i0, hi, hz0, hz1, hz2⟩ := info_parts Tryz.infoInt
  obtain ⟨v', w', h1, h2, h3, h4⟩ := run_append_any (P := Tryz.prog) (w := w) base 61 ty 3 i0 (.int .i64 0) 1 8 Tryz.underlying61 hi hz0 hz1 hz2 rfl (by decide) v vs.length _ hown g l.length c (l.map (Value.int .i64)) (by simp) (by
    rcases hsrc with h | ⟨b, off, rfl, hc⟩
    · exact .inl (by rw [h]; rfl)
    · refine .inr ⟨_, rfl, fun j u hu => ?_⟩
      rw [List.getElem?_map] at hu
      obtain ⟨x, hx, rfl⟩ := Option.map_eq_some_iff.1 hu
      obtain ⟨hj, rfl⟩ := List.getElem?_eq_some_iff.1 hx
      rw [Addr.add_lit]
      exact hc j hj) (by
    intro u hu
    obtain ⟨x, _, rfl⟩ := List.mem_map.1 hu
    rfl) (by unfold maxLen; omega) (by omega) hbase
  refine ⟨v', w', h1, ?_, h3, fun j e => (World.ownsRow.lt hown j e).1⟩
  unfold ownInts
  rw [List.length_append, List.map_append]
  exact h2

theorem wp_append_ints {w : World} {o : Oper} {a : Act} {K : Act → World → Prop} {Q : Exit → Act → World → Prop} (s x : Operand)
    (ho : o.op = .call { callee := .builtin .append, args := #[s, x], argTypes := #[61, 61] })
    (base : Nat) (v : Value) (vs : List Int) (hs : a.eval s = v) (hown : ownInts w base v vs) (l : List Int) (g : Option Addr) (c : Nat) (hx : a.eval x = .slice g l.length c) (hsrc : srcInts w l g)
    (hmax : vs.length + l.length ≤ 1000000000) (hbase : base ≤ w.heap.size)
    (h : ∀ v' w', ownInts w' base v' (vs ++ l) → w.grownBy w' v.ownBlock → (∀ j, v.ownBlock = some j → base ≤ j) → K (a.put o.dst v') w') : o.wp Tryz.prog a w K Q := by
  obtain ⟨v', w', hr, h2, h3, h4⟩ := run_append_ints (w := w) base o.type v vs hown l g c hsrc hmax hbase
  unfold Oper.wp execOp
  simp only [ho, resolve, invoke, builtin, Sem.run_bind, Sem.run_pure, Result.andThen_ok, List.map_toArray, List.map_cons, List.map_nil, hs, hx, hr]
  exact h v' w' h2 h3 h4
theorem step_append_ints {w : World} {ops : Array Oper} {o : Oper} {a : Act} {K : Act → World → Prop} {Q : Exit → Act → World → Prop} {E : Prop} (hgd : o.guard = none) (s x : Operand)
    (ho : o.op = .call { callee := .builtin .append, args := #[s, x], argTypes := #[61, 61] })
    (base : Nat) (v : Value) (vs : List Int) (hs : a.eval s = v) (hown : ownInts w base v vs) (l : List Int) (g : Option Addr) (c : Nat) (hx : a.eval x = .slice g l.length c) (hsrc : srcInts w l g)
    (hmax : vs.length + l.length ≤ 1000000000) (hbase : base ≤ w.heap.size)
    (h : ∀ v' w', ownInts w' base v' (vs ++ l) → w.grownBy w' v.ownBlock → (∀ j, v.ownBlock = some j → base ≤ j) → K (a.put o.dst v') w') :
    if Region.wanted o (yielded ops a.tmps) = true then Oper.wp Tryz.prog o a w K Q else E := by
  have hw : Region.wanted o (yielded ops a.tmps) = true := by simp [Region.wanted, hgd]
  rw [if_pos hw]
  exact wp_append_ints s x ho base v vs hs hown l g c hx hsrc hmax hbase h

theorem own0 {X : World} {base : Nat} (H : Nat) (hH : X.heap.size = H) (hb : base ≤ H) : ownInts (X.alloc (.cells #[] 3)) base (.slice (some ⟨H, 0, none⟩) 0 0) [] := by
  subst hH
  exact World.ownsRow_lit X #[] 0 hb (by decide) rfl
theorem ownInts.alloc {X : World} {base : Nat} {v : Value} {l : List Int} (h : ownInts X base v l) (o : Obj) : ownInts (X.alloc o) base v l := World.ownsRow.alloc h o
theorem src_of {w X : World} {l : List Int} {g : Option Addr} {c : Nat} (h : intsIn w w.heap.size l (.slice g l.length c)) (hb : Below w.heap.size w X) : srcInts X l g := by
  obtain ⟨g', cap', he, _, _, h3⟩ := intsIn_below h hb (Nat.le_refl _)
  injection he with e1 e2 e3
  subst e1
  rcases h3 with h3 | ⟨b, off, rfl, _, hc⟩
  · exact .inl h3
  · exact .inr ⟨b, off, rfl, hc⟩
theorem src_at {w X : World} {l : List Int} {g : Option Addr} {c : Nat} {p : Prop} (h : intsIn w w.heap.size l (.slice g l.length c)) (hb : p ∧ Below w.heap.size w X ∧ w.heap.size < X.heap.size) : srcInts X l g := src_of h hb.2.1
theorem held_size {w X : World} {p : Prop} (hb : p ∧ Below w.heap.size w X ∧ w.heap.size < X.heap.size) : w.heap.size + 1 ≤ X.heap.size := hb.2.2
theorem held_below {w X : World} {p : Prop} (hb : p ∧ Below w.heap.size w X ∧ w.heap.size < X.heap.size) : Below w.heap.size w X := hb.2.1
theorem src1_drew {X : World} {l : List Int} {g : Option Addr} (h : srcInts X l g) : srcInts X.drew l g := h
theorem ownInts.drew {X : World} {base : Nat} {v : Value} {l : List Int} (h : ownInts X base v l) : ownInts X.drew base v l := h
theorem src1 {X : World} {n : Int} (H : Nat) (hH : X.heap.size = H) : srcInts (X.alloc (.cells #[.int .i64 n] 3)) [n] (some ⟨H, 0, none⟩) := by
  subst hH
  refine .inr ⟨_, 0, rfl, fun i hi => ?_⟩
  obtain rfl : i = 0 := by simpa using hi
  simp [World.cell?_alloc_new]
theorem src1_alloc {X : World} {n : Int} {H : Nat} (h : srcInts X [n] (some ⟨H, 0, none⟩)) (o : Obj) : srcInts (X.alloc o) [n] (some ⟨H, 0, none⟩) := by
  rcases h with h | ⟨b, off, e, hc⟩
  · cases h
  · refine .inr ⟨b, off, e, fun i hi => ?_⟩
    have h1 := hc i hi
    rw [World.cell?_alloc_old _ _ _ (Nat.ne_of_lt (World.block_lt_of_cell? _ _ h1))]
    exact h1
theorem src1_grown {X X' : World} {n : Int} {H : Nat} {row : Option Nat} (h : srcInts X [n] (some ⟨H, 0, none⟩)) (hg : X.grownBy X' row) (hr : some H ≠ row) : srcInts X' [n] (some ⟨H, 0, none⟩) := by
  rcases h with h | ⟨b, off, e, hc⟩
  · cases h
  · refine .inr ⟨b, off, e, fun i hi => ?_⟩
    injection e with e
    injection e with e1 e2
    subst e1
    exact hg.cell (hc i hi) hr

/-- What stays while the row is made: what lay ahead, and the term's box. -/
def WSt (w W : World) : Prop := Below w.heap.size w W ∧ w.heap.size < W.heap.size
theorem WSt.alloc {w W : World} {n : Int} (h : W.cell? ⟨w.heap.size, 2, none⟩ = some (.int .i64 n) ∧ WSt w W) (o : Obj) : (W.alloc o).cell? ⟨w.heap.size, 2, none⟩ = some (.int .i64 n) ∧ WSt w (W.alloc o) :=
  ⟨by rw [World.cell?_alloc_old _ _ _ (Nat.ne_of_lt h.2.2)]; exact h.1, h.2.1.alloc (by have := h.2.2; omega) o, by have := h.2.2; simp; omega⟩
theorem WSt.drew {w W : World} {n : Int} (h : W.cell? ⟨w.heap.size, 2, none⟩ = some (.int .i64 n) ∧ WSt w W) : (W.drew).cell? ⟨w.heap.size, 2, none⟩ = some (.int .i64 n) ∧ WSt w (W.drew) :=
  ⟨h.1, h.2.1.drew, h.2.2⟩
theorem WSt.grown {w W W' : World} {n : Int} {row : Option Nat} (h : W.cell? ⟨w.heap.size, 2, none⟩ = some (.int .i64 n) ∧ WSt w W) (hg : W.grownBy W' row) (hr : ∀ j, row = some j → w.heap.size + 1 ≤ j) :
    W'.cell? ⟨w.heap.size, 2, none⟩ = some (.int .i64 n) ∧ WSt w W' :=
  ⟨hg.cell h.1 (fun e => by have := hr _ e.symm; simp at this; omega), h.2.1.grown hg (by have := h.2.2; omega) (fun k e => by have := hr k e; omega), by have := hg.size; have := h.2.2; omega⟩

theorem ints_of_own {w : World} {base : Nat} {v : Value} {l : List Int} (h : ownInts w base v l) (hl : l.length ≤ 1000000000) : intsIn w w.heap.size l v := by
  rcases h.2 with ⟨rfl, h0⟩ | ⟨gr, cr, cur, rfl, hbase, hg, hn, hcap, hsz, htake⟩
  · refine ⟨none, 0, ?_, by omega, by omega, .inl (List.eq_nil_of_length_eq_zero h0)⟩
    rw [h0]
  · refine ⟨_, cr, rfl, hn, by omega, .inr ⟨gr, 0, rfl, (Array.getElem?_eq_some_iff.1 hg).1, fun i hi => ?_⟩⟩
    have hc := World.ownsRow.cells h (g := gr) rfl i (.int .i64 l[i]) (by simp [hi])
    rw [Addr.add_lit] at hc
    exact hc

theorem wpList_append_ints {w : World} {ops : Array Oper} {rest : List Oper} {o : Oper} {a : Act} {Q : Exit → Act → World → Prop} (hgd : o.guard = none) (s x : Operand)
    (ho : o.op = .call { callee := .builtin .append, args := #[s, x], argTypes := #[61, 61] })
    (base : Nat) (v : Value) (vs : List Int) (hs : a.eval s = v) (hown : ownInts w base v vs) (l : List Int) (g : Option Addr) (c : Nat) (hx : a.eval x = .slice g l.length c) (hsrc : srcInts w l g)
    (hmax : vs.length + l.length ≤ 1000000000) (hbase : base ≤ w.heap.size)
    (h : ∀ v' w', ownInts w' base v' (vs ++ l) → w.grownBy w' v.ownBlock → (∀ j, v.ownBlock = some j → base ≤ j) → wpList Tryz.prog ops Q rest (a.put o.dst v') w') : wpList Tryz.prog ops Q (o :: rest) a w :=
  wpList_plain hgd fun _ hK => wp_append_ints s x ho base v vs hs hown l g c hx hsrc hmax hbase fun v' w' h2 h3 h4 => hK _ _ (h v' w' h2 h3 h4)
theorem ownInts_below {W W' : World} {base : Nat} {v : Value} {l : List Int} (h : ownInts W base v l) (hb : Below W.heap.size W W') : ownInts W' base v l := ownsRow_below h hb
end Go.Proofs.YtliapkajonbndaaGreatDoor

namespace Go.Proofs.YtliapkajonbndaaGreatDoor
open Go.RowKit

end Go.Proofs.YtliapkajonbndaaGreatDoor

namespace Go.Proofs.YtliapkajonbndaaGreatDoor
open Go.RowKit

namespace Tm
mutual
/-- A term whose variables are others; a Var has its number alone. -/
def ren (f : Int → Int) : Tm → Tm
  | .mk k s n l => if k = 1 then .mk 1 ⟨#[]⟩ (f n) [] else .mk k s n (rens f l)
def rens (f : Int → Int) : List Tm → List Tm
  | [] => []
  | t :: r => t.ren f :: rens f r
end
theorem rens_map (f : Int → Int) (l : List Tm) : rens f l = l.map (ren f) := by
  induction l with
  | nil => simp [rens]
  | cons t r ih => simp [rens, ih]
theorem rens_length (f : Int → Int) (l : List Tm) : (rens f l).length = l.length := by simp [rens_map]
theorem rens_take_succ (f : Int → Int) (l : List Tm) (k : Nat) (h : k < l.length) : rens f (l.take (k + 1)) = rens f (l.take k) ++ [l[k].ren f] := by
  rw [rens_map, rens_map, List.take_succ_eq_append_getElem h, List.map_append]; rfl
end Tm

theorem Tryz.infoTm : (Tryz.prog.info? 24).map (fun i => (i.zero, i.size, i.bytes)) = some (some (.agg #[.int .i64 0, .string ⟨#[]⟩, .int .i64 0, .slice none 0 0]), 4, 56) := by kernel_rfl

theorem one4 {k n : Int} {s : ByteArray} {g : Option Addr} {m c : Nat} : ∀ u ∈ [Value.int .i64 k, .string s, .int .i64 n, .slice g m c], u.oneCell' = true := by
  intro u hu
  simp at hu
  rcases hu with rfl | rfl | rfl | rfl <;> rfl

/-- What a copy is. -/
def RenPost (f : Int → Int) (t : Tm) (w : World) (e : Ending) (w' : World) : Prop :=
  ∃ sv', e = .returned (.agg #[.int .i64 (t.ren f).kind, .string (t.ren f).name, .int .i64 (t.ren f).n, sv']) ∧ Tm.innP w' (fun b => w.heap.size ≤ b ∧ b < w'.heap.size) (t.ren f) sv' ∧ Below w.heap.size w w'

/-- A block's first four cells. -/
theorem news4 {w : World} {a b c d : Value} {t : TypeId} : ∀ (j : Nat) (u : Value), [a, b, c, d][j]? = some u → (w.alloc (.cells #[a, b, c, d] t)).cell? ((⟨w.heap.size, 0, none⟩ : Addr).add j) = some u := by
  intro j u hj
  rw [Addr.add_lit]
  simp only [Nat.zero_add]
  rw [World.cell?_alloc_new]
  simpa using hj

set_option maxRecDepth 100000 in
set_option maxHeartbeats 2000000 in
theorem rename_number (To : World → Prop) (hTo : ∀ w w', To w → Below w.heap.size w w' → To w') (cap0 : Value) (f : Int → Int) (hf : ∀ v, (Lit.int .i64 (f v)).wf = true)
    (hcall : ∀ (v : Int) (w : World), To w → (Lit.int .i64 v).wf = true → Calls Tryz.prog 22 #[.int .i64 v, cap0] w fun e w' => e = .returned (.int .i64 (f v)) ∧ Below w.heap.size w w') :
    ∀ (t : Tm) (w : World) (B : Nat) (sv : Value), To w → B ≤ w.heap.size → Tm.inn w B t sv →
    Calls Tryz.prog 21 #[.agg #[.int .i64 t.kind, .string t.name, .int .i64 t.n, sv], .func (.func 22) #[] #[cap0]] w fun e w' =>
      RenPost f t w e w' := by
  refine Tm.ind fun k s n l ih w B sv hT hB hin => ?_
  obtain ⟨⟨hk, hss, hn⟩, hsl⟩ := Tm.inn_mk.1 hin
  have hsl0 := hsl
  obtain ⟨g, cap, rfl, hcap, hlen, _⟩ := hsl0
  have hHead : (Lit.int .i64 k).wf = true ∧ s.size ≤ maxLen ∧ (Lit.int .i64 n).wf = true := ⟨hk, hss, hn⟩
  have HHead := Lib.hid hHead
  have HSL := Lib.hid hsl
  have HIH := Lib.hid ih
  have HTo := Lib.hid hTo
  have HC := Lib.hid hcall
  have HT := Lib.hid hT
  have HF := Lib.hid hf
  simp only [Tm.kind, Tm.name, Tm.n]
  clear hin hsl ih hTo hcall hT hk hss hn hf hHead
  by_cases hk1 : k = 1
  · subst hk1
    have hr : Tm.ren f (.mk 1 s n l) = .mk 1 ⟨#[]⟩ (f n) [] := by simp [Tm.ren]
    have HR := Lib.hid hr
    clear hr
    go_enter Tryz.func21, Tryz.ntmps21
    go_wp2_with fail
    have hb0 : Below w.heap.size w ((w.alloc (.cells #[.int .i64 1, .string s, .int .i64 n, .slice g l.length cap] 24)).alloc (.cells #[.int .i64 0, .string ⟨#[]⟩, .int .i64 0, .slice none 0 0] 24)) := ((Below.refl _ _).alloc (Nat.le_refl _) _).alloc (by simp) _
    refine (HC.out n _ (HTo.out _ _ HT.out hb0) HHead.out.2.2).mono ?_
    rintro e w1 ⟨rfl, hb1⟩
    have hs1 : w.heap.size + 1 < w1.heap.size := by have := hb1.size; simp at this; omega
    have r0 : w1.heap[w.heap.size + 1]? = some (Obj.cells #[.int .i64 0, .string ⟨#[]⟩, .int .i64 0, .slice none 0 0] 24 (0, 0)) := (hb1.block _ (by simp)).trans (newBlk _ _ _ (by simp))
    obtain ⟨⟨c0, c1, c2, c3⟩, f0, f1, f2, f3⟩ := row4 r0
    have HB1 := Lib.hid (hb0.trans (hb1.mono (by simp; omega)))
    clear hb0 hb1 r0
    go_wp2_with fail
    refine bodyPost_ret (v := .agg #[.int .i64 1, .string ⟨#[]⟩, .int .i64 (f n), .slice none 0 0]) (by simp [results, Tryz.results21, go_sem, c0, c1, c2, c3]) rfl ?_
    refine ⟨.slice none 0 0, by rw [HR.out]; rfl, by rw [HR.out, Tm.innP_mk]; exact ⟨⟨by decide, Nat.zero_le _, HF.out _⟩, none, 0, rfl, Nat.le_refl _, by simp, .inl rfl⟩, ?_⟩
    exact (((HB1.out.setCell (p := ⟨w.heap.size + 1, 0, none⟩) (by simp) _).setCell (p := ⟨w.heap.size + 1, 1, none⟩) (by simp) _).setCell (p := ⟨w.heap.size + 1, 2, none⟩) (by simp) _).setCell (p := ⟨w.heap.size + 1, 3, none⟩) (by simp) _
  · have hk1b : (k == 1) = false := by simpa using hk1
    have hr : Tm.ren f (.mk k s n l) = .mk k s n (Tm.rens f l) := by simp [Tm.ren, hk1]
    have HR := Lib.hid hr
    clear hr
    obtain ⟨i0, hi, hz0, hz1, hz2⟩ := info_parts Tryz.infoTm
    go_enter Tryz.func21, Tryz.ntmps21
    go_wp2_with fail
    go_loopw [5, 7, 19] (fun v _ i wr => ∃ k' : Nat, k' ≤ l.length ∧ i = .int .i64 k' ∧ Hid (∃ xs, wr.ownsRow (w.heap.size + 2) 24 4 v k' xs ∧ Tm.cellsP wr (okRow (w.heap.size + 2) wr v) (Tm.rens f (l.take k')) xs) ∧ Below w.heap.size w wr ∧ w.heap.size + 2 ≤ wr.heap.size ∧
        wr.heap[w.heap.size]? = some (Obj.cells #[.int .i64 k, .string s, .int .i64 n, .slice g l.length cap] 24 (0, 0)) ∧ wr.heap[w.heap.size + 1]? = some (Obj.cells #[.int .i64 0, .string ⟨#[]⟩, .int .i64 0, .slice none 0 0] 24 (0, 0))) (fun _ _ i _ => l.length - (intOf i).toNat)
    case atStart =>
      exact ⟨0, Nat.zero_le _, rfl, ⟨[], World.ownsRow_nil _ _ _ _, by simp [Tm.rens, Tm.cellsP]⟩, ((Below.refl _ _).alloc (Nat.le_refl _) _).alloc (by simp) _, by simp, (Below.heap_alloc _ _ _ (by simp)).trans (newBlk _ _ _ rfl), newBlk _ _ _ (by simp)⟩
    case round =>
      obtain ⟨k', hk', rfl, hrow, hb, hbs, hbox, hres⟩ := hrel
      have HROW := Lib.hid hrow.out
      have HB := Lib.hid hb
      have HBOX := Lib.hid hbox
      have HRES := Lib.hid hres
      by_cases hlt : k' < l.length
      · obtain ⟨b, off, sv, rfl, hbB, g0, g1, g2, g3, hin'⟩ := Tm.sliceIn_get (Tm.sliceIn_below HSL.out hb hB) k' hlt
        obtain ⟨_, ga, capa, rfl, _, _, _⟩ := Tm.inn_iff.1 hin'
        have HIN := Lib.hid hin'
        have hih := Lib.hid (HIH.out l[k'] (List.getElem_mem hlt))
        have HM := Lib.hid (Tm.rens_take_succ f l k' hlt)
        clear hin' hrow hb hbox hres
        go_wp2_with fail
        refine (hih.out _ B _ (HTo.out w _ HT.out (HB.out.alloc (by omega) _)) (by simp; omega) (Tm.inn_below HIN.out (n₀ := wr.heap.size) ((Below.refl _ _).alloc (Nat.le_refl _) _) (by omega))).mono ?_
        rintro e w2 ⟨sv', rfl, hp, hb2⟩
        obtain ⟨_, ga', capa', rfl, hc2, hl2, _⟩ := Tm.innP_iff.1 hp
        have hb2' : Below wr.heap.size wr w2 := ((Below.refl _ _).alloc (Nat.le_refl _) _).trans (hb2.mono (by simp))
        have HP := Lib.hid (Tm.innP_same (ok' := fun b => wr.heap.size ≤ b ∧ b < w2.heap.size) (fun b hb' => ⟨by have := hb'.1; simp at this; omega, hb'.2⟩) (fun _ _ _ _ h => h) _ _ hp)
        have HB2 := Lib.hid hb2'
        have hsz2 := hb2'.size
        obtain ⟨xs, hown, hcells⟩ := HROW.out
        have HOWN := Lib.hid hown
        have HCELLS := Lib.hid hcells
        have hown2 := Lib.hid (ownsRow_below hown hb2')
        clear hp hb2 hb2' hown hcells hih
        go_wp2_with (at_builtin; refine wpList_append_sep _ rfl _ _ 22 rfl (w.heap.size + 2) 24 i0 _ 4 56 Tryz.underlying22 hi hz0 hz1 hz2 rfl (by decide) u5 k' xs rfl (hown2.out.alloc _) ⟨w2.heap.size, 0, none⟩ 1 1 [.int .i64 (l[k'].ren f).kind, .string (l[k'].ren f).name, .int .i64 (l[k'].ren f).n, .slice ga' (l[k'].ren f).args.length capa'] rfl (by decide) rfl news4 one4 (by unfold maxLen; omega) (by omega) (by simp; omega) ?_; intro v' w3 hown3 hgrow hsep)
        go_roundw
        case rel =>
          have hne : ∀ j, j < w.heap.size + 2 → u5.ownBlock ≠ some j := fun j hj e => by have := (HOWN.out.lt j e).1; omega
          refine ⟨k' + 1, by omega, by go_num, ⟨_, hown3, ?_⟩, ((HB.out.trans (HB2.out.mono (by omega))).alloc (by omega) _).grown hgrow (by simp; omega) (fun j e => by have := (HOWN.out.lt j e).1; omega), by have := hgrow.size; simp at this; omega, blk_step HB2.out hgrow HBOX.out (hne _ (by omega)), blk_step HB2.out hgrow HRES.out (hne _ (by omega))⟩
          rw [HM.out]
          exact row_step HOWN.out HCELLS.out HB2.out (by omega) HP.out hgrow hsep
        case measure => simp [intOf]; omega
      · obtain rfl : k' = l.length := by omega
        obtain ⟨xs, hown, hcells⟩ := HROW.out
        obtain ⟨gv, cv, rfl⟩ := owns_slice hown
        obtain ⟨⟨b0, b1, b2, b3⟩, _⟩ := row4 hbox
        obtain ⟨⟨c0, c1, c2, c3⟩, f0, f1, f2, f3⟩ := row4 hres
        rw [List.take_length] at hcells
        have HOWN := Lib.hid hown
        have HCELLS := Lib.hid hcells
        clear hown hcells hrow hbox hres hb HROW
        go_wp2_with fail
        refine bodyPost_ret (v := .agg #[.int .i64 k, .string s, .int .i64 n, .slice gv l.length cv]) (by simp [results, Tryz.results21, go_sem, c0, c1, c2, c3]) rfl ?_
        refine ⟨.slice gv l.length cv, by rw [HR.out]; rfl, ?_, ?_⟩
        · rw [HR.out, Tm.innP_mk]
          have hll := Tm.rens_length f l
          refine ⟨HHead.out, sliceP_done (wr := wr) (lo := w.heap.size + 2) (xs := xs) (by rw [hll]; exact HOWN.out) HCELLS.out (by omega) (by omega) (by simp) fun k hk _ => ?_⟩
          exact set4_other _ _ _ _ _ _ k (by omega)
        · exact (((HB.out.setCell (p := ⟨w.heap.size + 1, 0, none⟩) (by simp) _).setCell (p := ⟨w.heap.size + 1, 1, none⟩) (by simp) _).setCell (p := ⟨w.heap.size + 1, 2, none⟩) (by simp) _).setCell (p := ⟨w.heap.size + 1, 3, none⟩) (by simp) _
end Go.Proofs.YtliapkajonbndaaGreatDoor

namespace Go.Proofs.YtliapkajonbndaaGreatDoor
open Go.RowKit

theorem idx_first (l : List Int) (n : Int) : ∀ (k : Nat) (hk : k < l.length), l[k] = n → (∀ j (hj : j < l.length), j < k → l[j] ≠ n) → l.idxOf n = k := by
  induction l with
  | nil => intro k hk; simp at hk
  | cons a r ih =>
    intro k hk h hp
    cases k with
    | zero => simp at h; simp [h]
    | succ k =>
      have h0 := hp 0 (by simp) (by omega)
      simp only [List.getElem_cons_zero] at h0
      have hb : (a == n) = false := by simpa using h0
      rw [List.idxOf_cons, hb, cond_false, ih k (by simpa using hk) (by simpa using h) (fun j hj hjk => hp (j + 1) (by simpa using hj) (by omega))]

/-- Where a number stands; below 0: nowhere. -/
def atOf (l : List Int) (n : Int) : Int := if n ∈ l then (l.idxOf n : Int) else -1


/-- append of one term, at a step of a region that draws its order: the row is the one that it was, or a new one. -/
theorem step_append_term {P : Program} {w : World} {ops : Array Oper} {o : Oper} {a : Act} {K : Act → World → Prop} {Q : Exit → Act → World → Prop} {E : Prop} (hgd : o.guard = none) (s x : Operand) (t : TypeId)
    (ho : o.op = .call { callee := .builtin .append, args := #[s, x], argTypes := #[t, t] })
    (base : Nat) (e : TypeId) (i : TypeInfo) (z : Value) (bytes : Nat) (ht : P.underlying t = some (.slice e)) (hi : P.info? e = some i) (hz : i.zero = some z)
    (hsize : i.size = 4) (hby : i.bytes = bytes) (hzs : z.cells.size = 4)
    (v : Value) (n : Nat) (xs : List Value) (hs : a.eval s = v) (hown : w.ownsRow base e 4 v n xs)
    (H c : Nat) (news : List Value) (hx : a.eval x = .slice (some ⟨H, 0, none⟩) 1 c) (hl : news.length = 4) (hnews : ∀ j u, news[j]? = some u → w.cell? ((⟨H, 0, none⟩ : Addr).add j) = some u) (h1 : ∀ u ∈ news, u.oneCell' = true)
    (h63 : n + 1 ≤ maxLen) (hbytes : (n + 1) * bytes ≤ 140737488355328) (hbase : base ≤ w.heap.size)
    (h : ∀ g' c' w', w'.ownsRow base e 4 (.slice g' (n + 1) c') (n + 1) (xs ++ news) → w.grownBy w' v.ownBlock → ((Value.slice g' (n + 1) c').ownBlock = v.ownBlock ∨ ∀ b, (Value.slice g' (n + 1) c').ownBlock = some b → w.heap.size ≤ b) → K (a.put o.dst (.slice g' (n + 1) c')) w') :
    if Region.wanted o (yielded ops a.tmps) = true then Oper.wp P o a w K Q else E := by
  have hw : Region.wanted o (yielded ops a.tmps) = true := by simp [Region.wanted, hgd]
  rw [if_pos hw]
  obtain ⟨v', w', hr, h2, h3, h4⟩ := run_append_any (P := P) (w := w) base t o.type e i z 4 bytes ht hi hz hsize hby hzs (by decide) v n xs hown (some ⟨H, 0, none⟩) 1 c news (by omega) (.inr ⟨_, rfl, hnews⟩) h1 h63 hbytes hbase
  obtain ⟨g', c', rfl⟩ := owns_slice h2
  unfold Oper.wp execOp
  simp only [ho, resolve, invoke, builtin, Sem.run_bind, Sem.run_pure, Result.andThen_ok, List.map_toArray, List.map_cons, List.map_nil, hs, hx, hr]
  refine h g' c' w' h2 h3 ?_
  rcases h4 with h4 | h4
  · exact .inl h4
  · exact .inr fun b hb => by rw [h4] at hb; cases hb; exact Nat.le_refl _

theorem step_open {P : Program} {w : World} {ops : Array Oper} {o : Oper} {a : Act} {K : Act → World → Prop} {Q : Exit → Act → World → Prop} {E : Prop} (hgd : o.guard = none) (h : Oper.wp P o a w K Q) : if Region.wanted o (yielded ops a.tmps) = true then Oper.wp P o a w K Q else E := by
  have hw : Region.wanted o (yielded ops a.tmps) = true := by simp [Region.wanted, hgd]
  rw [if_pos hw]
  exact h

/-- What a number becomes. -/
def toOf (fs tos : List Int) (v : Int) : Int := tos.getD (fs.idxOf v) 0
theorem toOf_wf {fs tos : List Int} (h : ∀ x ∈ tos, (Lit.int .i64 x).wf = true) (v : Int) : (Lit.int .i64 (toOf fs tos v)).wf = true := by
  unfold toOf
  rw [List.getD_eq_getElem?_getD]
  cases hq : tos[fs.idxOf v]? with
  | none => decide
  | some x => exact h x (List.mem_of_getElem? hq)

theorem nodesL_mem {l : List Tm} {k : Nat} (hk : k < l.length) {d : Int} {x : Key} (hx : x ∈ l[k].nodes d) : x ∈ Tm.nodesL l d := by
  induction l generalizing k with
  | nil => simp at hk
  | cons t r ih =>
    simp only [Tm.nodesL, List.mem_append]
    cases k with
    | zero => exact .inl hx
    | succ k => exact .inr (ih (by simpa using hk) hx)

/-- What the loop's own blocks hold, and what lay ahead, while a term more is made. -/
theorem TuS.step {m b0 o0 b1 o1 b o : Nat} {v u : Value} {t : Tm} {sv : Value} {w0 W W' : World} (hb : Below m W W') (hm : b0 < m ∧ b1 < m ∧ b < m)
    (h : W.cell? ⟨b0, o0, none⟩ = some v ∧ W.cell? ⟨b1, o1, none⟩ = some u ∧ W.cell? ⟨b, o, none⟩ = some (.int .i64 t.kind) ∧ W.cell? ⟨b, o + 1, none⟩ = some (.string t.name) ∧ W.cell? ⟨b, o + 2, none⟩ = some (.int .i64 t.n) ∧ W.cell? ⟨b, o + 3, none⟩ = some sv ∧ W.frozen? ⟨b0, o0, none⟩ = false ∧ Below m w0 W) :
    W'.cell? ⟨b0, o0, none⟩ = some v ∧ W'.cell? ⟨b1, o1, none⟩ = some u ∧ W'.cell? ⟨b, o, none⟩ = some (.int .i64 t.kind) ∧ W'.cell? ⟨b, o + 1, none⟩ = some (.string t.name) ∧ W'.cell? ⟨b, o + 2, none⟩ = some (.int .i64 t.n) ∧ W'.cell? ⟨b, o + 3, none⟩ = some sv ∧ W'.frozen? ⟨b0, o0, none⟩ = false ∧ Below m w0 W' := by
  obtain ⟨h0, h1, h2, h3, h4, h5, hf, h6⟩ := h
  exact ⟨(hb.cell (p := ⟨b0, o0, none⟩) hm.1).trans h0, (hb.cell (p := ⟨b1, o1, none⟩) hm.2.1).trans h1, (hb.cell (p := ⟨b, o, none⟩) hm.2.2).trans h2, (hb.cell (p := ⟨b, o + 1, none⟩) hm.2.2).trans h3, (hb.cell (p := ⟨b, o + 2, none⟩) hm.2.2).trans h4, (hb.cell (p := ⟨b, o + 3, none⟩) hm.2.2).trans h5, (World.frozen?_of_block (hb.block b0 hm.1)).trans hf, h6.trans hb⟩

theorem ownsRow_set {W : World} {base : Nat} {e : TypeId} {size : Nat} {v : Value} {n : Nat} {xs : List Value} (h : W.ownsRow base e size v n xs) {B : Nat} (hB : B < base) (o : Nat) (u : Value) : (W.setCell ⟨B, o, none⟩ u).ownsRow base e size v n xs := by
  refine ⟨h.1, ?_⟩
  rcases h.2 with hn | ⟨g, cap, cur, rfl, h1, h2, h3⟩
  · exact .inl hn
  · exact .inr ⟨g, cap, cur, rfl, h1, (Below.heap_setCell _ _ _ _ (by show g ≠ B; omega)).trans h2, h3⟩
theorem set1_same {W : World} {B i : Nat} {cs : Array Value} {t : TypeId} (h : W.heap[B]? = some (Obj.cells cs t (0, 0))) (v : Value) : (W.setCell ⟨B, i, none⟩ v).heap[B]? = some (Obj.cells (cs.setIfInBounds i v) t (0, 0)) := by
  obtain ⟨hlt, hk⟩ := Array.getElem?_eq_some_iff.1 h
  show (W.heap.modify B _)[B]? = _
  rw [Array.getElem?_eq_getElem (by rw [Array.size_modify]; exact hlt), Array.getElem_modify_self, hk]
  rfl

theorem cellsP_set {W : World} {lo B o : Nat} {v u : Value} {l : List Tm} {xs : List Value} (hB : B < lo) (h : Tm.cellsP W (okRow lo W v) l xs) : Tm.cellsP (W.setCell ⟨B, o, none⟩ u) (okRow lo (W.setCell ⟨B, o, none⟩ u) v) l xs :=
  Tm.cellsP_same (fun b hb => ⟨hb.1, by have := hb.2.1; simp; omega, hb.2.2⟩) (fun b o' x hb hc => (World.cell?_of_block (a := ⟨b, o', none⟩) (Below.heap_setCell _ _ _ _ (by have := hb.1; show b ≠ B; omega))).trans hc) l xs h

end Go.Proofs.YtliapkajonbndaaGreatDoor
