/-
  Whether variables have no Args, and the document's variables, purely.
  The document's own answers: the variables of terms.
  The document's own answers: the variables of a row of terms.
-/
import Derived.Test.YtomdccejgmhfoaaVars
import Derived.Deep.RegionHeld3
import Derived.Maps.AppendAt
import Derived.RegionTactic
namespace Go.Proofs.Ytomdccejgmhfoaa
open Go.RowKit

theorem plain_iff (l : List Tm) : Tm.plain l = true ↔ ∀ j (h : j < l.length), l[j].noArgs = true := by
  rw [Tm.plain_all, List.all_eq_true]
  constructor
  · intro h j hj
    exact h _ (List.getElem_mem hj)
  · intro h x hx
    obtain ⟨j, hj, rfl⟩ := List.getElem_of_mem hx
    exact h j hj
theorem noArgs_eq (t : Tm) : t.noArgs = ((if t.kind = 1 ∧ 0 < t.args.length then false else true) && Tm.plain t.args) := by
  obtain ⟨k, s, n, l⟩ := t
  simp only [Tm.noArgs, Tm.kind, Tm.args]
  rfl
theorem plain_cut {l : List Tm} {k : Nat} (hk : k < l.length) (h : l[k].noArgs = false) : Tm.plain l = false := by
  rw [Bool.eq_false_iff]
  intro hp
  rw [(plain_iff l).1 hp k hk] at h
  cases h

namespace Tm
mutual
/-- The document's own walk for variables. -/
def withT : List Int → Tm → List Int
  | l, .mk k _ n ts => if k = 1 then (if n ∈ l then l else l ++ [n]) else withs l ts
def withs : List Int → List Tm → List Int
  | l, [] => l
  | l, t :: r => withs (withT l t) r
end
end Tm
theorem withs_foldl (ts : List Tm) : ∀ l, Tm.withs l ts = ts.foldl Tm.withT l := by
  induction ts with
  | nil => intro l; simp [Tm.withs]
  | cons t r ih => intro l; simp [Tm.withs, ih]
theorem withs_take_succ (ts : List Tm) (l : List Int) (k : Nat) (hk : k < ts.length) : Tm.withs l (ts.take (k + 1)) = Tm.withT (Tm.withs l (ts.take k)) ts[k] := by
  rw [withs_foldl, withs_foldl, List.take_succ_eq_append_getElem hk, List.foldl_append]; rfl
theorem withs_eq (ts : List Tm) (h : ∀ t ∈ ts, t.noArgs = true → ∀ (l : List Int) (d : Int), Tm.withT l t = (t.nodes d).foldl addV l) (hp : Tm.plain ts = true) (l : List Int) (d : Int) : Tm.withs l ts = (Tm.nodesL ts d).foldl addV l := by
  induction ts generalizing l with
  | nil => simp [Tm.withs, Tm.nodesL]
  | cons t r ih =>
    simp only [Tm.plain, Bool.and_eq_true] at hp
    simp only [Tm.withs, Tm.nodesL, List.foldl_append]
    rw [h t (by simp) hp.1 l d]
    exact ih (fun u hu => h u (by simp [hu])) hp.2 _
theorem withT_eq : ∀ (t : Tm), t.noArgs = true → ∀ (l : List Int) (d : Int), Tm.withT l t = (t.nodes d).foldl addV l := Tm.ind fun k s n ts ih hn l d => by
  simp only [Tm.noArgs, Bool.and_eq_true] at hn
  by_cases hk : k = 1
  · subst hk
    have : ts = [] := by
      cases ts with
      | nil => rfl
      | cons a r => simp at hn
    subst this
    simp only [Tm.withT, Tm.nodes, Tm.nodesL, List.foldl_cons, List.foldl_nil, addV]
    by_cases hm : n ∈ l <;> simp [hm]
  · simp only [Tm.withT, if_neg hk, Tm.nodes, List.foldl_cons]
    rw [withs_eq ts ih hn.2 l (d + 1)]
    simp [addV, hk]
theorem withs_vars (ts : List Tm) (hp : Tm.plain ts = true) : Tm.withs [] ts = varsOf ts := withs_eq ts (fun t _ => withT_eq t) hp [] 1
theorem withT_length : ∀ (t : Tm) (l : List Int), (Tm.withT l t).length ≤ l.length + t.size := Tm.ind fun k s n ts ih l => by
  simp only [Tm.withT, Tm.size]
  split
  · split <;> simp <;> omega
  · rename_i hk
    have : ∀ (ts : List Tm) (_ : ∀ t ∈ ts, ∀ l : List Int, (Tm.withT l t).length ≤ l.length + t.size) (l : List Int), (Tm.withs l ts).length ≤ l.length + Tm.sizes ts := by
      intro ts
      induction ts with
      | nil => intro _ l; simp [Tm.withs, Tm.sizes]
      | cons t r ihr =>
        intro h l
        have h1 := h t (by simp) l
        have h2 := ihr (fun u hu => h u (by simp [hu])) (Tm.withT l t)
        simp only [Tm.withs, Tm.sizes]
        omega
    have := this ts ih l
    omega
theorem withs_length (ts : List Tm) : ∀ l : List Int, (Tm.withs l ts).length ≤ l.length + Tm.sizes ts := by
  induction ts with
  | nil => intro l; simp [Tm.withs, Tm.sizes]
  | cons t r ih =>
    intro l
    have h1 := withT_length t l
    have h2 := ih (Tm.withT l t)
    simp only [Tm.withs, Tm.sizes]
    omega
end Go.Proofs.Ytomdccejgmhfoaa

namespace Go.Proofs.Ytomdccejgmhfoaa
open Go.RowKit

theorem intsIn_mono {w : World} {B B' : Nat} {l : List Int} {v : Value} (h : intsIn w B l v) (hB : B ≤ B') : intsIn w B' l v := intsIn_same h hB (fun _ _ _ _ hc => hc)

/-- append, whatever is appended: nothing too. -/
theorem run_append_any {P : Program} {w : World} (base : Nat) (t ty e : TypeId) (i : TypeInfo) (z : Value) (size bytes : Nat) (ht : P.underlying t = some (.slice e)) (hi : P.info? e = some i) (hz : i.zero = some z)
    (hsize : i.size = size) (hby : i.bytes = bytes) (hzs : z.cells.size = size) (hsz : 0 < size)
    (v : Value) (n : Nat) (xs : List Value) (hown : w.ownsRow base e size v n xs)
    (g : Option Addr) (m c : Nat) (news : List Value) (hl : news.length = m * size) (hnews : m = 0 ∨ ∃ a, g = some a ∧ ∀ j u, news[j]? = some u → w.cell? (a.add j) = some u) (h1 : ∀ u ∈ news, u.oneCell' = true)
    (h63 : n + m ≤ maxLen) (hbytes : (n + m) * bytes ≤ 140737488355328) (hbase : base ≤ w.heap.size) :
    ∃ v' w', (Builtin.append_ #[t, t] ty #[v, .slice g m c]).run P w = .ok v' w' ∧ w'.ownsRow base e size v' (n + m) (xs ++ news) ∧ w.grownBy w' v.ownBlock ∧
      (v'.ownBlock = v.ownBlock ∨ v'.ownBlock = some w.heap.size) := by
  cases g with
  | none =>
    obtain rfl : m = 0 := by
      rcases hnews with h | ⟨a, h, _⟩
      · exact h
      · cases h
    obtain rfl : news = [] := List.eq_nil_of_length_eq_zero (by simpa using hl)
    refine ⟨v, w, ?_, by simpa using hown, ⟨rfl, rfl, rfl, Nat.le_refl _, fun _ _ _ => rfl⟩, .inl rfl⟩
    rcases hown.2 with ⟨rfl, rfl⟩ | ⟨g, cap, cur, rfl, _, _, hnc, _⟩
    · simp [Builtin.append_, run_underlying ht, sizeOf, typeInfo, hi, Builtin.lenOf, Builtin.firstCells]
    · simp [Builtin.append_, run_underlying ht, sizeOf, typeInfo, hi, Builtin.lenOf, Builtin.firstCells, hnc, storeCells]
  | some a =>
    obtain ⟨v', w', h2, h3, h4, _, h5⟩ := run_append_own_at (P := P) w base t ty e i z size bytes ht hi hz hsize hby hzs hsz v n xs hown a m c news hl (by
      rcases hnews with h | ⟨a', h, hc⟩
      · subst h
        obtain rfl : news = [] := List.eq_nil_of_length_eq_zero (by simpa using hl)
        intro j u hu
        simp at hu
      · injection h with h
        subst h
        exact hc) h1 h63 hbytes hbase
    exact ⟨v', w', h2, h3, h4, h5⟩

/-- The cells of a row of numbers that is to be appended. -/
def srcInts (w : World) (l : List Int) (g : Option Addr) : Prop := l = [] ∨ ∃ b off, g = some ⟨b, off, none⟩ ∧ ∀ i (h : i < l.length), w.cell? ⟨b, off + i, none⟩ = some (.int .i64 l[i])
def ownInts (w : World) (base : Nat) (v : Value) (l : List Int) : Prop := w.ownsRow base 3 1 v l.length (l.map (Value.int .i64))

theorem run_append_ints {w : World} (base : Nat) (ty : TypeId) (v : Value) (vs : List Int) (hown : ownInts w base v vs) (l : List Int) (g : Option Addr) (c : Nat) (hsrc : srcInts w l g)
    (hmax : vs.length + l.length ≤ 1000000000) (hbase : base ≤ w.heap.size) :
    ∃ v' w', (Builtin.append_ #[46, 46] ty #[v, .slice g l.length c]).run Try.prog w = .ok v' w' ∧ ownInts w' base v' (vs ++ l) ∧ w.grownBy w' v.ownBlock ∧ (∀ j, v.ownBlock = some j → base ≤ j) := by
  obtain ⟨i0, hi, hz0, hz1, hz2⟩ := info_parts Try.infoInt
  obtain ⟨v', w', h1, h2, h3, h4⟩ := run_append_any (P := Try.prog) (w := w) base 46 ty 3 i0 (.int .i64 0) 1 8 Try.underlying46 hi hz0 hz1 hz2 rfl (by decide) v vs.length _ hown g l.length c (l.map (Value.int .i64)) (by simp) (by
    rcases hsrc with h | ⟨b, off, rfl, hc⟩
    · exact .inl (by rw [h]; rfl)
    · refine .inr ⟨_, rfl, fun j u hu => ?_⟩
      rw [List.getElem?_map] at hu
      obtain ⟨x, hx, rfl⟩ := Option.map_eq_some_iff.1 hu
      obtain ⟨hj, rfl⟩ := List.getElem?_eq_some_iff.1 hx
      rw [Addr.add_lit]
      exact hc j hj) (by
    intro u hu
    obtain ⟨x, _, rfl⟩ := List.mem_map.1 hu
    rfl) (by unfold maxLen; omega) (by omega) hbase
  refine ⟨v', w', h1, ?_, h3, fun j e => (World.ownsRow.lt hown j e).1⟩
  unfold ownInts
  rw [List.length_append, List.map_append]
  exact h2

theorem wp_append_ints {w : World} {o : Oper} {a : Act} {K : Act → World → Prop} {Q : Exit → Act → World → Prop} (s x : Operand)
    (ho : o.op = .call { callee := .builtin .append, args := #[s, x], argTypes := #[46, 46] })
    (base : Nat) (v : Value) (vs : List Int) (hs : a.eval s = v) (hown : ownInts w base v vs) (l : List Int) (g : Option Addr) (c : Nat) (hx : a.eval x = .slice g l.length c) (hsrc : srcInts w l g)
    (hmax : vs.length + l.length ≤ 1000000000) (hbase : base ≤ w.heap.size)
    (h : ∀ v' w', ownInts w' base v' (vs ++ l) → w.grownBy w' v.ownBlock → (∀ j, v.ownBlock = some j → base ≤ j) → K (a.put o.dst v') w') : o.wp Try.prog a w K Q := by
  obtain ⟨v', w', hr, h2, h3, h4⟩ := run_append_ints (w := w) base o.type v vs hown l g c hsrc hmax hbase
  unfold Oper.wp execOp
  simp only [ho, resolve, invoke, builtin, Sem.run_bind, Sem.run_pure, Result.andThen_ok, List.map_toArray, List.map_cons, List.map_nil, hs, hx, hr]
  exact h v' w' h2 h3 h4
theorem step_append_ints {w : World} {ops : Array Oper} {o : Oper} {a : Act} {K : Act → World → Prop} {Q : Exit → Act → World → Prop} {E : Prop} (hgd : o.guard = none) (s x : Operand)
    (ho : o.op = .call { callee := .builtin .append, args := #[s, x], argTypes := #[46, 46] })
    (base : Nat) (v : Value) (vs : List Int) (hs : a.eval s = v) (hown : ownInts w base v vs) (l : List Int) (g : Option Addr) (c : Nat) (hx : a.eval x = .slice g l.length c) (hsrc : srcInts w l g)
    (hmax : vs.length + l.length ≤ 1000000000) (hbase : base ≤ w.heap.size)
    (h : ∀ v' w', ownInts w' base v' (vs ++ l) → w.grownBy w' v.ownBlock → (∀ j, v.ownBlock = some j → base ≤ j) → K (a.put o.dst v') w') :
    if Region.wanted o (yielded ops a.tmps) = true then Oper.wp Try.prog o a w K Q else E := by
  have hw : Region.wanted o (yielded ops a.tmps) = true := by simp [Region.wanted, hgd]
  rw [if_pos hw]
  exact wp_append_ints s x ho base v vs hs hown l g c hx hsrc hmax hbase h

theorem own0 {X : World} {base : Nat} (H : Nat) (hH : X.heap.size = H) (hb : base ≤ H) : ownInts (X.alloc (.cells #[] 3)) base (.slice (some ⟨H, 0, none⟩) 0 0) [] := by
  subst hH
  exact World.ownsRow_lit X #[] 0 hb (by decide) rfl
theorem ownInts.alloc {X : World} {base : Nat} {v : Value} {l : List Int} (h : ownInts X base v l) (o : Obj) : ownInts (X.alloc o) base v l := World.ownsRow.alloc h o
theorem src_of {w X : World} {l : List Int} {g : Option Addr} {c : Nat} (h : intsIn w w.heap.size l (.slice g l.length c)) (hb : Below w.heap.size w X) : srcInts X l g := by
  obtain ⟨g', cap', he, _, _, h3⟩ := intsIn_below h hb (Nat.le_refl _)
  injection he with e1 e2 e3
  subst e1
  rcases h3 with h3 | ⟨b, off, rfl, _, hc⟩
  · exact .inl h3
  · exact .inr ⟨b, off, rfl, hc⟩
theorem src_at {w X : World} {l : List Int} {g : Option Addr} {c : Nat} {p : Prop} (h : intsIn w w.heap.size l (.slice g l.length c)) (hb : p ∧ Below w.heap.size w X ∧ w.heap.size < X.heap.size) : srcInts X l g := src_of h hb.2.1
theorem held_size {w X : World} {p : Prop} (hb : p ∧ Below w.heap.size w X ∧ w.heap.size < X.heap.size) : w.heap.size + 1 ≤ X.heap.size := hb.2.2
theorem held_below {w X : World} {p : Prop} (hb : p ∧ Below w.heap.size w X ∧ w.heap.size < X.heap.size) : Below w.heap.size w X := hb.2.1
theorem src1_drew {X : World} {l : List Int} {g : Option Addr} (h : srcInts X l g) : srcInts X.drew l g := h
theorem ownInts.drew {X : World} {base : Nat} {v : Value} {l : List Int} (h : ownInts X base v l) : ownInts X.drew base v l := h
theorem src1 {X : World} {n : Int} (H : Nat) (hH : X.heap.size = H) : srcInts (X.alloc (.cells #[.int .i64 n] 3)) [n] (some ⟨H, 0, none⟩) := by
  subst hH
  refine .inr ⟨_, 0, rfl, fun i hi => ?_⟩
  obtain rfl : i = 0 := by simpa using hi
  simp [World.cell?_alloc_new]
theorem src1_alloc {X : World} {n : Int} {H : Nat} (h : srcInts X [n] (some ⟨H, 0, none⟩)) (o : Obj) : srcInts (X.alloc o) [n] (some ⟨H, 0, none⟩) := by
  rcases h with h | ⟨b, off, e, hc⟩
  · cases h
  · refine .inr ⟨b, off, e, fun i hi => ?_⟩
    have h1 := hc i hi
    rw [World.cell?_alloc_old _ _ _ (Nat.ne_of_lt (World.block_lt_of_cell? _ _ h1))]
    exact h1
theorem src1_grown {X X' : World} {n : Int} {H : Nat} {row : Option Nat} (h : srcInts X [n] (some ⟨H, 0, none⟩)) (hg : X.grownBy X' row) (hr : some H ≠ row) : srcInts X' [n] (some ⟨H, 0, none⟩) := by
  rcases h with h | ⟨b, off, e, hc⟩
  · cases h
  · refine .inr ⟨b, off, e, fun i hi => ?_⟩
    injection e with e
    injection e with e1 e2
    subst e1
    exact hg.cell (hc i hi) hr

/-- What stays while the row is made: what lay ahead, and the term's box. -/
def WSt (w W : World) : Prop := Below w.heap.size w W ∧ w.heap.size < W.heap.size
theorem WSt.alloc {w W : World} {n : Int} (h : W.cell? ⟨w.heap.size, 2, none⟩ = some (.int .i64 n) ∧ WSt w W) (o : Obj) : (W.alloc o).cell? ⟨w.heap.size, 2, none⟩ = some (.int .i64 n) ∧ WSt w (W.alloc o) :=
  ⟨by rw [World.cell?_alloc_old _ _ _ (Nat.ne_of_lt h.2.2)]; exact h.1, h.2.1.alloc (by have := h.2.2; omega) o, by have := h.2.2; simp; omega⟩
theorem WSt.drew {w W : World} {n : Int} (h : W.cell? ⟨w.heap.size, 2, none⟩ = some (.int .i64 n) ∧ WSt w W) : (W.drew).cell? ⟨w.heap.size, 2, none⟩ = some (.int .i64 n) ∧ WSt w (W.drew) :=
  ⟨h.1, h.2.1.drew, h.2.2⟩
theorem WSt.grown {w W W' : World} {n : Int} {row : Option Nat} (h : W.cell? ⟨w.heap.size, 2, none⟩ = some (.int .i64 n) ∧ WSt w W) (hg : W.grownBy W' row) (hr : ∀ j, row = some j → w.heap.size + 1 ≤ j) :
    W'.cell? ⟨w.heap.size, 2, none⟩ = some (.int .i64 n) ∧ WSt w W' :=
  ⟨hg.cell h.1 (fun e => by have := hr _ e.symm; simp at this; omega), h.2.1.grown hg (by have := h.2.2; omega) (fun k e => by have := hr k e; omega), by have := hg.size; have := h.2.2; omega⟩

theorem ints_of_own {w : World} {base : Nat} {v : Value} {l : List Int} (h : ownInts w base v l) (hl : l.length ≤ 1000000000) : intsIn w w.heap.size l v := by
  rcases h.2 with ⟨rfl, h0⟩ | ⟨gr, cr, cur, rfl, hbase, hg, hn, hcap, hsz, htake⟩
  · refine ⟨none, 0, ?_, by omega, by omega, .inl (List.eq_nil_of_length_eq_zero h0)⟩
    rw [h0]
  · refine ⟨_, cr, rfl, hn, by omega, .inr ⟨gr, 0, rfl, (Array.getElem?_eq_some_iff.1 hg).1, fun i hi => ?_⟩⟩
    have hc := World.ownsRow.cells h (g := gr) rfl i (.int .i64 l[i]) (by simp [hi])
    rw [Addr.add_lit] at hc
    exact hc

set_option maxRecDepth 100000 in
set_option maxHeartbeats 2000000 in
theorem with_any : ∀ (t : Tm) (w : World) (B : Nat) (sv v : Value) (l : List Int), B ≤ w.heap.size → Tm.inn w B t sv → intsIn w w.heap.size l v → l.length + t.size ≤ 1000000 →
    Calls Try.prog 48 #[v, .agg #[.int .i64 t.kind, .string t.name, .int .i64 t.n, sv]] w fun e w' => ∃ v', e = .returned v' ∧ intsIn w' w'.heap.size (Tm.withT l t) v' ∧ Below w.heap.size w w' := by
  refine Tm.ind fun k s n ts ih w B sv v l hB hin hl hmax => ?_
  obtain ⟨⟨_, hss, _⟩, hsl⟩ := Tm.inn_mk.1 hin
  have hsl0 := hsl
  obtain ⟨g, cap, rfl, hcap, hlen, _⟩ := hsl0
  obtain ⟨gl, cl, rfl, hcl, hll, _⟩ := id hl
  simp only [Tm.kind, Tm.name, Tm.n]
  simp only [Tm.size] at hmax
  have HSL := Lib.hid hsl
  have HL := Lib.hid hl
  have IH := Lib.hid ih
  clear hin hsl ih hl
  go_enter Try.func48, Try.ntmps48
  by_cases hk1 : k = 1
  · subst hk1
    go_wp2_with fail
    go_loopw [5] (fun i wr => ∃ k' : Nat, k' ≤ l.length ∧ i = .int .i64 k' ∧ Hid (∀ j (h : j < l.length), j < k' → l[j] ≠ n) ∧ Below w.heap.size w wr ∧ w.heap.size < wr.heap.size ∧ wr.cell? ⟨w.heap.size, 2, none⟩ = some (.int .i64 n)) (fun i _ => l.length - (intOf i).toNat)
    case atStart => exact ⟨0, Nat.zero_le _, rfl, fun j _ h => by omega, (Below.refl _ _).alloc (Nat.le_refl _) _, by simp, by simp⟩
    case round =>
      obtain ⟨k', hk', rfl, hp, hb, hs, c2⟩ := hrel
      by_cases hlt : k' < l.length
      · obtain ⟨b, off, rfl, hbB, g0⟩ := intsIn_get (intsIn_below HL.out hb (Nat.le_refl _)) k' hlt
        by_cases hq : l[k'] = n
        · have HR := Lib.hid (show Tm.withT l (.mk 1 s n ts) = l by simp only [Tm.withT, if_pos, ← hq, List.getElem_mem])
          have HB := Lib.hid hb
          clear hb
          go_wp2_with fail
          go_region_held3 (fun w' => w'.cell? ⟨b, off + k', none⟩ = some (.int .i64 l[k']) ∧ w'.cell? ⟨w.heap.size, 2, none⟩ = some (.int .i64 n)) (go_keep) (fail)
          go_wp2_with fail
          go_ret
          exact ⟨_, rfl, by rw [HR.out]; exact intsIn_mono (intsIn_below HL.out (HB.out.drew) (Nat.le_refl _)) HB.out.size, HB.out.drew⟩
        · have HNE := Lib.hid hq
          have HB := Lib.hid hb
          clear hb
          go_wp2_with fail
          go_region_held3 (fun w' => w'.cell? ⟨b, off + k', none⟩ = some (.int .i64 l[k']) ∧ w'.cell? ⟨w.heap.size, 2, none⟩ = some (.int .i64 n)) (go_keep) (fail)
          go_wp2_with fail
          go_roundw
          case rel =>
            refine ⟨k' + 1, by omega, by go_num, fun j hj hjk => ?_, HB.out.drew, hs, c2⟩
            by_cases hjj : j < k'
            · exact hp.out j hj hjj
            · obtain rfl : j = k' := by omega
              exact HNE.out
          case measure => simp [intOf]; omega
      · have hno : n ∉ l := fun hm => by
          obtain ⟨j, hj, he⟩ := List.getElem_of_mem hm
          exact hp.out j hj (by omega) he
        have HR := Lib.hid (show Tm.withT l (.mk 1 s n ts) = l ++ [n] by simp only [Tm.withT, if_pos, if_neg hno])
        obtain rfl : k' = l.length := by omega
        have HB := Lib.hid hb
        clear hno hp hb
        go_wp2_with fail
        have hst : wr.cell? ⟨w.heap.size, 2, none⟩ = some (.int .i64 n) ∧ WSt w wr := ⟨c2, HB.out, hs⟩
        go_region_held3 (fun w' => w'.cell? ⟨w.heap.size, 2, none⟩ = some (.int .i64 n) ∧ WSt w w')
          (first | exact WSt.drew hst | exact WSt.alloc (WSt.drew hst) _ | exact WSt.alloc (WSt.alloc (WSt.drew hst) _) _ | exact WSt.grown (by assumption) hgrow2 hlow2 | exact WSt.grown (by assumption) hgrow hlow | exact WSt.alloc (by assumption) _)
          (first
            | ((refine step_append_ints (by rfl) _ _ (by rfl) (w.heap.size + 1) v1 ([] ++ l) (by rfl) (by first | exact hown | exact hown.alloc _) [n] (some ⟨_, 0, none⟩) 1 (by rfl) (by first | exact src1 _ (by first | rfl | simp) | exact src1_grown (by first | exact src1 _ (by first | rfl | simp) | exact src1_drew (src1 _ (by first | rfl | simp)) | exact src1_alloc (src1 _ (by first | rfl | simp)) _ | exact src1_alloc (src1_drew (src1 _ (by first | rfl | simp))) _ | exact src1_drew (src1_alloc (src1 _ (by first | rfl | simp)) _)) hgrow (by simp [Value.ownBlock])) (by simp; omega) (held_size (by assumption)) ?_; intro v2 w2 hown2 hgrow2 hlow2))
            | ((refine step_append_ints (by rfl) _ _ (by rfl) (w.heap.size + 1) (.slice (some ⟨_, 0, none⟩) 0 0) [] (by rfl) (by first | exact own0 _ (by first | rfl | simp) (by omega) | exact (own0 _ (by first | rfl | simp) (by omega)).drew | exact (own0 _ (by first | rfl | simp) (by omega)).alloc _ | exact (own0 _ (by first | rfl | simp) (by omega)).drew.alloc _ | exact ((own0 _ (by first | rfl | simp) (by omega)).alloc _).drew) l gl cl (by rfl) (src_at HL.out (by assumption)) (by simp; omega) (held_size (by assumption)) ?_; intro v1 w1 hown hgrow hlow)))
        all_goals go_wp2_with fail
        all_goals go_ret
        all_goals exact ⟨_, rfl, by rw [HR.out]; exact ints_of_own hown2 (by simp; omega), held_below (by assumption)⟩
  · have HR := Lib.hid (show Tm.withT l (.mk k s n ts) = Tm.withs l ts by simp only [Tm.withT, if_neg hk1])
    have hkf : (k == 1) = false := by simp [hk1]
    go_wp2_with fail
    go_loopw [0, 6] (fun v i wr => ∃ k' : Nat, k' ≤ ts.length ∧ i = .int .i64 k' ∧ Hid (intsIn wr wr.heap.size (Tm.withs l (ts.take k')) v) ∧ Below w.heap.size w wr ∧ w.heap.size < wr.heap.size ∧ wr.cell? ⟨w.heap.size, 3, none⟩ = some (.slice g ts.length cap)) (fun _ i _ => ts.length - (intOf i).toNat)
    case atStart =>
      refine ⟨0, Nat.zero_le _, rfl, ?_, (Below.refl _ _).alloc (Nat.le_refl _) _, by simp, by simp⟩
      have := intsIn_below HL.out ((Below.refl w.heap.size w).alloc (Nat.le_refl _) (.cells #[.int .i64 k, .string s, .int .i64 n, .slice g ts.length cap] 27)) (Nat.le_refl _)
      exact intsIn_mono this (by simp)
    case round =>
      obtain ⟨k', hk', rfl, hv, hb, hs, c3⟩ := hrel
      have HV := Lib.hid hv.out
      have HB := Lib.hid hb
      by_cases hlt : k' < ts.length
      · obtain ⟨b, off, sv, rfl, hbB, g0, g1, g2, g3, hin'⟩ := Tm.sliceIn_get (Tm.sliceIn_below HSL.out hb hB) k' hlt
        have hlen1 := withs_length (ts.take k') l
        have hlen2 := Tm.sizes_take_succ ts k' hlt
        have hlen3 := Tm.sizes_take_le ts (k' + 1)
        have hih := Lib.hid (IH.out ts[k'] (List.getElem_mem hlt) wr B sv _ _ (by omega) hin' HV.out (by omega))
        have HS := Lib.hid (withs_take_succ ts l k' hlt)
        clear hin' IH hlen1 hlen2 hlen3 hv hb
        go_wp2_with fail
        refine hih.out.mono ?_
        rintro e w1 ⟨v', rfl, hv1, hb1⟩
        have HB1 := Lib.hid hb1
        have HV1 := Lib.hid hv1
        have d3 := (hb1.cell (p := ⟨w.heap.size, 3, none⟩) hs).trans c3
        have hs1 := hb1.size
        clear hb1 hv1
        go_wp2_with fail
        go_roundw
        case rel =>
          refine ⟨k' + 1, by omega, by go_num, ?_, HB.out.trans (HB1.out.mono (by omega)), by omega, d3⟩
          rw [HS.out]
          exact HV1.out
        case measure => simp [intOf]; omega
      · obtain rfl : k' = ts.length := by omega
        rw [List.take_length] at HV
        clear hv hb IH
        go_wp2_with fail
        go_ret
        exact ⟨_, rfl, by rw [HR.out]; exact HV.out, HB.out⟩
theorem wpList_append_ints {w : World} {ops : Array Oper} {rest : List Oper} {o : Oper} {a : Act} {Q : Exit → Act → World → Prop} (hgd : o.guard = none) (s x : Operand)
    (ho : o.op = .call { callee := .builtin .append, args := #[s, x], argTypes := #[46, 46] })
    (base : Nat) (v : Value) (vs : List Int) (hs : a.eval s = v) (hown : ownInts w base v vs) (l : List Int) (g : Option Addr) (c : Nat) (hx : a.eval x = .slice g l.length c) (hsrc : srcInts w l g)
    (hmax : vs.length + l.length ≤ 1000000000) (hbase : base ≤ w.heap.size)
    (h : ∀ v' w', ownInts w' base v' (vs ++ l) → w.grownBy w' v.ownBlock → (∀ j, v.ownBlock = some j → base ≤ j) → wpList Try.prog ops Q rest (a.put o.dst v') w') : wpList Try.prog ops Q (o :: rest) a w :=
  wpList_plain hgd fun _ hK => wp_append_ints s x ho base v vs hs hown l g c hx hsrc hmax hbase fun v' w' h2 h3 h4 => hK _ _ (h v' w' h2 h3 h4)
theorem ownInts_below {W W' : World} {base : Nat} {v : Value} {l : List Int} (h : ownInts W base v l) (hb : Below W.heap.size W W') : ownInts W' base v l := ownsRow_below h hb
end Go.Proofs.Ytomdccejgmhfoaa

namespace Go.Proofs.Ytomdccejgmhfoaa
open Go.RowKit

set_option maxHeartbeats 400000 in
theorem rvars_any (l : List Tm) (w : World) (B : Nat) (sv : Value) (hB : B ≤ w.heap.size) (hsl : Tm.sliceIn w B l sv) (hsz : Tm.sizes l ≤ 1000000) :
    Calls Try.prog 26 #[sv] w fun e w' => ∃ v, e = .returned v ∧ intsIn w' w'.heap.size (Tm.withs [] l) v ∧ Below w.heap.size w w' := by
  have hsl0 := hsl
  obtain ⟨g, cap, rfl, hcap, hlen, _⟩ := hsl0
  have HSL := Lib.hid hsl
  clear hsl
  go_enter Try.func26, Try.ntmps26
  go_wp2_with fail
  go_loopw [3, 4] (fun v i wr => ∃ k' : Nat, k' ≤ l.length ∧ i = .int .i64 k' ∧ Hid (intsIn wr wr.heap.size (Tm.withs [] (l.take k')) v) ∧ Below w.heap.size w wr) (fun _ i _ => l.length - (intOf i).toNat)
  case atStart => exact ⟨0, Nat.zero_le _, rfl, ⟨none, 0, by simp [Tm.withs], by simp [Tm.withs], by simp [Tm.withs], .inl (by simp [Tm.withs])⟩, Below.refl _ _⟩
  case round =>
    obtain ⟨k', hk', rfl, hv, hb⟩ := hrel
    have HV := Lib.hid hv.out
    have HB := Lib.hid hb
    by_cases hlt : k' < l.length
    · obtain ⟨b, off, sv, rfl, hbB, g0, g1, g2, g3, hin'⟩ := Tm.sliceIn_get (Tm.sliceIn_below HSL.out hb hB) k' hlt
      have hlen1 := withs_length (l.take k') []
      have hlen2 := Tm.sizes_take_succ l k' hlt
      have hlen3 := Tm.sizes_take_le l (k' + 1)
      have hs1 := hb.size
      have hih := Lib.hid (with_any l[k'] wr B sv _ _ (by omega) hin' HV.out (by simp at hlen1; omega))
      have HS := Lib.hid (withs_take_succ l [] k' hlt)
      clear hin' hlen1 hlen2 hlen3 hv hb
      go_wp2_with fail
      refine hih.out.mono ?_
      rintro e w1 ⟨v', rfl, hv1, hb1⟩
      have HB1 := Lib.hid hb1
      have HV1 := Lib.hid hv1
      clear hb1 hv1
      go_wp2_with fail
      go_roundw
      case rel =>
        refine ⟨k' + 1, by omega, by go_num, ?_, HB.out.trans (HB1.out.mono (by omega))⟩
        rw [HS.out]
        exact HV1.out
      case measure => simp [intOf]; omega
    · obtain rfl : k' = l.length := by omega
      rw [List.take_length] at HV
      clear hv hb
      go_wp2_with fail
      go_ret
      exact ⟨_, rfl, HV.out, HB.out⟩
end Go.Proofs.Ytomdccejgmhfoaa
