/-
  The program's behind: the binds of variables, and of all those to which they lead.
-/
import Derived.Test.YtgnbjhiafjpokaaSBind
import Derived.Test.YtgnbjhiafjpokaaVarsN
import Derived.Lib.SliceRun
namespace Go.Proofs.Ytgnbjhiafjpokaa
open Go.RowKit Go.Shelf Go.Maps

/-- A set of numbers. -/
def SetF (W : World) (m K : Nat) (l : List Int) : Prop := ∃ D, W.ownsMap Try.prog 3 (unitElem (H := Unit)) m K D ∧ ∀ v, has D (.int .i64 v) = decide (v ∈ l)
theorem SetF.of_block {W W' : World} {m K : Nat} {l : List Int} (h : SetF W m K l) (hb : W'.heap[m]? = W.heap[m]?) : SetF W' m K l := by
  obtain ⟨D, ⟨es, ck, h1, r⟩, h2⟩ := h
  exact ⟨D, ⟨es, ck, hb.trans h1, r⟩, h2⟩
theorem SetF.lt {W : World} {m K : Nat} {l : List Int} (h : SetF W m K l) : m < W.heap.size := by
  obtain ⟨D, h1, _⟩ := h
  exact h1.lt
theorem SetF.made (W : World) : SetF (W.alloc (.map #[] 0)) W.heap.size 0 [] := ⟨.map [], World.ownsMap_made W Try.prog 3 (unitElem (H := Unit)), fun _ => rfl⟩
theorem SetF.put {W W' : World} {m K : Nat} {l : List Int} {D : DataW Unit} {u : Int} (h0 : W.ownsMap Try.prog 3 (unitElem (H := Unit)) m K D) (h : ∀ v, has D (.int .i64 v) = decide (v ∈ l)) (hw : W'.ownsMap Try.prog 3 (unitElem (H := Unit)) m (K + 1) (D.put (.int .i64 u) (.agg []))) : SetF W' m (K + 1) (l ++ [u]) := by
  have hk : WideAt.IsKeyLit (.int .i64 u) := by simp [WideAt.IsKeyLit]
  refine ⟨_, hw, fun v => ?_⟩
  by_cases e : v = u
  · subst e
    rw [has_put_same h0.isMap hk]
    simp
  · have hne : Lit.int .i64 v ≠ .int .i64 u := by simpa using e
    rw [has_put_other hne, h v]
    simp [e]
/-- The last number of a row is taken away. -/
theorem ownInts_pop {W : World} {lo : Nat} {g : Option Addr} {n c : Nat} {l : List Int} {x : Int} (h : ownInts W lo (.slice g (n + 1) c) (l ++ [x])) : ownInts W lo (.slice g n c) l ∧ l.length = n := by
  have hl : (l ++ [x]).length = n + 1 := by
    rcases h.2 with ⟨e, h0⟩ | ⟨gr, cap, cur, e, _⟩
    · rw [h0] at *
      injection e with e1 e2 e3
      omega
    · injection e with e1 e2 e3
      exact e2.symm
  have hln : l.length = n := by simpa using hl
  refine ⟨⟨by simp, ?_⟩, hln⟩
  rcases h.2 with ⟨e, h0⟩ | ⟨gr, cap, cur, e, h1, h2, h3, h4, h5, h6⟩
  · injection e with e1 e2 e3
    omega
  · injection e with e1 e2 e3
    refine .inr ⟨gr, cap, cur, by rw [e1, e3, hln], h1, h2, by rw [hl] at h3; omega, h4, h5, ?_⟩
    have := congrArg (fun L => L.take (l.length * 1)) h6
    simp only [List.take_take] at this
    rw [show min (l.length * 1) ((l ++ [x]).length * 1) = l.length * 1 by simp] at this
    rw [this]
    simp
/-- What behind tells. -/
def BehindPost (W : World) (B : Nat) (L : List Bd) (vs : List Int) (e : Ending) (W' : World) : Prop :=
  ∃ (L' : List Bd) (sv : Value) (xs : List Value), e = .returned sv ∧ Below W.heap.size W W' ∧ BRow W' B W.heap.size L' sv xs ∧ Behind L L' vs ∧ L'.length ≤ L.length
/-- While they are sought: L' was found, wk is still to be looked at. -/
structure HIter (L : List Bd) (vs : List Int) (L' : List Bd) (wk : List Int) : Prop where
  ok : okL L'
  sub : ∀ b ∈ L', b ∈ L
  start : ∀ v ∈ vs, v ∈ wk ∨ ∀ c ∈ L, c.v = v → c ∈ L'
  closed : ∀ b ∈ L', ∀ v ∈ b.t.vs, v ∈ wk ∨ ∀ c ∈ L, c.v = v → c ∈ L'
  rng : ∀ v ∈ wk, (Lit.int .i64 v).wf = true
theorem HIter.nil (L : List Bd) {vs : List Int} (h : ∀ v ∈ vs, (Lit.int .i64 v).wf = true) : HIter L vs [] vs := ⟨fun i hi => absurd hi (Nat.not_lt_zero _), (fun b hb => by cases hb), fun v hv => .inl hv, (fun b hb => by cases hb), h⟩
theorem HIter.done {L : List Bd} {vs : List Int} {L' : List Bd} (h : HIter L vs L' []) : Behind L L' vs :=
  ⟨h.ok, h.sub, fun v hv => by rcases h.start v hv with h | h; cases h; exact h, fun b hb v hv => by rcases h.closed b hb v hv with h | h; cases h; exact h⟩
theorem HIter.skip {L : List Bd} {vs : List Int} {L' : List Bd} {wk : List Int} {x : Int} (h : HIter L vs L' (wk ++ [x])) (hx : ∀ c ∈ L, c.v = x → c ∈ L') : HIter L vs L' wk := by
  have key : ∀ v, (v ∈ wk ++ [x] ∨ ∀ c ∈ L, c.v = v → c ∈ L') → (v ∈ wk ∨ ∀ c ∈ L, c.v = v → c ∈ L') := fun v hv => by
    rcases hv with hv | hv
    · rcases List.mem_append.1 hv with hv | hv
      · exact .inl hv
      · rw [List.mem_singleton.1 hv]; exact .inr hx
    · exact .inr hv
  exact ⟨h.ok, h.sub, fun v hv => key v (h.start v hv), fun b hb v hv => key v (h.closed b hb v hv), fun v hv => h.rng v (List.mem_append_left _ hv)⟩
theorem HIter.more {L : List Bd} {vs : List Int} {L' : List Bd} {wk ws : List Int} {p : Nat} (hL : okL L) (h : HIter L vs L' (wk ++ [(L.getD p ⟨0, vTm 0⟩).v])) (hp : p < L.length) (hn : ¬ L[p].v ∈ vsB L') (hw : ∀ v ∈ L[p].t.vs, v ∈ ws) (hr : ∀ v ∈ ws, (Lit.int .i64 v).wf = true) : HIter L vs (L' ++ [L[p]]) (wk ++ ws) := by
  have ep : (L.getD p ⟨0, vTm 0⟩).v = L[p].v := by simp [List.getD, List.getElem?_eq_getElem hp]
  rw [ep] at h
  have hpl : place L' L[p].v = none := place_none.2 fun b hb e => hn (List.mem_map.2 ⟨b, hb, e⟩)
  have key : ∀ v, (v ∈ wk ++ [L[p].v] ∨ ∀ c ∈ L, c.v = v → c ∈ L') → (v ∈ wk ++ ws ∨ ∀ c ∈ L, c.v = v → c ∈ L' ++ [L[p]]) := fun v hv => by
    rcases hv with hv | hv
    · rcases List.mem_append.1 hv with hv | hv
      · exact .inl (List.mem_append_left _ hv)
      · rw [List.mem_singleton.1 hv]
        refine .inr fun c hc e => ?_
        obtain ⟨q, hq, e2, g2⟩ := ok_place hL hc
        rw [e, (hL p hp).2.2.1] at e2
        cases e2
        rw [← g2]
        simp
    · exact .inr fun c hc e => List.mem_append_left _ (hv c hc e)
  have hok := hL p hp
  refine ⟨?_, fun b hb => ?_, fun v hv => key v (h.start v hv), fun b hb v hv => ?_, fun v hv => ?_⟩
  · exact okL_snoc h.ok hok.1 hok.2.1 hpl hok.2.2.2
  · rcases List.mem_append.1 hb with hb | hb
    · exact h.sub b hb
    · rw [List.mem_singleton.1 hb]; exact List.getElem_mem hp
  · rcases List.mem_append.1 hb with hb | hb
    · exact key v (h.closed b hb v hv)
    · rw [List.mem_singleton.1 hb] at hv
      exact .inl (List.mem_append_right _ (hw v hv))
  · rcases List.mem_append.1 hv with hv | hv
    · exact h.rng v (List.mem_append_left _ hv)
    · exact hr v hv
theorem HIter.len {L : List Bd} {vs : List Int} {L' : List Bd} {wk : List Int} (hL : okL L) (h : HIter L vs L' wk) : L'.length ≤ L.length := by
  have hn : (L'.map fun b => (place L b.v).getD 0).Nodup := by
    refine List.pairwise_iff_getElem.2 fun i j hi hj hij e => ?_
    have hi' : i < L'.length := by simpa using hi
    have hj' : j < L'.length := by simpa using hj
    simp only [List.getElem_map] at e
    obtain ⟨p, hp, e1, g1⟩ := ok_place hL (h.sub _ (List.getElem_mem hi'))
    obtain ⟨q, hq, e2, g2⟩ := ok_place hL (h.sub _ (List.getElem_mem hj'))
    rw [e1, e2] at e
    simp only [Option.getD_some] at e
    subst e
    have hv : L'[i].v = L'[j].v := by rw [← g1, ← g2]
    have h1 := (h.ok i hi').2.2.1
    rw [hv, (h.ok j hj').2.2.1] at h1
    cases h1
    omega
  have := nodup_len L.length _ hn (fun x hx => by
    obtain ⟨b, hb, rfl⟩ := List.mem_map.1 hx
    obtain ⟨p, hp, e1, _⟩ := ok_place hL (h.sub b hb)
    rw [e1]
    exact hp)
  simpa using this

/-- append of a row of numbers, nothing too. -/
theorem wpList_append_nums {w : World} {ops : Array Oper} {rest : List Oper} {o : Oper} {a : Act} {Q : Exit → Act → World → Prop} (hgd : o.guard = none) (s x : Operand)
    (ho : o.op = .call { callee := .builtin .append, args := #[s, x], argTypes := #[46, 46] })
    (base : Nat) (v : Value) (vs : List Int) (hs : a.eval s = v) (hown : ownInts w base v vs) (l : List Int) (g : Option Addr) (n c : Nat) (hx : a.eval x = .slice g n c) (hn : n = l.length) (hsrc : srcInts w l g)
    (hmax : vs.length + l.length ≤ 1000000000) (hbase : base ≤ w.heap.size)
    (h : ∀ v' w', ownInts w' base v' (vs ++ l) → w.grownBy w' v.ownBlock → (v'.ownBlock = v.ownBlock ∨ v'.ownBlock = some w.heap.size) → wpList Try.prog ops Q rest (a.put o.dst v') w') : wpList Try.prog ops Q (o :: rest) a w := by
  subst hn
  obtain ⟨i0, hi, hz0, hz1, hz2⟩ := info_parts Try.infoInt
  obtain ⟨v', w', hr, h2, h3, h4⟩ := run_append_any (P := Try.prog) (w := w) base 46 o.type 3 i0 (.int .i64 0) 1 8 Try.underlying46 hi hz0 hz1 hz2 rfl (by decide) v vs.length _ hown g l.length c (l.map (Value.int .i64)) (by simp) (by
    rcases hsrc with h | ⟨b, off, rfl, hc⟩
    · exact .inl (by rw [h]; rfl)
    · refine .inr ⟨_, rfl, fun j u hu => ?_⟩
      rw [List.getElem?_map] at hu
      obtain ⟨y, hy, rfl⟩ := Option.map_eq_some_iff.1 hu
      obtain ⟨hj, rfl⟩ := List.getElem?_eq_some_iff.1 hy
      rw [Addr.add_lit]
      exact hc j hj) (by
    intro u hu
    obtain ⟨y, _, rfl⟩ := List.mem_map.1 hu
    rfl) (by unfold maxLen; omega) (by omega) hbase
  refine wpList_plain hgd fun K' hK' => ?_
  unfold Oper.wp execOp
  simp only [ho, resolve, invoke, builtin, Sem.run_bind, Sem.run_pure, Result.andThen_ok, List.map_toArray, List.map_cons, List.map_nil, hs, hx, hr]
  refine hK' _ _ (h v' w' ?_ h3 h4)
  unfold ownInts
  rw [List.length_append, List.map_append]
  exact h2
set_option maxRecDepth 100000 in
set_option maxHeartbeats 2000000 in
/-- slices.Clone of numbers. -/
theorem clone_any (l : List Int) (w : World) (sv : Value) (hsl : intsIn w w.heap.size l sv) (hl : l.length ≤ 1000000) :
    Calls Try.prog 88 #[sv] w fun e w' => ∃ v, e = .returned v ∧ ownInts w' w.heap.size v l ∧ Below w.heap.size w w' := by
  obtain ⟨g, cap, rfl, hcap, hlen, h3⟩ := id hsl
  have hq := fun (w : World) (a : Option Addr) (n c n' c' : Nat) => Lib.run_eql_slice_nil (P := Try.prog) w 46 3 a n c n' c' Try.underlying46
  obtain ⟨i0, hi0, hz0, hz1, hz2⟩ := info_parts Try.infoInt
  cases g with
  | none =>
    have hnil : l = [] := by
      rcases h3 with h3 | ⟨b, off, e, _⟩
      · exact h3
      · cases e
    subst hnil
    clear hsl h3
    go_enter Try.func88, Try.ntmps88
    go_wp2_with fail
    refine bodyPost_ret (v := .slice none 0 0) (by simp [results, Try.results88, go_sem]) rfl ?_
    exact ⟨.slice none 0 0, rfl, ⟨rfl, .inl ⟨rfl, rfl⟩⟩, Below.refl _ _⟩
  | some ad =>
    have hal : Below w.heap.size w (w.alloc (.cells #[] 3)) := (Below.refl _ _).alloc (Nat.le_refl _) _
    have hsrc := src_of hsl hal
    have hown := own0 (X := w) (base := w.heap.size) w.heap.size rfl (Nat.le_refl _)
    have HSRC := Lib.hid hsrc
    have HOWN := Lib.hid hown
    clear hsl h3 hown hsrc hal
    go_enter Try.func88, Try.ntmps88
    go_wp2_with (at_builtin; refine wpList_append_nums rfl _ _ rfl w.heap.size (.slice (some ⟨w.heap.size, 0, none⟩) 0 0) [] rfl HOWN.out l (some ad) l.length cap rfl rfl HSRC.out (by simp; omega) (by simp) ?_; intro v' w' h1 h2 h3)
    go_ret
    exact ⟨_, rfl, h1, ((Below.refl _ _).alloc (Nat.le_refl _) _).grown h2 (by simp) (fun k e => by have : w.heap.size = k := Option.some.inj e; omega)⟩
/-- What stands in the round. -/
structure BhIt (W : World) (B : Nat) (L : List Bd) (vs : List Int) (svB svK : Value) (L' : List Bd) (wk : List Int) (xs : List Value) (wr : World) : Prop where
  below : Below W.heap.size W wr
  size : W.heap.size + 1 ≤ wr.heap.size
  it : HIter L vs L' wk
  rowB : BRow wr B (W.heap.size + 1) L' svB xs
  rowK : ownInts wr (W.heap.size + 1) svK wk
  set : SetF wr W.heap.size L'.length (vsB L')
  sep : ∀ b, svB.ownBlock = some b → svK.ownBlock ≠ some b
theorem BhIt.next {W : World} {B : Nat} {L : List Bd} {vs : List Int} {svB svK : Value} {L' : List Bd} {wk : List Int} {xs : List Value} {wr wx : World} (h : BhIt W B L vs svB svK L' wk xs wr) (hBW : B ≤ W.heap.size) (hb : Below wr.heap.size wr wx) : BhIt W B L vs svB svK L' wk xs wx := by
  have hs := h.size
  have hsz := hb.size
  exact ⟨h.below.trans (hb.mono (by omega)), by omega, h.it, h.rowB.keep (fun b hlt => hb.block b (by omega)) (fun b e => hb.block b (h.rowB.row.lt b e).2), ownsRow_block h.rowK (fun b e => hb.block b (World.ownsRow.lt h.rowK b e).2), h.set.of_block (hb.block _ h.set.lt), h.sep⟩
theorem BhIt.skip {W : World} {B : Nat} {L : List Bd} {vs : List Int} {svB : Value} {g : Option Addr} {n c : Nat} {L' : List Bd} {wk : List Int} {x : Int} {xs : List Value} {wr : World} (h : BhIt W B L vs svB (.slice g (n + 1) c) L' (wk ++ [x]) xs wr) (hx : ∀ c ∈ L, c.v = x → c ∈ L') : BhIt W B L vs svB (.slice g n c) L' wk xs wr :=
  ⟨h.below, h.size, h.it.skip hx, h.rowB, (ownInts_pop h.rowK).1, h.set, fun b e e' => h.sep b e (by cases g <;> exact e')⟩
theorem BhIt.more {W : World} {B : Nat} {L : List Bd} {vs : List Int} {svB : Value} {g : Option Addr} {n c : Nat} {L' : List Bd} {wk : List Int} {x : Int} {xs : List Value} {wx : World} (h : BhIt W B L vs svB (.slice g (n + 1) c) L' (wk ++ [x]) xs wx) (hBW : B ≤ W.heap.size) (hL : okL L) {p : Nat} (hp : p < L.length) (hx : L[p].v = x) (hn : ¬ x ∈ vsB L')
    {w2 wa w3 w4 w5 : World} {v3 v5 svx : Value} {ws : List Int} (hg2 : wx.grownBy w2 (some W.heap.size)) (hset : SetF w2 W.heap.size (L'.length + 1) (vsB L' ++ [x])) (ha : Below w2.heap.size w2 wa) (hown3 : wa.grownBy w3 svB.ownBlock)
    (hr3 : w3.ownsRow (W.heap.size + 1) 33 5 v3 (L'.length + 1) (xs ++ [.int .i64 x, .int .i64 L[p].t.kind, .string L[p].t.name, .int .i64 L[p].t.n, svx])) (hs3 : v3.ownBlock = svB.ownBlock ∨ ∀ b, v3.ownBlock = some b → wa.heap.size ≤ b) (hin : Tm.inn wx B L[p].t svx)
    (hb4 : Below w3.heap.size w3 w4) (hws : ∀ v ∈ L[p].t.vs, v ∈ ws) (hwr : ∀ v ∈ ws, (Lit.int .i64 v).wf = true) (hk5 : ownInts w5 (W.heap.size + 1) v5 (wk ++ ws)) (hg5 : w4.grownBy w5 (Value.slice g n c).ownBlock) (hs5 : v5.ownBlock = (Value.slice g n c).ownBlock ∨ v5.ownBlock = some w4.heap.size) :
    BhIt W B L vs v3 v5 (L' ++ [L[p]]) (wk ++ ws) (xs ++ [.int .i64 x, .int .i64 L[p].t.kind, .string L[p].t.name, .int .i64 L[p].t.n, svx]) w5 := by
  have hob : (Value.slice g (n + 1) c).ownBlock = (Value.slice g n c).ownBlock := by cases g <;> rfl
  have hsz := h.size
  have hs2 := hg2.size
  have hsa := ha.size
  have hs33 := hown3.size
  have hs4 := hb4.size
  have hs55 := hg5.size
  have hKlt : ∀ b, (Value.slice g n c).ownBlock = some b → W.heap.size + 1 ≤ b ∧ b < wx.heap.size := fun b e => World.ownsRow.lt h.rowK b (by rw [hob]; exact e)
  have hBlt : ∀ b, svB.ownBlock = some b → W.heap.size + 1 ≤ b ∧ b < wx.heap.size := fun b e => h.rowB.row.lt b e
  have hsep : ∀ b, svB.ownBlock = some b → (Value.slice g n c).ownBlock ≠ some b := fun b e => by rw [← hob]; exact h.sep b e
  have hbl : Below W.heap.size W w5 := by
    refine (((h.below.grown hg2 (by omega) (fun k e => by cases e; exact Nat.le_refl _)).trans (ha.mono (by omega))).grown hown3 (by omega) (fun k e => by have := hBlt k e; omega)).trans (hb4.mono (by omega)) |>.grown hg5 (by omega) (fun k e => by have := hKlt k e; omega)
  have hold : ∀ b, b < wx.heap.size → b ≠ W.heap.size → svB.ownBlock ≠ some b → (Value.slice g n c).ownBlock ≠ some b → w5.heap[b]? = wx.heap[b]? := fun b hb h1 h2 h3 =>
    (hg5.block b (by omega) (fun e => h3 e.symm)).trans ((hb4.block b (by omega)).trans ((hown3.block b (by omega) (fun e => h2 e.symm)).trans ((ha.block b (by omega)).trans (hg2.block b hb (fun e => h1 (Option.some.inj e))))))
  have hB5 : ∀ b o v, b < B → wx.cell? ⟨b, o, none⟩ = some v → w5.cell? ⟨b, o, none⟩ = some v := fun b o v hlt hc => (World.cell?_of_block (a := ⟨b, o, none⟩) (hold b (by omega) (by omega) (fun e => by have := hBlt b e; omega) (fun e => by have := hKlt b e; omega))).trans hc
  have h3K : ∀ b, v3.ownBlock = some b → (Value.slice g n c).ownBlock ≠ some b := fun b e => by
    rcases hs3 with h1 | h1
    · exact hsep b (h1 ▸ e)
    · intro e'
      have := h1 b e
      have := hKlt b e'
      omega
  refine ⟨hbl, by omega, ?_, ⟨?_, ?_⟩, hk5, ?_, fun b e e' => ?_⟩
  · have hh := h.it
    have ep : (L.getD p ⟨0, vTm 0⟩).v = x := by simp [List.getD, List.getElem?_eq_getElem hp, hx]
    rw [← ep] at hh
    exact hh.more hL hp (by rw [hx]; exact hn) hws hwr
  · rw [List.length_append]
    exact ownsRow_block hr3 fun b e => (hg5.block b (by have := (hr3.lt b e).2; omega) (fun e' => h3K b e e'.symm)).trans (hb4.block b (hr3.lt b e).2)
  · have := cellsB_snoc (x := L[p]) (innP_of_inn _ _ (Tm.inn_same (Nat.le_refl _) hB5 _ _ hin)) _ _ (cellsB_same (fun _ h => h) hB5 _ _ h.rowB.cells)
    rw [hx] at this
    exact this
  · have hW : W.heap.size < w2.heap.size := hset.lt
    have := hset.of_block (W' := w5) ((hg5.block _ (by omega) (fun e => by have := hKlt _ e.symm; omega)).trans ((hb4.block _ (by omega)).trans ((hown3.block _ (by omega) (fun e => by have := hBlt _ e.symm; omega)).trans (ha.block _ hW))))
    rw [List.length_append]
    have e2 : vsB (L' ++ [L[p]]) = vsB L' ++ [x] := by simp [vsB, hx]
    rw [e2]
    exact this
  · rcases hs5 with h1 | h1
    · exact h3K b e (h1 ▸ e')
    · rw [h1] at e'
      have := (hr3.lt b e).2
      have : w4.heap.size = b := Option.some.inj e'
      omega
set_option maxRecDepth 100000 in
set_option maxHeartbeats 4000000 in
theorem behind_any {W : World} {B sb K : Nat} {L : List Bd} {vs : List Int} {svS mv sv : Value} {xsS : List Value} (h : SMem W B sb L K svS mv xsS) (hv : intsIn W W.heap.size vs sv) (hvl : vs.length ≤ 1000000) (hvr : ∀ v ∈ vs, (Lit.int .i64 v).wf = true) :
    Calls Try.prog 66 #[.pointer (some ⟨sb, 0, none⟩), sv] W fun e W' => BehindPost W B L vs e W' := by
  have hLl := h.len
  have hlo := h.lo
  have hbl := h.low.box
  have hal : Below W.heap.size W (W.alloc (.map #[] 0)) := (Below.refl _ _).alloc (Nat.le_refl _) _
  have hcl := clone_any vs (W.alloc (.map #[] 0)) sv (intsIn_mono (intsIn_below hv hal (Nat.le_refl _)) (by simp)) hvl
  have HCL := Lib.hid hcl
  have HS := Lib.hid h
  have HVR := Lib.hid hvr
  have HAL := Lib.hid hal
  have hmk := @run_makeMap Try.prog
  obtain ⟨i0, hi0, hz0, hz1, hz2⟩ := info_parts Try.infoInt
  obtain ⟨ib, hib, hb0, hb1, hb2⟩ := info_parts Try.infoBd
  clear hcl h hvr hal hv
  go_enter Try.func66, Try.ntmps66
  go_wp2_with fail
  refine HCL.out.mono ?_
  rintro e w0 ⟨svK, rfl, hown, hb0'⟩
  have hst : BhIt W B L vs (.slice none 0 0) svK [] vs [] w0 := by
    have hs0 := hb0'.size
    simp at hs0
    have hs1 : W.heap.size + 1 ≤ w0.heap.size := hs0
    exact ⟨HAL.out.trans (hb0'.mono (by simp)), hs1, HIter.nil L HVR.out, ⟨World.ownsRow_nil _ _ _ _, rfl⟩, by simpa using hown, (SetF.made W).of_block (hb0'.block _ (by simp)), (fun b e => by cases e)⟩
  have HST := Lib.hid hst
  clear hst hown hb0' HCL hmk HAL
  go_wp2_with fail
  go_loopg [5, 7] (L.length * 3001 + vs.length) (fun N svB svK wr => ∃ (L' : List Bd) (wk : List Int) (xs : List Value), Hid (BhIt W B L vs svB svK L' wk xs wr) ∧ (L.length - L'.length) * 3001 + wk.length ≤ N ∧ wk.length ≤ vs.length + 3000 * L'.length)
  case atStart => exact ⟨[], vs, [], HST.out, by simp, by simp⟩
  case round =>
    obtain ⟨L', wk, xs, hit, hN, hwl⟩ := hrel
    have HIT := Lib.hid hit.out
    clear hit
    have hLlen := HIT.out.it.len HS.out.ok
    obtain ⟨gk', ck, hsk⟩ := owns_slice HIT.out.rowK
    subst hsk
    have hwsz := HIT.out.size
    rcases List.eq_nil_or_concat wk with hwk | ⟨wk0, x, hwk⟩
    · subst hwk
      have hfin : BehindPost W B L vs (.returned u5) wr := ⟨L', u5, xs, rfl, HIT.out.below, ⟨HIT.out.rowB.row.mono (by omega), HIT.out.rowB.cells⟩, HIT.out.it.done, hLlen⟩
      have HFIN := Lib.hid hfin
      clear hfin hLlen hN
      go_wp2_with fail
      go_ret
      exact HFIN.out
    · rw [List.concat_eq_append] at hwk
      subst hwk
      obtain ⟨n0, hn0⟩ : ∃ n0, wk0.length = n0 := ⟨_, rfl⟩
      have hlen1 : (wk0 ++ [x]).length = n0 + 1 := by rw [List.length_append, hn0]; rfl
      have hit1 := HIT.out
      rw [hlen1] at hit1 hN hwl ⊢
      obtain ⟨gb, hgb, hgl, hcx, hcap⟩ : ∃ gb, gk' = some ⟨gb, 0, none⟩ ∧ gb < wr.heap.size ∧ wr.cell? ⟨gb, n0, none⟩ = some (.int .i64 x) ∧ n0 + 1 ≤ ck := by
        have hrk := hit1.rowK
        rcases hrk.2 with ⟨_, h0⟩ | ⟨gr, cr, cur, e, _, _, hc, _⟩
        · rw [hlen1] at h0; omega
        · injection e with e1 e2 e3
          have hob : (Value.slice gk' (n0 + 1) ck).ownBlock = some gr := by rw [e1]; rfl
          have d1 := World.ownsRow.cells hrk (g := gr) hob n0 (.int .i64 x) (by rw [List.map_append, List.getElem?_append_right (by simp [hn0]), List.length_map, hn0]; simp)
          rw [Addr.add_lit] at d1
          simp only [Nat.zero_add] at d1
          rw [hlen1] at hc
          exact ⟨gr, e1, (World.ownsRow.lt hrk gr hob).2, d1, by rw [e3]; exact hc⟩
      subst hgb
      have hxw := hit1.it.rng x (by simp)
      have hfind := sfind_any L B sb K x wr svS mv xsS (HS.out.far HS.out.low hit1.below) hxw
      have HIT1 := Lib.hid hit1
      have HF := Lib.hid hfind
      have HXW := Lib.hid hxw
      have HN0 := Lib.hid hn0
      have hi0 : (0 : Int) ≤ (n0 : Int) := by omega
      have hi1 : (n0 : Int) ≤ (ck : Int) := by omega
      have hn0b : n0 ≤ 10000000000 := by omega
      clear hit1 hfind hxw hn0 hlen1 HIT
      go_wp2_with fail
      refine HF.out.mono ?_
      rintro e w1 ⟨hb1, t, gt, ct, q, rfl, hcase⟩
      obtain ⟨wx, hwx⟩ : ∃ wx, (w1.alloc (.cells #[.int .i64 t.kind, .string t.name, .int .i64 t.n, .slice gt t.args.length ct] 27)).alloc (.cells #[] 89) = wx := ⟨_, rfl⟩
      have hb1x : Below w1.heap.size w1 wx := by rw [← hwx]; exact al2 _ _ _
      have hbx : Below wr.heap.size wr wx := hb1.trans (hb1x.mono hb1.size)
      have hsx : wx.heap.size = w1.heap.size + 2 := by rw [← hwx]; simp
      have hbox : wx.heap[w1.heap.size]? = some (.cells #[.int .i64 t.kind, .string t.name, .int .i64 t.n, .slice gt t.args.length ct] 27 (0, 0)) := by rw [← hwx, Below.heap_alloc _ _ _ (by simp)]; exact newBlk _ _ _ rfl
      have hitx := HIT1.out.next (by omega) hbx
      have hby : Below wr.heap.size wr (w1.alloc (.cells #[.int .i64 t.kind, .string t.name, .int .i64 t.n, .slice gt t.args.length ct] 27)) := hb1.trans (((Below.refl _ _).alloc (Nat.le_refl _) _).mono hb1.size)
      obtain ⟨D, hD1, hD2⟩ := (HIT1.out.next (by omega) hby).set
      have hDx : wx.ownsMap Try.prog 3 (unitElem (H := Unit)) W.heap.size L'.length D := by rw [← hwx]; exact hD1.alloc _
      have HDX := Lib.hid hDx
      have HWX := Lib.hid hwx
      have HITX := Lib.hid hitx
      have HD1 := Lib.hid hD1
      have HD2 := Lib.hid hD2
      have HCASE := Lib.hid hcase
      have HB1X := Lib.hid hb1x
      have HBOX := Lib.hid hbox
      have HSX := Lib.hid hsx
      have hs1 : wr.heap.size ≤ w1.heap.size := hb1.size
      clear hwx hb1x hbx hbox hitx hD1 hD2 hcase hb1 HF hsx hDx hby
      by_cases hin : x ∈ vsB L'
      · have hsk := HITX.out.skip (fun c hc e => by
          obtain ⟨b', hb', e'⟩ := List.mem_map.1 hin
          obtain ⟨p1, hp1, e1, g1⟩ := ok_place HS.out.ok hc
          obtain ⟨p2, hp2, e2, g2⟩ := ok_place HS.out.ok (HITX.out.it.sub _ hb')
          rw [e] at e1
          rw [e', e1] at e2
          cases e2
          rw [← g1, g2]
          exact hb')
        have hat : has D (.int .i64 x) = true := by rw [HD2.out x]; simpa using hin
        have HSK := Lib.hid hsk
        have HAT := Lib.hid hat
        clear hsk hat hin
        go_wp2_with (at_lookup; refine wpList_lookup_own_unit _ rfl _ _ 85 rfl 3 89 (Maps.int_keyed Try.underlying3) Try.underlying85 (Try.zeroUnit _) W.heap.size L'.length D rfl HD1.out _ _ rfl (Maps.keyOf_int_mk Try.underlying3 HXW.out) ?_; rw [HAT.out])
        go_roundg (gk - 1)
        case rel =>
          have h0 := HSK.out
          have h1 := HN0.out
          rw [← HWX.out] at h0
          exact ⟨L', wk0, xs, h0, by omega, by omega⟩
        case measure => omega
      · have hat : has D (.int .i64 x) = false := by rw [HD2.out x]; simpa using hin
        have HAT := Lib.hid hat
        have HNI := Lib.hid hin
        clear hat hin
        cases q with
        | false =>
          have hpn : place L x = none := by
            rcases HCASE.out with ⟨h, _⟩ | ⟨_, h⟩
            · cases h
            · exact h
          have hsk := HITX.out.skip (fun c hc e => absurd e (place_none.1 hpn c hc))
          have HSK := Lib.hid hsk
          clear hsk hpn
          go_wp2_with (at_lookup; refine wpList_lookup_own_unit _ rfl _ _ 85 rfl 3 89 (Maps.int_keyed Try.underlying3) Try.underlying85 (Try.zeroUnit _) W.heap.size L'.length D rfl HD1.out _ _ rfl (Maps.keyOf_int_mk Try.underlying3 HXW.out) ?_; rw [HAT.out])
          go_roundg (gk - 1)
          case rel =>
            have h0 := HSK.out
            have h1 := HN0.out
            rw [← HWX.out] at h0
            exact ⟨L', wk0, xs, h0, by omega, by omega⟩
          case measure => omega
        | true =>
          obtain ⟨p, hp, hpl, hte, hint⟩ : ∃ p, ∃ hp : p < L.length, place L x = some p ∧ t = L[p].t ∧ Tm.inn w1 B t (.slice gt t.args.length ct) := by
            rcases HCASE.out with ⟨_, h⟩ | ⟨h, _⟩
            · exact h
            · cases h
          have hpv : L[p].v = x := (place_some hpl).2.1
          have htr : t.right = true := by rw [hte]; exact (HS.out.ok p hp).2.2.2
          have htsz : t.size ≤ 3000 := by simp only [Tm.right, Bool.and_eq_true, decide_eq_true_eq] at htr; exact htr.1.2
          have hLl2 : L'.length + 1 ≤ L.length := by
            have hh := HITX.out.it
            have ep : (L.getD p ⟨0, vTm 0⟩).v = x := by simp [List.getD, List.getElem?_eq_getElem hp, hpv]
            rw [← ep] at hh
            have h2 := hh.more HS.out.ok hp (by rw [hpv]; exact HNI.out) (ws := varsOf [L[p].t]) (fun v hv => (vars_vs _ v).2 ⟨_, List.mem_singleton.2 rfl, hv⟩) (fun v hv => by
              obtain ⟨t', ht', hv'⟩ := (vars_vs _ v).1 hv
              rw [List.mem_singleton.1 ht'] at hv'
              have := Tm.fair_vs _ (right_fair (HS.out.ok p hp).2.2.2) v hv'
              exact WalkArith.wf_i64 (by omega))
            have h3 := h2.len HS.out.ok
            simpa using h3
          have hkm : L'.length < maxLen := by unfold maxLen; omega
          have hintx := Tm.inn_below hint HB1X.out (by omega)
          have HP := Lib.hid hpl
          have HTE := Lib.hid hte
          have HPV := Lib.hid hpv
          have HINTX := Lib.hid hintx
          have hdx := HDX.out
          rw [← HWX.out] at hdx
          have HDX' := Lib.hid hdx
          have hsx' := HSX.out
          have hWw := HITX.out.size
          have hWr : W.heap.size < w1.heap.size := by omega
          have hb2 : ∀ w2 : World, ((w1.alloc (.cells #[.int .i64 t.kind, .string t.name, .int .i64 t.n, .slice gt t.args.length ct] 27)).alloc (.cells #[] 89)).grownBy w2 (some W.heap.size) → w2.heap[w1.heap.size]? = some (.cells #[.int .i64 t.kind, .string t.name, .int .i64 t.n, .slice gt t.args.length ct] 27 (0, 0)) ∧ w1.heap.size + 2 ≤ w2.heap.size := fun w2 hg => by
            rw [HWX.out] at hg
            have h1 := hg.size
            exact ⟨(hg.block _ (by omega) (fun e => by have : w1.heap.size = W.heap.size := Option.some.inj e; omega)).trans HBOX.out, by omega⟩
          have hBlk : ∀ b, u5.ownBlock = some b → W.heap.size + 1 ≤ b ∧ b < wr.heap.size := fun b e => HIT1.out.rowB.row.lt b e
          have hrow2 : ∀ w2 : World, ((w1.alloc (.cells #[.int .i64 t.kind, .string t.name, .int .i64 t.n, .slice gt t.args.length ct] 27)).alloc (.cells #[] 89)).grownBy w2 (some W.heap.size) → w2.ownsRow (W.heap.size + 1) 33 5 u5 L'.length xs := fun w2 hg => by
            rw [HWX.out] at hg
            exact ownsRow_block HITX.out.rowB.row fun b e => hg.block b (HITX.out.rowB.row.lt b e).2 (fun e' => by have := hBlk b e; have : b = W.heap.size := Option.some.inj e'; omega)
          have hb3 : ∀ (w2 w3 : World) (o : Obj), w2.heap[w1.heap.size]? = some (.cells #[.int .i64 t.kind, .string t.name, .int .i64 t.n, .slice gt t.args.length ct] 27 (0, 0)) → w1.heap.size + 2 ≤ w2.heap.size → (w2.alloc o).grownBy w3 u5.ownBlock → w3.heap[w1.heap.size]? = some (.cells #[.int .i64 t.kind, .string t.name, .int .i64 t.n, .slice gt t.args.length ct] 27 (0, 0)) := fun w2 w3 o h1 h2 hg =>
            (hg.block _ (by simp; omega) (fun e => by have := hBlk _ e.symm; omega)).trans ((Below.heap_alloc _ _ _ (by omega)).trans h1)
          have HB2 := Lib.hid hb2
          have HROW2 := Lib.hid hrow2
          have HB3 := Lib.hid hb3
          have HBLK := Lib.hid hBlk
          clear hb2 hrow2 hb3 hBlk hsx' hWw
          have HTS := Lib.hid htsz
          clear hdx hpl hte hpv hint htr hintx htsz
          go_wp2_with (first
            | (at_lookup; refine wpList_lookup_own_unit _ rfl _ _ 85 rfl 3 89 (Maps.int_keyed Try.underlying3) Try.underlying85 (Try.zeroUnit _) W.heap.size L'.length D rfl HD1.out _ _ rfl (Maps.keyOf_int_mk Try.underlying3 HXW.out) ?_; rw [HAT.out])
            | (at_mapUpdate; refine wpList_mapUpdate_own _ rfl _ _ _ 85 rfl 3 89 (Maps.int_keyed Try.underlying3) Try.underlying85 _ W.heap.size L'.length _ rfl HDX'.out hkm _ _ _ rfl rfl (Maps.keyOf_int_mk Try.underlying3 HXW.out) _ [] unitElem_mk ?_; intro w2 hown2 hgrow2; have hbx2 := HB2.out w2 hgrow2; obtain ⟨⟨k0, k1, k2, k3⟩, _⟩ := row4 hbx2.1; have hsz2 := hbx2.2; have HBX2 := Lib.hid hbx2.1; clear hbx2)
            | (at_builtin; refine wpList_append_sep _ rfl _ _ 22 rfl (W.heap.size + 1) 33 ib _ 5 64 Try.underlying22 hib hb0 hb1 hb2 rfl (by decide) u5 L'.length xs rfl ((HROW2.out w2 hgrow2).alloc _) ⟨w2.heap.size, 0, none⟩ 1 1 [.int .i64 x, .int .i64 t.kind, .string t.name, .int .i64 t.n, .slice gt t.args.length ct] rfl (by decide) rfl (news_any _ rfl) (by simp [Value.oneCell']) (by unfold maxLen; omega) (by omega) (by simp; omega) ?_; intro v3 w3 hown3 hgrow3 hsep3; have hbx3 := HB3.out w2 w3 _ HBX2.out hsz2 hgrow3; obtain ⟨⟨m0, m1, m2, m3⟩, _⟩ := row4 hbx3; have hsz3 := hgrow3.size; have HBX3 := Lib.hid hbx3; clear hbx3))
          have hg2x : wx.grownBy w2 (some W.heap.size) := by rw [← HWX.out]; exact hgrow2
          have hset2 : SetF w2 W.heap.size (L'.length + 1) (vsB L' ++ [x]) := SetF.put HDX'.out HD2.out hown2
          have hBc : Below W.heap.size wx w3 := ((((Below.refl _ _).grown hg2x (by have := HITX.out.size; omega) (fun k e => by cases e; exact Nat.le_refl _))).alloc (by omega) _).grown hgrow3 (by simp; omega) (fun k e => by have := HBLK.out k e; omega)
          have hin3 : Tm.inn (w3.alloc (.cells #[.int .i64 t.kind, .string t.name, .int .i64 t.n, .slice gt t.args.length ct] 27)) (w3.alloc (.cells #[.int .i64 t.kind, .string t.name, .int .i64 t.n, .slice gt t.args.length ct] 27)).heap.size t (.slice gt t.args.length ct) := by
            have h1 := Tm.inn_below HINTX.out hBc (by omega)
            have h2 : Below w3.heap.size w3 (w3.alloc (.cells #[.int .i64 t.kind, .string t.name, .int .i64 t.n, .slice gt t.args.length ct] 27)) := (Below.refl _ _).alloc (Nat.le_refl _) _
            have h3 := hBc.size
            have h4 := HITX.out.size
            exact Tm.inn_mono (Tm.inn_below h1 h2 (by omega)) (by simp; omega)
          have hone := one_slice (newBlk w3 _ w3.heap.size rfl) hin3
          have htv := tvars_new [t] _ _ hone (by have := HTS.out; simp only [Tm.sizes]; omega)
          have hvl2 := varsOf_length [t]
          have hts1 : Tm.sizes [t] = t.size := by simp [Tm.sizes]
          have hws3 : (varsOf [t]).length ≤ 3000 := by have := HTS.out; omega
          have HTV := Lib.hid htv
          have HG2X := Lib.hid hg2x
          have HSET2 := Lib.hid hset2
          have HOWN3 := Lib.hid hown3
          have HGROW3 := Lib.hid hgrow3
          have HSEP3 := Lib.hid hsep3
          clear htv hg2x hset2 hin3 hone hts1 hvl2 k0 k1 k2 k3 m0 m1 m2 m3
          refine HTV.out.mono ?_
          rintro e w5 ⟨vv, rfl, hints, hb5, hwfs, hnew⟩
          obtain ⟨gv, cv, hvv, _, _, _⟩ := id hints
          subst hvv
          have hsrc := src_of hints (Below.refl _ _)
          have hob1 : (Value.slice (some ⟨gb, 0, none⟩) (n0 + 1) ck).ownBlock = some gb := rfl
          have hgbl := World.ownsRow.lt HITX.out.rowK gb hob1
          have hs5 := hb5.size
          simp at hs5
          have hownk : ownInts w5 (W.heap.size + 1) (.slice (some ⟨gb, 0, none⟩) n0 ck) wk0 := by
            refine ownsRow_block (ownInts_pop HITX.out.rowK).1 fun b e => ?_
            have e' : gb = b := Option.some.inj e
            subst e'
            have hne : u5.ownBlock ≠ some gb := fun e2 => HITX.out.sep gb e2 hob1
            have hxs := HG2X.out.size
            simp at hsz3
            exact (hb5.block gb (by simp; omega)).trans ((Below.heap_alloc _ _ _ (by omega)).trans ((HGROW3.out.block gb (by simp; omega) (fun e2 => hne e2.symm)).trans ((Below.heap_alloc _ _ _ (by omega)).trans (HG2X.out.block gb hgbl.2 (fun e2 => by have : gb = W.heap.size := Option.some.inj e2; omega)))))
          have hkl : wk0.length ≤ 10000000 := by have := HN0.out; omega
          have HINTS := Lib.hid hints
          have HSRC := Lib.hid hsrc
          have HOWNK := Lib.hid hownk
          have HB5 := Lib.hid hb5
          have HWFS := Lib.hid hwfs
          obtain ⟨nv, hnv⟩ : ∃ nv, (varsOf [t]).length = nv := ⟨_, rfl⟩
          have HNV := Lib.hid hnv
          rw [hnv]
          have hW5 : W.heap.size + 1 ≤ w5.heap.size := by simp at hsz3; omega
          clear hints hsrc hownk hb5 hwfs hnew hgbl hnv hob1
          go_wp2_with (at_builtin; refine wpList_append_nums rfl _ _ rfl (W.heap.size + 1) (.slice (some ⟨gb, 0, none⟩) n0 ck) wk0 rfl HOWNK.out (varsOf [t]) gv nv cv rfl HNV.out.symm HSRC.out (by omega) hW5 ?_; intro v6 w6 hown6 hgrow6 hsep6)
          have hfin := HITX.out.more (by omega) HS.out.ok hp HPV.out HNI.out HG2X.out HSET2.out ((Below.refl _ _).alloc (Nat.le_refl _) _) HGROW3.out (by rw [← HTE.out]; exact HOWN3.out) HSEP3.out (by rw [← HTE.out]; exact HINTX.out) (((Below.refl w3.heap.size w3).alloc (Nat.le_refl _) (.cells #[.int .i64 t.kind, .string t.name, .int .i64 t.n, .slice gt t.args.length ct] 27)).trans (HB5.out.mono (by simp))) (ws := varsOf [t]) (fun v hv => (vars_vs _ v).2 ⟨_, List.mem_singleton.2 rfl, by rw [HTE.out]; exact hv⟩) HWFS.out hown6 hgrow6 hsep6
          have HFIN := Lib.hid hfin
          clear hfin hown6 hgrow6 hsep6
          go_roundg ((L.length - (L'.length + 1)) * 3001 + (wk0 ++ varsOf [t]).length)
          case rel =>
            refine ⟨_, _, _, HFIN.out, ?_, ?_⟩
            · rw [List.length_append]; exact Nat.le_refl _
            · have h1 := HN0.out
              have h2 := HNV.out
              rw [List.length_append, List.length_append]
              simp only [List.length_singleton]
              omega
          case measure =>
            have h1 := HN0.out
            have e1 : L.length - L'.length = (L.length - (L'.length + 1)) + 1 := by omega
            have e2 : (L.length - L'.length) * 3001 = (L.length - (L'.length + 1)) * 3001 + 3001 := by rw [e1, Nat.succ_mul]
            rw [List.length_append]
            omega
end Go.Proofs.Ytgnbjhiafjpokaa
