/-
  The parts in memory, while two terms are made alike.
-/
import Derived.Test.YtgnbjhiafjpokaaSMem
import Derived.Deep.RegionLaw
namespace Go.Proofs.Ytgnbjhiafjpokaa
open Go.RowKit Go.Shelf Go.Maps

/-- A part as it lies: where its term's Args lie, where its own Args' numbers lie. -/
structure PM where
  p : Pt
  ts : Value
  ks : Value
def pmCells (x : PM) : List Value := [.int .i64 x.p.t.kind, .string x.p.t.name, .int .i64 x.p.t.n, x.ts, x.ks, .int .i64 (x.p.same : Nat)]
def rowCells (M : List PM) : List Value := M.flatMap pmCells
def pairCells (l : List (Nat × Nat)) : List Value := l.flatMap fun x => [.int .i64 (x.1 : Nat), .int .i64 (x.2 : Nat)]
def psOf (M : List PM) : List Pt := M.map PM.p
theorem psOf_length (M : List PM) : (psOf M).length = M.length := by simp [psOf]
theorem psOf_snoc (M : List PM) (x : PM) : psOf (M ++ [x]) = psOf M ++ [x.p] := by simp [psOf]
theorem psOf_set (M : List PM) (i : Nat) (x : PM) : psOf (M.set i x) = (psOf M).set i x.p := by simp [psOf, List.map_set]
theorem pt_psOf {M : List PM} {i : Nat} (h : i < M.length) : pt (psOf M) i = M[i].p := by rw [pt_get (by rw [psOf_length]; exact h)]; simp [psOf]
theorem rowCells_length (M : List PM) : (rowCells M).length = M.length * 6 := by
  induction M with
  | nil => rfl
  | cons x r ih =>
    have h : rowCells (x :: r) = pmCells x ++ rowCells r := rfl
    rw [h, List.length_append, ih, List.length_cons]
    simp [pmCells]
    omega
theorem rowCells_get : ∀ (M : List PM) (i : Nat) (h : i < M.length) (j : Nat), j < 6 → (rowCells M)[i * 6 + j]? = (pmCells M[i])[j]?
  | [], i, h, _, _ => absurd h (Nat.not_lt_zero _)
  | x :: r, 0, _, j, hj => by
    have h : rowCells (x :: r) = pmCells x ++ rowCells r := rfl
    rw [h, List.getElem?_append_left (by simp [pmCells]; omega)]
    simp
  | x :: r, i + 1, h, j, hj => by
    have e : rowCells (x :: r) = pmCells x ++ rowCells r := rfl
    have := rowCells_get r i (by simpa using h) j hj
    rw [e, List.getElem?_append_right (by simp [pmCells]; omega)]
    have h6 : (pmCells x).length = 6 := rfl
    rw [h6, show (i + 1) * 6 + j - 6 = i * 6 + j by omega, this]
    simp
theorem rowCells_set : ∀ (M : List PM) (i : Nat) (h : i < M.length) (j : Nat) (_ : j < 6) (v : Value) (x' : PM), (pmCells M[i]).set j v = pmCells x' → (rowCells M).set (i * 6 + j) v = rowCells (M.set i x')
  | [], i, h, _, _, _, _, _ => absurd h (Nat.not_lt_zero _)
  | x :: r, 0, _, j, hj, v, x', hx => by
    have h : rowCells (x :: r) = pmCells x ++ rowCells r := rfl
    have hx' : (pmCells x).set j v = pmCells x' := hx
    rw [h, List.set_append_left _ _ (by simp [pmCells]; omega), show 0 * 6 + j = j by omega, hx']
    rfl
  | x :: r, i + 1, h, j, hj, v, x', hx => by
    have e : rowCells (x :: r) = pmCells x ++ rowCells r := rfl
    have := rowCells_set r i (by simpa using h) j hj v x' (by simpa using hx)
    have h6 : (pmCells x).length = 6 := rfl
    rw [e, List.set_append_right _ _ (by rw [h6]; omega), h6, show (i + 1) * 6 + j - 6 = i * 6 + j by omega, this]
    rfl
theorem rowCells_snoc (M : List PM) (x : PM) : rowCells (M ++ [x]) = rowCells M ++ pmCells x := by simp [rowCells]
theorem pairCells_length (l : List (Nat × Nat)) : (pairCells l).length = l.length * 2 := by
  induction l with
  | nil => rfl
  | cons x r ih =>
    have h : pairCells (x :: r) = [.int .i64 (x.1 : Nat), .int .i64 (x.2 : Nat)] ++ pairCells r := rfl
    rw [h, List.length_append, ih, List.length_cons]
    simp
    omega
theorem pairCells_get : ∀ (l : List (Nat × Nat)) (i : Nat) (h : i < l.length), (pairCells l)[i * 2]? = some (.int .i64 (l[i].1 : Nat)) ∧ (pairCells l)[i * 2 + 1]? = some (.int .i64 (l[i].2 : Nat))
  | [], i, h => absurd h (Nat.not_lt_zero _)
  | x :: r, 0, _ => ⟨rfl, rfl⟩
  | x :: r, i + 1, h => by
    have h' := pairCells_get r i (by simpa using h)
    have e : pairCells (x :: r) = .int .i64 (x.1 : Nat) :: .int .i64 (x.2 : Nat) :: pairCells r := rfl
    rw [e, show (i + 1) * 2 = i * 2 + 1 + 1 by omega, show i * 2 + 1 + 1 + 1 = (i * 2 + 1) + 1 + 1 by omega]
    simpa using h'
theorem pairCells_snoc (l : List (Nat × Nat)) (x : Nat × Nat) : pairCells (l ++ [x]) = pairCells l ++ [.int .i64 (x.1 : Nat), .int .i64 (x.2 : Nat)] := by simp [pairCells]

/-- Numbers of parts in a block of their own, which is none of those that are written. -/
def numsAt (W : World) (lo : Nat) (no : Nat → Prop) (js : List Nat) (sv : Value) : Prop :=
  (js = [] ∧ sv = .slice none 0 0) ∨ ∃ b c, sv = .slice (some ⟨b, 0, none⟩) js.length c ∧ js ≠ [] ∧ lo ≤ b ∧ b < W.heap.size ∧ ¬ no b ∧ ∀ k (h : k < js.length), W.cell? ⟨b, k, none⟩ = some (.int .i64 (js[k] : Nat))
theorem numsAt.kept {W W' : World} {lo : Nat} {no no' : Nat → Prop} {js : List Nat} {sv : Value} (h : numsAt W lo no js sv) (hs : W.heap.size ≤ W'.heap.size) (hb : ∀ b, lo ≤ b → b < W.heap.size → ¬ no b → W'.heap[b]? = W.heap[b]?) (hn : ∀ b, b < W.heap.size → ¬ no b → ¬ no' b) : numsAt W' lo no' js sv := by
  rcases h with h | ⟨b, c, e, h1, h2, h3, h4, h5⟩
  · exact .inl h
  · exact .inr ⟨b, c, e, h1, h2, by omega, hn b h3 h4, fun k hk => (World.cell?_of_block (a := ⟨b, k, none⟩) (hb b h2 h3 h4)).trans (h5 k hk)⟩
theorem numsAt.slice {W : World} {lo : Nat} {no : Nat → Prop} {js : List Nat} {sv : Value} (h : numsAt W lo no js sv) : ∃ g c, sv = .slice g js.length c := by
  rcases h with ⟨h1, h2⟩ | ⟨b, c, e, _⟩
  · exact ⟨none, 0, by rw [h2, h1]; rfl⟩
  · exact ⟨_, _, e⟩
theorem numsAt.get {W : World} {lo : Nat} {no : Nat → Prop} {js : List Nat} {g : Option Addr} {n c : Nat} (h : numsAt W lo no js (.slice g n c)) {k : Nat} (hk : k < js.length) :
    ∃ b, g = some ⟨b, 0, none⟩ ∧ b < W.heap.size ∧ W.cell? ⟨b, k, none⟩ = some (.int .i64 (js[k] : Nat)) := by
  rcases h with ⟨h1, _⟩ | ⟨b, c', e, _, _, h3, _, h5⟩
  · rw [h1] at hk; simp at hk
  · injection e with e1
    exact ⟨b, e1, h3, h5 k hk⟩
/-- Blocks that are written. -/
def wrote (pb mb : Nat) (svL svW : Value) (b : Nat) : Prop := b = pb ∨ b = mb ∨ svL.ownBlock = some b ∨ svW.ownBlock = some b
structure JMem (W : World) (lo B pb sb mb K : Nat) (svL svW : Value) (M : List PM) (vm : Int → Option Nat) (work : List (Nat × Nat)) : Prop where
  box : W.heap[pb]? = some (.cells #[.pointer (some ⟨sb, 0, none⟩), svL, .map (some mb), svW] 121 (0, 0))
  row : W.ownsRow lo 140 6 svL M.length (rowCells M)
  wk : W.ownsRow lo 122 2 svW work.length (pairCells work)
  map : MapF W mb K vm
  ts : ∀ x ∈ M, Tm.inn W B x.p.t x.ts
  ks : ∀ x ∈ M, numsAt W lo (wrote pb mb svL svW) x.p.args x.ks
  B : B ≤ lo
  lop : lo ≤ pb
  lom : lo ≤ mb
  pm : pb ≠ mb
  Lp : svL.ownBlock ≠ some pb
  Lm : svL.ownBlock ≠ some mb
  Wp : svW.ownBlock ≠ some pb
  Wm : svW.ownBlock ≠ some mb
  LW : ∀ b, svL.ownBlock = some b → svW.ownBlock ≠ some b
section
variable {W W' : World} {lo B pb sb mb K : Nat} {svL svW : Value} {M : List PM} {vm : Int → Option Nat} {work : List (Nat × Nat)}
theorem JMem.plt (h : JMem W lo B pb sb mb K svL svW M vm work) : pb < W.heap.size := (Array.getElem?_eq_some_iff.1 h.box).1
theorem JMem.keep (h : JMem W lo B pb sb mb K svL svW M vm work) (hs : W.heap.size ≤ W'.heap.size) (hb : ∀ b, b < W.heap.size → W'.heap[b]? = W.heap[b]?) : JMem W' lo B pb sb mb K svL svW M vm work := by
  have hp := h.plt
  have hB := h.B
  have hlop := h.lop
  exact ⟨(hb pb hp).trans h.box, ownsRow_block h.row (fun b e => hb b (h.row.lt b e).2), ownsRow_block h.wk (fun b e => hb b (h.wk.lt b e).2), h.map.of_block (hb mb h.map.lt),
    fun x hx => Tm.inn_same (Nat.le_refl _) (fun b o v hlt hc => (World.cell?_of_block (a := ⟨b, o, none⟩) (hb b (by omega))).trans hc) _ _ (h.ts x hx), fun x hx => (h.ks x hx).kept hs (fun b _ hlt _ => hb b hlt) (fun _ _ h => h), h.B, h.lop, h.lom, h.pm, h.Lp, h.Lm, h.Wp, h.Wm, h.LW⟩
theorem JMem.next (h : JMem W lo B pb sb mb K svL svW M vm work) (hb : Below W.heap.size W W') : JMem W' lo B pb sb mb K svL svW M vm work := h.keep hb.size hb.block
theorem JMem.drew (h : JMem W lo B pb sb mb K svL svW M vm work) : JMem W.drew lo B pb sb mb K svL svW M vm work := h.keep (Nat.le_refl _) (fun _ _ => rfl)
theorem JMem.sliceL (h : JMem W lo B pb sb mb K svL svW M vm work) : ∃ g c, svL = .slice g M.length c := by
  rcases h.row.2 with ⟨e, h0⟩ | ⟨g, cap, cur, e, _⟩
  · exact ⟨none, 0, by rw [e, h0]⟩
  · exact ⟨_, _, e⟩
theorem JMem.sliceW (h : JMem W lo B pb sb mb K svL svW M vm work) : ∃ g c, svW = .slice g work.length c := by
  rcases h.wk.2 with ⟨e, h0⟩ | ⟨g, cap, cur, e, _⟩
  · exact ⟨none, 0, by rw [e, h0]⟩
  · exact ⟨_, _, e⟩
/-- What a walk wants of part i. -/
theorem JMem.get (h : JMem W lo B pb sb mb K svL svW M vm work) (i : Nat) (hi : i < M.length) :
    ∃ g c, svL = .slice (some ⟨g, 0, none⟩) M.length c ∧ lo ≤ g ∧ g < W.heap.size ∧ g ≠ pb ∧ W.cell? ⟨g, i * 6, none⟩ = some (.int .i64 M[i].p.t.kind) ∧ W.cell? ⟨g, i * 6 + 1, none⟩ = some (.string M[i].p.t.name) ∧ W.cell? ⟨g, i * 6 + 2, none⟩ = some (.int .i64 M[i].p.t.n) ∧
      W.cell? ⟨g, i * 6 + 3, none⟩ = some M[i].ts ∧ W.cell? ⟨g, i * 6 + 4, none⟩ = some M[i].ks ∧ W.cell? ⟨g, i * 6 + 5, none⟩ = some (.int .i64 (M[i].p.same : Nat)) ∧ ∀ o, W.frozen? ⟨g, o, none⟩ = false := by
  rcases h.row.2 with ⟨_, h0⟩ | ⟨g, cap, cur, e, h1, h2, h3⟩
  · omega
  · have hob : svL.ownBlock = some g := by rw [e]; rfl
    have hc : ∀ j, j < 6 → W.cell? ⟨g, i * 6 + j, none⟩ = (pmCells M[i])[j]? := fun j hj => by
      have hg := rowCells_get M i hi j hj
      have hl : j < (pmCells M[i]).length := by simp [pmCells]; omega
      have := World.ownsRow.cells h.row (g := g) hob (i * 6 + j) (pmCells M[i])[j] (by rw [hg, List.getElem?_eq_getElem hl])
      rw [List.getElem?_eq_getElem hl]
      simpa [Addr.add_lit] using this
    have hgp : g ≠ pb := fun e' => h.Lp (by rw [hob, e'])
    refine ⟨g, cap, e, h1, (h.row.lt g hob).2, hgp, ?_, ?_, ?_, ?_, ?_, ?_, fun o => by simp [World.frozen?, h2]⟩
    · exact hc 0 (by omega)
    · exact hc 1 (by omega)
    · exact hc 2 (by omega)
    · exact hc 3 (by omega)
    · exact hc 4 (by omega)
    · exact hc 5 (by omega)
theorem JMem.tIn (h : JMem W lo B pb sb mb K svL svW M vm work) (i : Nat) (hi : i < M.length) : Tm.inn W B M[i].p.t M[i].ts := h.ts _ (List.getElem_mem hi)
theorem JMem.kIn (h : JMem W lo B pb sb mb K svL svW M vm work) (i : Nat) (hi : i < M.length) : numsAt W lo (wrote pb mb svL svW) M[i].p.args M[i].ks := h.ks _ (List.getElem_mem hi)
/-- A cell of a part is written. -/
theorem JMem.setCell (h : JMem W lo B pb sb mb K svL svW M vm work) {g : Nat} (hg : svL.ownBlock = some g) {i : Nat} (hi : i < M.length) {j : Nat} (hj : j < 6) {v : Value} {x : PM} (hx : (pmCells M[i]).set j v = pmCells x) (hts : Tm.inn W B x.p.t x.ts) (hks : numsAt W lo (wrote pb mb svL svW) x.p.args x.ks) :
    JMem (W.setCell ⟨g, i * 6 + j, none⟩ v) lo B pb sb mb K svL svW (M.set i x) vm work := by
  have hb : ∀ b, b ≠ g → (W.setCell ⟨g, i * 6 + j, none⟩ v).heap[b]? = W.heap[b]? := fun b hb => Below.heap_setCell _ _ _ _ hb
  have hs : (W.setCell ⟨g, i * 6 + j, none⟩ v).heap.size = W.heap.size := by simp
  have hgl := h.row.lt g hg
  have hB := h.B
  have hgp : pb ≠ g := fun e => h.Lp (by rw [hg, e])
  have hgm : mb ≠ g := fun e => h.Lm (by rw [hg, e])
  have hin : ∀ (t : Tm) (sv : Value), Tm.inn W B t sv → Tm.inn (W.setCell ⟨g, i * 6 + j, none⟩ v) B t sv := fun t sv h' => Tm.inn_same (Nat.le_refl _) (fun b o u hlt hc => (World.cell?_of_block (a := ⟨b, o, none⟩) (hb b (by omega))).trans hc) _ _ h'
  have hnu : ∀ js sv, numsAt W lo (wrote pb mb svL svW) js sv → numsAt (W.setCell ⟨g, i * 6 + j, none⟩ v) lo (wrote pb mb svL svW) js sv := fun js sv h' => h'.kept (by omega) (fun b _ _ hno => hb b (fun e => hno (.inr (.inr (.inl (by rw [hg, e])))))) (fun _ _ h => h)
  refine ⟨(hb pb hgp).trans h.box, ?_, ownsRow_block h.wk (fun b e => hb b (fun e' => h.LW g hg (by rw [← e', e]))), h.map.of_block (hb mb hgm), fun y hy => ?_, fun y hy => ?_, h.B, h.lop, h.lom, h.pm, h.Lp, h.Lm, h.Wp, h.Wm, h.LW⟩
  · rcases h.row.2 with ⟨e, _⟩ | ⟨g', cap, cur, e, _⟩
    · rw [e] at hg; cases hg
    · have e2 : g' = g := by rw [e] at hg; exact Option.some.inj hg
      subst e2
      have hr := h.row
      rw [e] at hr
      have := (hr.stored (i * 6 + j) v).1
      rw [rowCells_set M i hi j hj v x hx] at this
      rw [List.length_set, e]
      exact this
  · rcases List.mem_or_eq_of_mem_set hy with hy | rfl
    · exact hin _ _ (h.ts y hy)
    · exact hin _ _ hts
  · rcases List.mem_or_eq_of_mem_set hy with hy | rfl
    · exact hnu _ _ (h.ks y hy)
    · exact hnu _ _ hks
/-- Which part comes next is written. -/
theorem JMem.setSame (h : JMem W lo B pb sb mb K svL svW M vm work) {g : Nat} (hg : svL.ownBlock = some g) {i : Nat} (hi : i < M.length) (s : Nat) :
    JMem (W.setCell ⟨g, i * 6 + 5, none⟩ (.int .i64 (s : Nat))) lo B pb sb mb K svL svW (M.set i ⟨{ M[i].p with same := s }, M[i].ts, M[i].ks⟩) vm work :=
  h.setCell hg hi (by omega) rfl (h.tIn i hi) (h.kIn i hi)
/-- The numbers of its Args are written. -/
theorem JMem.setArgs (h : JMem W lo B pb sb mb K svL svW M vm work) {g : Nat} (hg : svL.ownBlock = some g) {i : Nat} (hi : i < M.length) {js : List Nat} {sv : Value} (hn : numsAt W lo (wrote pb mb svL svW) js sv) :
    JMem (W.setCell ⟨g, i * 6 + 4, none⟩ sv) lo B pb sb mb K svL svW (M.set i ⟨{ M[i].p with args := js }, M[i].ts, sv⟩) vm work :=
  h.setCell hg hi (by omega) rfl (h.tIn i hi) hn
/-- Parts or pairs have been put behind the others, and the box tells where. -/
theorem JMem.grow (h : JMem W lo B pb sb mb K svL svW M vm work) {W3 : World} {r : Option Nat} (hg : W.grownBy W3 r) (hr : r = svL.ownBlock ∨ r = svW.ownBlock) {svL' svW' : Value} {M' : List PM} {work' : List (Nat × Nat)} {j : Nat} {u : Value}
    (hbox : (W3.setCell ⟨pb, j, none⟩ u).heap[pb]? = some (.cells #[.pointer (some ⟨sb, 0, none⟩), svL', .map (some mb), svW'] 121 (0, 0)))
    (hL : (svL' = svL ∧ M' = M ∧ r = svW.ownBlock) ∨ (W3.ownsRow lo 140 6 svL' M'.length (rowCells M') ∧ r = svL.ownBlock ∧ (svL'.ownBlock = svL.ownBlock ∨ ∀ b, svL'.ownBlock = some b → W.heap.size ≤ b) ∧ (∀ x ∈ M', x ∈ M ∨ (Tm.inn W B x.p.t x.ts ∧ x.p.args = [] ∧ x.ks = .slice none 0 0))))
    (hW : (svW' = svW ∧ work' = work ∧ r = svL.ownBlock) ∨ (W3.ownsRow lo 122 2 svW' work'.length (pairCells work') ∧ r = svW.ownBlock ∧ (svW'.ownBlock = svW.ownBlock ∨ ∀ b, svW'.ownBlock = some b → W.heap.size ≤ b)))
    (hx : (svL' = svL ∧ M' = M) ∨ (svW' = svW ∧ work' = work)) :
    JMem (W3.setCell ⟨pb, j, none⟩ u) lo B pb sb mb K svL' svW' M' vm work' := by
  have hs : W.heap.size ≤ (W3.setCell ⟨pb, j, none⟩ u).heap.size := by have := hg.size; simpa using this
  have hpl := h.plt
  have hml := h.map.lt
  have hB := h.B
  have hrl : ∀ b, r = some b → lo ≤ b ∧ b < W.heap.size := fun b e => by
    rcases hr with hr | hr
    · exact h.row.lt b (by rw [← hr, e])
    · exact h.wk.lt b (by rw [← hr, e])
  have hrp : r ≠ some pb := by
    rcases hr with hr | hr
    · rw [hr]; exact h.Lp
    · rw [hr]; exact h.Wp
  have hrm : r ≠ some mb := by
    rcases hr with hr | hr
    · rw [hr]; exact h.Lm
    · rw [hr]; exact h.Wm
  have hb : ∀ b, b < W.heap.size → b ≠ pb → r ≠ some b → (W3.setCell ⟨pb, j, none⟩ u).heap[b]? = W.heap[b]? := fun b hlt hne hnr => (Below.heap_setCell _ _ _ _ hne).trans (hg.block b hlt (fun e => hnr e.symm))
  have hlop := h.lop
  have hin : ∀ (t : Tm) (sv : Value), Tm.inn W B t sv → Tm.inn (W3.setCell ⟨pb, j, none⟩ u) B t sv := fun t sv h' => Tm.inn_same (Nat.le_refl _) (fun b o w hlt hc => (World.cell?_of_block (a := ⟨b, o, none⟩) (hb b (by omega) (by omega) (fun e => by have := hrl b e; omega))).trans hc) _ _ h'
  have hLb : svL'.ownBlock = svL.ownBlock ∨ ∀ b, svL'.ownBlock = some b → W.heap.size ≤ b := by
    rcases hL with ⟨e, _, _⟩ | ⟨_, _, h1, _⟩
    · exact .inl (by rw [e])
    · exact h1
  have hWb : svW'.ownBlock = svW.ownBlock ∨ ∀ b, svW'.ownBlock = some b → W.heap.size ≤ b := by
    rcases hW with ⟨e, _, _⟩ | ⟨_, _, h1⟩
    · exact .inl (by rw [e])
    · exact h1
  have hnL : ∀ b, b < W.heap.size → svL.ownBlock ≠ some b → svL'.ownBlock ≠ some b := fun b hlt hne e => by
    rcases hLb with h1 | h1
    · exact hne (h1 ▸ e)
    · have := h1 b e; omega
  have hnW : ∀ b, b < W.heap.size → svW.ownBlock ≠ some b → svW'.ownBlock ≠ some b := fun b hlt hne e => by
    rcases hWb with h1 | h1
    · exact hne (h1 ▸ e)
    · have := h1 b e; omega
  have hnu : ∀ js sv, numsAt W lo (wrote pb mb svL svW) js sv → numsAt (W3.setCell ⟨pb, j, none⟩ u) lo (wrote pb mb svL' svW') js sv := fun js sv h' => h'.kept hs (fun b _ hlt hno => hb b hlt (fun e => hno (.inl e)) (fun e => by
    rcases hr with hr | hr
    · exact hno (.inr (.inr (.inl (by rw [← hr, e]))))
    · exact hno (.inr (.inr (.inr (by rw [← hr, e])))))) (fun b hlt hno hw => by
    rcases hw with e | e | e | e
    · exact hno (.inl e)
    · exact hno (.inr (.inl e))
    · exact hnL b hlt (fun e' => hno (.inr (.inr (.inl e')))) e
    · exact hnW b hlt (fun e' => hno (.inr (.inr (.inr e')))) e)
  have hset : ∀ {e : TypeId} {size : Nat} {v : Value} {n : Nat} {xs : List Value}, W3.ownsRow lo e size v n xs → v.ownBlock ≠ some pb → (W3.setCell ⟨pb, j, none⟩ u).ownsRow lo e size v n xs := fun h' hne =>
    ownsRow_block h' (fun b e => Below.heap_setCell _ _ _ _ (fun e' => hne (by rw [e, e'])))
  refine ⟨hbox, ?_, ?_, h.map.of_block (hb mb hml (fun e => h.pm e.symm) hrm), fun x hx' => ?_, fun x hx' => ?_, h.B, h.lop, h.lom, h.pm, hnL pb hpl h.Lp, hnL mb hml h.Lm, hnW pb hpl h.Wp, hnW mb hml h.Wm, fun b e1 e2 => ?_⟩
  · rcases hL with ⟨e1, e2, e3⟩ | ⟨h1, _⟩
    · rw [e1, e2]
      refine ownsRow_block h.row (fun b e => hb b (h.row.lt b e).2 (fun e' => h.Lp (by rw [e, e'])) (fun e' => h.LW b e (by rw [← e3, e'])))
    · exact hset h1 (hnL pb hpl h.Lp)
  · rcases hW with ⟨e1, e2, e3⟩ | ⟨h1, _⟩
    · rw [e1, e2]
      refine ownsRow_block h.wk (fun b e => hb b (h.wk.lt b e).2 (fun e' => h.Wp (by rw [e, e'])) (fun e' => h.LW b (by rw [← e3, e']) e))
    · exact hset h1 (hnW pb hpl h.Wp)
  · rcases hL with ⟨_, e2, _⟩ | ⟨_, _, _, h1⟩
    · rw [e2] at hx'; exact hin _ _ (h.ts x hx')
    · rcases h1 x hx' with h2 | ⟨h2, _⟩
      · exact hin _ _ (h.ts x h2)
      · exact hin _ _ h2
  · rcases hL with ⟨_, e2, _⟩ | ⟨_, _, _, h1⟩
    · rw [e2] at hx'; exact hnu _ _ (h.ks x hx')
    · rcases h1 x hx' with h2 | ⟨_, h2, h3⟩
      · exact hnu _ _ (h.ks x h2)
      · exact .inl ⟨h2, h3⟩
  · rcases hx with ⟨ex, _⟩ | ⟨ex, _⟩
    · rw [ex] at e1
      exact hnW b (h.row.lt b e1).2 (h.LW b e1) e2
    · rw [ex] at e2
      exact hnL b (h.wk.lt b e2).2 (fun e' => h.LW b e' e2) e1
/-- What the calls leave as it is: all below lo; and each block but those that are written; those may be new ones. -/
structure JFr (lo pb mb : Nat) (svL svW svL' svW' : Value) (W W' : World) : Prop where
  below : Below lo W W'
  block : ∀ b, b < W.heap.size → ¬ wrote pb mb svL svW b → W'.heap[b]? = W.heap[b]?
  new : ∀ b, b < W.heap.size → ¬ wrote pb mb svL svW b → ¬ wrote pb mb svL' svW' b
theorem JFr.trans {lo pb mb : Nat} {svL svW svL1 svW1 svL2 svW2 : Value} {W W1 W2 : World} (h : JFr lo pb mb svL svW svL1 svW1 W W1) (g : JFr lo pb mb svL1 svW1 svL2 svW2 W1 W2) : JFr lo pb mb svL svW svL2 svW2 W W2 :=
  ⟨h.below.trans g.below, fun b hb hn => (g.block b (Nat.lt_of_lt_of_le hb h.below.size) (h.new b hb hn)).trans (h.block b hb hn), fun b hb hn => g.new b (Nat.lt_of_lt_of_le hb h.below.size) (h.new b hb hn)⟩
theorem JFr.of {lo pb mb : Nat} {svL svW : Value} {W W' : World} (hb : Below W.heap.size W W') (hlo : lo ≤ W.heap.size) : JFr lo pb mb svL svW svL svW W W' := ⟨hb.mono hlo, fun b h _ => hb.block b h, fun _ _ h => h⟩
theorem JFr.refl {lo pb mb : Nat} {svL svW : Value} (W : World) : JFr lo pb mb svL svW svL svW W W := ⟨Below.refl _ _, fun _ _ _ => rfl, fun _ _ h => h⟩
theorem JFr.drew {lo pb mb : Nat} {svL svW svL' svW' : Value} {W W' : World} (h : JFr lo pb mb svL svW svL' svW' W W') : JFr lo pb mb svL svW svL' svW' W W'.drew := ⟨h.below.drew, h.block, h.new⟩
theorem JFr.setCell {lo pb mb : Nat} {svL svW : Value} {g : Nat} (hg : lo ≤ g) (hw : wrote pb mb svL svW g) (W : World) (o : Nat) (u : Value) : JFr lo pb mb svL svW svL svW W (W.setCell ⟨g, o, none⟩ u) :=
  ⟨(Below.refl _ _).setCell (p := ⟨g, o, none⟩) hg u, fun b _ hn => Below.heap_setCell _ _ _ _ (fun e => hn (by have e' : b = g := e; rw [e']; exact hw)), fun _ _ h => h⟩
/-- A variable's part is noted. -/
theorem JMem.note (h : JMem W lo B pb sb mb K svL svW M vm work) (hg : W.grownBy W' (some mb)) {K' : Nat} {vm' : Int → Option Nat} (hm : MapF W' mb K' vm') : JMem W' lo B pb sb mb K' svL svW M vm' work := by
  have hp := h.plt
  have hB := h.B
  have hlom := h.lom
  have hb : ∀ b, b < W.heap.size → b ≠ mb → W'.heap[b]? = W.heap[b]? := fun b hlt hne => hg.block b hlt (by simpa using hne)
  exact ⟨(hb pb hp h.pm).trans h.box, ownsRow_block h.row (fun b e => hb b (h.row.lt b e).2 (fun e' => h.Lm (by rw [e, e']))), ownsRow_block h.wk (fun b e => hb b (h.wk.lt b e).2 (fun e' => h.Wm (by rw [e, e']))), hm,
    fun x hx => Tm.inn_same (Nat.le_refl _) (fun b o v hlt hc => (World.cell?_of_block (a := ⟨b, o, none⟩) (hb b (by have := h.map.lt; omega) (by omega))).trans hc) _ _ (h.ts x hx), fun x hx => (h.ks x hx).kept hg.size (fun b _ hlt hno => hb b hlt (fun e => hno (.inr (.inl e)))) (fun _ _ h => h), h.B, h.lop, h.lom, h.pm, h.Lp, h.Lm, h.Wp, h.Wm, h.LW⟩
end
end Go.Proofs.Ytgnbjhiafjpokaa
