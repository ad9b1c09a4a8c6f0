/-
  An argument that is a row of goals, read from the statement's own reading: it is a row of goals that lies in memory.
-/
import Derived.Test.YtliapkajonbndaaDoorGl
import Derived.Test.YtliapkajonbndaaDoorOpen
namespace Go.Proofs.YtliapkajonbndaaDoor
open Go.ChangeShapes Go.WideShapes Go.ChangeAt Go.RowKit Go.Deep

theorem Tryd.cellsGoal : Tryd.prog.cellsOf 42 = 8 := by kernel_rfl
theorem Tryd.cellsGoals : Tryd.prog.cellsOf 32 = 1 := by kernel_rfl
theorem Tryd.bytesGoal : Tryd.prog.bytesOf 42 = 136 := by kernel_rfl

structure GlV where
  g : Gl
  sv : Value
  av : Value
  bv : Value
  cv : Value
instance : Inhabited GlV := ⟨⟨.mk 0 (.mk 0 ByteArray.empty 0 []) [] [] [], .slice none 0 0, .slice none 0 0, .slice none 0 0, .slice none 0 0⟩⟩
def GlV.cells (x : GlV) : List Value := [.int .i64 x.g.kind, .int .i64 x.g.t.kind, .string x.g.t.name, .int .i64 x.g.t.n, x.sv, x.av, x.bv, x.cv]
def OpenC {H : Type} (enc : TypeId × Value → H) (W : World) (spare : Nat → Bool) (held : Bool) (fuel : Nat) : Prop := ∀ (cs : List Value) (x : DataW H × List MemPlace),
    DataW.trod enc Tryd.prog W 0 spare held fuel 42 cs = some x → (∀ n ∈ x.1.weights Tryd.prog 42, n ≤ reachBytes) →
    ∃ x : GlV, cs = x.cells ∧ Gl.inn W W.heap.size x.g x.sv x.av x.bv x.cv
set_option maxRecDepth 100000 in
theorem open_gslice {H : Type} {enc : TypeId × Value → H} {W : World} {spare : Nat → Bool} {held : Bool} {fuel : Nat} (ih : ∀ n, n < fuel → OpenC enc W spare held n) {cs : List Value} {x : DataW H × List MemPlace}
    (h : DataW.trod enc Tryd.prog W 0 spare held fuel 32 cs = some x) (hw : ∀ n ∈ x.1.weights Tryd.prog 32, n ≤ reachBytes) :
    ∃ (l : List Gl) (sv : Value), cs = [sv] ∧ Gl.sliceIn W W.heap.size l sv := by
  rcases DataW.trod_slice Tryd.underlying32 h with ⟨e3, _⟩ | ⟨a, len, cap, elems, rest, n', hn', e3, r3, _, hlc, hcm, hel, hcell, _, _⟩
  · subst e3
    exact ⟨[], _, rfl, none, 0, rfl, by simp, by simp, .inl rfl⟩
  · subst e3
    subst r3
    simp only [DataW.weights, Tryd.underlying32, Tryd.bytesGoal] at hw
    have hbig := hw _ (List.mem_cons_self ..)
    simp only [List.length_map, reachBytes] at hbig
    rw [Tryd.cellsGoal] at hcell
    have hall : ∀ i, i < len → ∃ x : GlV, W.cell? (a.add (i * 8)) = some (.int .i64 x.g.kind) ∧ W.cell? (a.add (i * 8 + 1)) = some (.int .i64 x.g.t.kind) ∧ W.cell? (a.add (i * 8 + 2)) = some (.string x.g.t.name) ∧ W.cell? (a.add (i * 8 + 3)) = some (.int .i64 x.g.t.n) ∧ W.cell? (a.add (i * 8 + 4)) = some x.sv ∧ W.cell? (a.add (i * 8 + 5)) = some x.av ∧ W.cell? (a.add (i * 8 + 6)) = some x.bv ∧ W.cell? (a.add (i * 8 + 7)) = some x.cv ∧ Gl.inn W W.heap.size x.g x.sv x.av x.bv x.cv := by
      intro i hi
      have hc := hcell i hi
      rw [List.getElem?_eq_getElem (by omega)] at hc
      obtain ⟨cs', hc1, hc2⟩ := Option.bind_eq_some_iff.1 hc
      obtain ⟨x, rfl, hin⟩ := ih n' (by omega) cs' _ hc2 (fun n hn => hw n (by
        refine List.mem_cons_of_mem _ (List.mem_append_left _ (weights_mem_all ?_ n hn))
        exact List.mem_map_of_mem (List.getElem_mem _)))
      obtain ⟨_, _, hat⟩ := World.cells?_some hc1
      have g0 := hat 0 (by omega)
      have g1 := hat 1 (by omega)
      have g2 := hat 2 (by omega)
      have g3 := hat 3 (by omega)
      have g4 := hat 4 (by omega)
      have g5 := hat 5 (by omega)
      have g6 := hat 6 (by omega)
      have g7 := hat 7 (by omega)
      rw [add_add] at g0 g1 g2 g3 g4 g5 g6 g7
      exact ⟨x, by simpa [GlV.cells] using g0, by simpa [GlV.cells] using g1, by simpa [GlV.cells] using g2, by simpa [GlV.cells] using g3, by simpa [GlV.cells] using g4, by simpa [GlV.cells] using g5, by simpa [GlV.cells] using g6, by simpa [GlV.cells] using g7, hin⟩
    obtain ⟨f, hf'⟩ := choose_lt hall
    refine ⟨(List.range len).map fun i => (f i).g, _, rfl, some a, cap, by simp, by simpa using hlc, by simp only [List.length_map, List.length_range, Gl.most]; omega, ?_⟩
    by_cases hl0 : len = 0
    · subst hl0; exact .inl rfl
    · obtain ⟨b, off, spot⟩ := a
      have hspot : spot = none := by simpa [Addr.add] using World.cell?_spot (hf' 0 (by omega)).1
      subst hspot
      refine .inr ⟨b, off, rfl, ?_, Gl.rowIn_of fun i hi => ?_⟩
      · have := World.block_lt_of_cell? _ _ (hf' 0 (by omega)).1
        simpa [Addr.add] using this
      · have hi' : i < len := by simpa using hi
        obtain ⟨g0, g1, g2, g3, g4, g5, g6, g7, g8⟩ := hf' i hi'
        simp only [add_plain] at g0 g1 g2 g3 g4 g5 g6 g7
        refine ⟨(f i).sv, (f i).av, (f i).bv, (f i).cv, ?_, ?_, ?_, ?_, ?_, ?_, ?_, ?_, ?_⟩
        · simpa using g0
        · simpa [Nat.add_assoc] using g1
        · simpa [Nat.add_assoc] using g2
        · simpa [Nat.add_assoc] using g3
        · simpa [Nat.add_assoc] using g4
        · simpa [Nat.add_assoc] using g5
        · simpa [Nat.add_assoc] using g6
        · simpa [Nat.add_assoc] using g7
        · simpa using g8
set_option maxRecDepth 100000 in
theorem open_goal {H : Type} {enc : TypeId × Value → H} {W : World} {spare : Nat → Bool} {held : Bool} : ∀ (fuel : Nat), OpenC enc W spare held fuel := by
  intro fuel
  induction fuel using Nat.strongRecOn with
  | ind fuel ih =>
  intro cs x h hw
  obtain ⟨xs, n, hn, rfl, hlen, hxl, hf⟩ := DataW.trod_struct Tryd.underlying42 h
  rw [Tryd.cellsGoal] at hlen
  match xs, hxl, cs, hlen with
  | [y0, y1, y2, y3, y4], _, [c0, c1, c2, c3, c4, c5, c6, c7], _ =>
  have h0 := hf 0 _ rfl
  have h1 := hf 1 _ rfl
  have h2 := hf 2 _ rfl
  have h3 := hf 3 _ rfl
  have h4 := hf 4 _ rfl
  replace h0 : DataW.trod enc Tryd.prog W 0 spare held n 3 (([c0, c1, c2, c3, c4, c5, c6, c7].drop 0).take (Tryd.prog.cellsOf 3)) = some y0 := h0
  replace h1 : DataW.trod enc Tryd.prog W 0 spare held n 24 (([c0, c1, c2, c3, c4, c5, c6, c7].drop 1).take (Tryd.prog.cellsOf 24)) = some y1 := h1
  replace h2 : DataW.trod enc Tryd.prog W 0 spare held n 32 (([c0, c1, c2, c3, c4, c5, c6, c7].drop 5).take (Tryd.prog.cellsOf 32)) = some y2 := h2
  replace h3 : DataW.trod enc Tryd.prog W 0 spare held n 32 (([c0, c1, c2, c3, c4, c5, c6, c7].drop 6).take (Tryd.prog.cellsOf 32)) = some y3 := h3
  replace h4 : DataW.trod enc Tryd.prog W 0 spare held n 32 (([c0, c1, c2, c3, c4, c5, c6, c7].drop 7).take (Tryd.prog.cellsOf 32)) = some y4 := h4
  rw [Tryd.cellsInt] at h0
  rw [Tryd.cellsTerm] at h1
  rw [Tryd.cellsGoals] at h2 h3 h4
  replace h0 : DataW.trod enc Tryd.prog W 0 spare held n 3 [c0] = some y0 := h0
  replace h1 : DataW.trod enc Tryd.prog W 0 spare held n 24 [c1, c2, c3, c4] = some y1 := h1
  replace h2 : DataW.trod enc Tryd.prog W 0 spare held n 32 [c5] = some y2 := h2
  replace h3 : DataW.trod enc Tryd.prog W 0 spare held n 32 [c6] = some y3 := h3
  replace h4 : DataW.trod enc Tryd.prog W 0 spare held n 32 [c7] = some y4 := h4
  obtain ⟨k, e0, r0, w0⟩ := DataW.trod_int Tryd.underlying3 h0
  simp only [List.cons.injEq, and_true] at e0
  subst e0
  have hw1 : ∀ n ∈ y1.1.weights Tryd.prog 24, n ≤ reachBytes := by
    intro n hn
    refine hw n ?_
    simp only [DataW.weights, Tryd.underlying42]
    exact DataW.weights_mem_each (j := 1) (t := 24) (d := y1.1) rfl rfl n hn
  have hw2 : ∀ n ∈ y2.1.weights Tryd.prog 32, n ≤ reachBytes := by
    intro n hn
    refine hw n ?_
    simp only [DataW.weights, Tryd.underlying42]
    exact DataW.weights_mem_each (j := 2) (t := 32) (d := y2.1) rfl rfl n hn
  have hw3 : ∀ n ∈ y3.1.weights Tryd.prog 32, n ≤ reachBytes := by
    intro n hn
    refine hw n ?_
    simp only [DataW.weights, Tryd.underlying42]
    exact DataW.weights_mem_each (j := 3) (t := 32) (d := y3.1) rfl rfl n hn
  have hw4 : ∀ n ∈ y4.1.weights Tryd.prog 32, n ≤ reachBytes := by
    intro n hn
    refine hw n ?_
    simp only [DataW.weights, Tryd.underlying42]
    exact DataW.weights_mem_each (j := 4) (t := 32) (d := y4.1) rfl rfl n hn
  obtain ⟨t, sv, e1, hin⟩ := open_term n _ _ h1 hw1
  have ihn : ∀ m, m < n → OpenC enc W spare held m := fun m hm => ih m (by omega)
  obtain ⟨la, av, e2, ha⟩ := open_gslice ihn h2 hw2
  obtain ⟨lb, bv, e3, hb⟩ := open_gslice ihn h3 hw3
  obtain ⟨lc, cv, e4, hc⟩ := open_gslice ihn h4 hw4
  simp only [List.cons.injEq, and_true] at e1 e2 e3 e4
  obtain ⟨rfl, rfl, rfl, rfl⟩ := e1
  subst e2 e3 e4
  exact ⟨⟨.mk k t la lb lc, _, _, _, _⟩, rfl, Gl.inn_mk.2 ⟨w0, hin, ha, hb, hc⟩⟩
set_option maxRecDepth 100000 in
/-- .. as an argument. -/
theorem open_goals {H : Type} {enc : TypeId × Value → H} {W : World} {r : Reach} {base : Nat} {spare : Nat → Bool} {held : Bool} {v : Value} {d : DataW H} {p : List MemPlace} (hv : Value.okWide Tryd.prog W r base 32 v)
    (h : DataW.Trod enc Tryd.prog W 0 spare held 32 v d p) (hw : ∀ n ∈ d.weights Tryd.prog 32, n ≤ reachBytes) :
    ∃ (l : List Gl), Gl.sliceIn W W.heap.size l v := by
  obtain ⟨a0, len, cap, rfl⟩ := okWide_slice Tryd.underlying32 hv
  obtain ⟨fuel, hf⟩ := h
  obtain ⟨l, sv, e, hin⟩ := open_gslice (fun n _ => open_goal n) hf hw
  simp only [Value.cells, List.cons.injEq, and_true] at e
  exact ⟨l, by rw [e]; exact hin⟩
end Go.Proofs.YtliapkajonbndaaDoor
