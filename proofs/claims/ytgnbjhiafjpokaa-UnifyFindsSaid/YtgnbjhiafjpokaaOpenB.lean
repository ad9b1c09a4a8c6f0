/-
  An argument that is a row of binds, read from the statement's own reading: it is a row of binds that lies in memory.
-/
import Derived.Test.YtgnbjhiafjpokaaOpen
import Derived.Test.YtgnbjhiafjpokaaBds
namespace Go.Proofs.Ytgnbjhiafjpokaa
open Go.ChangeShapes Go.WideShapes Go.ChangeAt Go.RowKit Go.Deep

theorem Try.cellsBind : Try.prog.cellsOf 33 = 5 := by kernel_rfl
theorem Try.bytesBind : Try.prog.bytesOf 33 = 64 := by kernel_rfl
instance : Inhabited (Bd × Value) := ⟨(⟨0, .mk 0 ByteArray.empty 0 []⟩, .slice none 0 0)⟩

set_option maxRecDepth 100000 in
theorem open_bind {H : Type} {enc : TypeId × Value → H} {W : World} {spare : Nat → Bool} {held : Bool} (fuel : Nat) (cs : List Value) (x : DataW H × List MemPlace)
    (h : DataW.trod enc Try.prog W 0 spare held fuel 33 cs = some x) (hw : ∀ n ∈ x.1.weights Try.prog 33, n ≤ reachBytes) :
    ∃ (b : Bd) (sv : Value), cs = [.int .i64 b.v, .int .i64 b.t.kind, .string b.t.name, .int .i64 b.t.n, sv] ∧ (Lit.int .i64 b.v).wf = true ∧ Tm.inn W W.heap.size b.t sv := by
  obtain ⟨xs, n, hn, rfl, hlen, hxl, hf⟩ := DataW.trod_struct Try.underlying33 h
  rw [Try.cellsBind] at hlen
  match xs, hxl, cs, hlen with
  | [y0, y1], _, [c0, c1, c2, c3, c4], _ =>
  have h0 := hf 0 _ rfl
  have h1 := hf 1 _ rfl
  replace h0 : DataW.trod enc Try.prog W 0 spare held n 3 (([c0, c1, c2, c3, c4].drop 0).take (Try.prog.cellsOf 3)) = some y0 := h0
  replace h1 : DataW.trod enc Try.prog W 0 spare held n 27 (([c0, c1, c2, c3, c4].drop 1).take (Try.prog.cellsOf 27)) = some y1 := h1
  rw [Try.cellsInt] at h0
  rw [Try.cellsTerm] at h1
  replace h0 : DataW.trod enc Try.prog W 0 spare held n 3 [c0] = some y0 := h0
  replace h1 : DataW.trod enc Try.prog W 0 spare held n 27 [c1, c2, c3, c4] = some y1 := h1
  obtain ⟨k, e0, r0, w0⟩ := DataW.trod_int Try.underlying3 h0
  simp only [List.cons.injEq, and_true] at e0
  subst e0
  have hw1 : ∀ n ∈ y1.1.weights Try.prog 27, n ≤ reachBytes := by
    intro n hn
    refine hw n ?_
    simp only [DataW.weights, Try.underlying33]
    exact DataW.weights_mem_each (j := 1) (t := 27) (d := y1.1) rfl rfl n hn
  obtain ⟨t, sv, e1, hin⟩ := open_term n _ _ h1 hw1
  simp only [List.cons.injEq, and_true] at e1
  obtain ⟨rfl, rfl, rfl, rfl⟩ := e1
  exact ⟨⟨k, t⟩, _, rfl, w0, hin⟩

theorem open_bds {H : Type} {enc : TypeId × Value → H} {W : World} {spare : Nat → Bool} {held : Bool} {fuel : Nat} {cs : List Value} {x : DataW H × List MemPlace}
    (h : DataW.trod enc Try.prog W 0 spare held fuel 22 cs = some x) (hw : ∀ n ∈ x.1.weights Try.prog 22, n ≤ reachBytes) :
    ∃ (l : List Bd) (sv : Value), cs = [sv] ∧ bdsIn W W.heap.size l sv := by
  rcases DataW.trod_slice Try.underlying22 h with ⟨e3, _⟩ | ⟨a, len, cap, elems, rest, n', hn', e3, r3, _, hlc, hcm, hel, hcell, _, _⟩
  · subst e3
    exact ⟨[], _, rfl, none, 0, rfl, by simp, by simp, by simp, .inl rfl⟩
  · subst e3
    subst r3
    simp only [DataW.weights, Try.underlying22, Try.bytesBind] at hw
    have hbig := hw _ (List.mem_cons_self ..)
    simp only [List.length_map, reachBytes] at hbig
    rw [Try.cellsBind] at hcell
    have hall : ∀ i, i < len → ∃ p : Bd × Value, W.cell? (a.add (i * 5)) = some (.int .i64 p.1.v) ∧ W.cell? (a.add (i * 5 + 1)) = some (.int .i64 p.1.t.kind) ∧ W.cell? (a.add (i * 5 + 2)) = some (.string p.1.t.name) ∧ W.cell? (a.add (i * 5 + 3)) = some (.int .i64 p.1.t.n) ∧ W.cell? (a.add (i * 5 + 4)) = some p.2 ∧ (Lit.int .i64 p.1.v).wf = true ∧ Tm.inn W W.heap.size p.1.t p.2 := by
      intro i hi
      have hc := hcell i hi
      rw [List.getElem?_eq_getElem (by omega)] at hc
      obtain ⟨cs', hc1, hc2⟩ := Option.bind_eq_some_iff.1 hc
      obtain ⟨t, sv, rfl, hwf, hin⟩ := open_bind n' cs' _ hc2 (fun n hn => hw n (by
        refine List.mem_cons_of_mem _ (List.mem_append_left _ (weights_mem_all ?_ n hn))
        exact List.mem_map_of_mem (List.getElem_mem _)))
      obtain ⟨_, _, hat⟩ := World.cells?_some hc1
      have g0 := hat 0 (by omega)
      have g1 := hat 1 (by omega)
      have g2 := hat 2 (by omega)
      have g3 := hat 3 (by omega)
      have g4 := hat 4 (by omega)
      rw [add_add] at g0 g1 g2 g3 g4
      exact ⟨(t, sv), by simpa using g0, by simpa using g1, by simpa using g2, by simpa using g3, by simpa using g4, hwf, hin⟩
    obtain ⟨f, hf'⟩ := choose_lt hall
    refine ⟨(List.range len).map fun i => (f i).1, _, rfl, some a, cap, by simp, by simpa using hlc, by simp; omega, fun x hx => ?_, ?_⟩
    · obtain ⟨i, hi, rfl⟩ := List.mem_map.1 hx
      exact (hf' i (List.mem_range.1 hi)).2.2.2.2.2.1
    by_cases hl0 : len = 0
    · subst hl0; exact .inl rfl
    · obtain ⟨b, off, spot⟩ := a
      have hspot : spot = none := by simpa [Addr.add] using World.cell?_spot (hf' 0 (by omega)).1
      subst hspot
      refine .inr ⟨b, off, rfl, ?_, fun i hi => ?_⟩
      · have := World.block_lt_of_cell? _ _ (hf' 0 (by omega)).1
        simpa [Addr.add] using this
      · have hi' : i < len := by simpa using hi
        obtain ⟨g0, g1, g2, g3, g4, _, g5⟩ := hf' i hi'
        simp only [add_plain] at g0 g1 g2 g3 g4
        refine ⟨(f i).2, ?_, ?_, ?_, ?_, ?_, ?_⟩
        · simpa using g0
        · simpa [Nat.add_assoc] using g1
        · simpa [Nat.add_assoc] using g2
        · simpa [Nat.add_assoc] using g3
        · simpa [Nat.add_assoc] using g4
        · simpa using g5

set_option maxRecDepth 100000 in
/-- .. as an argument. -/
theorem open_subst {H : Type} {enc : TypeId × Value → H} {W : World} {r : Reach} {base : Nat} {spare : Nat → Bool} {held : Bool} {v : Value} {d : DataW H} {p : List MemPlace} (hv : Value.okWide Try.prog W r base 22 v)
    (h : DataW.Trod enc Try.prog W 0 spare held 22 v d p) (hw : ∀ n ∈ d.weights Try.prog 22, n ≤ reachBytes) :
    ∃ (l : List Bd), bdsIn W W.heap.size l v := by
  obtain ⟨a0, len, cap, rfl⟩ := okWide_slice Try.underlying22 hv
  obtain ⟨fuel, hf⟩ := h
  obtain ⟨l, sv, e, hin⟩ := open_bds hf hw
  simp only [Value.cells, List.cons.injEq, and_true] at e
  exact ⟨l, by rw [e]; exact hin⟩
end Go.Proofs.Ytgnbjhiafjpokaa
