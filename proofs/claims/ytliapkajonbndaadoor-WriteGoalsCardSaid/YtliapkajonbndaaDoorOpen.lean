/-
  An argument that is a term, read from the statement's own reading: it is a term that lies in memory.
  An argument that is a row of terms, read from the statement's own reading: it is a row of terms that lies in memory.
-/
import Derived.Test.YtliapkajonbndaaDoorTm
import Derived.Test.YtliapkajonbndaaDoorChecked
import Derived.ProofKit
import Derived.SizedLaws
import Derived.ChangeSame
import Derived.Deep.Slices
import Derived.RowKit
namespace Go.Proofs.YtliapkajonbndaaDoor
open Go.ChangeShapes Go.WideShapes Go.ChangeAt Go.RowKit Go.Deep

theorem Tryd.cellsTerm : Tryd.prog.cellsOf 24 = 4 := by kernel_rfl
theorem Tryd.cellsInt : Tryd.prog.cellsOf 3 = 1 := by kernel_rfl
theorem Tryd.cellsStr : Tryd.prog.cellsOf 9 = 1 := by kernel_rfl
theorem Tryd.cellsArgs : Tryd.prog.cellsOf 22 = 1 := by kernel_rfl
theorem Tryd.bytesTerm : Tryd.prog.bytesOf 24 = 56 := by kernel_rfl

theorem weights_mem_all {H : Type} {P : Program} {e : TypeId} : ∀ {ds : List (DataW H)} {d : DataW H}, d ∈ ds → ∀ n ∈ d.weights P e, n ∈ DataW.weightsAll P e ds
  | d0 :: ds, d, hd, n, hn => by
    simp only [DataW.weightsAll, List.mem_append]
    rcases List.mem_cons.1 hd with rfl | hd
    · exact .inl hn
    · exact .inr (weights_mem_all hd n hn)
  | [], _, hd, _, _ => by cases hd

instance : Inhabited (Tm × Value) := ⟨(.mk 0 ByteArray.empty 0 [], .slice none 0 0)⟩

set_option maxRecDepth 100000 in
theorem open_term {H : Type} {enc : TypeId × Value → H} {W : World} {spare : Nat → Bool} {held : Bool} : ∀ (fuel : Nat) (cs : List Value) (x : DataW H × List MemPlace),
    DataW.trod enc Tryd.prog W 0 spare held fuel 24 cs = some x → (∀ n ∈ x.1.weights Tryd.prog 24, n ≤ reachBytes) →
    ∃ (t : Tm) (sv : Value), cs = [.int .i64 t.kind, .string t.name, .int .i64 t.n, sv] ∧ Tm.inn W W.heap.size t sv := by
  intro fuel
  induction fuel using Nat.strongRecOn with
  | ind fuel ih =>
  intro cs x h hw
  obtain ⟨xs, n, hn, rfl, hlen, hxl, hf⟩ := DataW.trod_struct Tryd.underlying24 h
  rw [Tryd.cellsTerm] at hlen
  match xs, hxl, cs, hlen with
  | [y0, y1, y2, y3], _, [c0, c1, c2, c3], _ =>
  have h0 := hf 0 _ rfl
  have h1 := hf 1 _ rfl
  have h2 := hf 2 _ rfl
  have h3 := hf 3 _ rfl
  replace h0 : DataW.trod enc Tryd.prog W 0 spare held n 3 (([c0, c1, c2, c3].drop 0).take (Tryd.prog.cellsOf 3)) = some y0 := h0
  replace h1 : DataW.trod enc Tryd.prog W 0 spare held n 9 (([c0, c1, c2, c3].drop 1).take (Tryd.prog.cellsOf 9)) = some y1 := h1
  replace h2 : DataW.trod enc Tryd.prog W 0 spare held n 3 (([c0, c1, c2, c3].drop 2).take (Tryd.prog.cellsOf 3)) = some y2 := h2
  replace h3 : DataW.trod enc Tryd.prog W 0 spare held n 22 (([c0, c1, c2, c3].drop 3).take (Tryd.prog.cellsOf 22)) = some y3 := h3
  rw [Tryd.cellsInt] at h0 h2
  rw [Tryd.cellsStr] at h1
  rw [Tryd.cellsArgs] at h3
  replace h0 : DataW.trod enc Tryd.prog W 0 spare held n 3 [c0] = some y0 := h0
  replace h1 : DataW.trod enc Tryd.prog W 0 spare held n 9 [c1] = some y1 := h1
  replace h2 : DataW.trod enc Tryd.prog W 0 spare held n 3 [c2] = some y2 := h2
  replace h3 : DataW.trod enc Tryd.prog W 0 spare held n 22 [c3] = some y3 := h3
  obtain ⟨k, e0, r0, w0⟩ := DataW.trod_int Tryd.underlying3 h0
  obtain ⟨s, e1, r1, w1⟩ := DataW.trod_string Tryd.underlying9 h1
  obtain ⟨m, e2, r2, w2⟩ := DataW.trod_int Tryd.underlying3 h2
  simp only [List.cons.injEq, and_true] at e0 e1 e2
  subst e0 e1 e2
  have hw3 : ∀ n ∈ y3.1.weights Tryd.prog 22, n ≤ reachBytes := by
    intro n hn
    refine hw n ?_
    simp only [DataW.weights, Tryd.underlying24]
    exact DataW.weights_mem_each (j := 3) (t := 22) (d := y3.1) rfl rfl n hn
  rcases DataW.trod_slice Tryd.underlying22 h3 with ⟨e3, _⟩ | ⟨a, len, cap, elems, rest, n', hn', e3, r3, _, hlc, hcm, hel, hcell, _, _⟩
  · simp only [List.cons.injEq, and_true] at e3
    subst e3
    refine ⟨.mk k s m [], _, rfl, ?_⟩
    rw [Tm.inn_mk]
    exact ⟨⟨w0, w1, w2⟩, none, 0, rfl, by simp, by simp, .inl rfl⟩
  · simp only [List.cons.injEq, and_true] at e3
    subst e3
    subst r3
    simp only [DataW.weights, Tryd.underlying22, Tryd.bytesTerm] at hw3
    have hbig := hw3 _ (List.mem_cons_self ..)
    simp only [List.length_map, reachBytes] at hbig
    rw [Tryd.cellsTerm] at hcell
    have hall : ∀ i, i < len → ∃ p : Tm × Value, W.cell? (a.add (i * 4)) = some (.int .i64 p.1.kind) ∧ W.cell? (a.add (i * 4 + 1)) = some (.string p.1.name) ∧ W.cell? (a.add (i * 4 + 2)) = some (.int .i64 p.1.n) ∧ W.cell? (a.add (i * 4 + 3)) = some p.2 ∧ Tm.inn W W.heap.size p.1 p.2 := by
      intro i hi
      have hc := hcell i hi
      rw [List.getElem?_eq_getElem (by omega)] at hc
      obtain ⟨cs', hc1, hc2⟩ := Option.bind_eq_some_iff.1 hc
      obtain ⟨t, sv, rfl, hin⟩ := ih n' (by omega) cs' _ hc2 (fun n hn => hw3 n (by
        refine List.mem_cons_of_mem _ (List.mem_append_left _ (weights_mem_all ?_ n hn))
        exact List.mem_map_of_mem (List.getElem_mem _)))
      obtain ⟨_, _, hat⟩ := World.cells?_some hc1
      have g0 := hat 0 (by omega)
      have g1 := hat 1 (by omega)
      have g2 := hat 2 (by omega)
      have g3 := hat 3 (by omega)
      rw [add_add] at g0 g1 g2 g3
      exact ⟨(t, sv), by simpa using g0, by simpa using g1, by simpa using g2, by simpa using g3, hin⟩
    obtain ⟨f, hf'⟩ := choose_lt hall
    refine ⟨.mk k s m ((List.range len).map fun i => (f i).1), _, rfl, ?_⟩
    rw [Tm.inn_mk]
    refine ⟨⟨w0, w1, w2⟩, some a, cap, by simp, by simpa using hlc, by simp; omega, ?_⟩
    by_cases hl0 : len = 0
    · subst hl0; exact .inl rfl
    · obtain ⟨b, off, spot⟩ := a
      have hspot : spot = none := by simpa [Addr.add] using World.cell?_spot (hf' 0 (by omega)).1
      subst hspot
      refine .inr ⟨b, off, rfl, ?_, Tm.rowIn_of fun i hi => ?_⟩
      · have := World.block_lt_of_cell? _ _ (hf' 0 (by omega)).1
        simpa [Addr.add] using this
      · have hi' : i < len := by simpa using hi
        obtain ⟨g0, g1, g2, g3, g4⟩ := hf' i hi'
        simp only [add_plain] at g0 g1 g2 g3
        refine ⟨(f i).2, ?_, ?_, ?_, ?_, ?_⟩
        · simpa using g0
        · simpa [Nat.add_assoc] using g1
        · simpa [Nat.add_assoc] using g2
        · simpa [Nat.add_assoc] using g3
        · simpa using g4

set_option maxRecDepth 100000 in
/-- .. as an argument. -/
theorem open_arg {H : Type} {enc : TypeId × Value → H} {W : World} {r : Reach} {base : Nat} {spare : Nat → Bool} {held : Bool} {v : Value} {d : DataW H} {p : List MemPlace} (hv : Value.okWide Tryd.prog W r base 24 v)
    (h : DataW.Trod enc Tryd.prog W 0 spare held 24 v d p) (hw : ∀ n ∈ d.weights Tryd.prog 24, n ≤ reachBytes) :
    ∃ (t : Tm) (sv : Value), v = .agg #[.int .i64 t.kind, .string t.name, .int .i64 t.n, sv] ∧ Tm.inn W W.heap.size t sv := by
  obtain ⟨cs, rfl, hsz⟩ := okWide_struct Tryd.underlying24 hv
  obtain ⟨fuel, hf⟩ := h
  obtain ⟨t, sv, e, hin⟩ := open_term fuel _ _ hf hw
  refine ⟨t, sv, ?_, hin⟩
  obtain ⟨l⟩ := cs
  simp only [Value.cells] at e
  rw [← e]
end Go.Proofs.YtliapkajonbndaaDoor

namespace Go.Proofs.YtliapkajonbndaaDoor
open Go.ChangeShapes Go.WideShapes Go.ChangeAt Go.RowKit Go.Deep

theorem open_terms {H : Type} {enc : TypeId × Value → H} {W : World} {spare : Nat → Bool} {held : Bool} {fuel : Nat} {cs : List Value} {x : DataW H × List MemPlace}
    (h : DataW.trod enc Tryd.prog W 0 spare held fuel 22 cs = some x) (hw : ∀ n ∈ x.1.weights Tryd.prog 22, n ≤ reachBytes) :
    ∃ (l : List Tm) (sv : Value), cs = [sv] ∧ Tm.sliceIn W W.heap.size l sv := by
  rcases DataW.trod_slice Tryd.underlying22 h with ⟨e3, _⟩ | ⟨a, len, cap, elems, rest, n', hn', e3, r3, _, hlc, hcm, hel, hcell, _, _⟩
  · subst e3
    exact ⟨[], _, rfl, none, 0, rfl, by simp, by simp, .inl rfl⟩
  · subst e3
    subst r3
    simp only [DataW.weights, Tryd.underlying22, Tryd.bytesTerm] at hw
    have hbig := hw _ (List.mem_cons_self ..)
    simp only [List.length_map, reachBytes] at hbig
    rw [Tryd.cellsTerm] at hcell
    have hall : ∀ i, i < len → ∃ p : Tm × Value, W.cell? (a.add (i * 4)) = some (.int .i64 p.1.kind) ∧ W.cell? (a.add (i * 4 + 1)) = some (.string p.1.name) ∧ W.cell? (a.add (i * 4 + 2)) = some (.int .i64 p.1.n) ∧ W.cell? (a.add (i * 4 + 3)) = some p.2 ∧ Tm.inn W W.heap.size p.1 p.2 := by
      intro i hi
      have hc := hcell i hi
      rw [List.getElem?_eq_getElem (by omega)] at hc
      obtain ⟨cs', hc1, hc2⟩ := Option.bind_eq_some_iff.1 hc
      obtain ⟨t, sv, rfl, hin⟩ := open_term n' cs' _ hc2 (fun n hn => hw n (by
        refine List.mem_cons_of_mem _ (List.mem_append_left _ (weights_mem_all ?_ n hn))
        exact List.mem_map_of_mem (List.getElem_mem _)))
      obtain ⟨_, _, hat⟩ := World.cells?_some hc1
      have g0 := hat 0 (by omega)
      have g1 := hat 1 (by omega)
      have g2 := hat 2 (by omega)
      have g3 := hat 3 (by omega)
      rw [add_add] at g0 g1 g2 g3
      exact ⟨(t, sv), by simpa using g0, by simpa using g1, by simpa using g2, by simpa using g3, hin⟩
    obtain ⟨f, hf'⟩ := choose_lt hall
    refine ⟨(List.range len).map fun i => (f i).1, _, rfl, some a, cap, by simp, by simpa using hlc, by simp; omega, ?_⟩
    by_cases hl0 : len = 0
    · subst hl0; exact .inl rfl
    · obtain ⟨b, off, spot⟩ := a
      have hspot : spot = none := by simpa [Addr.add] using World.cell?_spot (hf' 0 (by omega)).1
      subst hspot
      refine .inr ⟨b, off, rfl, ?_, Tm.rowIn_of fun i hi => ?_⟩
      · have := World.block_lt_of_cell? _ _ (hf' 0 (by omega)).1
        simpa [Addr.add] using this
      · have hi' : i < len := by simpa using hi
        obtain ⟨g0, g1, g2, g3, g4⟩ := hf' i hi'
        simp only [add_plain] at g0 g1 g2 g3
        refine ⟨(f i).2, ?_, ?_, ?_, ?_, ?_⟩
        · simpa using g0
        · simpa [Nat.add_assoc] using g1
        · simpa [Nat.add_assoc] using g2
        · simpa [Nat.add_assoc] using g3
        · simpa using g4

set_option maxRecDepth 100000 in
/-- .. as an argument. -/
theorem open_row {H : Type} {enc : TypeId × Value → H} {W : World} {r : Reach} {base : Nat} {spare : Nat → Bool} {held : Bool} {v : Value} {d : DataW H} {p : List MemPlace} (hv : Value.okWide Tryd.prog W r base 22 v)
    (h : DataW.Trod enc Tryd.prog W 0 spare held 22 v d p) (hw : ∀ n ∈ d.weights Tryd.prog 22, n ≤ reachBytes) :
    ∃ (l : List Tm), Tm.sliceIn W W.heap.size l v := by
  obtain ⟨a0, len, cap, rfl⟩ := okWide_slice Tryd.underlying22 hv
  obtain ⟨fuel, hf⟩ := h
  obtain ⟨l, sv, e, hin⟩ := open_terms hf hw
  simp only [Value.cells, List.cons.injEq, and_true] at e
  exact ⟨l, by rw [e]; exact hin⟩
end Go.Proofs.YtliapkajonbndaaDoor
