/-
  The program's tables of predicates, off the rows' lists of variables.
-/
import Derived.Test.YtkjnjahmlobjiaaGreatDoorG02
import Derived.Test.YtkjnjahmlobjiaaGreatDoorRows
import Derived.Lib.LaidU8
import Derived.ChangeSame
import Derived.ChangeArms
namespace Go.Proofs.YtkjnjahmlobjiaaGreatDoor
open Go.RowKit Go.ChangeShapes

theorem two_of {α : Type} {l : List α} (h : l.length = 2) : ∃ a b, l = [a, b] := by
  cases l with
  | nil => simp at h
  | cons a l =>
    cases l with
    | nil => simp at h
    | cons b l =>
      cases l with
      | nil => exact ⟨a, b, rfl⟩
      | cons c l => simp at h
theorem add_one9 (a : Addr) (n : Nat) : (a.add n).add 1 = a.add (n + 1) := by
  by_cases h : n = 0
  · subst h; simp [Addr.add]
  · simp [Addr.add, h, Nat.add_assoc]
/-- A table as a row lists it. -/
def ptData (l : PTab) : DataW Unit := .slice (l.map fun x => .agg [.lit (.string x.1), .lit (.int .i64 (x.2 : Nat))]) []
theorem ptab_of_reads {w : World} {name : String} {g : Nat} {l : PTab} (hn : Tryz.prog.globalNamed name = some g) (hy : (Tryz.prog.globals[g]?).map (·.type) = some 111)
    (hl : 0 < l.length) (h : Lib.VarReads Tryz.prog w name (ptData l)) : TabAt w g l := by
  obtain ⟨g', t', cs, fuel, p, hg, hty, hvar, hd⟩ := h
  obtain rfl := Option.some.inj (hn.symm.trans hg)
  obtain rfl := Option.some.inj (hy.symm.trans hty)
  rcases DataW.trod_slice Tryz.underlying111 hd with ⟨_, hx⟩ | ⟨a, len, cap, el, rs, m, rfl, hcs, hx, _, hlc, _, hel, helem, hsp, _⟩
  · cases hx
  have e0 := congrArg Prod.fst hx
  simp only [ptData, DataW.slice.injEq] at e0
  obtain ⟨eE, eR⟩ := e0
  have hlen : len = l.length := by
    have := congrArg List.length eE
    simp at this
    omega
  have hc2 : Tryz.prog.cellsOf 75 = 2 := by kernel_rfl
  have hc1 : Tryz.prog.cellsOf 9 = 1 := by kernel_rfl
  have hc0 : Tryz.prog.cellsOf 3 = 1 := by kernel_rfl
  have hcell : ∀ (i : Nat) (hi : i < l.length), w.cell? (a.add (i * 2)) = some (.string ⟨l[i].1.toArray⟩) ∧ w.cell? (a.add (i * 2 + 1)) = some (.int .i64 (l[i].2 : Nat)) := by
    intro i hi
    have h1 := helem i (by omega)
    rw [hc2] at h1
    obtain ⟨b, hb⟩ : ∃ b, el[i]? = some b := ⟨el[i]'(by omega), List.getElem?_eq_getElem (by omega)⟩
    rw [hb] at h1
    obtain ⟨ce, hce, hte⟩ := Option.bind_eq_some_iff.1 h1
    obtain ⟨y0, y1, n, hbx, hcl, h2, h3⟩ := trod_struct2 Tryz.underlying75 hte
    have hb1 : b.1 = .agg [.lit (.string l[i].1), .lit (.int .i64 (l[i].2 : Nat))] := by
      have := congrArg (·[i]?) eE
      simp [hb, hi] at this
      exact this.symm
    rw [hbx] at hb1
    injection hb1 with hb1
    injection hb1 with hb2 hb3
    injection hb3 with hb3
    obtain ⟨_, hcel, hcc⟩ := World.cells?_some hce
    obtain ⟨v0, v1, rfl⟩ := two_of hcel
    obtain ⟨s, hs, hsx, _⟩ := DataW.trod_string Tryz.underlying9 h2
    obtain ⟨z, hz, hzx, _⟩ := DataW.trod_int Tryz.underlying3 h3
    rw [hsx] at hb2
    rw [hzx] at hb3
    injection hb2 with hb2
    injection hb2 with hb2
    injection hb3 with hb3
    injection hb3 with _ hb3
    have e1 : v0 = .string s := by
      have h9 : ([v0, v1].drop 0).take (Tryz.prog.cellsOf 9) = [.string s] := hs
      rw [hc1] at h9
      simpa using h9
    have e2 : v1 = .int .i64 z := by
      have h9 : ([v0, v1].drop 1).take (Tryz.prog.cellsOf 3) = [.int .i64 z] := hz
      rw [hc0] at h9
      simpa using h9
    have k0 := hcc 0 (by omega)
    have k1 := hcc 1 (by omega)
    subst e1 e2
    rw [show (a.add (i * 2)).add 0 = a.add (i * 2) by simp [Addr.add]] at k0
    rw [add_one9] at k1
    refine ⟨k0.trans ?_, k1.trans ?_⟩
    · rw [← hb2]
      rfl
    · rw [← hb3]
      rfl
  obtain ⟨R, o, sR⟩ := a
  obtain rfl : sR = none := by
    have h00 := (hcell 0 hl).1
    have : (Addr.add ⟨R, o, sR⟩ (0 * 2)) = ⟨R, o, sR⟩ := by simp [Addr.add]
    rw [this] at h00
    exact Go.Proofs.cell_spot h00
  have h00 := (hcell 0 hl).1
  refine ⟨R, o, cap, ?_, World.block_lt_of_cell? w _ h00, by omega, fun i hi => ?_⟩
  · rw [World.var?_cell hg hvar 0, ← Array.getElem?_toList, hcs, hlen]
    rfl
  · obtain ⟨h1, h2⟩ := hcell i hi
    rw [Addr.add_lit] at h1 h2
    exact ⟨h1, by rw [Nat.add_assoc]; exact h2⟩
theorem gBl : Tryz.prog.globalNamed "finial/prog.builtins" = some 0 := by kernel_rfl
theorem gBlT : (Tryz.prog.globals[0]?).map (·.type) = some 111 := by kernel_rfl
theorem gCl : Tryz.prog.globalNamed "finial/prog.controls" = some 1 := by kernel_rfl
theorem gClT : (Tryz.prog.globals[1]?).map (·.type) = some 111 := by kernel_rfl
theorem blData : (Rows.laid_finial_prog_builtins : DataW Unit) = ptData bltT := by kernel_rfl
theorem clData : (Rows.laid_finial_prog_controls : DataW Unit) = ptData ctlT := by kernel_rfl
theorem tabs_of {w : World} (hb : Lib.VarReads Tryz.prog w "finial/prog.builtins" Rows.laid_finial_prog_builtins) (hc : Lib.VarReads Tryz.prog w "finial/prog.controls" Rows.laid_finial_prog_controls) : Tabs w :=
  ⟨ptab_of_reads gBl gBlT (by decide) (blData ▸ hb), ptab_of_reads gCl gClT (by decide) (clData ▸ hc)⟩
end Go.Proofs.YtkjnjahmlobjiaaGreatDoor
