/-
  What the rows' lists of variables give; a world that meets them.
-/
import Derived.Test.YtkjnjahmlobjiaaGreatDoorRows
import Derived.Test.YtkjnjahmlobjiaaGreatDoorG00
import Derived.Test.YtkjnjahmlobjiaaGreatDoorPtab
import Derived.Stop.LaidErr
import Derived.LaidLaws
namespace Go.Proofs.YtkjnjahmlobjiaaGreatDoor
open Go.RowKit

theorem Tryz.ownK : ownKnob Tryz.prog.godebug = none := by kernel_rfl
theorem Tryz.laidOutK : laidOutB Tryz.prog = true := by kernel_rfl
theorem gER : Tryz.prog.globalNamed "strconv.ErrRange" = some 4 := by kernel_rfl
theorem gERType : (Tryz.prog.globals[4]?).map (·.type) = some 150 := by kernel_rfl
theorem cellsES : Tryz.prog.cellsOf 210 = 1 := by kernel_rfl
theorem cellsStr : Tryz.prog.cellsOf 9 = 1 := by kernel_rfl
theorem starES : "*" ++ "errors.errorString" = "*errors.errorString" := by decide
theorem rowES (u : TypeId) (h : Tryz.prog.typeName? 3 u = some "*errors.errorString") : u = 208 :=
  typeName_ptr_named (nm := "errors.errorString") (by rw [starES]; kernel_rfl) (by kernel_rfl) (by decide) u (by rw [starES]; exact h)
theorem rng_laid {W : World} (hL : laidMet Tryz.prog Rows.progChecksRow.laid W) : Rng W := by
  have h : laidMet Tryz.prog [("math/bits.deBruijn32tab", Rows.laid_math_bits_deBruijn32tab), ("math/bits.deBruijn64tab", Rows.laid_math_bits_deBruijn64tab), ("internal/strconv.uint64pow10", Rows.laid_internal_strconv_uint64pow10), ("strconv.ErrRange", Rows.laid_strconv_ErrRange), ("strconv.ErrSyntax", Rows.laid_strconv_ErrSyntax), ("finial/prog.builtins", Rows.laid_finial_prog_builtins), ("finial/prog.controls", Rows.laid_finial_prog_controls)] W := hL
  obtain ⟨a1, s1, hv1, -, -, -⟩ := laid_sentinel h.tail.tail.tail gER gERType Tryz.underlying150 rowES Tryz.underlying208 Tryz.underlying210 rfl rfl Tryz.underlying9 cellsES cellsStr
  exact ⟨_, _, by have h0 := World.var?_cell gER hv1 0; simpa using h0⟩
theorem tabs_laid {W : World} (hL : laidMet Tryz.prog Rows.progChecksRow.laid W) : Tabs W := by
  have h : laidMet Tryz.prog [("math/bits.deBruijn32tab", Rows.laid_math_bits_deBruijn32tab), ("math/bits.deBruijn64tab", Rows.laid_math_bits_deBruijn64tab), ("internal/strconv.uint64pow10", Rows.laid_internal_strconv_uint64pow10), ("strconv.ErrRange", Rows.laid_strconv_ErrRange), ("strconv.ErrSyntax", Rows.laid_strconv_ErrSyntax), ("finial/prog.builtins", Rows.laid_finial_prog_builtins), ("finial/prog.controls", Rows.laid_finial_prog_controls)] W := hL
  have hb := h.tail.tail.tail.tail.tail
  exact tabs_of (Lib.laidMet.reads hb (List.mem_cons_self ..)) (Lib.laidMet.reads hb.tail (List.mem_cons_self ..))
/-- So many blocks has the settled world. -/
noncomputable def low : Nat := (World.holding Tryz.prog default ⟨#[], #[], []⟩).heap.size
/-- The settled world; the listed variables hold what their initialisers lay. -/
noncomputable def laidWorld (os : Os) : World :=
  let w0 := World.holding Tryz.prog os ⟨#[.cells #[.string ⟨#[105, 110, 118, 97, 108, 105, 100, 32, 115, 121, 110, 116, 97, 120]⟩] 210, .cells #[.string ⟨#[118, 97, 108, 117, 101, 32, 111, 117, 116, 32, 111, 102, 32, 114, 97, 110, 103, 101]⟩] 210, .cells #[.string ⟨#[61]⟩, .int .i64 2, .string ⟨#[92, 61]⟩, .int .i64 2, .string ⟨#[61, 61]⟩, .int .i64 2, .string ⟨#[92, 61, 61]⟩, .int .i64 2, .string ⟨#[64, 60]⟩, .int .i64 2, .string ⟨#[64, 62]⟩, .int .i64 2, .string ⟨#[64, 61, 60]⟩, .int .i64 2, .string ⟨#[64, 62, 61]⟩, .int .i64 2, .string ⟨#[105, 115]⟩, .int .i64 2, .string ⟨#[61, 58, 61]⟩, .int .i64 2, .string ⟨#[61, 92, 61]⟩, .int .i64 2, .string ⟨#[60]⟩, .int .i64 2, .string ⟨#[62]⟩, .int .i64 2, .string ⟨#[61, 60]⟩, .int .i64 2, .string ⟨#[62, 61]⟩, .int .i64 2, .string ⟨#[61, 46, 46]⟩, .int .i64 2, .string ⟨#[102, 97, 105, 108]⟩, .int .i64 0, .string ⟨#[110, 108]⟩, .int .i64 0, .string ⟨#[118, 97, 114]⟩, .int .i64 1, .string ⟨#[110, 111, 110, 118, 97, 114]⟩, .int .i64 1, .string ⟨#[97, 116, 111, 109]⟩, .int .i64 1, .string ⟨#[105, 110, 116, 101, 103, 101, 114]⟩, .int .i64 1, .string ⟨#[119, 114, 105, 116, 101]⟩, .int .i64 1, .string ⟨#[102, 117, 110, 99, 116, 111, 114]⟩, .int .i64 3, .string ⟨#[97, 114, 103]⟩, .int .i64 3] 75, .cells #[.string ⟨#[116, 114, 117, 101]⟩, .int .i64 0, .string ⟨#[33]⟩, .int .i64 0, .string ⟨#[44]⟩, .int .i64 2, .string ⟨#[59]⟩, .int .i64 2, .string ⟨#[45, 62]⟩, .int .i64 2, .string ⟨#[92, 43]⟩, .int .i64 1, .string ⟨#[58, 45]⟩, .int .i64 2] 75], #[], []⟩
  { w0 with heap := (((((((w0.heap.modify 0 (fun | .cells _ t frozen => .cells #[.slice (some ⟨low + 2, 0, none⟩) 25 25] t frozen | o => o)).modify 1 (fun | .cells _ t frozen => .cells #[.slice (some ⟨low + 3, 0, none⟩) 7 7] t frozen | o => o)).modify 3 (fun | .cells _ t frozen => .cells #[.iface 208 (.pointer (some ⟨low, 0, none⟩))] t frozen | o => o)).modify 4 (fun | .cells _ t frozen => .cells #[.iface 208 (.pointer (some ⟨low + 1, 0, none⟩))] t frozen | o => o)).modify 5 (fun | .cells _ t frozen => .cells #[.int .u64 1, .int .u64 10, .int .u64 100, .int .u64 1000, .int .u64 10000, .int .u64 100000, .int .u64 1000000, .int .u64 10000000, .int .u64 100000000, .int .u64 1000000000, .int .u64 10000000000, .int .u64 100000000000, .int .u64 1000000000000, .int .u64 10000000000000, .int .u64 100000000000000, .int .u64 1000000000000000, .int .u64 10000000000000000, .int .u64 100000000000000000, .int .u64 1000000000000000000, .int .u64 10000000000000000000] t frozen | o => o)).modify 6 (fun | .cells _ t frozen => .cells #[.int .u8 0, .int .u8 1, .int .u8 28, .int .u8 2, .int .u8 29, .int .u8 14, .int .u8 24, .int .u8 3, .int .u8 30, .int .u8 22, .int .u8 20, .int .u8 15, .int .u8 25, .int .u8 17, .int .u8 4, .int .u8 8, .int .u8 31, .int .u8 27, .int .u8 13, .int .u8 23, .int .u8 21, .int .u8 19, .int .u8 16, .int .u8 7, .int .u8 26, .int .u8 12, .int .u8 18, .int .u8 6, .int .u8 11, .int .u8 5, .int .u8 10, .int .u8 9] t frozen | o => o)).modify 7 (fun | .cells _ t frozen => .cells #[.int .u8 0, .int .u8 1, .int .u8 56, .int .u8 2, .int .u8 57, .int .u8 49, .int .u8 28, .int .u8 3, .int .u8 61, .int .u8 58, .int .u8 42, .int .u8 50, .int .u8 38, .int .u8 29, .int .u8 17, .int .u8 4, .int .u8 62, .int .u8 47, .int .u8 59, .int .u8 36, .int .u8 45, .int .u8 43, .int .u8 51, .int .u8 22, .int .u8 53, .int .u8 39, .int .u8 33, .int .u8 30, .int .u8 24, .int .u8 18, .int .u8 12, .int .u8 5, .int .u8 63, .int .u8 55, .int .u8 48, .int .u8 27, .int .u8 60, .int .u8 41, .int .u8 37, .int .u8 16, .int .u8 46, .int .u8 35, .int .u8 44, .int .u8 21, .int .u8 52, .int .u8 32, .int .u8 23, .int .u8 11, .int .u8 54, .int .u8 26, .int .u8 40, .int .u8 15, .int .u8 34, .int .u8 20, .int .u8 31, .int .u8 10, .int .u8 25, .int .u8 14, .int .u8 19, .int .u8 9, .int .u8 13, .int .u8 8, .int .u8 7, .int .u8 6] t frozen | o => o)) }
theorem laid_met (os : Os) (args : Array Value) : laidMet Tryz.prog Rows.progChecksRow.laid ((laidWorld os).forCall (fun _ _ => 0) ⟨#[], args, []⟩).memory :=
  laidMet_of_run' 8 (by kernel_rfl) (by kernel_rfl)
end Go.Proofs.YtkjnjahmlobjiaaGreatDoor
