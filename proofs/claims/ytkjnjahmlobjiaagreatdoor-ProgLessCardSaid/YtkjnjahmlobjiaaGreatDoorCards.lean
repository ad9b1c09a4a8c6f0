/-
  DERIVED. GIVEN WITH THE SEED: THE CARDS: each row of YtkjnjahmlobjiaaGreatDoorRows.lean that lists a variable, with what it lists TIED to the program's text (the seventh form; the later family's looks); each row that meets fmt, with fmt's text TOLD by the authors' own Lean function (tested against real Go, not proved from fmt's source: count such statements apart). THE CARD IS WHAT COUNTS. Prove the row's statement (the work); the ties are given (YtkjnjahmlobjiaaGreatDoorTie.lean); close each card by the builder's one call (the guide's Derived/Test/ToyasCard.lean, 'card_holds'). Laid BY PROGRAM, IN A SANDBOX (cutbox-door.mjs). By AI agents, Wed Nov 11 2026. No macro, syntax, notation, axiom, sorry.
-/
import Derived.Test.YtkjnjahmlobjiaaGreatDoorRows
import GoSem.ClaimSeven
namespace Go.Proofs.YtkjnjahmlobjiaaGreatDoor
namespace Rows

/-- THE TIED CARD OF 'finiallaw11.ProgChecks'. -/
def progChecksCard : Claim7 := { stood := { row := progChecksRow, standIns := [], harness := (true, "2014b0548b57004e26773b4ee2b33bceb4b709280b171e199e2dcd3caba3a95c"), looks := true }, kinds := [], alts := [], laidByText := true, laidKinds := [.data, .data, .data, .sentinel, .sentinel, .data, .data], laidTests := true, laidLooks := .later }
def ProgChecksCardSaid : Prop := Claim7.holds Tryz.pinned (.plain (OpenSpec.ofChange progChecksSpec)) progChecksCard

/-- THE TIED CARD OF 'finiallaw11.ProgLess'. -/
def progLessCard : Claim7 := { stood := { row := progLessRow, standIns := [], harness := (true, "2014b0548b57004e26773b4ee2b33bceb4b709280b171e199e2dcd3caba3a95c"), looks := true }, kinds := [], alts := [], laidByText := true, laidKinds := [.data, .data, .data, .sentinel, .sentinel, .data, .data], laidTests := true, laidLooks := .later }
def ProgLessCardSaid : Prop := Claim7.holds Tryz.pinned (.plain (OpenSpec.ofChange progLessSpec)) progLessCard

/-- THE TIED CARD OF 'finiallaw11.ProgParts'. -/
def progPartsCard : Claim7 := { stood := { row := progPartsRow, standIns := [], harness := (true, "2014b0548b57004e26773b4ee2b33bceb4b709280b171e199e2dcd3caba3a95c"), looks := true }, kinds := [], alts := [], laidByText := true, laidKinds := [.data, .data, .data, .sentinel, .sentinel, .data, .data], laidTests := true, laidLooks := .later }
def ProgPartsCardSaid : Prop := Claim7.holds Tryz.pinned (.plain (OpenSpec.ofChange progPartsSpec)) progPartsCard

/-- THE SECOND FORM's CARD OF 'finiallaw11.ProgChecks'. -/
def progChecksUptoCard : Claim7 := { stood := { row := progChecksUptoRow, standIns := [], harness := (true, "2014b0548b57004e26773b4ee2b33bceb4b709280b171e199e2dcd3caba3a95c"), looks := true }, kinds := [], alts := [], laidByText := true, laidKinds := [.data, .data, .data, .sentinel, .sentinel, .data, .data], laidTests := true, laidLooks := .later }
def ProgChecksUptoCardSaid : Prop := Claim7.holds Tryz.pinned (.plain (OpenSpec.upto progChecksSpec)) progChecksUptoCard

/-- THE SECOND FORM's CARD OF 'finiallaw11.ProgLess'. -/
def progLessUptoCard : Claim7 := { stood := { row := progLessUptoRow, standIns := [], harness := (true, "2014b0548b57004e26773b4ee2b33bceb4b709280b171e199e2dcd3caba3a95c"), looks := true }, kinds := [], alts := [], laidByText := true, laidKinds := [.data, .data, .data, .sentinel, .sentinel, .data, .data], laidTests := true, laidLooks := .later }
def ProgLessUptoCardSaid : Prop := Claim7.holds Tryz.pinned (.plain (OpenSpec.upto progLessSpec)) progLessUptoCard

/-- THE SECOND FORM's CARD OF 'finiallaw11.ProgParts'. -/
def progPartsUptoCard : Claim7 := { stood := { row := progPartsUptoRow, standIns := [], harness := (true, "2014b0548b57004e26773b4ee2b33bceb4b709280b171e199e2dcd3caba3a95c"), looks := true }, kinds := [], alts := [], laidByText := true, laidKinds := [.data, .data, .data, .sentinel, .sentinel, .data, .data], laidTests := true, laidLooks := .later }
def ProgPartsUptoCardSaid : Prop := Claim7.holds Tryz.pinned (.plain (OpenSpec.upto progPartsSpec)) progPartsUptoCard
end Rows
end Go.Proofs.YtkjnjahmlobjiaaGreatDoor
