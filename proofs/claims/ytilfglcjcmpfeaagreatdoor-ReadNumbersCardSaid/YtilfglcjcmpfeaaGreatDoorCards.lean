/-
  DERIVED. GIVEN WITH THE SEED: THE CARDS: each row of YtilfglcjcmpfeaaGreatDoorRows.lean that lists a variable, with what it lists TIED to the program's text (the seventh form; the later family's looks); each row that meets fmt, with fmt's text TOLD by the authors' own Lean function (tested against real Go, not proved from fmt's source: count such statements apart). THE CARD IS WHAT COUNTS. Prove the row's statement (the work); the ties are given (YtilfglcjcmpfeaaGreatDoorTie.lean); close each card by the builder's one call (the guide's Derived/Test/ToyasCard.lean, 'card_holds'). Laid BY PROGRAM, IN A SANDBOX (cutbox-door.mjs). By AI agents, Wed Nov 11 2026. No macro, syntax, notation, axiom, sorry.
-/
import Derived.Test.YtilfglcjcmpfeaaGreatDoorRows
import GoSem.ClaimSeven
namespace Go.Proofs.YtilfglcjcmpfeaaGreatDoor
namespace Rows

/-- THE TIED CARD OF 'finiallaw09.ReadClauses'. -/
def readClausesCard : Claim7 := { stood := { row := readClausesRow, standIns := [], harness := (true, "0ae82627bf5b1632663a8dd59f5f257f6df5ca464cfe74d1a6ccf3f6666a119e"), looks := true }, kinds := [], alts := [], laidByText := true, laidKinds := [.data, .data, .data, .sentinel, .sentinel], laidTests := true, laidLooks := .later }
def ReadClausesCardSaid : Prop := Claim7.holds Tryz.pinned (.plain (OpenSpec.ofChange readClausesSpec)) readClausesCard

/-- THE TIED CARD OF 'finiallaw09.ReadNumbers'. -/
def readNumbersCard : Claim7 := { stood := { row := readNumbersRow, standIns := [], harness := (true, "0ae82627bf5b1632663a8dd59f5f257f6df5ca464cfe74d1a6ccf3f6666a119e"), looks := true }, kinds := [], alts := [], laidByText := true, laidKinds := [.data, .data, .data, .sentinel, .sentinel], laidTests := true, laidLooks := .later }
def ReadNumbersCardSaid : Prop := Claim7.holds Tryz.pinned (.plain (OpenSpec.ofChange readNumbersSpec)) readNumbersCard

/-- THE TIED CARD OF 'finiallaw09.ReadBrackets'. -/
def readBracketsCard : Claim7 := { stood := { row := readBracketsRow, standIns := [], harness := (true, "0ae82627bf5b1632663a8dd59f5f257f6df5ca464cfe74d1a6ccf3f6666a119e"), looks := true }, kinds := [], alts := [], laidByText := true, laidKinds := [.data, .data, .data, .sentinel, .sentinel], laidTests := true, laidLooks := .later }
def ReadBracketsCardSaid : Prop := Claim7.holds Tryz.pinned (.plain (OpenSpec.ofChange readBracketsSpec)) readBracketsCard

/-- THE TIED CARD OF 'finiallaw09.ReadJoins'. -/
def readJoinsCard : Claim7 := { stood := { row := readJoinsRow, standIns := [], harness := (true, "0ae82627bf5b1632663a8dd59f5f257f6df5ca464cfe74d1a6ccf3f6666a119e"), looks := true }, kinds := [], alts := [], laidByText := true, laidKinds := [.data, .data, .data, .sentinel, .sentinel], laidTests := true, laidLooks := .later }
def ReadJoinsCardSaid : Prop := Claim7.holds Tryz.pinned (.plain (OpenSpec.ofChange readJoinsSpec)) readJoinsCard

/-- THE SECOND FORM's CARD OF 'finiallaw09.ReadClauses'. -/
def readClausesUptoCard : Claim7 := { stood := { row := readClausesUptoRow, standIns := [], harness := (true, "0ae82627bf5b1632663a8dd59f5f257f6df5ca464cfe74d1a6ccf3f6666a119e"), looks := true }, kinds := [], alts := [], laidByText := true, laidKinds := [.data, .data, .data, .sentinel, .sentinel], laidTests := true, laidLooks := .later }
def ReadClausesUptoCardSaid : Prop := Claim7.holds Tryz.pinned (.plain (OpenSpec.upto readClausesSpec)) readClausesUptoCard

/-- THE SECOND FORM's CARD OF 'finiallaw09.ReadNumbers'. -/
def readNumbersUptoCard : Claim7 := { stood := { row := readNumbersUptoRow, standIns := [], harness := (true, "0ae82627bf5b1632663a8dd59f5f257f6df5ca464cfe74d1a6ccf3f6666a119e"), looks := true }, kinds := [], alts := [], laidByText := true, laidKinds := [.data, .data, .data, .sentinel, .sentinel], laidTests := true, laidLooks := .later }
def ReadNumbersUptoCardSaid : Prop := Claim7.holds Tryz.pinned (.plain (OpenSpec.upto readNumbersSpec)) readNumbersUptoCard

/-- THE SECOND FORM's CARD OF 'finiallaw09.ReadBrackets'. -/
def readBracketsUptoCard : Claim7 := { stood := { row := readBracketsUptoRow, standIns := [], harness := (true, "0ae82627bf5b1632663a8dd59f5f257f6df5ca464cfe74d1a6ccf3f6666a119e"), looks := true }, kinds := [], alts := [], laidByText := true, laidKinds := [.data, .data, .data, .sentinel, .sentinel], laidTests := true, laidLooks := .later }
def ReadBracketsUptoCardSaid : Prop := Claim7.holds Tryz.pinned (.plain (OpenSpec.upto readBracketsSpec)) readBracketsUptoCard

/-- THE SECOND FORM's CARD OF 'finiallaw09.ReadJoins'. -/
def readJoinsUptoCard : Claim7 := { stood := { row := readJoinsUptoRow, standIns := [], harness := (true, "0ae82627bf5b1632663a8dd59f5f257f6df5ca464cfe74d1a6ccf3f6666a119e"), looks := true }, kinds := [], alts := [], laidByText := true, laidKinds := [.data, .data, .data, .sentinel, .sentinel], laidTests := true, laidLooks := .later }
def ReadJoinsUptoCardSaid : Prop := Claim7.holds Tryz.pinned (.plain (OpenSpec.upto readJoinsSpec)) readJoinsUptoCard
end Rows
end Go.Proofs.YtilfglcjcmpfeaaGreatDoor
