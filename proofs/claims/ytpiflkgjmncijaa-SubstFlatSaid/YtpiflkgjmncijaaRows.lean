/-
  NARROWER THAN 'FOR EVERY INPUT', by the rows' own cells (each row's printed sentence says how): CompareTells: loops · CompareSorts: loops · CompareOrders: loops · CompareVariants: loops · SubstRights: loops · SubstApplies: loops · SubstFlat: loops · SubstEnds: loops.
  DERIVED. THE GIVEN ROWS OF THIS SEAT. 8 by the template 'for every input the law returns true; each argument reads behind the call as it read before'; 0 by the template 'total and deterministic' (their statements: YtpiflkgjmncijaaTotals.lean).
  GIVEN WITH THE SEED: the statements are not yours to turn. If you find one false, say at which input.
  Laid BY PROGRAM, IN A SANDBOX (cutbox-rows.mjs): the forced cells as the released guide's own fill.sh prints them over the translation 90fe173cd8fbf77a… (all of the seat's roots in one cut). By AI agents, Wed Nov 11 2026. No macro, syntax, notation, axiom, sorry.
-/
import Derived.Test.YtpiflkgjmncijaaChecked
import GoSem.Claim
import GoSem.ClaimJoined
import GoSem.ClaimMapViews
import Derived.JoinedTies
import Derived.KernelRfl
namespace Go.Proofs.Ytpiflkgjmncijaa
/- THE CELL 'sum', in the pinned program and in every row, IS THE sha256 OF THE DUMP (.gsa) THAT YtpiflkgjmncijaaProg.lean LOADS. Nothing in Lean hashes anything: it is a label: what it is worth is what the hold of that sum in a sandbox is worth. -/
noncomputable def Try.pinned : Pinned := { name := "ytpiflkgjmncijaa", sum := "90fe173cd8fbf77a0e06d371383752d3c82bb3efe792faebc2e5d9ffeae45c3c", checked := Try.checked }
namespace Rows
def none {H : Type} : Left H := { results := [], args := [] }

/-- 'finiallaw02.CompareTells': WHATEVER THE INPUT: true; the input reads as it did. -/
def compareTellsSpec : ChangeSpec := { name := "compareTells", fn := fun _ => fun
  | [d1, d2] => { results := [.lit (.bool true)], args := [d1, d2] }
  | _ => none }
def compareTellsRow : OpenClaim := { program := "ytpiflkgjmncijaa", sum := "90fe173cd8fbf77a0e06d371383752d3c82bb3efe792faebc2e5d9ffeae45c3c", func := "finial/finiallaw02.CompareTells", spec := "compareTells", unfollowed := true, recurses := true, loops := true, apart := false }
def CompareTellsSaid : Prop := compareTellsRow.holds Try.pinned (OpenSpec.ofChange compareTellsSpec)

/-- ITS FALSE NEIGHBOUR: 'it returns false'. Refute it at one input. -/
def compareTellsWrong : ChangeSpec := { name := "compareTells", fn := fun _ => fun
  | [d1, d2] => { results := [.lit (.bool false)], args := [d1, d2] }
  | _ => none }
def CompareTellsWrongFalsely : Prop := compareTellsRow.holds Try.pinned (OpenSpec.ofChange compareTellsWrong)

/-- 'finiallaw02.CompareSorts': WHATEVER THE INPUT: true; the input reads as it did. -/
def compareSortsSpec : ChangeSpec := { name := "compareSorts", fn := fun _ => fun
  | [d] => { results := [.lit (.bool true)], args := [d] }
  | _ => none }
def compareSortsRow : OpenClaim := { program := "ytpiflkgjmncijaa", sum := "90fe173cd8fbf77a0e06d371383752d3c82bb3efe792faebc2e5d9ffeae45c3c", func := "finial/finiallaw02.CompareSorts", spec := "compareSorts", unfollowed := true, recurses := true, loops := true, apart := false }
def CompareSortsSaid : Prop := compareSortsRow.holds Try.pinned (OpenSpec.ofChange compareSortsSpec)

/-- ITS FALSE NEIGHBOUR: 'it returns false'. Refute it at one input. -/
def compareSortsWrong : ChangeSpec := { name := "compareSorts", fn := fun _ => fun
  | [d] => { results := [.lit (.bool false)], args := [d] }
  | _ => none }
def CompareSortsWrongFalsely : Prop := compareSortsRow.holds Try.pinned (OpenSpec.ofChange compareSortsWrong)

/-- 'finiallaw02.CompareOrders': WHATEVER THE INPUT: true; the input reads as it did. -/
def compareOrdersSpec : ChangeSpec := { name := "compareOrders", fn := fun _ => fun
  | [d1, d2, d3] => { results := [.lit (.bool true)], args := [d1, d2, d3] }
  | _ => none }
def compareOrdersRow : OpenClaim := { program := "ytpiflkgjmncijaa", sum := "90fe173cd8fbf77a0e06d371383752d3c82bb3efe792faebc2e5d9ffeae45c3c", func := "finial/finiallaw02.CompareOrders", spec := "compareOrders", unfollowed := true, recurses := true, loops := true, apart := false }
def CompareOrdersSaid : Prop := compareOrdersRow.holds Try.pinned (OpenSpec.ofChange compareOrdersSpec)

/-- ITS FALSE NEIGHBOUR: 'it returns false'. Refute it at one input. -/
def compareOrdersWrong : ChangeSpec := { name := "compareOrders", fn := fun _ => fun
  | [d1, d2, d3] => { results := [.lit (.bool false)], args := [d1, d2, d3] }
  | _ => none }
def CompareOrdersWrongFalsely : Prop := compareOrdersRow.holds Try.pinned (OpenSpec.ofChange compareOrdersWrong)

/-- 'finiallaw02.CompareVariants': WHATEVER THE INPUT: true; the input reads as it did. -/
def compareVariantsSpec : ChangeSpec := { name := "compareVariants", fn := fun _ => fun
  | [d1, d2, d3] => { results := [.lit (.bool true)], args := [d1, d2, d3] }
  | _ => none }
def compareVariantsRow : OpenClaim := { program := "ytpiflkgjmncijaa", sum := "90fe173cd8fbf77a0e06d371383752d3c82bb3efe792faebc2e5d9ffeae45c3c", func := "finial/finiallaw02.CompareVariants", spec := "compareVariants", unfollowed := true, recurses := true, loops := true, apart := false }
def CompareVariantsSaid : Prop := compareVariantsRow.holds Try.pinned (OpenSpec.ofChange compareVariantsSpec)

/-- ITS FALSE NEIGHBOUR: 'it returns false'. Refute it at one input. -/
def compareVariantsWrong : ChangeSpec := { name := "compareVariants", fn := fun _ => fun
  | [d1, d2, d3] => { results := [.lit (.bool false)], args := [d1, d2, d3] }
  | _ => none }
def CompareVariantsWrongFalsely : Prop := compareVariantsRow.holds Try.pinned (OpenSpec.ofChange compareVariantsWrong)

/-- 'finiallaw03.SubstRights': WHATEVER THE INPUT: true; the input reads as it did. -/
def substRightsSpec : ChangeSpec := { name := "substRights", fn := fun _ => fun
  | [d1, d2] => { results := [.lit (.bool true)], args := [d1, d2] }
  | _ => none }
def substRightsRow : OpenClaim := { program := "ytpiflkgjmncijaa", sum := "90fe173cd8fbf77a0e06d371383752d3c82bb3efe792faebc2e5d9ffeae45c3c", func := "finial/finiallaw03.SubstRights", spec := "substRights", unfollowed := true, recurses := true, loops := true, apart := false }
def SubstRightsSaid : Prop := substRightsRow.holds Try.pinned (OpenSpec.ofChange substRightsSpec)

/-- ITS FALSE NEIGHBOUR: 'it returns false'. Refute it at one input. -/
def substRightsWrong : ChangeSpec := { name := "substRights", fn := fun _ => fun
  | [d1, d2] => { results := [.lit (.bool false)], args := [d1, d2] }
  | _ => none }
def SubstRightsWrongFalsely : Prop := substRightsRow.holds Try.pinned (OpenSpec.ofChange substRightsWrong)

/-- 'finiallaw03.SubstApplies': WHATEVER THE INPUT: true; the input reads as it did. -/
def substAppliesSpec : ChangeSpec := { name := "substApplies", fn := fun _ => fun
  | [d1, d2] => { results := [.lit (.bool true)], args := [d1, d2] }
  | _ => none }
def substAppliesRow : OpenClaim := { program := "ytpiflkgjmncijaa", sum := "90fe173cd8fbf77a0e06d371383752d3c82bb3efe792faebc2e5d9ffeae45c3c", func := "finial/finiallaw03.SubstApplies", spec := "substApplies", unfollowed := true, recurses := true, loops := true, apart := false }
def SubstAppliesSaid : Prop := substAppliesRow.holds Try.pinned (OpenSpec.ofChange substAppliesSpec)

/-- ITS FALSE NEIGHBOUR: 'it returns false'. Refute it at one input. -/
def substAppliesWrong : ChangeSpec := { name := "substApplies", fn := fun _ => fun
  | [d1, d2] => { results := [.lit (.bool false)], args := [d1, d2] }
  | _ => none }
def SubstAppliesWrongFalsely : Prop := substAppliesRow.holds Try.pinned (OpenSpec.ofChange substAppliesWrong)

/-- 'finiallaw03.SubstFlat': WHATEVER THE INPUT: true; the input reads as it did. -/
def substFlatSpec : ChangeSpec := { name := "substFlat", fn := fun _ => fun
  | [d1, d2] => { results := [.lit (.bool true)], args := [d1, d2] }
  | _ => none }
def substFlatRow : OpenClaim := { program := "ytpiflkgjmncijaa", sum := "90fe173cd8fbf77a0e06d371383752d3c82bb3efe792faebc2e5d9ffeae45c3c", func := "finial/finiallaw03.SubstFlat", spec := "substFlat", unfollowed := true, recurses := true, loops := true, apart := false }
def SubstFlatSaid : Prop := substFlatRow.holds Try.pinned (OpenSpec.ofChange substFlatSpec)

/-- ITS FALSE NEIGHBOUR: 'it returns false'. Refute it at one input. -/
def substFlatWrong : ChangeSpec := { name := "substFlat", fn := fun _ => fun
  | [d1, d2] => { results := [.lit (.bool false)], args := [d1, d2] }
  | _ => none }
def SubstFlatWrongFalsely : Prop := substFlatRow.holds Try.pinned (OpenSpec.ofChange substFlatWrong)

/-- 'finiallaw03.SubstEnds': WHATEVER THE INPUT: true; the input reads as it did. -/
def substEndsSpec : ChangeSpec := { name := "substEnds", fn := fun _ => fun
  | [d1, d2] => { results := [.lit (.bool true)], args := [d1, d2] }
  | _ => none }
def substEndsRow : OpenClaim := { program := "ytpiflkgjmncijaa", sum := "90fe173cd8fbf77a0e06d371383752d3c82bb3efe792faebc2e5d9ffeae45c3c", func := "finial/finiallaw03.SubstEnds", spec := "substEnds", unfollowed := true, recurses := true, loops := true, apart := false }
def SubstEndsSaid : Prop := substEndsRow.holds Try.pinned (OpenSpec.ofChange substEndsSpec)

/-- ITS FALSE NEIGHBOUR: 'it returns false'. Refute it at one input. -/
def substEndsWrong : ChangeSpec := { name := "substEnds", fn := fun _ => fun
  | [d1, d2] => { results := [.lit (.bool false)], args := [d1, d2] }
  | _ => none }
def SubstEndsWrongFalsely : Prop := substEndsRow.holds Try.pinned (OpenSpec.ofChange substEndsWrong)

/- THE SECOND FORM. 'bulk': how many values and letters a reading holds, each counted each time it is reached (what is shared counts as often as it is met; a slice's spare places count too). A statement '..UptoSaid' is the law's where the arguments, and the package variables that the reading takes, are together of bulk at most 1048576: NARROWER than '..Said'. Prove '..Said' where nothing that the law and all that it calls make is longer than what came in: it says more and counts as full. Else prove '..UptoSaid'. A law counts once. -/
mutual
def uptoBulk {H : Type} : DataW H → Nat
  | .lit (.string bytes) => bytes.length + 1
  | .lit _ => 1
  | .nil => 1
  | .ptr d => uptoBulk d + 1
  | .slice elems spare => uptoBulkAll elems + uptoBulkAll spare + 1
  | .agg parts => uptoBulkAll parts + 1
  | .iface _ d => uptoBulk d + 1
  | .map entries => uptoBulkEntries entries + 1
  | .held _ => 1
def uptoBulkAll {H : Type} : List (DataW H) → Nat
  | [] => 0
  | d :: r => uptoBulk d + uptoBulkAll r
def uptoBulkEntries {H : Type} : List (Lit × DataW H) → Nat
  | [] => 0
  | x :: r => uptoBulkEntry x + uptoBulkEntries r
def uptoBulkEntry {H : Type} : Lit × DataW H → Nat
  | (.string bytes, d) => bytes.length + uptoBulk d + 1
  | (_, d) => uptoBulk d + 1
 end
def uptoSmall : (H : Type) → List (DataW H) → Bool := fun _ ds => decide (uptoBulkAll ds ≤ 1048576)
def OpenSpec.upto (s : _root_.Go.ChangeSpec) : _root_.Go.OpenSpec := { _root_.Go.OpenSpec.ofChange s with cond := some uptoSmall }

/-- 'finiallaw02.CompareTells', WHERE WHAT IT READS IS OF BULK AT MOST 1048576: true; the input reads as it did. -/
def compareTellsUptoRow : OpenClaim := { program := "ytpiflkgjmncijaa", sum := "90fe173cd8fbf77a0e06d371383752d3c82bb3efe792faebc2e5d9ffeae45c3c", func := "finial/finiallaw02.CompareTells", spec := "compareTells", unfollowed := true, recurses := true, loops := true, apart := false, narrowed := true }
def CompareTellsUptoSaid : Prop := compareTellsUptoRow.holds Try.pinned (OpenSpec.upto compareTellsSpec)

/-- 'finiallaw02.CompareSorts', WHERE WHAT IT READS IS OF BULK AT MOST 1048576: true; the input reads as it did. -/
def compareSortsUptoRow : OpenClaim := { program := "ytpiflkgjmncijaa", sum := "90fe173cd8fbf77a0e06d371383752d3c82bb3efe792faebc2e5d9ffeae45c3c", func := "finial/finiallaw02.CompareSorts", spec := "compareSorts", unfollowed := true, recurses := true, loops := true, apart := false, narrowed := true }
def CompareSortsUptoSaid : Prop := compareSortsUptoRow.holds Try.pinned (OpenSpec.upto compareSortsSpec)

/-- 'finiallaw02.CompareOrders', WHERE WHAT IT READS IS OF BULK AT MOST 1048576: true; the input reads as it did. -/
def compareOrdersUptoRow : OpenClaim := { program := "ytpiflkgjmncijaa", sum := "90fe173cd8fbf77a0e06d371383752d3c82bb3efe792faebc2e5d9ffeae45c3c", func := "finial/finiallaw02.CompareOrders", spec := "compareOrders", unfollowed := true, recurses := true, loops := true, apart := false, narrowed := true }
def CompareOrdersUptoSaid : Prop := compareOrdersUptoRow.holds Try.pinned (OpenSpec.upto compareOrdersSpec)

/-- 'finiallaw02.CompareVariants', WHERE WHAT IT READS IS OF BULK AT MOST 1048576: true; the input reads as it did. -/
def compareVariantsUptoRow : OpenClaim := { program := "ytpiflkgjmncijaa", sum := "90fe173cd8fbf77a0e06d371383752d3c82bb3efe792faebc2e5d9ffeae45c3c", func := "finial/finiallaw02.CompareVariants", spec := "compareVariants", unfollowed := true, recurses := true, loops := true, apart := false, narrowed := true }
def CompareVariantsUptoSaid : Prop := compareVariantsUptoRow.holds Try.pinned (OpenSpec.upto compareVariantsSpec)

/-- 'finiallaw03.SubstRights', WHERE WHAT IT READS IS OF BULK AT MOST 1048576: true; the input reads as it did. -/
def substRightsUptoRow : OpenClaim := { program := "ytpiflkgjmncijaa", sum := "90fe173cd8fbf77a0e06d371383752d3c82bb3efe792faebc2e5d9ffeae45c3c", func := "finial/finiallaw03.SubstRights", spec := "substRights", unfollowed := true, recurses := true, loops := true, apart := false, narrowed := true }
def SubstRightsUptoSaid : Prop := substRightsUptoRow.holds Try.pinned (OpenSpec.upto substRightsSpec)

/-- 'finiallaw03.SubstApplies', WHERE WHAT IT READS IS OF BULK AT MOST 1048576: true; the input reads as it did. -/
def substAppliesUptoRow : OpenClaim := { program := "ytpiflkgjmncijaa", sum := "90fe173cd8fbf77a0e06d371383752d3c82bb3efe792faebc2e5d9ffeae45c3c", func := "finial/finiallaw03.SubstApplies", spec := "substApplies", unfollowed := true, recurses := true, loops := true, apart := false, narrowed := true }
def SubstAppliesUptoSaid : Prop := substAppliesUptoRow.holds Try.pinned (OpenSpec.upto substAppliesSpec)

/-- 'finiallaw03.SubstFlat', WHERE WHAT IT READS IS OF BULK AT MOST 1048576: true; the input reads as it did. -/
def substFlatUptoRow : OpenClaim := { program := "ytpiflkgjmncijaa", sum := "90fe173cd8fbf77a0e06d371383752d3c82bb3efe792faebc2e5d9ffeae45c3c", func := "finial/finiallaw03.SubstFlat", spec := "substFlat", unfollowed := true, recurses := true, loops := true, apart := false, narrowed := true }
def SubstFlatUptoSaid : Prop := substFlatUptoRow.holds Try.pinned (OpenSpec.upto substFlatSpec)

/-- 'finiallaw03.SubstEnds', WHERE WHAT IT READS IS OF BULK AT MOST 1048576: true; the input reads as it did. -/
def substEndsUptoRow : OpenClaim := { program := "ytpiflkgjmncijaa", sum := "90fe173cd8fbf77a0e06d371383752d3c82bb3efe792faebc2e5d9ffeae45c3c", func := "finial/finiallaw03.SubstEnds", spec := "substEnds", unfollowed := true, recurses := true, loops := true, apart := false, narrowed := true }
def SubstEndsUptoSaid : Prop := substEndsUptoRow.holds Try.pinned (OpenSpec.upto substEndsSpec)

end Rows
end Go.Proofs.Ytpiflkgjmncijaa
