/-
  NARROWER THAN 'FOR EVERY INPUT', by the rows' own cells (each row's printed sentence says how): SubstRights: loops · SubstApplies: loops · SubstFlat: loops · SubstEnds: loops · UnifyFinds: loops · UnifyMost: loops · UnifyStores: loops · UnifyTurns: loops · MatchFinds: loops · MatchFills: loops · MatchBack: loops · MatchOrders: loops.
  DERIVED. THE GIVEN ROWS OF THIS SEAT. 12 by the template 'for every input the law returns true; each argument reads behind the call as it read before'; 0 by the template 'total and deterministic' (their statements: YtgnbjhiafjpokaaTotals.lean).
  GIVEN WITH THE SEED: the statements are not yours to turn. If you find one false, say at which input.
  Laid BY PROGRAM, IN A SANDBOX (cutbox-rows.mjs): the forced cells as the released guide's own fill.sh prints them over the translation 1b255f74c63bfb13… (all of the seat's roots in one cut). By AI agents, Wed Nov 11 2026. No macro, syntax, notation, axiom, sorry.
-/
import Derived.Test.YtgnbjhiafjpokaaChecked
import GoSem.Claim
import GoSem.ClaimJoined
import GoSem.ClaimMapViews
import Derived.JoinedTies
import Derived.KernelRfl
namespace Go.Proofs.Ytgnbjhiafjpokaa
/- THE CELL 'sum', in the pinned program and in every row, IS THE sha256 OF THE DUMP (.gsa) THAT YtgnbjhiafjpokaaProg.lean LOADS. Nothing in Lean hashes anything: it is a label: what it is worth is what the hold of that sum in a sandbox is worth. -/
noncomputable def Try.pinned : Pinned := { name := "ytgnbjhiafjpokaa", sum := "1b255f74c63bfb132e0e785a4fc5b567689b7053469f42471d94f230841d88dd", checked := Try.checked }
namespace Rows
def none {H : Type} : Left H := { results := [], args := [] }

/-- 'finiallaw03.SubstRights': WHATEVER THE INPUT: true; the input reads as it did. -/
def substRightsSpec : ChangeSpec := { name := "substRights", fn := fun _ => fun
  | [d1, d2] => { results := [.lit (.bool true)], args := [d1, d2] }
  | _ => none }
def substRightsRow : OpenClaim := { program := "ytgnbjhiafjpokaa", sum := "1b255f74c63bfb132e0e785a4fc5b567689b7053469f42471d94f230841d88dd", func := "finial/finiallaw03.SubstRights", spec := "substRights", unfollowed := true, recurses := true, loops := true, apart := false }
def SubstRightsSaid : Prop := substRightsRow.holds Try.pinned (OpenSpec.ofChange substRightsSpec)

/-- ITS FALSE NEIGHBOUR: 'it returns false'. Refute it at one input. -/
def substRightsWrong : ChangeSpec := { name := "substRights", fn := fun _ => fun
  | [d1, d2] => { results := [.lit (.bool false)], args := [d1, d2] }
  | _ => none }
def SubstRightsWrongFalsely : Prop := substRightsRow.holds Try.pinned (OpenSpec.ofChange substRightsWrong)

/-- 'finiallaw03.SubstApplies': WHATEVER THE INPUT: true; the input reads as it did. -/
def substAppliesSpec : ChangeSpec := { name := "substApplies", fn := fun _ => fun
  | [d1, d2] => { results := [.lit (.bool true)], args := [d1, d2] }
  | _ => none }
def substAppliesRow : OpenClaim := { program := "ytgnbjhiafjpokaa", sum := "1b255f74c63bfb132e0e785a4fc5b567689b7053469f42471d94f230841d88dd", func := "finial/finiallaw03.SubstApplies", spec := "substApplies", unfollowed := true, recurses := true, loops := true, apart := false }
def SubstAppliesSaid : Prop := substAppliesRow.holds Try.pinned (OpenSpec.ofChange substAppliesSpec)

/-- ITS FALSE NEIGHBOUR: 'it returns false'. Refute it at one input. -/
def substAppliesWrong : ChangeSpec := { name := "substApplies", fn := fun _ => fun
  | [d1, d2] => { results := [.lit (.bool false)], args := [d1, d2] }
  | _ => none }
def SubstAppliesWrongFalsely : Prop := substAppliesRow.holds Try.pinned (OpenSpec.ofChange substAppliesWrong)

/-- 'finiallaw03.SubstFlat': WHATEVER THE INPUT: true; the input reads as it did. -/
def substFlatSpec : ChangeSpec := { name := "substFlat", fn := fun _ => fun
  | [d1, d2] => { results := [.lit (.bool true)], args := [d1, d2] }
  | _ => none }
def substFlatRow : OpenClaim := { program := "ytgnbjhiafjpokaa", sum := "1b255f74c63bfb132e0e785a4fc5b567689b7053469f42471d94f230841d88dd", func := "finial/finiallaw03.SubstFlat", spec := "substFlat", unfollowed := true, recurses := true, loops := true, apart := false }
def SubstFlatSaid : Prop := substFlatRow.holds Try.pinned (OpenSpec.ofChange substFlatSpec)

/-- ITS FALSE NEIGHBOUR: 'it returns false'. Refute it at one input. -/
def substFlatWrong : ChangeSpec := { name := "substFlat", fn := fun _ => fun
  | [d1, d2] => { results := [.lit (.bool false)], args := [d1, d2] }
  | _ => none }
def SubstFlatWrongFalsely : Prop := substFlatRow.holds Try.pinned (OpenSpec.ofChange substFlatWrong)

/-- 'finiallaw03.SubstEnds': WHATEVER THE INPUT: true; the input reads as it did. -/
def substEndsSpec : ChangeSpec := { name := "substEnds", fn := fun _ => fun
  | [d1, d2] => { results := [.lit (.bool true)], args := [d1, d2] }
  | _ => none }
def substEndsRow : OpenClaim := { program := "ytgnbjhiafjpokaa", sum := "1b255f74c63bfb132e0e785a4fc5b567689b7053469f42471d94f230841d88dd", func := "finial/finiallaw03.SubstEnds", spec := "substEnds", unfollowed := true, recurses := true, loops := true, apart := false }
def SubstEndsSaid : Prop := substEndsRow.holds Try.pinned (OpenSpec.ofChange substEndsSpec)

/-- ITS FALSE NEIGHBOUR: 'it returns false'. Refute it at one input. -/
def substEndsWrong : ChangeSpec := { name := "substEnds", fn := fun _ => fun
  | [d1, d2] => { results := [.lit (.bool false)], args := [d1, d2] }
  | _ => none }
def SubstEndsWrongFalsely : Prop := substEndsRow.holds Try.pinned (OpenSpec.ofChange substEndsWrong)

/-- 'finiallaw04.UnifyFinds': WHATEVER THE INPUT: true; the input reads as it did. -/
def unifyFindsSpec : ChangeSpec := { name := "unifyFinds", fn := fun _ => fun
  | [d1, d2] => { results := [.lit (.bool true)], args := [d1, d2] }
  | _ => none }
def unifyFindsRow : OpenClaim := { program := "ytgnbjhiafjpokaa", sum := "1b255f74c63bfb132e0e785a4fc5b567689b7053469f42471d94f230841d88dd", func := "finial/finiallaw04.UnifyFinds", spec := "unifyFinds", unfollowed := true, recurses := true, loops := true, apart := false }
def UnifyFindsSaid : Prop := unifyFindsRow.holds Try.pinned (OpenSpec.ofChange unifyFindsSpec)

/-- ITS FALSE NEIGHBOUR: 'it returns false'. Refute it at one input. -/
def unifyFindsWrong : ChangeSpec := { name := "unifyFinds", fn := fun _ => fun
  | [d1, d2] => { results := [.lit (.bool false)], args := [d1, d2] }
  | _ => none }
def UnifyFindsWrongFalsely : Prop := unifyFindsRow.holds Try.pinned (OpenSpec.ofChange unifyFindsWrong)

/-- 'finiallaw04.UnifyMost': WHATEVER THE INPUT: true; the input reads as it did. -/
def unifyMostSpec : ChangeSpec := { name := "unifyMost", fn := fun _ => fun
  | [d1, d2, d3] => { results := [.lit (.bool true)], args := [d1, d2, d3] }
  | _ => none }
def unifyMostRow : OpenClaim := { program := "ytgnbjhiafjpokaa", sum := "1b255f74c63bfb132e0e785a4fc5b567689b7053469f42471d94f230841d88dd", func := "finial/finiallaw04.UnifyMost", spec := "unifyMost", unfollowed := true, recurses := true, loops := true, apart := false }
def UnifyMostSaid : Prop := unifyMostRow.holds Try.pinned (OpenSpec.ofChange unifyMostSpec)

/-- ITS FALSE NEIGHBOUR: 'it returns false'. Refute it at one input. -/
def unifyMostWrong : ChangeSpec := { name := "unifyMost", fn := fun _ => fun
  | [d1, d2, d3] => { results := [.lit (.bool false)], args := [d1, d2, d3] }
  | _ => none }
def UnifyMostWrongFalsely : Prop := unifyMostRow.holds Try.pinned (OpenSpec.ofChange unifyMostWrong)

/-- 'finiallaw04.UnifyStores': WHATEVER THE INPUT: true; the input reads as it did. -/
def unifyStoresSpec : ChangeSpec := { name := "unifyStores", fn := fun _ => fun
  | [d1, d2] => { results := [.lit (.bool true)], args := [d1, d2] }
  | _ => none }
def unifyStoresRow : OpenClaim := { program := "ytgnbjhiafjpokaa", sum := "1b255f74c63bfb132e0e785a4fc5b567689b7053469f42471d94f230841d88dd", func := "finial/finiallaw04.UnifyStores", spec := "unifyStores", unfollowed := true, recurses := true, loops := true, apart := false }
def UnifyStoresSaid : Prop := unifyStoresRow.holds Try.pinned (OpenSpec.ofChange unifyStoresSpec)

/-- ITS FALSE NEIGHBOUR: 'it returns false'. Refute it at one input. -/
def unifyStoresWrong : ChangeSpec := { name := "unifyStores", fn := fun _ => fun
  | [d1, d2] => { results := [.lit (.bool false)], args := [d1, d2] }
  | _ => none }
def UnifyStoresWrongFalsely : Prop := unifyStoresRow.holds Try.pinned (OpenSpec.ofChange unifyStoresWrong)

/-- 'finiallaw04.UnifyTurns': WHATEVER THE INPUT: true; the input reads as it did. -/
def unifyTurnsSpec : ChangeSpec := { name := "unifyTurns", fn := fun _ => fun
  | [d1, d2, d3] => { results := [.lit (.bool true)], args := [d1, d2, d3] }
  | _ => none }
def unifyTurnsRow : OpenClaim := { program := "ytgnbjhiafjpokaa", sum := "1b255f74c63bfb132e0e785a4fc5b567689b7053469f42471d94f230841d88dd", func := "finial/finiallaw04.UnifyTurns", spec := "unifyTurns", unfollowed := true, recurses := true, loops := true, apart := false }
def UnifyTurnsSaid : Prop := unifyTurnsRow.holds Try.pinned (OpenSpec.ofChange unifyTurnsSpec)

/-- ITS FALSE NEIGHBOUR: 'it returns false'. Refute it at one input. -/
def unifyTurnsWrong : ChangeSpec := { name := "unifyTurns", fn := fun _ => fun
  | [d1, d2, d3] => { results := [.lit (.bool false)], args := [d1, d2, d3] }
  | _ => none }
def UnifyTurnsWrongFalsely : Prop := unifyTurnsRow.holds Try.pinned (OpenSpec.ofChange unifyTurnsWrong)

/-- 'finiallaw05.MatchFinds': WHATEVER THE INPUT: true; the input reads as it did. -/
def matchFindsSpec : ChangeSpec := { name := "matchFinds", fn := fun _ => fun
  | [d1, d2] => { results := [.lit (.bool true)], args := [d1, d2] }
  | _ => none }
def matchFindsRow : OpenClaim := { program := "ytgnbjhiafjpokaa", sum := "1b255f74c63bfb132e0e785a4fc5b567689b7053469f42471d94f230841d88dd", func := "finial/finiallaw05.MatchFinds", spec := "matchFinds", unfollowed := true, recurses := true, loops := true, apart := false }
def MatchFindsSaid : Prop := matchFindsRow.holds Try.pinned (OpenSpec.ofChange matchFindsSpec)

/-- ITS FALSE NEIGHBOUR: 'it returns false'. Refute it at one input. -/
def matchFindsWrong : ChangeSpec := { name := "matchFinds", fn := fun _ => fun
  | [d1, d2] => { results := [.lit (.bool false)], args := [d1, d2] }
  | _ => none }
def MatchFindsWrongFalsely : Prop := matchFindsRow.holds Try.pinned (OpenSpec.ofChange matchFindsWrong)

/-- 'finiallaw05.MatchFills': WHATEVER THE INPUT: true; the input reads as it did. -/
def matchFillsSpec : ChangeSpec := { name := "matchFills", fn := fun _ => fun
  | [d1, d2] => { results := [.lit (.bool true)], args := [d1, d2] }
  | _ => none }
def matchFillsRow : OpenClaim := { program := "ytgnbjhiafjpokaa", sum := "1b255f74c63bfb132e0e785a4fc5b567689b7053469f42471d94f230841d88dd", func := "finial/finiallaw05.MatchFills", spec := "matchFills", unfollowed := true, recurses := true, loops := true, apart := false }
def MatchFillsSaid : Prop := matchFillsRow.holds Try.pinned (OpenSpec.ofChange matchFillsSpec)

/-- ITS FALSE NEIGHBOUR: 'it returns false'. Refute it at one input. -/
def matchFillsWrong : ChangeSpec := { name := "matchFills", fn := fun _ => fun
  | [d1, d2] => { results := [.lit (.bool false)], args := [d1, d2] }
  | _ => none }
def MatchFillsWrongFalsely : Prop := matchFillsRow.holds Try.pinned (OpenSpec.ofChange matchFillsWrong)

/-- 'finiallaw05.MatchBack': WHATEVER THE INPUT: true; the input reads as it did. -/
def matchBackSpec : ChangeSpec := { name := "matchBack", fn := fun _ => fun
  | [d1, d2] => { results := [.lit (.bool true)], args := [d1, d2] }
  | _ => none }
def matchBackRow : OpenClaim := { program := "ytgnbjhiafjpokaa", sum := "1b255f74c63bfb132e0e785a4fc5b567689b7053469f42471d94f230841d88dd", func := "finial/finiallaw05.MatchBack", spec := "matchBack", unfollowed := true, recurses := true, loops := true, apart := false }
def MatchBackSaid : Prop := matchBackRow.holds Try.pinned (OpenSpec.ofChange matchBackSpec)

/-- ITS FALSE NEIGHBOUR: 'it returns false'. Refute it at one input. -/
def matchBackWrong : ChangeSpec := { name := "matchBack", fn := fun _ => fun
  | [d1, d2] => { results := [.lit (.bool false)], args := [d1, d2] }
  | _ => none }
def MatchBackWrongFalsely : Prop := matchBackRow.holds Try.pinned (OpenSpec.ofChange matchBackWrong)

/-- 'finiallaw05.MatchOrders': WHATEVER THE INPUT: true; the input reads as it did. -/
def matchOrdersSpec : ChangeSpec := { name := "matchOrders", fn := fun _ => fun
  | [d1, d2, d3] => { results := [.lit (.bool true)], args := [d1, d2, d3] }
  | _ => none }
def matchOrdersRow : OpenClaim := { program := "ytgnbjhiafjpokaa", sum := "1b255f74c63bfb132e0e785a4fc5b567689b7053469f42471d94f230841d88dd", func := "finial/finiallaw05.MatchOrders", spec := "matchOrders", unfollowed := true, recurses := true, loops := true, apart := false }
def MatchOrdersSaid : Prop := matchOrdersRow.holds Try.pinned (OpenSpec.ofChange matchOrdersSpec)

/-- ITS FALSE NEIGHBOUR: 'it returns false'. Refute it at one input. -/
def matchOrdersWrong : ChangeSpec := { name := "matchOrders", fn := fun _ => fun
  | [d1, d2, d3] => { results := [.lit (.bool false)], args := [d1, d2, d3] }
  | _ => none }
def MatchOrdersWrongFalsely : Prop := matchOrdersRow.holds Try.pinned (OpenSpec.ofChange matchOrdersWrong)

/- THE SECOND FORM. 'bulk': how many values and letters a reading holds, each counted each time it is reached (what is shared counts as often as it is met; a slice's spare places count too). A statement '..UptoSaid' is the law's where the arguments, and the package variables that the reading takes, are together of bulk at most 1048576: NARROWER than '..Said'. Prove '..Said' where nothing that the law and all that it calls make is longer than what came in: it says more and counts as full. Else prove '..UptoSaid'. A law counts once. -/
mutual
def uptoBulk {H : Type} : DataW H → Nat
  | .lit (.string bytes) => bytes.length + 1
  | .lit _ => 1
  | .nil => 1
  | .ptr d => uptoBulk d + 1
  | .slice elems spare => uptoBulkAll elems + uptoBulkAll spare + 1
  | .agg parts => uptoBulkAll parts + 1
  | .iface _ d => uptoBulk d + 1
  | .map entries => uptoBulkEntries entries + 1
  | .held _ => 1
def uptoBulkAll {H : Type} : List (DataW H) → Nat
  | [] => 0
  | d :: r => uptoBulk d + uptoBulkAll r
def uptoBulkEntries {H : Type} : List (Lit × DataW H) → Nat
  | [] => 0
  | x :: r => uptoBulkEntry x + uptoBulkEntries r
def uptoBulkEntry {H : Type} : Lit × DataW H → Nat
  | (.string bytes, d) => bytes.length + uptoBulk d + 1
  | (_, d) => uptoBulk d + 1
 end
def uptoSmall : (H : Type) → List (DataW H) → Bool := fun _ ds => decide (uptoBulkAll ds ≤ 1048576)
def OpenSpec.upto (s : _root_.Go.ChangeSpec) : _root_.Go.OpenSpec := { _root_.Go.OpenSpec.ofChange s with cond := some uptoSmall }

/-- 'finiallaw03.SubstRights', WHERE WHAT IT READS IS OF BULK AT MOST 1048576: true; the input reads as it did. -/
def substRightsUptoRow : OpenClaim := { program := "ytgnbjhiafjpokaa", sum := "1b255f74c63bfb132e0e785a4fc5b567689b7053469f42471d94f230841d88dd", func := "finial/finiallaw03.SubstRights", spec := "substRights", unfollowed := true, recurses := true, loops := true, apart := false, narrowed := true }
def SubstRightsUptoSaid : Prop := substRightsUptoRow.holds Try.pinned (OpenSpec.upto substRightsSpec)

/-- 'finiallaw03.SubstApplies', WHERE WHAT IT READS IS OF BULK AT MOST 1048576: true; the input reads as it did. -/
def substAppliesUptoRow : OpenClaim := { program := "ytgnbjhiafjpokaa", sum := "1b255f74c63bfb132e0e785a4fc5b567689b7053469f42471d94f230841d88dd", func := "finial/finiallaw03.SubstApplies", spec := "substApplies", unfollowed := true, recurses := true, loops := true, apart := false, narrowed := true }
def SubstAppliesUptoSaid : Prop := substAppliesUptoRow.holds Try.pinned (OpenSpec.upto substAppliesSpec)

/-- 'finiallaw03.SubstFlat', WHERE WHAT IT READS IS OF BULK AT MOST 1048576: true; the input reads as it did. -/
def substFlatUptoRow : OpenClaim := { program := "ytgnbjhiafjpokaa", sum := "1b255f74c63bfb132e0e785a4fc5b567689b7053469f42471d94f230841d88dd", func := "finial/finiallaw03.SubstFlat", spec := "substFlat", unfollowed := true, recurses := true, loops := true, apart := false, narrowed := true }
def SubstFlatUptoSaid : Prop := substFlatUptoRow.holds Try.pinned (OpenSpec.upto substFlatSpec)

/-- 'finiallaw03.SubstEnds', WHERE WHAT IT READS IS OF BULK AT MOST 1048576: true; the input reads as it did. -/
def substEndsUptoRow : OpenClaim := { program := "ytgnbjhiafjpokaa", sum := "1b255f74c63bfb132e0e785a4fc5b567689b7053469f42471d94f230841d88dd", func := "finial/finiallaw03.SubstEnds", spec := "substEnds", unfollowed := true, recurses := true, loops := true, apart := false, narrowed := true }
def SubstEndsUptoSaid : Prop := substEndsUptoRow.holds Try.pinned (OpenSpec.upto substEndsSpec)

/-- 'finiallaw04.UnifyFinds', WHERE WHAT IT READS IS OF BULK AT MOST 1048576: true; the input reads as it did. -/
def unifyFindsUptoRow : OpenClaim := { program := "ytgnbjhiafjpokaa", sum := "1b255f74c63bfb132e0e785a4fc5b567689b7053469f42471d94f230841d88dd", func := "finial/finiallaw04.UnifyFinds", spec := "unifyFinds", unfollowed := true, recurses := true, loops := true, apart := false, narrowed := true }
def UnifyFindsUptoSaid : Prop := unifyFindsUptoRow.holds Try.pinned (OpenSpec.upto unifyFindsSpec)

/-- 'finiallaw04.UnifyMost', WHERE WHAT IT READS IS OF BULK AT MOST 1048576: true; the input reads as it did. -/
def unifyMostUptoRow : OpenClaim := { program := "ytgnbjhiafjpokaa", sum := "1b255f74c63bfb132e0e785a4fc5b567689b7053469f42471d94f230841d88dd", func := "finial/finiallaw04.UnifyMost", spec := "unifyMost", unfollowed := true, recurses := true, loops := true, apart := false, narrowed := true }
def UnifyMostUptoSaid : Prop := unifyMostUptoRow.holds Try.pinned (OpenSpec.upto unifyMostSpec)

/-- 'finiallaw04.UnifyStores', WHERE WHAT IT READS IS OF BULK AT MOST 1048576: true; the input reads as it did. -/
def unifyStoresUptoRow : OpenClaim := { program := "ytgnbjhiafjpokaa", sum := "1b255f74c63bfb132e0e785a4fc5b567689b7053469f42471d94f230841d88dd", func := "finial/finiallaw04.UnifyStores", spec := "unifyStores", unfollowed := true, recurses := true, loops := true, apart := false, narrowed := true }
def UnifyStoresUptoSaid : Prop := unifyStoresUptoRow.holds Try.pinned (OpenSpec.upto unifyStoresSpec)

/-- 'finiallaw04.UnifyTurns', WHERE WHAT IT READS IS OF BULK AT MOST 1048576: true; the input reads as it did. -/
def unifyTurnsUptoRow : OpenClaim := { program := "ytgnbjhiafjpokaa", sum := "1b255f74c63bfb132e0e785a4fc5b567689b7053469f42471d94f230841d88dd", func := "finial/finiallaw04.UnifyTurns", spec := "unifyTurns", unfollowed := true, recurses := true, loops := true, apart := false, narrowed := true }
def UnifyTurnsUptoSaid : Prop := unifyTurnsUptoRow.holds Try.pinned (OpenSpec.upto unifyTurnsSpec)

/-- 'finiallaw05.MatchFinds', WHERE WHAT IT READS IS OF BULK AT MOST 1048576: true; the input reads as it did. -/
def matchFindsUptoRow : OpenClaim := { program := "ytgnbjhiafjpokaa", sum := "1b255f74c63bfb132e0e785a4fc5b567689b7053469f42471d94f230841d88dd", func := "finial/finiallaw05.MatchFinds", spec := "matchFinds", unfollowed := true, recurses := true, loops := true, apart := false, narrowed := true }
def MatchFindsUptoSaid : Prop := matchFindsUptoRow.holds Try.pinned (OpenSpec.upto matchFindsSpec)

/-- 'finiallaw05.MatchFills', WHERE WHAT IT READS IS OF BULK AT MOST 1048576: true; the input reads as it did. -/
def matchFillsUptoRow : OpenClaim := { program := "ytgnbjhiafjpokaa", sum := "1b255f74c63bfb132e0e785a4fc5b567689b7053469f42471d94f230841d88dd", func := "finial/finiallaw05.MatchFills", spec := "matchFills", unfollowed := true, recurses := true, loops := true, apart := false, narrowed := true }
def MatchFillsUptoSaid : Prop := matchFillsUptoRow.holds Try.pinned (OpenSpec.upto matchFillsSpec)

/-- 'finiallaw05.MatchBack', WHERE WHAT IT READS IS OF BULK AT MOST 1048576: true; the input reads as it did. -/
def matchBackUptoRow : OpenClaim := { program := "ytgnbjhiafjpokaa", sum := "1b255f74c63bfb132e0e785a4fc5b567689b7053469f42471d94f230841d88dd", func := "finial/finiallaw05.MatchBack", spec := "matchBack", unfollowed := true, recurses := true, loops := true, apart := false, narrowed := true }
def MatchBackUptoSaid : Prop := matchBackUptoRow.holds Try.pinned (OpenSpec.upto matchBackSpec)

/-- 'finiallaw05.MatchOrders', WHERE WHAT IT READS IS OF BULK AT MOST 1048576: true; the input reads as it did. -/
def matchOrdersUptoRow : OpenClaim := { program := "ytgnbjhiafjpokaa", sum := "1b255f74c63bfb132e0e785a4fc5b567689b7053469f42471d94f230841d88dd", func := "finial/finiallaw05.MatchOrders", spec := "matchOrders", unfollowed := true, recurses := true, loops := true, apart := false, narrowed := true }
def MatchOrdersUptoSaid : Prop := matchOrdersUptoRow.holds Try.pinned (OpenSpec.upto matchOrdersSpec)

end Rows
end Go.Proofs.Ytgnbjhiafjpokaa
