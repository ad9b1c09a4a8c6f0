/-
  NARROWER THAN 'FOR EVERY INPUT', by the rows' own cells (each row's printed sentence says how): SubstRights: loops · SubstApplies: loops · SubstFlat: loops · SubstEnds: loops · MatchFinds: loops · MatchOrders: loops · EmbedTells: loops · EmbedOrders: loops · EmbedGrows: loops.
  DERIVED. THE GIVEN ROWS OF THIS SEAT. 9 by the template 'for every input the law returns true; each argument reads behind the call as it read before'; 0 by the template 'total and deterministic' (their statements: YtomdccejgmhfoaaTotals.lean).
  GIVEN WITH THE SEED: the statements are not yours to turn. If you find one false, say at which input.
  Laid BY PROGRAM, IN A SANDBOX (cutbox-rows.mjs): the forced cells as the released guide's own fill.sh prints them over the translation e3982b934990aa80… (all of the seat's roots in one cut). By AI agents, Wed Nov 11 2026. No macro, syntax, notation, axiom, sorry.
-/
import Derived.Test.YtomdccejgmhfoaaChecked
import GoSem.Claim
import GoSem.ClaimJoined
import GoSem.ClaimMapViews
import Derived.JoinedTies
import Derived.KernelRfl
namespace Go.Proofs.Ytomdccejgmhfoaa
/- THE CELL 'sum', in the pinned program and in every row, IS THE sha256 OF THE DUMP (.gsa) THAT YtomdccejgmhfoaaProg.lean LOADS. Nothing in Lean hashes anything: it is a label: what it is worth is what the hold of that sum in a sandbox is worth. -/
noncomputable def Try.pinned : Pinned := { name := "ytomdccejgmhfoaa", sum := "e3982b934990aa80ee4b98c3842a3e79ae97c0421deb9ee58976803fbbef6933", checked := Try.checked }
namespace Rows
def none {H : Type} : Left H := { results := [], args := [] }

/-- 'finiallaw03.SubstRights': WHATEVER THE INPUT: true; the input reads as it did. -/
def substRightsSpec : ChangeSpec := { name := "substRights", fn := fun _ => fun
  | [d1, d2] => { results := [.lit (.bool true)], args := [d1, d2] }
  | _ => none }
def substRightsRow : OpenClaim := { program := "ytomdccejgmhfoaa", sum := "e3982b934990aa80ee4b98c3842a3e79ae97c0421deb9ee58976803fbbef6933", func := "finial/finiallaw03.SubstRights", spec := "substRights", unfollowed := true, recurses := true, loops := true, apart := false }
def SubstRightsSaid : Prop := substRightsRow.holds Try.pinned (OpenSpec.ofChange substRightsSpec)

/-- ITS FALSE NEIGHBOUR: 'it returns false'. Refute it at one input. -/
def substRightsWrong : ChangeSpec := { name := "substRights", fn := fun _ => fun
  | [d1, d2] => { results := [.lit (.bool false)], args := [d1, d2] }
  | _ => none }
def SubstRightsWrongFalsely : Prop := substRightsRow.holds Try.pinned (OpenSpec.ofChange substRightsWrong)

/-- 'finiallaw03.SubstApplies': WHATEVER THE INPUT: true; the input reads as it did. -/
def substAppliesSpec : ChangeSpec := { name := "substApplies", fn := fun _ => fun
  | [d1, d2] => { results := [.lit (.bool true)], args := [d1, d2] }
  | _ => none }
def substAppliesRow : OpenClaim := { program := "ytomdccejgmhfoaa", sum := "e3982b934990aa80ee4b98c3842a3e79ae97c0421deb9ee58976803fbbef6933", func := "finial/finiallaw03.SubstApplies", spec := "substApplies", unfollowed := true, recurses := true, loops := true, apart := false }
def SubstAppliesSaid : Prop := substAppliesRow.holds Try.pinned (OpenSpec.ofChange substAppliesSpec)

/-- ITS FALSE NEIGHBOUR: 'it returns false'. Refute it at one input. -/
def substAppliesWrong : ChangeSpec := { name := "substApplies", fn := fun _ => fun
  | [d1, d2] => { results := [.lit (.bool false)], args := [d1, d2] }
  | _ => none }
def SubstAppliesWrongFalsely : Prop := substAppliesRow.holds Try.pinned (OpenSpec.ofChange substAppliesWrong)

/-- 'finiallaw03.SubstFlat': WHATEVER THE INPUT: true; the input reads as it did. -/
def substFlatSpec : ChangeSpec := { name := "substFlat", fn := fun _ => fun
  | [d1, d2] => { results := [.lit (.bool true)], args := [d1, d2] }
  | _ => none }
def substFlatRow : OpenClaim := { program := "ytomdccejgmhfoaa", sum := "e3982b934990aa80ee4b98c3842a3e79ae97c0421deb9ee58976803fbbef6933", func := "finial/finiallaw03.SubstFlat", spec := "substFlat", unfollowed := true, recurses := true, loops := true, apart := false }
def SubstFlatSaid : Prop := substFlatRow.holds Try.pinned (OpenSpec.ofChange substFlatSpec)

/-- ITS FALSE NEIGHBOUR: 'it returns false'. Refute it at one input. -/
def substFlatWrong : ChangeSpec := { name := "substFlat", fn := fun _ => fun
  | [d1, d2] => { results := [.lit (.bool false)], args := [d1, d2] }
  | _ => none }
def SubstFlatWrongFalsely : Prop := substFlatRow.holds Try.pinned (OpenSpec.ofChange substFlatWrong)

/-- 'finiallaw03.SubstEnds': WHATEVER THE INPUT: true; the input reads as it did. -/
def substEndsSpec : ChangeSpec := { name := "substEnds", fn := fun _ => fun
  | [d1, d2] => { results := [.lit (.bool true)], args := [d1, d2] }
  | _ => none }
def substEndsRow : OpenClaim := { program := "ytomdccejgmhfoaa", sum := "e3982b934990aa80ee4b98c3842a3e79ae97c0421deb9ee58976803fbbef6933", func := "finial/finiallaw03.SubstEnds", spec := "substEnds", unfollowed := true, recurses := true, loops := true, apart := false }
def SubstEndsSaid : Prop := substEndsRow.holds Try.pinned (OpenSpec.ofChange substEndsSpec)

/-- ITS FALSE NEIGHBOUR: 'it returns false'. Refute it at one input. -/
def substEndsWrong : ChangeSpec := { name := "substEnds", fn := fun _ => fun
  | [d1, d2] => { results := [.lit (.bool false)], args := [d1, d2] }
  | _ => none }
def SubstEndsWrongFalsely : Prop := substEndsRow.holds Try.pinned (OpenSpec.ofChange substEndsWrong)

/-- 'finiallaw05.MatchFinds': WHATEVER THE INPUT: true; the input reads as it did. -/
def matchFindsSpec : ChangeSpec := { name := "matchFinds", fn := fun _ => fun
  | [d1, d2] => { results := [.lit (.bool true)], args := [d1, d2] }
  | _ => none }
def matchFindsRow : OpenClaim := { program := "ytomdccejgmhfoaa", sum := "e3982b934990aa80ee4b98c3842a3e79ae97c0421deb9ee58976803fbbef6933", func := "finial/finiallaw05.MatchFinds", spec := "matchFinds", unfollowed := true, recurses := true, loops := true, apart := false }
def MatchFindsSaid : Prop := matchFindsRow.holds Try.pinned (OpenSpec.ofChange matchFindsSpec)

/-- ITS FALSE NEIGHBOUR: 'it returns false'. Refute it at one input. -/
def matchFindsWrong : ChangeSpec := { name := "matchFinds", fn := fun _ => fun
  | [d1, d2] => { results := [.lit (.bool false)], args := [d1, d2] }
  | _ => none }
def MatchFindsWrongFalsely : Prop := matchFindsRow.holds Try.pinned (OpenSpec.ofChange matchFindsWrong)

/-- 'finiallaw05.MatchOrders': WHATEVER THE INPUT: true; the input reads as it did. -/
def matchOrdersSpec : ChangeSpec := { name := "matchOrders", fn := fun _ => fun
  | [d1, d2, d3] => { results := [.lit (.bool true)], args := [d1, d2, d3] }
  | _ => none }
def matchOrdersRow : OpenClaim := { program := "ytomdccejgmhfoaa", sum := "e3982b934990aa80ee4b98c3842a3e79ae97c0421deb9ee58976803fbbef6933", func := "finial/finiallaw05.MatchOrders", spec := "matchOrders", unfollowed := true, recurses := true, loops := true, apart := false }
def MatchOrdersSaid : Prop := matchOrdersRow.holds Try.pinned (OpenSpec.ofChange matchOrdersSpec)

/-- ITS FALSE NEIGHBOUR: 'it returns false'. Refute it at one input. -/
def matchOrdersWrong : ChangeSpec := { name := "matchOrders", fn := fun _ => fun
  | [d1, d2, d3] => { results := [.lit (.bool false)], args := [d1, d2, d3] }
  | _ => none }
def MatchOrdersWrongFalsely : Prop := matchOrdersRow.holds Try.pinned (OpenSpec.ofChange matchOrdersWrong)

/-- 'finiallaw07.EmbedTells': WHATEVER THE INPUT: true; the input reads as it did. -/
def embedTellsSpec : ChangeSpec := { name := "embedTells", fn := fun _ => fun
  | [d1, d2] => { results := [.lit (.bool true)], args := [d1, d2] }
  | _ => none }
def embedTellsRow : OpenClaim := { program := "ytomdccejgmhfoaa", sum := "e3982b934990aa80ee4b98c3842a3e79ae97c0421deb9ee58976803fbbef6933", func := "finial/finiallaw07.EmbedTells", spec := "embedTells", unfollowed := true, recurses := true, loops := true, apart := false }
def EmbedTellsSaid : Prop := embedTellsRow.holds Try.pinned (OpenSpec.ofChange embedTellsSpec)

/-- ITS FALSE NEIGHBOUR: 'it returns false'. Refute it at one input. -/
def embedTellsWrong : ChangeSpec := { name := "embedTells", fn := fun _ => fun
  | [d1, d2] => { results := [.lit (.bool false)], args := [d1, d2] }
  | _ => none }
def EmbedTellsWrongFalsely : Prop := embedTellsRow.holds Try.pinned (OpenSpec.ofChange embedTellsWrong)

/-- 'finiallaw07.EmbedOrders': WHATEVER THE INPUT: true; the input reads as it did. -/
def embedOrdersSpec : ChangeSpec := { name := "embedOrders", fn := fun _ => fun
  | [d1, d2, d3] => { results := [.lit (.bool true)], args := [d1, d2, d3] }
  | _ => none }
def embedOrdersRow : OpenClaim := { program := "ytomdccejgmhfoaa", sum := "e3982b934990aa80ee4b98c3842a3e79ae97c0421deb9ee58976803fbbef6933", func := "finial/finiallaw07.EmbedOrders", spec := "embedOrders", unfollowed := true, recurses := true, loops := true, apart := false }
def EmbedOrdersSaid : Prop := embedOrdersRow.holds Try.pinned (OpenSpec.ofChange embedOrdersSpec)

/-- ITS FALSE NEIGHBOUR: 'it returns false'. Refute it at one input. -/
def embedOrdersWrong : ChangeSpec := { name := "embedOrders", fn := fun _ => fun
  | [d1, d2, d3] => { results := [.lit (.bool false)], args := [d1, d2, d3] }
  | _ => none }
def EmbedOrdersWrongFalsely : Prop := embedOrdersRow.holds Try.pinned (OpenSpec.ofChange embedOrdersWrong)

/-- 'finiallaw07.EmbedGrows': WHATEVER THE INPUT: true; the input reads as it did. -/
def embedGrowsSpec : ChangeSpec := { name := "embedGrows", fn := fun _ => fun
  | [d1, d2] => { results := [.lit (.bool true)], args := [d1, d2] }
  | _ => none }
def embedGrowsRow : OpenClaim := { program := "ytomdccejgmhfoaa", sum := "e3982b934990aa80ee4b98c3842a3e79ae97c0421deb9ee58976803fbbef6933", func := "finial/finiallaw07.EmbedGrows", spec := "embedGrows", unfollowed := true, recurses := true, loops := true, apart := false }
def EmbedGrowsSaid : Prop := embedGrowsRow.holds Try.pinned (OpenSpec.ofChange embedGrowsSpec)

/-- ITS FALSE NEIGHBOUR: 'it returns false'. Refute it at one input. -/
def embedGrowsWrong : ChangeSpec := { name := "embedGrows", fn := fun _ => fun
  | [d1, d2] => { results := [.lit (.bool false)], args := [d1, d2] }
  | _ => none }
def EmbedGrowsWrongFalsely : Prop := embedGrowsRow.holds Try.pinned (OpenSpec.ofChange embedGrowsWrong)

/- THE SECOND FORM. 'bulk': how many values and letters a reading holds, each counted each time it is reached (what is shared counts as often as it is met; a slice's spare places count too). A statement '..UptoSaid' is the law's where the arguments, and the package variables that the reading takes, are together of bulk at most 1048576: NARROWER than '..Said'. Prove '..Said' where nothing that the law and all that it calls make is longer than what came in: it says more and counts as full. Else prove '..UptoSaid'. A law counts once. -/
mutual
def uptoBulk {H : Type} : DataW H → Nat
  | .lit (.string bytes) => bytes.length + 1
  | .lit _ => 1
  | .nil => 1
  | .ptr d => uptoBulk d + 1
  | .slice elems spare => uptoBulkAll elems + uptoBulkAll spare + 1
  | .agg parts => uptoBulkAll parts + 1
  | .iface _ d => uptoBulk d + 1
  | .map entries => uptoBulkEntries entries + 1
  | .held _ => 1
def uptoBulkAll {H : Type} : List (DataW H) → Nat
  | [] => 0
  | d :: r => uptoBulk d + uptoBulkAll r
def uptoBulkEntries {H : Type} : List (Lit × DataW H) → Nat
  | [] => 0
  | x :: r => uptoBulkEntry x + uptoBulkEntries r
def uptoBulkEntry {H : Type} : Lit × DataW H → Nat
  | (.string bytes, d) => bytes.length + uptoBulk d + 1
  | (_, d) => uptoBulk d + 1
 end
def uptoSmall : (H : Type) → List (DataW H) → Bool := fun _ ds => decide (uptoBulkAll ds ≤ 1048576)
def OpenSpec.upto (s : _root_.Go.ChangeSpec) : _root_.Go.OpenSpec := { _root_.Go.OpenSpec.ofChange s with cond := some uptoSmall }

/-- 'finiallaw03.SubstRights', WHERE WHAT IT READS IS OF BULK AT MOST 1048576: true; the input reads as it did. -/
def substRightsUptoRow : OpenClaim := { program := "ytomdccejgmhfoaa", sum := "e3982b934990aa80ee4b98c3842a3e79ae97c0421deb9ee58976803fbbef6933", func := "finial/finiallaw03.SubstRights", spec := "substRights", unfollowed := true, recurses := true, loops := true, apart := false, narrowed := true }
def SubstRightsUptoSaid : Prop := substRightsUptoRow.holds Try.pinned (OpenSpec.upto substRightsSpec)

/-- 'finiallaw03.SubstApplies', WHERE WHAT IT READS IS OF BULK AT MOST 1048576: true; the input reads as it did. -/
def substAppliesUptoRow : OpenClaim := { program := "ytomdccejgmhfoaa", sum := "e3982b934990aa80ee4b98c3842a3e79ae97c0421deb9ee58976803fbbef6933", func := "finial/finiallaw03.SubstApplies", spec := "substApplies", unfollowed := true, recurses := true, loops := true, apart := false, narrowed := true }
def SubstAppliesUptoSaid : Prop := substAppliesUptoRow.holds Try.pinned (OpenSpec.upto substAppliesSpec)

/-- 'finiallaw03.SubstFlat', WHERE WHAT IT READS IS OF BULK AT MOST 1048576: true; the input reads as it did. -/
def substFlatUptoRow : OpenClaim := { program := "ytomdccejgmhfoaa", sum := "e3982b934990aa80ee4b98c3842a3e79ae97c0421deb9ee58976803fbbef6933", func := "finial/finiallaw03.SubstFlat", spec := "substFlat", unfollowed := true, recurses := true, loops := true, apart := false, narrowed := true }
def SubstFlatUptoSaid : Prop := substFlatUptoRow.holds Try.pinned (OpenSpec.upto substFlatSpec)

/-- 'finiallaw03.SubstEnds', WHERE WHAT IT READS IS OF BULK AT MOST 1048576: true; the input reads as it did. -/
def substEndsUptoRow : OpenClaim := { program := "ytomdccejgmhfoaa", sum := "e3982b934990aa80ee4b98c3842a3e79ae97c0421deb9ee58976803fbbef6933", func := "finial/finiallaw03.SubstEnds", spec := "substEnds", unfollowed := true, recurses := true, loops := true, apart := false, narrowed := true }
def SubstEndsUptoSaid : Prop := substEndsUptoRow.holds Try.pinned (OpenSpec.upto substEndsSpec)

/-- 'finiallaw05.MatchFinds', WHERE WHAT IT READS IS OF BULK AT MOST 1048576: true; the input reads as it did. -/
def matchFindsUptoRow : OpenClaim := { program := "ytomdccejgmhfoaa", sum := "e3982b934990aa80ee4b98c3842a3e79ae97c0421deb9ee58976803fbbef6933", func := "finial/finiallaw05.MatchFinds", spec := "matchFinds", unfollowed := true, recurses := true, loops := true, apart := false, narrowed := true }
def MatchFindsUptoSaid : Prop := matchFindsUptoRow.holds Try.pinned (OpenSpec.upto matchFindsSpec)

/-- 'finiallaw05.MatchOrders', WHERE WHAT IT READS IS OF BULK AT MOST 1048576: true; the input reads as it did. -/
def matchOrdersUptoRow : OpenClaim := { program := "ytomdccejgmhfoaa", sum := "e3982b934990aa80ee4b98c3842a3e79ae97c0421deb9ee58976803fbbef6933", func := "finial/finiallaw05.MatchOrders", spec := "matchOrders", unfollowed := true, recurses := true, loops := true, apart := false, narrowed := true }
def MatchOrdersUptoSaid : Prop := matchOrdersUptoRow.holds Try.pinned (OpenSpec.upto matchOrdersSpec)

/-- 'finiallaw07.EmbedTells', WHERE WHAT IT READS IS OF BULK AT MOST 1048576: true; the input reads as it did. -/
def embedTellsUptoRow : OpenClaim := { program := "ytomdccejgmhfoaa", sum := "e3982b934990aa80ee4b98c3842a3e79ae97c0421deb9ee58976803fbbef6933", func := "finial/finiallaw07.EmbedTells", spec := "embedTells", unfollowed := true, recurses := true, loops := true, apart := false, narrowed := true }
def EmbedTellsUptoSaid : Prop := embedTellsUptoRow.holds Try.pinned (OpenSpec.upto embedTellsSpec)

/-- 'finiallaw07.EmbedOrders', WHERE WHAT IT READS IS OF BULK AT MOST 1048576: true; the input reads as it did. -/
def embedOrdersUptoRow : OpenClaim := { program := "ytomdccejgmhfoaa", sum := "e3982b934990aa80ee4b98c3842a3e79ae97c0421deb9ee58976803fbbef6933", func := "finial/finiallaw07.EmbedOrders", spec := "embedOrders", unfollowed := true, recurses := true, loops := true, apart := false, narrowed := true }
def EmbedOrdersUptoSaid : Prop := embedOrdersUptoRow.holds Try.pinned (OpenSpec.upto embedOrdersSpec)

/-- 'finiallaw07.EmbedGrows', WHERE WHAT IT READS IS OF BULK AT MOST 1048576: true; the input reads as it did. -/
def embedGrowsUptoRow : OpenClaim := { program := "ytomdccejgmhfoaa", sum := "e3982b934990aa80ee4b98c3842a3e79ae97c0421deb9ee58976803fbbef6933", func := "finial/finiallaw07.EmbedGrows", spec := "embedGrows", unfollowed := true, recurses := true, loops := true, apart := false, narrowed := true }
def EmbedGrowsUptoSaid : Prop := embedGrowsUptoRow.holds Try.pinned (OpenSpec.upto embedGrowsSpec)

end Rows
end Go.Proofs.Ytomdccejgmhfoaa
