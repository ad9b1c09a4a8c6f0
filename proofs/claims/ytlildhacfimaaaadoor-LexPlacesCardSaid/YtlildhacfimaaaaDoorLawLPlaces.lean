/-
  The law over the program's own Tokens.
-/
import Derived.Test.YtlildhacfimaaaaDoorLpI
import Derived.Test.YtlildhacfimaaaaDoorLxV
namespace Go.Proofs.YtlildhacfimaaaaDoor
open Go.RowKit

theorem lplacesp_any (s : ByteArray) (w : World) (hr : Rng w) : Calls Tryd.prog 5 #[.string s] w fun e w' => e = .returned (.bool true) ∧ Below w.heap.size w w' := lplaces_any lex_tokens s w hr
end Go.Proofs.YtlildhacfimaaaaDoor
