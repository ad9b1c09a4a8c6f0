/-
  The law over the program's own Tokens.
-/
import Derived.Test.YtlildhacfimaaaaDoorLpI
import Derived.Test.YtlildhacfimaaaaDoorLxQ
namespace Go.Proofs.YtlildhacfimaaaaDoor
open Go.RowKit

theorem lcutsp_any (s : ByteArray) (w : World) (hr : Rng w) : Calls Tryd.prog 3 #[.string s] w fun e w' => e = .returned (.bool true) ∧ Below w.heap.size w w' := lcuts_any lex_tokens s w hr
end Go.Proofs.YtlildhacfimaaaaDoor
