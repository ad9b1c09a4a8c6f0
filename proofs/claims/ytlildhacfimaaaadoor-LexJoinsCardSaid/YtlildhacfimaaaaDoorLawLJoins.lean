/-
  The law over the program's own Tokens.
-/
import Derived.Test.YtlildhacfimaaaaDoorLpI
import Derived.Test.YtlildhacfimaaaaDoorLxU
namespace Go.Proofs.YtlildhacfimaaaaDoor
open Go.RowKit

theorem ljoinsp_any (a b : ByteArray) (w : World) (hr : Rng w) : Calls Tryd.prog 4 #[.string a, .string b] w fun e w' => e = .returned (.bool true) ∧ Below w.heap.size w w' := ljoins_any lex_tokens a b w hr
end Go.Proofs.YtlildhacfimaaaaDoor
