/-
  Layer 5 (varint): Get, by the document.
-/
import Derived.Test.YticcafmelijngaaVint4
namespace Go.Proofs.Yticcafmelijngaa
open Go.RowKit
set_option linter.unusedVariables false
end Go.Proofs.Yticcafmelijngaa
