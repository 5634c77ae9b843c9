/-
  Layer 11 (ring): slices.Insert and slices.Delete of rings' rows, for things of three kinds (written by tools/rg4.py).
-/
import Derived.Test.YthkffclligcdnaaRg3
namespace Go.Proofs.Ythkffclligcdnaa
open Go.RowKit
set_option linter.unusedVariables false
set_option maxRecDepth 20000
end Go.Proofs.Ythkffclligcdnaa
