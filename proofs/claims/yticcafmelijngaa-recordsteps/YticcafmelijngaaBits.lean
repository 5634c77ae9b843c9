/-
  math/bits at this seat: Add64, Sub64 (the model's own entries), Mul64 (Go's text, walked).
-/
import Derived.Test.YticcafmelijngaaBase
import Derived.Test.YticcafmelijngaaMath2
import Derived.Lib.Mul64
import Derived.Laws.Bits64b
namespace Go.Proofs.Yticcafmelijngaa
open Go.RowKit

end Go.Proofs.Yticcafmelijngaa
