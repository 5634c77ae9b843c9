/-
  math/bits at this seat: Add64, Sub64 (the model's own entries), Mul64 (Go's text, walked).
-/
import Derived.Test.YtjjaodlgnoiheaaBase
import Derived.Test.YtjjaodlgnoiheaaMath2
import Derived.Lib.Mul64
import Derived.Laws.Bits64b
namespace Go.Proofs.Ytjjaodlgnoiheaa
open Go.RowKit

end Go.Proofs.Ytjjaodlgnoiheaa
