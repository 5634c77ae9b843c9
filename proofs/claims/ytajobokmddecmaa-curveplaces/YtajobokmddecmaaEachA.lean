/-
  Layer 2 (vec): the generic function over arrays of three, at its four instances: whatever is done with each number.
-/
import Derived.Test.YtajobokmddecmaaBlk
import Derived.Handy
import Derived.Deep.DrawnRows
namespace Go.Proofs.Ytajobokmddecmaa
open Go.RowKit
attribute [local go_sem ↓] Go.wp_at_zero Go.wp_at_succ

end Go.Proofs.Ytajobokmddecmaa
