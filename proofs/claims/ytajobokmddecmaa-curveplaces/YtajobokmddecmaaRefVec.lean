/-
  The document's answers for layer 2 (afterimageref02), walked: Add, Sub, Scale, Lerp, Clamp, Go.
-/
import Derived.Test.YtajobokmddecmaaBlk
import Derived.Test.YtajobokmddecmaaRefAdds
import Derived.Test.YtajobokmddecmaaRefMul
import Derived.Test.YtajobokmddecmaaRefPart
import Derived.Test.YtajobokmddecmaaRefClamp
import Derived.Deep.DrawnRows
namespace Go.Proofs.Ytajobokmddecmaa
open Go.RowKit
attribute [local go_sem ↓] Go.wp_at_zero Go.wp_at_succ

end Go.Proofs.Ytajobokmddecmaa
