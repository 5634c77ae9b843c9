/-
  Layer 2 (vec), walked: Add, Sub, Scale, Go.
-/
import Derived.Test.YtajobokmddecmaaEach
import Derived.Test.YtajobokmddecmaaAlive
namespace Go.Proofs.Ytajobokmddecmaa
open Go.RowKit

theorem Gr.step {N : Nat} {w u u' : World} (h : Gr w.heap.size w u) (hN : w.heap.size ≤ N) (k : Gr N u u') : Gr w.heap.size w u' := h.trans (k.mono hN)

end Go.Proofs.Ytajobokmddecmaa
