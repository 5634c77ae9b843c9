/-
  The document's examples hold: 'alive' answers true.
-/
import Derived.Test.YtmclcoaicngodaaLerp
import Derived.OpenShut
namespace Go.Proofs.Ytmclcoaicngodaa
open Go.RowKit

theorem wf_R64 {x : Int} (h : (Lit.int .i64 x).wf = true) : R64 x := by
  have := bounds_i64 h; unfold R64; omega
theorem Gr.grown {w w' : World} (h : Gr w.heap.size w w') : Grown w w' := ⟨h.below.frame _, h.froz, h.below.size⟩
end Go.Proofs.Ytmclcoaicngodaa
