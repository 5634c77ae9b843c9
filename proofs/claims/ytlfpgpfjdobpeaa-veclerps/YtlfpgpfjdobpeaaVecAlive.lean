/-
  The document's examples for layer 2 hold: 'alive' answers true.
-/
import Derived.Test.YtlfpgpfjdobpeaaVec2
import Derived.Test.YtlfpgpfjdobpeaaVec4
import Derived.Deep.DrawnRows
namespace Go.Proofs.Ytlfpgpfjdobpeaa
open Go.RowKit
attribute [local go_sem] eq3_run

theorem valive_any (w : World) : Calls Try.prog 9 #[] w fun e w' => e = .returned (.bool true) ∧ Gr w.heap.size w w' := by
  have e0 : sat (0 + sat (65536 * 2 / 65536)) = 2 := by decide
  have e1 : sat (0 + sat (0 * 2 / 65536)) = 0 := by decide
  have e2 : sat (0 + sat (-1 * 2 / 65536)) = -1 := by decide
  have n1 : nearB 1 2 3 1 2 5 1 = false := by decide
  have n2 : nearB 1 2 3 1 2 4 1 = true := by decide
  go_enter Try.func9, Try.ntmps9
  go_wp2_with fail
  refine (vgo_any 0 0 0 65536 0 (-1) 2 (by unfold R64; omega) (by unfold R64; omega) (by unfold R64; omega) (by unfold R64; omega) (by unfold R64; omega) (by unfold R64; omega) (by unfold R64; omega) _).mono ?_; rw [e0, e1, e2]; rintro e w1 ⟨rfl, g1⟩
  go_wp2_with fail
  refine (vnear_any 1 2 3 1 2 5 1 (by unfold R64; omega) (by unfold R64; omega) (by unfold R64; omega) (by unfold R64; omega) (by unfold R64; omega) (by unfold R64; omega) (by unfold R64; omega) _).mono ?_; rw [n1]; rintro e w2 ⟨rfl, g2⟩
  go_wp2_with fail
  refine (vnear_any 1 2 3 1 2 4 1 (by unfold R64; omega) (by unfold R64; omega) (by unfold R64; omega) (by unfold R64; omega) (by unfold R64; omega) (by unfold R64; omega) (by unfold R64; omega) _).mono ?_; rw [n2]; rintro e w3 ⟨rfl, g3⟩
  go_wp2_with fail
  go_ret
  exact ⟨rfl, (g1.then g2).then g3⟩
end Go.Proofs.Ytlfpgpfjdobpeaa
