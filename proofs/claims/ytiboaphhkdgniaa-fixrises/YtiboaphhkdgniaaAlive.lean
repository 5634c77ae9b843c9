/-
  The document's examples hold: 'alive' answers true.
-/
import Derived.Test.YtiboaphhkdgniaaLerp
import Derived.OpenShut
namespace Go.Proofs.Ytiboaphhkdgniaa
open Go.RowKit

theorem alive_any (w : World) : Calls Try.prog 13 #[] w fun e w' => e = .returned (.bool true) ∧ Gr w.heap.size w w' := by
  have r0 : R64 0 := by unfold R64; omega
  have r1 : R64 10 := by unfold R64; omega
  have e1 : lerpI 0 10 1 3 = 3 := by decide
  have e2 : lerpI 10 0 1 3 = 6 := by decide
  have e3 : sat (98304 * -32768 / 65536) = -49152 := by decide
  have e4 : sat (-1 * 1 / 65536) = -1 := by decide
  go_enter Try.func13, Try.ntmps13
  go_wp2_with fail
  refine (lerp_any 0 10 1 3 r0 r1 (by decide) _).mono ?_; rw [e1]; rintro e w1 ⟨rfl, g1⟩
  go_wp2_with fail
  refine (lerp_any 10 0 1 3 r1 r0 (by decide) _).mono ?_; rw [e2]; rintro e w2 ⟨rfl, g2⟩
  go_wp2_with fail
  refine (mul_any 98304 (-32768) (by unfold R64; omega) (by unfold R64; omega) _).mono ?_; rw [e3]; rintro e w3 ⟨rfl, g3⟩
  go_wp2_with fail
  refine (mul_any (-1) 1 (by unfold R64; omega) (by unfold R64; omega) _).mono ?_; rw [e4]; rintro e w4 ⟨rfl, g4⟩
  go_wp2_with fail
  go_ret
  exact ⟨rfl, ((g1.then g2).then g3).then g4⟩

theorem wf_R64 {x : Int} (h : (Lit.int .i64 x).wf = true) : R64 x := by
  have := bounds_i64 h; unfold R64; omega
theorem Gr.grown {w w' : World} (h : Gr w.heap.size w w') : Grown w w' := ⟨h.below.frame _, h.froz, h.below.size⟩
end Go.Proofs.Ytiboaphhkdgniaa
