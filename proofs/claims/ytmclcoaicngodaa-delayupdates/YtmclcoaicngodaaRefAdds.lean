/-
  The document's answer for sums (afterimageref01), walked: Add, Sub, Neg.
-/
import Derived.Test.YtmclcoaicngodaaAlive
namespace Go.Proofs.Ytmclcoaicngodaa
open Go.RowKit

theorem refAdd_any (a b : Int) (ha : R64 a) (hb : R64 b) (w : World) :
    Calls Try.prog 23 #[.int .i64 a, .int .i64 b] w fun e w' => e = .returned (.int .i64 (sat (a + b))) ∧ w' = w := by
  unfold R64 at ha hb
  obtain ⟨a1, a2⟩ := ha
  obtain ⟨b1, b2⟩ := hb
  go_enter Try.func23, Try.ntmps23
  go_wp2
  all_goals (go_ret; refine ⟨ret_int ?_, rfl⟩; simp only [sat] at *; split <;> (try split) <;> omega)
end Go.Proofs.Ytmclcoaicngodaa
