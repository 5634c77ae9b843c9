/-
  The document's answer for what is kept between (afterimageref01), walked: Clamp.
-/
import Derived.Test.YtmclcoaicngodaaAlive
namespace Go.Proofs.Ytmclcoaicngodaa
open Go.RowKit

theorem refClamp_le (x a b : Int) (h : a ≤ b) (w : World) :
    Calls Try.prog 22 #[.int .i64 x, .int .i64 a, .int .i64 b] w fun e w' => e = .returned (.int .i64 (clampI x a b)) ∧ w' = w := by
  go_enter Try.func22, Try.ntmps22
  go_wp2_with fail
  all_goals (go_ret; exact ⟨ret_int (by unfold clampI; omega), rfl⟩)
theorem refClamp_any (x a b : Int) (w : World) :
    Calls Try.prog 22 #[.int .i64 x, .int .i64 a, .int .i64 b] w fun e w' => e = .returned (.int .i64 (clampI x a b)) ∧ w' = w := by
  by_cases h : a ≤ b
  · exact refClamp_le x a b h w
  · have h' : b < a := by omega
    go_enter Try.func22, Try.ntmps22
    go_wp2_with fail
    refine (refClamp_le x b a (by omega) _).mono ?_; rintro e w1 ⟨rfl, rfl⟩
    go_wp2_with fail
    go_ret
    exact ⟨ret_int (by unfold clampI; omega), rfl⟩
end Go.Proofs.Ytmclcoaicngodaa
