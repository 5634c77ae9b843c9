/-
  Layer 1 (fix), walked: Add, Sub, Neg, Mul, Clamp, Part.
-/
import Derived.Test.YtoidoikapminfaaStop
namespace Go.Proofs.Ytoidoikapminfaa
open Go.RowKit

theorem prod_R128 {a b : Int} (ha : R64 a) (hb : R64 b) : R128 (a * b) := by
  unfold R64 at *
  have h1 : (a * b).natAbs ≤ 9223372036854775808 * 9223372036854775808 := by
    rw [Int.natAbs_mul]; exact Nat.mul_le_mul (by omega) (by omega)
  unfold R128; omega
/-- x, kept between a and b. -/
def clampI (x a b : Int) : Int := max (min a b) (min x (max a b))
theorem clamp_any (x a b : Int) (w : World) :
    Calls Try.prog 26 #[.int .i64 x, .int .i64 a, .int .i64 b] w fun e w' => e = .returned (.int .i64 (clampI x a b)) ∧ w' = w := by
  go_enter Try.func26, Try.ntmps26
  go_wp2
  go_ret
  exact ⟨rfl, rfl⟩
/-- May num of den be a part? -/
def fineB (num den : Int) : Bool := decide (0 ≤ num ∧ num ≤ den ∧ 1 ≤ den ∧ den ≤ 4611686018427387904)
theorem fineB_true {num den : Int} (h : fineB num den = true) : 0 ≤ num ∧ num ≤ den ∧ 1 ≤ den ∧ den ≤ 4611686018427387904 := by simpa [fineB] using h
theorem isPart_any (num den : Int) (w : World) :
    Calls Try.prog 27 #[.int .i64 num, .int .i64 den] w fun e w' => e = .returned (.bool (fineB num den)) ∧ w' = w := by
  go_enter Try.func27, Try.ntmps27
  go_wp2
  all_goals (go_ret; refine ⟨ret_bool ?_, rfl⟩; unfold fineB)
  all_goals first
    | (refine decide_eq_decide.2 ?_; omega)
    | (symm; refine decide_eq_false ?_; omega)

theorem part_in {num den : Int} (h : fineB num den = true) : R64 num ∧ R64 (num * 65536 / den) ∧ R128 (num * 65536) := by
  obtain ⟨h1, h2, h3, h4⟩ := fineB_true h
  have a1 : 0 ≤ num * 65536 / den := Int.ediv_nonneg (by omega) (by omega)
  have a2 : num * 65536 / den ≤ 65536 := Int.ediv_le_of_le_mul (by omega) (by omega)
  unfold R64 R128; omega
end Go.Proofs.Ytoidoikapminfaa
