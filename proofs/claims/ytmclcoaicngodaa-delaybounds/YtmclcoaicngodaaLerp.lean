/-
  Layer 1 (fix), walked: Lerp.
-/
import Derived.Test.YtmclcoaicngodaaFix
import Derived.Deep.DeepCutAuto
namespace Go.Proofs.Ytmclcoaicngodaa
open Go.RowKit

/-- The number that is num of den on the way from a to b. -/
def lerpI (a b num den : Int) : Int := a + (b - a) * num / den
theorem lerp_in {a b num den : Int} (ha : R64 a) (hb : R64 b) (h : fineB num den = true) :
    R64 num ∧ R128 (b - a) ∧ R128 ((b - a) * num) ∧ R128 ((b - a) * num / den) ∧ R64 (a + (b - a) * num / den) := by
  obtain ⟨h1, h2, h3, h4⟩ := fineB_true h
  unfold R64 at ha hb
  have hn : ((b - a) * num).natAbs ≤ 18446744073709551615 * 4611686018427387904 := by
    rw [Int.natAbs_mul]; exact Nat.mul_le_mul (by omega) (by omega)
  have hR : R128 ((b - a) * num) := by unfold R128; omega
  refine ⟨by unfold R64; omega, by unfold R128; omega, hR, div_R128 _ _ hR h3, ?_⟩
  have key : (0 ≤ b - a → 0 ≤ (b - a) * num / den ∧ (b - a) * num / den ≤ b - a) ∧ (b - a ≤ 0 → b - a ≤ (b - a) * num / den ∧ (b - a) * num / den ≤ 0) := by
    constructor
    · intro hp
      refine ⟨Int.ediv_nonneg (Int.mul_nonneg hp h1) (by omega), Int.ediv_le_of_le_mul (by omega) ?_⟩
      exact Int.mul_le_mul_of_nonneg_left h2 hp
    · intro hp
      have e1 : (b - a) * num ≤ 0 := Int.mul_nonpos_of_nonpos_of_nonneg hp h1
      refine ⟨(Int.le_ediv_iff_mul_le (by omega)).2 (Int.mul_le_mul_of_nonpos_left hp h2), ?_⟩
      have : (b - a) * num / den ≤ 0 / den := Int.ediv_le_ediv (by omega) e1
      simpa using this
  unfold R64
  by_cases hp : 0 ≤ b - a
  · have := key.1 hp; omega
  · have := key.2 (by omega); omega

end Go.Proofs.Ytmclcoaicngodaa
