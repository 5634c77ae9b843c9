/-
  What the statements on parts lean on: the parts that they make, and where a number so far on the way is.
-/
import Derived.Test.YtajobokmddecmaaAlive
namespace Go.Proofs.Ytajobokmddecmaa
open Go.RowKit

theorem mod_fine (v D : Int) (h1 : 1 ≤ D) (h2 : D ≤ 4611686018427387904) : ∃ M : Int, wrap64 (v % (D + 1)) = M ∧ 0 ≤ M ∧ M ≤ D := by
  have a := Int.emod_nonneg v (show D + 1 ≠ 0 by omega)
  have b := Int.emod_lt_of_pos v (show 0 < D + 1 by omega)
  exact ⟨_, wrap64_of _ _ 0 (by omega) (by unfold R64; omega), a, by omega⟩
theorem fineB_mk {num den : Int} (h0 : 0 ≤ num) (h1 : num ≤ den) (h2 : 1 ≤ den) (h3 : den ≤ 4611686018427387904) : fineB num den = true := by
  unfold fineB; exact decide_eq_true ⟨h0, h1, h2, h3⟩
theorem lerp_zero (a b den : Int) : lerpI a b 0 den = a := by unfold lerpI; rw [Int.mul_zero, Int.zero_ediv, Int.add_zero]
theorem lerp_den (a b den : Int) (h : 1 ≤ den) : lerpI a b den den = b := by unfold lerpI; rw [Int.mul_ediv_cancel _ (by omega)]; omega
theorem lerp_up (a b den : Int) {n m : Int} (h : 1 ≤ den) (hab : a ≤ b) (hnm : n ≤ m) : lerpI a b n den ≤ lerpI a b m den := by
  unfold lerpI
  have := Int.ediv_le_ediv (show 0 < den by omega) (Int.mul_le_mul_of_nonneg_left hnm (show 0 ≤ b - a by omega))
  omega
theorem lerp_down (a b den : Int) {n m : Int} (h : 1 ≤ den) (hab : b ≤ a) (hnm : n ≤ m) : lerpI a b m den ≤ lerpI a b n den := by
  unfold lerpI
  have := Int.ediv_le_ediv (show 0 < den by omega) (Int.mul_le_mul_of_nonpos_left (show b - a ≤ 0 by omega) hnm)
  omega
theorem lerp_btw (a b : Int) {n den : Int} (h : fineB n den = true) : min a b ≤ lerpI a b n den ∧ lerpI a b n den ≤ max a b := by
  obtain ⟨h1, h2, h3, h4⟩ := fineB_true h
  have e0 := lerp_zero a b den
  have e1 := lerp_den a b den h3
  by_cases hab : a ≤ b
  · have u1 := lerp_up a b den h3 hab h1
    have u2 := lerp_up a b den h3 hab h2
    omega
  · have u1 := lerp_down a b den h3 (by omega) h1
    have u2 := lerp_down a b den h3 (by omega) h2
    omega
theorem lerp_R64 {a b n den : Int} (ha : R64 a) (hb : R64 b) (h : fineB n den = true) : R64 (lerpI a b n den) := (lerp_in ha hb h).2.2.2.2
end Go.Proofs.Ytajobokmddecmaa
