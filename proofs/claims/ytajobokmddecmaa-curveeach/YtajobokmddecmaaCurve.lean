/-
  Layer 4 (curve): the weights, and the number on a curve, over plain integers.
-/
import Derived.Test.YtajobokmddecmaaBetween
namespace Go.Proofs.Ytajobokmddecmaa
open Go.RowKit

def sq (u : Int) : Int := u * u / 65536
def cu (u : Int) : Int := sq u * u / 65536
def wayW (u : Int) : Int := 3 * sq u - 2 * cu u
def firstW (u : Int) : Int := cu u - 2 * sq u + u
def lastW (u : Int) : Int := cu u - sq u

theorem floor_fact (X : Int) : X / 65536 * 65536 ≤ X ∧ X < X / 65536 * 65536 + 65536 := by omega
theorem sq_bd {u : Int} (h0 : 0 ≤ u) (h1 : u ≤ 65536) : 0 ≤ sq u ∧ sq u ≤ u := by
  have a := Int.mul_nonneg h0 h0
  have b := Int.mul_le_mul_of_nonneg_left h1 h0
  unfold sq; omega
theorem cu_bd {u : Int} (h0 : 0 ≤ u) (h1 : u ≤ 65536) : 0 ≤ cu u ∧ cu u ≤ sq u := by
  obtain ⟨a0, a1⟩ := sq_bd h0 h1
  have a := Int.mul_nonneg a0 h0
  have b := Int.mul_le_mul_of_nonneg_left h1 a0
  unfold cu; omega
theorem first_up {u : Int} (h0 : 0 ≤ u) (h1 : u ≤ 65536) : 0 ≤ firstW u := by
  unfold firstW cu
  obtain ⟨p, hp⟩ : ∃ p, sq u = p := ⟨_, rfl⟩
  rw [hp]
  obtain ⟨q, hq⟩ : ∃ q, p * u / 65536 = q := ⟨_, rfl⟩
  rw [hq]
  have f1 := floor_fact (u * u)
  have f2 := floor_fact (p * u)
  unfold sq at hp
  rw [hp] at f1
  rw [hq] at f2
  have k1 := Int.mul_nonneg (show 0 ≤ u * u - p * 65536 by omega) (show 0 ≤ 131072 - u by omega)
  have k2 := Int.mul_nonneg h0 (Int.mul_nonneg (show 0 ≤ 65536 - u by omega) (show 0 ≤ 65536 - u by omega))
  have e1 : (u * u - p * 65536) * (131072 - u) = 131072 * (u * u) - u * (u * u) - 8589934592 * p + 65536 * (p * u) := by grind
  have e2 : u * ((65536 - u) * (65536 - u)) = 4294967296 * u - 131072 * (u * u) + u * (u * u) := by grind
  rw [e1] at k1
  rw [e2] at k2
  generalize u * (u * u) = A at *
  generalize u * u = B at *
  generalize p * u = C at *
  omega
theorem way_up {u : Int} (h0 : 0 ≤ u) (h1 : u ≤ 65536) : wayW u ≤ 65536 := by
  by_cases hd : 65536 - u ≤ 255
  · obtain ⟨d, hd'⟩ : ∃ d, 65536 - u = d := ⟨_, rfl⟩
    have hu : u = 65536 - d := by omega
    have b := Int.mul_nonneg (show 0 ≤ d by omega) (show 0 ≤ d by omega)
    have c := Int.mul_le_mul (show d ≤ 255 by omega) (show d ≤ 255 by omega) (show 0 ≤ d by omega) (by omega)
    have e1 : (65536 - d) * (65536 - d) = (65536 - 2 * d) * 65536 + d * d := by grind
    have e2 : sq u = 65536 - 2 * d := by unfold sq; rw [hu, e1]; omega
    have e3 : (65536 - 2 * d) * (65536 - d) = (65536 - 3 * d) * 65536 + 2 * (d * d) := by grind
    unfold wayW cu
    rw [e2, hu, e3]
    omega
  · obtain ⟨p, hp⟩ : ∃ p, sq u = p := ⟨_, rfl⟩
    obtain ⟨q, hq⟩ : ∃ q, p * u / 65536 = q := ⟨_, rfl⟩
    unfold wayW cu
    rw [hp, hq]
    have f1 := floor_fact (u * u)
    have f2 := floor_fact (p * u)
    unfold sq at hp
    rw [hp] at f1
    rw [hq] at f2
    have k1 := Int.mul_nonneg (show 0 ≤ u * u - p * 65536 by omega) (show 0 ≤ 196608 - 2 * u by omega)
    have k2 := Int.mul_le_mul (show 256 ≤ 65536 - u by omega) (show 256 ≤ 65536 - u by omega) (by omega) (show 0 ≤ 65536 - u by omega)
    have k3 := Int.mul_le_mul k2 (show 65536 ≤ 65536 + 2 * u by omega) (by omega) (by omega)
    have e1 : (u * u - p * 65536) * (196608 - 2 * u) = 196608 * (u * u) - 2 * (u * (u * u)) - 12884901888 * p + 131072 * (p * u) := by grind
    have e2 : (65536 - u) * (65536 - u) * (65536 + 2 * u) = 281474976710656 - 196608 * (u * u) + 2 * (u * (u * u)) := by grind
    rw [e1] at k1
    rw [e2] at k3
    generalize u * (u * u) = A at *
    generalize u * u = B at *
    generalize p * u = C at *
    omega
theorem weights_bd {u : Int} (h0 : 0 ≤ u) (h1 : u ≤ 65536) : (0 ≤ wayW u ∧ wayW u ≤ 65536) ∧ (0 ≤ firstW u ∧ firstW u ≤ 131072) ∧ -65536 ≤ lastW u ∧ lastW u ≤ 0 := by
  have a := sq_bd h0 h1
  have b := cu_bd h0 h1
  have c := first_up h0 h1
  have d := way_up h0 h1
  refine ⟨⟨?_, d⟩, ⟨c, ?_⟩, ?_⟩ <;> (try unfold wayW) <;> (try unfold firstW) <;> (try unfold lastW) <;> omega

/-- The number ahead of its being kept between. -/
def freeI (a v b w u den : Int) : Int :=
  sat (sat (sat (a + sat (wayW u * sat (b - a) / 65536)) + sat (firstW u * sat (v * den / 65536) / 65536)) + sat (lastW u * sat (w * den / 65536) / 65536))
def curveI (a v b w num den : Int) : Int :=
  if num = 0 then a else if num = den then b else clampI (freeI a v b w (num * 65536 / den) den) a b
theorem clamp_btw (x a b : Int) : min a b ≤ clampI x a b ∧ clampI x a b ≤ max a b := by unfold clampI; omega
theorem curve_btw (a v b w num den : Int) : min a b ≤ curveI a v b w num den ∧ curveI a v b w num den ≤ max a b := by
  unfold curveI
  split
  · omega
  · split
    · omega
    · exact clamp_btw _ _ _
theorem curve_first (a v b w den : Int) : curveI a v b w 0 den = a := by unfold curveI; rw [if_pos rfl]
theorem curve_last (a v b w den : Int) (h : 1 ≤ den) : curveI a v b w den den = b := by unfold curveI; rw [if_neg (by omega), if_pos rfl]
theorem curve_same (a v w num den : Int) : curveI a v a w num den = a := by have := curve_btw a v a w num den; omega
theorem part_le {num den : Int} (h : fineB num den = true) : 0 ≤ num * 65536 / den ∧ num * 65536 / den ≤ 65536 := by
  obtain ⟨h1, h2, h3, h4⟩ := fineB_true h
  refine ⟨Int.ediv_nonneg (by omega) (by omega), ?_⟩
  have := Int.ediv_le_ediv (show 0 < den by omega) (show num * 65536 ≤ 65536 * den by omega)
  rw [Int.mul_ediv_cancel _ (show den ≠ 0 by omega)] at this
  exact this
end Go.Proofs.Ytajobokmddecmaa
