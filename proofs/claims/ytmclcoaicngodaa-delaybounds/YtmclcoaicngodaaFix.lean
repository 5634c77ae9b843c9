/-
  Layer 1 (fix), walked: Add, Sub, Neg, Mul, Clamp, Part.
-/
import Derived.Test.YtmclcoaicngodaaStop
namespace Go.Proofs.Ytmclcoaicngodaa
open Go.RowKit

theorem add_any (a b : Int) (ha : R64 a) (hb : R64 b) (w : World) :
    Calls Try.prog 25 #[.int .i64 a, .int .i64 b] w fun e w' => e = .returned (.int .i64 (sat (a + b))) ∧ Gr w.heap.size w w' := by
  have h1 : R128 (a + b) := by unfold R64 at *; unfold R128; omega
  go_enter Try.func25, Try.ntmps25
  go_wp2_with fail
  refine (widen_any a ha _).mono ?_; rintro e w1 ⟨rfl, g1⟩
  go_wp2_with fail
  refine (widen_any b hb _).mono ?_; rintro e w2 ⟨rfl, g2⟩
  go_wp2_with fail
  refine (plus_any a b ha.wide hb.wide h1 _).mono ?_; rintro e w3 ⟨rfl, g3⟩
  go_wp2_with fail
  refine (stop_any (a + b) h1 _).mono ?_; rintro e w4 ⟨rfl, g4⟩
  go_wp2_with fail
  go_ret
  exact ⟨rfl, ((g1.then g2).then g3).then g4⟩

theorem prod_R128 {a b : Int} (ha : R64 a) (hb : R64 b) : R128 (a * b) := by
  unfold R64 at *
  have h1 : (a * b).natAbs ≤ 9223372036854775808 * 9223372036854775808 := by
    rw [Int.natAbs_mul]; exact Nat.mul_le_mul (by omega) (by omega)
  unfold R128; omega
theorem mul_any (a b : Int) (ha : R64 a) (hb : R64 b) (w : World) :
    Calls Try.prog 26 #[.int .i64 a, .int .i64 b] w fun e w' => e = .returned (.int .i64 (sat (a * b / 65536))) ∧ Gr w.heap.size w w' := by
  have h1 : R128 (a * b) := prod_R128 ha hb
  have h2 : R128 (a * b / 65536) := div_R128 _ _ h1 (by decide)
  go_enter Try.func26, Try.ntmps26
  go_wp2_with fail
  refine (widen_any a ha _).mono ?_; rintro e w1 ⟨rfl, g1⟩
  go_wp2_with fail
  refine (widen_any b hb _).mono ?_; rintro e w2 ⟨rfl, g2⟩
  go_wp2_with fail
  refine (times_any a b ha.wide hb.wide h1 _).mono ?_; rintro e w3 ⟨rfl, g3⟩
  go_wp2_with fail
  refine (over_any (a * b) 65536 h1 (by decide) (by decide) _).mono ?_; rintro e w4 ⟨rfl, g4⟩
  go_wp2_with fail
  refine (stop_any (a * b / 65536) h2 _).mono ?_; rintro e w5 ⟨rfl, g5⟩
  go_wp2_with fail
  go_ret
  exact ⟨rfl, (((g1.then g2).then g3).then g4).then g5⟩

/-- x, kept between a and b. -/
def clampI (x a b : Int) : Int := max (min a b) (min x (max a b))
theorem clamp_any (x a b : Int) (w : World) :
    Calls Try.prog 27 #[.int .i64 x, .int .i64 a, .int .i64 b] w fun e w' => e = .returned (.int .i64 (clampI x a b)) ∧ w' = w := by
  go_enter Try.func27, Try.ntmps27
  go_wp2
  go_ret
  exact ⟨rfl, rfl⟩
/-- May num of den be a part? -/
def fineB (num den : Int) : Bool := decide (0 ≤ num ∧ num ≤ den ∧ 1 ≤ den ∧ den ≤ 4611686018427387904)
theorem fineB_true {num den : Int} (h : fineB num den = true) : 0 ≤ num ∧ num ≤ den ∧ 1 ≤ den ∧ den ≤ 4611686018427387904 := by simpa [fineB] using h
theorem part_in {num den : Int} (h : fineB num den = true) : R64 num ∧ R64 (num * 65536 / den) ∧ R128 (num * 65536) := by
  obtain ⟨h1, h2, h3, h4⟩ := fineB_true h
  have a1 : 0 ≤ num * 65536 / den := Int.ediv_nonneg (by omega) (by omega)
  have a2 : num * 65536 / den ≤ 65536 := Int.ediv_le_of_le_mul (by omega) (by omega)
  unfold R64 R128; omega
end Go.Proofs.Ytmclcoaicngodaa
