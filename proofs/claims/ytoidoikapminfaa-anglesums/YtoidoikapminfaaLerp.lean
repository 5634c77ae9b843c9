/-
  Layer 1 (fix), walked: Lerp.
-/
import Derived.Test.YtoidoikapminfaaFix
import Derived.Deep.DeepCutAuto
namespace Go.Proofs.Ytoidoikapminfaa
open Go.RowKit

/-- The number that is num of den on the way from a to b. -/
def lerpI (a b num den : Int) : Int := a + (b - a) * num / den
theorem lerp_in {a b num den : Int} (ha : R64 a) (hb : R64 b) (h : fineB num den = true) :
    R64 num ∧ R128 (b - a) ∧ R128 ((b - a) * num) ∧ R128 ((b - a) * num / den) ∧ R64 (a + (b - a) * num / den) := by
  obtain ⟨h1, h2, h3, h4⟩ := fineB_true h
  unfold R64 at ha hb
  have hn : ((b - a) * num).natAbs ≤ 18446744073709551615 * 4611686018427387904 := by
    rw [Int.natAbs_mul]; exact Nat.mul_le_mul (by omega) (by omega)
  have hR : R128 ((b - a) * num) := by unfold R128; omega
  refine ⟨by unfold R64; omega, by unfold R128; omega, hR, div_R128 _ _ hR h3, ?_⟩
  have key : (0 ≤ b - a → 0 ≤ (b - a) * num / den ∧ (b - a) * num / den ≤ b - a) ∧ (b - a ≤ 0 → b - a ≤ (b - a) * num / den ∧ (b - a) * num / den ≤ 0) := by
    constructor
    · intro hp
      refine ⟨Int.ediv_nonneg (Int.mul_nonneg hp h1) (by omega), Int.ediv_le_of_le_mul (by omega) ?_⟩
      exact Int.mul_le_mul_of_nonneg_left h2 hp
    · intro hp
      have e1 : (b - a) * num ≤ 0 := Int.mul_nonpos_of_nonpos_of_nonneg hp h1
      refine ⟨(Int.le_ediv_iff_mul_le (by omega)).2 (Int.mul_le_mul_of_nonpos_left hp h2), ?_⟩
      have : (b - a) * num / den ≤ 0 / den := Int.ediv_le_ediv (by omega) e1
      simpa using this
  unfold R64
  by_cases hp : 0 ≤ b - a
  · have := key.1 hp; omega
  · have := key.2 (by omega); omega

set_option maxHeartbeats 1000000 in
theorem lerp_any (a b num den : Int) (ha : R64 a) (hb : R64 b) (h : fineB num den = true) (w : World) :
    Calls Try.prog 24 #[.int .i64 a, .int .i64 b, .int .i64 num, .int .i64 den] w fun e w' => e = .returned (.tuple #[.int .i64 (lerpI a b num den), .int .i64 0]) ∧ Gr w.heap.size w w' := by
  obtain ⟨h1, h2, h3, h4, h5⟩ := lerp_in ha hb h
  obtain ⟨f1, f2, f3, f4⟩ := fineB_true h
  unfold lerpI
  have hd : IntKind.u64.wrap den = den := by rw [u64_eq]; omega
  go_enter Try.func24, Try.ntmps24
  go_wp2_with fail
  refine (isPart_any num den _).mono ?_; rw [h]; rintro e w0 ⟨rfl, rfl⟩
  go_wp2_with fail
  refine (widen_any b hb _).mono ?_; rintro e w1 ⟨rfl, g1⟩
  go_wp2_with fail
  refine (widen_any a ha _).mono ?_; rintro e w2 ⟨rfl, g2⟩
  go_wp2_with fail
  refine (minus_any b a hb.wide ha.wide h2 _).mono ?_; rintro e w3 ⟨rfl, g3⟩
  go_wp2_with fail
  go_cut [11] (fun v wx => ∃ B : Nat, v = .pointer (some ⟨B, 0, none⟩) ∧ B < wx.heap.size ∧ wx.cell? ⟨B, 0, none⟩ = some (.int .i64 (hi ((b - a) * num / den))) ∧ wx.cell? ⟨B, 1, none⟩ = some (.int .u64 (lo ((b - a) * num / den))) ∧ Gr w0.heap.size w0 wx)
  case first =>
    go_region_held3 (fun w' => w3.heap.size < w'.heap.size ∧ w'.cell? ⟨w3.heap.size, 0, none⟩ = some (.int .i64 (hi (b - a))) ∧ w'.cell? ⟨w3.heap.size, 1, none⟩ = some (.int .u64 (lo (b - a)))) ((refine ⟨?_, ?_, ?_⟩ <;> first | omega | (simp [go_sem, *]; done) | (simp; omega)))
      (first
      | (go_at_call 28; refine (widen_any num h1 _).mono ?_; rintro e w4 ⟨rfl, g4⟩; have c4 := g4.cell; have y4 := g4.frozen; (try have j4 : w3.heap.size < w4.heap.size := by have := g4.size; (try simp at this); omega); (try have k4 : w3.heap.size + 1 < w4.heap.size := by have := g4.size; (try simp at this); omega))
      | (go_at_call 30; refine (times_any (b - a) num h2 h1.wide h3 _).mono ?_; rintro e w5 ⟨rfl, g5⟩; have c5 := g5.cell; have y5 := g5.frozen; (try have j5 : w3.heap.size < w5.heap.size := by have := g5.size; (try simp at this); omega); (try have k5 : w3.heap.size + 1 < w5.heap.size := by have := g5.size; (try simp at this); omega); (try have l5 : w4.heap.size < w5.heap.size := by have := g5.size; (try simp at this); omega))
      | (go_at_call 31; refine (over_any ((b - a) * num) den h3 f3 (by omega) _).mono ?_; rintro e w6 ⟨rfl, g6⟩; have c6 := g6.cell; have y6 := g6.frozen; (try have j6 : w3.heap.size < w6.heap.size := by have := g6.size; (try simp at this); omega); (try have k6 : w3.heap.size + 1 < w6.heap.size := by have := g6.size; (try simp at this); omega); (try have l6 : w4.heap.size < w6.heap.size := by have := g6.size; (try simp at this); omega); (try have m6 : w5.heap.size < w6.heap.size := by have := g6.size; (try simp at this); omega)))
    all_goals (go_wp2_with fail; go_meet)
    all_goals
      have z1 := g1.size; have z2 := g2.size; have z3 := g3.size
      refine ⟨_, rfl, ?_, ?_, ?_, ?_⟩
      · first | omega | (simp; done) | (simp; omega)
      · simp [go_sem, *]
      · simp [go_sem, *]
      · have g13 := (g1.then g2).then g3
        repeat' (first | exact g13 | refine Gr.setCell ?_ ?_ _ | refine Gr.alloc ?_ ?_ _ _ | refine Gr.drew ?_ | refine Gr.then ?_ g6 | refine Gr.then ?_ g5 | refine Gr.then ?_ g4)
        all_goals first | omega | (simp; omega)
  case rest =>
    obtain ⟨B, rfl, hB, hc0, hc1, gc⟩ := hcut
    go_wp2_with fail
    go_region_held3 (fun w' => B < w'.heap.size ∧ w'.cell? ⟨B, 0, none⟩ = some (.int .i64 (hi ((b - a) * num / den))) ∧ w'.cell? ⟨B, 1, none⟩ = some (.int .u64 (lo ((b - a) * num / den)))) ((refine ⟨?_, ?_, ?_⟩ <;> first | assumption | omega | (simp [go_sem, *]; done) | (simp; omega)))
      (first
      | (go_at_call 28; refine (widen_any a ha _).mono ?_; rintro e w4 ⟨rfl, g4⟩; have k4 : B < w4.heap.size := (by have := g4.size; (try simp at this); omega); have d4 := (g4.cell B 0 (by simpa using hB)).trans hc0; have f4 := (g4.cell B 1 (by simpa using hB)).trans hc1)
      | (go_at_call 33; refine (plus_any a ((b - a) * num / den) ha.wide h4 h5.wide _).mono ?_; rintro e w5 ⟨rfl, g5⟩; have k5 : B < w5.heap.size := (by have := g5.size; (try simp at this); omega); have d5 := (g5.cell B 0 k4).trans d4; have f5 := (g5.cell B 1 k4).trans f4)
      | (go_at_call 32; refine (stop_in (a + (b - a) * num / den) h5 _).mono ?_; rintro e w6 ⟨rfl, g6⟩; have k6 : B < w6.heap.size := (by have := g6.size; (try simp at this); omega); have d6 := (g6.cell B 0 k5).trans d5; have f6 := (g6.cell B 1 k5).trans f5))
    go_wp2_with fail
    go_ret2
    exact ⟨rfl, ((gc.drew.then g4).then g5).then g6⟩

theorem lerp_no (a b num den : Int) (h : fineB num den = false) (w : World) :
    Calls Try.prog 24 #[.int .i64 a, .int .i64 b, .int .i64 num, .int .i64 den] w fun e w' => e = .returned (.tuple #[.int .i64 0, .int .i64 3]) ∧ w' = w := by
  go_enter Try.func24, Try.ntmps24
  go_wp2_with fail
  refine (isPart_any num den _).mono ?_; rw [h]; rintro e w0 ⟨rfl, rfl⟩
  go_wp2_with fail
  go_ret2
  exact ⟨rfl, rfl⟩
end Go.Proofs.Ytoidoikapminfaa
