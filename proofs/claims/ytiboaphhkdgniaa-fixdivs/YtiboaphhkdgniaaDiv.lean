/-
  Layer 1 (fix), walked: Div.
-/
import Derived.Test.YtiboaphhkdgniaaLerp
namespace Go.Proofs.Ytiboaphhkdgniaa
open Go.RowKit

/-- The quotient's floor, whatever the divisor's sign (b is not 0), before it stops. -/
def divI (a b : Int) : Int := if b < 0 then -(a * 65536) / -b else a * 65536 / b

theorem div_zero (a : Int) (w : World) :
    Calls Try.prog 22 #[.int .i64 a, .int .i64 0] w fun e w' => e = .returned (.int .i64 (sat (a * 9223372036854775808))) ∧ Gr w.heap.size w w' := by
  go_enter Try.func22, Try.ntmps22
  go_wp2_with fail
  refine (nothing_any a _).mono ?_; rintro e w1 ⟨rfl, rfl⟩
  go_wp2_with fail
  go_ret
  exact ⟨rfl, Gr.refl _ _⟩

set_option maxHeartbeats 1000000 in
theorem div_pos (a b : Int) (ha : R64 a) (hb : R64 b) (h0 : 0 < b) (w : World) :
    Calls Try.prog 22 #[.int .i64 a, .int .i64 b] w fun e w' => e = .returned (.int .i64 (sat (a * 65536 / b))) ∧ Gr w.heap.size w w' := by
  have c0 : (b == 0) = false := by simp; omega
  have r1 : R64 65536 := by unfold R64; omega
  have h1 : R128 (a * 65536) := prod_R128 ha r1
  have h2 : R128 (a * 65536 / b) := div_R128 _ _ h1 (by omega)
  have b2 : b ≤ 9223372036854775807 := hb.2
  go_enter Try.func22, Try.ntmps22
  go_wp2_with fail
  refine (widen_any a ha _).mono ?_; rintro e w1 ⟨rfl, g1⟩
  go_wp2_with fail
  refine (widen_any 65536 r1 _).mono ?_; rintro e w2 ⟨rfl, g2⟩
  go_wp2_with fail
  refine (times_any a 65536 ha.wide r1.wide h1 _).mono ?_; rintro e w3 ⟨rfl, g3⟩
  go_wp2_with fail
  refine (over_any (a * 65536) b h1 (by omega) (by omega) _).mono ?_; rintro e w4 ⟨rfl, g4⟩
  go_wp2_with fail
  refine (stop_any (a * 65536 / b) h2 _).mono ?_; rintro e w5 ⟨rfl, g5⟩
  go_wp2_with fail
  go_ret
  exact ⟨rfl, ((((g1.then g2).then g3).then ((Gr.refl _ _).alloc (Nat.le_refl _) _ _)).then g4).then g5⟩

set_option maxHeartbeats 2000000 in
theorem div_neg' (a b N D : Int) (ha : R64 a) (hb : R64 b) (h0 : b < 0) (hN : 0 - a * 65536 = N) (hD : -b = D) (w : World) :
    Calls Try.prog 22 #[.int .i64 a, .int .i64 b] w fun e w' => e = .returned (.int .i64 (sat (N / D))) ∧ Gr w.heap.size w w' := by
  have c0 : (b == 0) = false := by simp; omega
  have r0 : R64 0 := by unfold R64; omega
  have r1 : R64 65536 := by unfold R64; omega
  have h1 : R128 (a * 65536) := prod_R128 ha r1
  have h3 : R128 N := by unfold R64 at ha; unfold R128; omega
  have h3' : R128 (0 - a * 65536) := by rw [hN]; exact h3
  have h2 : R128 (N / D) := div_R128 _ _ h3 (by omega)
  have D1 : 1 ≤ D := by omega
  have D2 : D ≤ 18446744073709551615 := by have := hb.1; omega
  have e1 : IntKind.u64.wrap (-IntKind.u64.wrap b) = D := by have := hb.1; simp only [u64_eq]; omega
  have HN := (show Hid _ from hN)
  clear hD hN
  go_enter Try.func22, Try.ntmps22
  go_wp2_with fail
  refine (widen_any a ha _).mono ?_; rintro e w1 ⟨rfl, g1⟩
  go_wp2_with fail
  refine (widen_any 65536 r1 _).mono ?_; rintro e w2 ⟨rfl, g2⟩
  go_wp2_with fail
  refine (times_any a 65536 ha.wide r1.wide h1 _).mono ?_; rintro e w3 ⟨rfl, g3⟩
  go_wp2_with fail
  go_cut [6] (fun v wx => v = .int .u64 D ∧ w3.heap.size < wx.heap.size ∧ wx.cell? ⟨w3.heap.size, 0, none⟩ = some (.int .i64 (hi N)) ∧ wx.cell? ⟨w3.heap.size, 1, none⟩ = some (.int .u64 (lo N)) ∧ Gr w.heap.size w wx)
  case first =>
    go_region_with (first
      | (go_at_call 33; refine (widen_any 0 r0 _).mono ?_; rintro e w4 ⟨rfl, g4⟩; have c4 := g4.cell; have y4 := g4.frozen; have k4 : w3.heap.size < w4.heap.size := by have := g4.size; (try simp at this); omega)
      | (go_at_call 35; refine (minus_any 0 (a * 65536) r0.wide h1 h3' _).mono ?_; rw [HN.out]; rintro e w5 ⟨rfl, g5⟩; have c5 := g5.cell; have y5 := g5.frozen; have k5 : w3.heap.size < w5.heap.size := by have := g5.size; (try simp at this); omega))
    all_goals (go_wp2_with fail; go_meet)
    all_goals
      have z1 := g1.size; have z2 := g2.size; have z3 := g3.size
      refine ⟨?_, ?_, ?_, ?_, ?_⟩
      · first | rfl | (simp [e1])
      · first | omega | (simp; omega)
      · simp [go_sem, *]
      · simp [go_sem, *]
      · have g13 := (g1.then g2).then g3
        repeat' (first | exact g13 | refine Gr.setCell ?_ ?_ _ | refine Gr.alloc ?_ ?_ _ _ | refine Gr.drew ?_ | refine Gr.then ?_ g5 | refine Gr.then ?_ g4)
        all_goals first | omega | (simp; omega)
  case rest =>
    obtain ⟨rfl, hB, hc0, hc1, gc⟩ := hcut
    clear e1
    go_wp2_with fail
    refine (over_any N D h3 D1 D2 _).mono ?_; rintro e w4 ⟨rfl, g4⟩
    go_wp2_with fail
    refine (stop_any (N / D) h2 _).mono ?_; rintro e w5 ⟨rfl, g5⟩
    go_wp2_with fail
    go_ret
    exact ⟨rfl, (gc.then g4).then g5⟩

theorem div_neg (a b : Int) (ha : R64 a) (hb : R64 b) (h0 : b < 0) (w : World) :
    Calls Try.prog 22 #[.int .i64 a, .int .i64 b] w fun e w' => e = .returned (.int .i64 (sat (-(a * 65536) / -b))) ∧ Gr w.heap.size w w' :=
  div_neg' a b _ _ ha hb h0 (Int.zero_sub _) rfl w

theorem div_any (a b : Int) (ha : R64 a) (hb : R64 b) (h0 : b ≠ 0) (w : World) :
    Calls Try.prog 22 #[.int .i64 a, .int .i64 b] w fun e w' => e = .returned (.int .i64 (sat (divI a b))) ∧ Gr w.heap.size w w' := by
  unfold divI
  by_cases h : b < 0
  · rw [if_pos h]; exact div_neg a b ha hb h w
  · rw [if_neg h]; exact div_pos a b ha hb (by omega) w
end Go.Proofs.Ytiboaphhkdgniaa
