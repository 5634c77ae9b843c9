/-
  The document's answer for sums (afterimageref01), walked: Add, Sub, Neg.
-/
import Derived.Test.YtajobokmddecmaaAlive
namespace Go.Proofs.Ytajobokmddecmaa
open Go.RowKit

theorem refAdd_any (a b : Int) (ha : R64 a) (hb : R64 b) (w : World) :
    Calls Try.prog 24 #[.int .i64 a, .int .i64 b] w fun e w' => e = .returned (.int .i64 (sat (a + b))) ∧ w' = w := by
  unfold R64 at ha hb
  obtain ⟨a1, a2⟩ := ha
  obtain ⟨b1, b2⟩ := hb
  go_enter Try.func24, Try.ntmps24
  go_wp2
  all_goals (go_ret; refine ⟨ret_int ?_, rfl⟩; simp only [sat] at *; split <;> (try split) <;> omega)
theorem refSub_any (a b : Int) (ha : R64 a) (hb : R64 b) (w : World) :
    Calls Try.prog 25 #[.int .i64 a, .int .i64 b] w fun e w' => e = .returned (.int .i64 (sat (a - b))) ∧ w' = w := by
  have ha' := ha
  have hb' := hb
  unfold R64 at ha hb
  obtain ⟨a1, a2⟩ := ha
  obtain ⟨b1, b2⟩ := hb
  by_cases h : b = -9223372036854775808
  · subst h
    go_enter Try.func25, Try.ntmps25
    go_wp2_with fail
    all_goals (go_ret; refine ⟨ret_int ?_, rfl⟩; simp only [sat] at *; split <;> (try split) <;> omega)
  · have hc : (b == -9223372036854775808) = false := by simpa using h
    go_enter Try.func25, Try.ntmps25
    go_wp2_with fail
    refine (refAdd_any a (-b) ha' (by unfold R64; omega) _).mono ?_; rintro e w1 ⟨rfl, rfl⟩
    go_wp2_with fail
    go_ret
    exact ⟨by rw [Int.sub_eq_add_neg]; rfl, rfl⟩
end Go.Proofs.Ytajobokmddecmaa
