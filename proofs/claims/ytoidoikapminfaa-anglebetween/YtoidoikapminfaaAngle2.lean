/-
  Layer 3 (angle), walked: Lerp, Between, the document's answers for both (afterimageref03), and the document's examples.
-/
import Derived.Test.YtoidoikapminfaaAngle
import Derived.Test.YtoidoikapminfaaBetween
import Derived.Test.YtoidoikapminfaaRefPart
namespace Go.Proofs.Ytoidoikapminfaa
open Go.RowKit

/-- The angle that is num of den on the way. -/
def alerpI (a b num den : Int) : Int := turnI a (lerpI 0 (wayI a b) num den)
/-- Is x on the way from a to b? -/
def onB (x a b : Int) : Bool := decide ((0 ≤ wayI a x ∧ wayI a x ≤ wayI a b) ∨ (wayI a x ≤ 0 ∧ wayI a b ≤ wayI a x))
theorem R64_zero : R64 0 := by unfold R64; omega

theorem alerp_any (a b num den : Int) (h : fineB num den = true) (w : World) :
    Calls Try.prog 15 #[.int .u16 a, .int .u16 b, .int .i64 num, .int .i64 den] w fun e w' => e = .returned (.tuple #[.int .u16 (alerpI a b num den), .int .i64 0]) ∧ Gr w.heap.size w w' := by
  go_enter Try.func15, Try.ntmps15
  go_wp2_with fail
  refine (diff_any a b _).mono ?_; rintro e w1 ⟨rfl, rfl⟩
  go_wp2_with fail
  refine (lerp_any 0 (wayI a b) num den R64_zero (way_R64 a b) h _).mono ?_; rintro e w2 ⟨rfl, g2⟩
  go_wp2_with fail
  refine (turn_any a (lerpI 0 (wayI a b) num den) _).mono ?_; rintro e w3 ⟨rfl, rfl⟩
  go_wp2_with fail
  go_ret2
  exact ⟨rfl, g2⟩
theorem alerp_no (a b num den : Int) (h : fineB num den = false) (w : World) :
    Calls Try.prog 15 #[.int .u16 a, .int .u16 b, .int .i64 num, .int .i64 den] w fun e w' => e = .returned (.tuple #[.int .u16 0, .int .i64 3]) ∧ w' = w := by
  go_enter Try.func15, Try.ntmps15
  go_wp2_with fail
  refine (diff_any a b _).mono ?_; rintro e w1 ⟨rfl, rfl⟩
  go_wp2_with fail
  refine (lerp_no 0 (wayI a b) num den h _).mono ?_; rintro e w2 ⟨rfl, rfl⟩
  go_wp2_with fail
  go_ret2
  exact ⟨rfl, rfl⟩
theorem clamp_on (x a b : Int) : decide (clampI (wayI a x) 0 (wayI a b) = wayI a x) = onB x a b := by
  unfold clampI onB; refine decide_eq_decide.2 ?_; omega
theorem abetween_any (x a b : Int) (w : World) :
    Calls Try.prog 18 #[.int .u16 x, .int .u16 a, .int .u16 b] w fun e w' => e = .returned (.bool (onB x a b)) ∧ w' = w := by
  have hc := (show Hid _ from clamp_on x a b)
  go_enter Try.func18, Try.ntmps18
  go_wp2_with fail
  refine (diff_any a x _).mono ?_; rintro e w1 ⟨rfl, rfl⟩
  go_wp2_with fail
  refine (diff_any a b _).mono ?_; rintro e w2 ⟨rfl, rfl⟩
  go_wp2_with fail
  refine (clamp_any (wayI a x) 0 (wayI a b) _).mono ?_; rintro e w3 ⟨rfl, rfl⟩
  go_wp2_with fail
  go_ret
  exact ⟨ret_bool hc.out, rfl⟩

theorem ralerp_any (a b num den : Int) (ha : U16 a) (hb : U16 b) (h : fineB num den = true) (w : World) :
    Calls Try.prog 17 #[.int .u16 a, .int .u16 b, .int .i64 num, .int .i64 den] w fun e w' => e = .returned (.int .u16 (alerpI a b num den)) ∧ w' = w := by
  have hr := lerp_R64 R64_zero (way_R64 a b) h
  go_enter Try.func17, Try.ntmps17
  go_wp2_with fail
  refine (rdiff_any a b ha hb _).mono ?_; rintro e w1 ⟨rfl, rfl⟩
  go_wp2_with fail
  refine (refLerp_any 0 (wayI a b) num den R64_zero (way_R64 a b) h _).mono ?_; rintro e w2 ⟨rfl, rfl⟩
  go_wp2_with fail
  refine (rturn_any a (lerpI 0 (wayI a b) num den) ha hr _).mono ?_; rintro e w3 ⟨rfl, rfl⟩
  go_wp2_with fail
  go_ret
  exact ⟨rfl, rfl⟩
theorem rabetween_any (x a b : Int) (hx : U16 x) (ha : U16 a) (hb : U16 b) (w : World) :
    Calls Try.prog 19 #[.int .u16 x, .int .u16 a, .int .u16 b] w fun e w' => e = .returned (.bool (onB x a b)) ∧ w' = w := by
  obtain ⟨B, hB⟩ : ∃ B, onB x a b = B := ⟨_, rfl⟩
  rw [hB]
  have HB := (show Hid _ from hB); clear hB
  go_enter Try.func19, Try.ntmps19
  go_wp2_with fail
  refine (rdiff_any a b ha hb _).mono ?_; rintro e w1 ⟨rfl, rfl⟩
  go_wp2_with fail
  refine (rdiff_any a x ha hx _).mono ?_; rintro e w2 ⟨rfl, rfl⟩
  obtain ⟨p, hp⟩ : ∃ p, wayI a x = p := ⟨_, rfl⟩
  obtain ⟨q, hq⟩ : ∃ q, wayI a b = q := ⟨_, rfl⟩
  rw [hp, hq]
  have HB' : B = decide ((0 ≤ p ∧ p ≤ q) ∨ (p ≤ 0 ∧ q ≤ p)) := by rw [← HB.out, ← hp, ← hq]; rfl
  have HC := (show Hid _ from HB')
  clear hp hq HB HB'
  go_wp2
  all_goals (go_ret; refine ⟨ret_bool ?_, rfl⟩; rw [HC.out])
  all_goals first
    | (refine decide_eq_decide.2 ?_; omega)
    | (symm; refine decide_eq_false ?_; omega)
    | (symm; rw [decide_eq_true_iff]; omega)
    | (rw [Bool.eq_iff_iff]; simp; omega)

theorem aalive_any (w : World) : Calls Try.prog 10 #[] w fun e w' => e = .returned (.bool true) ∧ Gr w.heap.size w w' := by
  have e1 : alerpI 65000 100 1 2 = 65318 := by decide
  have e2 : wayI 65000 100 = 636 := by decide
  have e3 : wayI 0 32768 = -32768 := by decide
  go_enter Try.func10, Try.ntmps10
  go_wp2_with fail
  refine (alerp_any 65000 100 1 2 (by decide) _).mono ?_; rw [e1]; rintro e w1 ⟨rfl, g1⟩
  go_wp2_with fail
  refine (diff_any 65000 100 _).mono ?_; rw [e2]; rintro e w2 ⟨rfl, rfl⟩
  go_wp2_with fail
  refine (diff_any 0 32768 _).mono ?_; rw [e3]; rintro e w3 ⟨rfl, rfl⟩
  go_wp2_with fail
  go_ret
  exact ⟨rfl, g1⟩
theorem wf_U16 {x : Int} (h : (Lit.int .u16 x).wf = true) : U16 x := bounds_u16 h
end Go.Proofs.Ytoidoikapminfaa
