/-
  Plain facts of angles (no program in sight): there and back, turned by both at once, and where a part of the way is.
-/
import Derived.Test.YtoidoikapminfaaAngle2
namespace Go.Proofs.Ytoidoikapminfaa

theorem turn_way (a b : Int) (hb : U16 b) : turnI a (wayI a b) = b := by unfold U16 at hb; unfold turnI wayI; omega
theorem turn_back (a k : Int) (ha : U16 a) : turnI (turnI a k) (-k) = a := by unfold U16 at ha; unfold turnI; omega
theorem turn_round (a : Int) (ha : U16 a) : turnI a 65536 = a := by unfold U16 at ha; unfold turnI; omega
theorem turn_both (a b k : Int) : wayI (turnI a k) (turnI b k) = wayI a b := by unfold turnI wayI; omega
theorem way_back (a b : Int) (h : wayI a b ≠ -32768) : wayI b a = -wayI a b := by unfold wayI at *; omega
theorem turn_turn (a j k : Int) : turnI (turnI a j) k = turnI a (j + k) := by unfold turnI; omega
theorem way_turn (a l : Int) (h1 : -32768 ≤ l) (h2 : l ≤ 32767) : wayI a (turnI a l) = l := by unfold wayI turnI; omega
theorem way_self (a : Int) : wayI a a = 0 := by unfold wayI; omega
theorem way_zero (a b : Int) (ha : U16 a) (hb : U16 b) (h : wayI a b = 0) : b = a := by unfold U16 at *; unfold wayI at h; omega
theorem alerp_U16 (a b num den : Int) : U16 (alerpI a b num den) := turn_U16 _ _
theorem way_alerp (a b : Int) {num den : Int} (h : fineB num den = true) : wayI a (alerpI a b num den) = lerpI 0 (wayI a b) num den := by
  have h1 := way_bd a b
  have h2 := lerp_btw 0 (wayI a b) h
  exact way_turn _ _ (by omega) (by omega)
theorem on_alerp (a b : Int) {num den : Int} (h : fineB num den = true) : onB (alerpI a b num den) a b = true := by
  have h2 := lerp_btw 0 (wayI a b) h
  unfold onB; rw [way_alerp a b h]; refine decide_eq_true ?_; omega
theorem on_first (a b : Int) : onB a a b = true := by
  unfold onB; rw [way_self]; refine decide_eq_true ?_; omega
theorem on_last (a b : Int) : onB b a b = true := by unfold onB; refine decide_eq_true ?_; omega
theorem alerp_first (a b den : Int) (ha : U16 a) : alerpI a b 0 den = a := by
  unfold alerpI; rw [lerp_zero]; unfold U16 at ha; unfold turnI; omega
theorem alerp_last (a b den : Int) (hb : U16 b) (h : 1 ≤ den) : alerpI a b den den = b := by
  unfold alerpI; rw [lerp_den _ _ _ h]; exact turn_way a b hb
/-- How far, whichever way. -/
def sizeI (d : Int) : Int := max d (-d)
theorem size_up (a b : Int) {p q den : Int} (hp : fineB p den = true) (hq : fineB q den = true) (h : p ≤ q) : sizeI (wayI a (alerpI a b p den)) ≤ sizeI (wayI a (alerpI a b q den)) := by
  rw [way_alerp a b hp, way_alerp a b hq]
  have b1 := lerp_btw 0 (wayI a b) hp
  have b2 := lerp_btw 0 (wayI a b) hq
  have d1 := (fineB_true hp).2.2.1
  unfold sizeI
  by_cases hw : 0 ≤ wayI a b
  · have := lerp_up 0 (wayI a b) den d1 hw h; omega
  · have := lerp_down 0 (wayI a b) den d1 (by omega) h; omega
theorem on_size (x a b : Int) (h : onB x a b = true) : sizeI (wayI a x) ≤ sizeI (wayI a b) := by
  unfold onB at h; have := of_decide_eq_true h; unfold sizeI; omega
theorem on_none (x a b : Int) (ha : U16 a) (hx : U16 x) (h : onB x a b = true) (h0 : wayI a b = 0) : x = a := by
  unfold onB at h; have := of_decide_eq_true h; exact way_zero a x ha hx (by omega)
theorem off_ends (x a b : Int) (h : onB x a b = false) : x ≠ a ∧ x ≠ b := by
  refine ⟨?_, ?_⟩
  · rintro rfl; rw [on_first] at h; cases h
  · rintro rfl; rw [on_last] at h; cases h
end Go.Proofs.Ytoidoikapminfaa
