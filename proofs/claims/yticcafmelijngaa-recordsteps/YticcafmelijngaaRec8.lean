/-
  Layer 8 (record): the document's examples.
-/
import Derived.Test.YticcafmelijngaaRec6
namespace Go.Proofs.Yticcafmelijngaa
open Go.RowKit
set_option linter.unusedVariables false

def exA : Rc := ⟨1, 5, 1, 0, 0, 0, 0, 0, 0⟩
def exB : Rc := ⟨2, 5, 0, 0, 0, 0, 0, 0, 0⟩
theorem exA_ok : exA.ok := by constructor <;> (unfold exA; first | (unfold S64; simp only; omega) | (simp only; omega))
theorem exB_ok : exB.ok := by constructor <;> (unfold exB; first | (unfold S64; simp only; omega) | (simp only; omega))
theorem exA_e : wrE exA 3 = 0 := by decide
theorem exB_e : wrE exB 4 = 0 := by decide
theorem exA_b : wrB exA 3 = [1, 1, 1, 2] := by
  unfold wrB
  rw [if_pos exA_e]
  have z : zig 1 = 2 := by decide
  simp [exA, bodyB, updB, maskR, restR, nums, zn, mask, put_lo, z]
theorem exB_b : wrB exB 4 = [0, 2] := by
  unfold wrB
  rw [if_pos exB_e]
  simp [exB, bodyB, put_lo]
set_option maxRecDepth 8000 in
set_option maxHeartbeats 1000000 in
theorem rec_alive (w : World) : Calls Try.prog 6 #[] w fun e w' => e = .returned (.bool true) ∧ Below w.heap.size w w' := by
  go_enter Try.func6, Try.ntmps6
  go_wp2_with fail
  refine (rec_write _ exA 3 exA_ok (by unfold S64; omega)).mono ?_; rw [exA_e, exA_b]; rintro e w1 ⟨v1, rfl, own1, b1⟩
  have R1 : Hid (Rd w1 v1 [1, 1, 1, 2]) := own1.rd
  clear own1
  go_wp2_with fail
  refine (rec_write _ exB 4 exB_ok (by unfold S64; omega)).mono ?_; rw [exB_e, exB_b]; rintro e w2 ⟨v2, rfl, own2, b2⟩
  have str1 := str_run (R1.out.below b2)
  have str2 := str_run own2.rd
  have st1 : strOfNums [1, 1, 1, 2] = ⟨#[1, 1, 1, 2]⟩ := by decide
  have st2 : strOfNums [0, 2] = ⟨#[0, 2]⟩ := by decide
  rw [st1] at str1
  rw [st2] at str2
  clear own2 st1 st2
  go_wp2_with fail
  go_ret
  exact ⟨rfl, bthen b1 b2⟩
end Go.Proofs.Yticcafmelijngaa
