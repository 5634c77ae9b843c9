/-
  Layer 5 (varint): the document's examples.
-/
import Derived.Test.YtplfibgciaokoaaVint5
namespace Go.Proofs.Ytplfibgciaokoaa
open Go.RowKit
set_option linter.unusedVariables false
theorem put300 : put 300 = [172, 2] := by rw [put_hi (by omega), put_lo (by omega)]; rfl
theorem got1280 : got [128, 0] = (0, 0, 7) := by decide
set_option maxHeartbeats 400000 in
theorem valive_any (w : World) : Calls Try.prog 10 #[] w fun e w' => e = .returned (.bool true) ∧ Below w.heap.size w w' := by
  have z1 : zig (-1) = 1 := by decide
  have z2 : zig 1 = 2 := by decide
  go_enter Try.func10, Try.ntmps10
  go_wp2_with fail
  have hrd : Rd (w.alloc (.cells #[.int .u8 128, .int .u8 0] 5)) (.slice (some ⟨w.heap.size, 0, none⟩) 2 2) [128, 0] := by
    refine Rd.at (l := [128, 0]) (fun i hi => ?_) (by simp) (by omega)
    have hi2 : i < 2 := hi
    rcases (show i = 0 ∨ i = 1 by omega) with rfl | rfl <;> simp
  refine (get_any _ [128, 0] (by intro b hb; simp at hb; omega) _ hrd).mono ?_; rw [got1280]; rintro e w1 ⟨rfl, rfl⟩
  clear hrd
  have b1 : Below w.heap.size w (w.alloc (.cells #[.int .u8 128, .int .u8 0] 5)) := (Below.refl _ _).alloc (Nat.le_refl _) _
  go_wp2_with fail
  refine (put_any 300 (by omega) (by omega) _).mono ?_; rintro e w2 ⟨v, rfl, hown, hb⟩
  have hstr := str_run hown.rd
  rw [put300] at hstr
  have hst : strOfNums [172, 2] = ⟨#[172, 2]⟩ := by decide
  rw [hst] at hstr
  have b2 := bthen b1 hb
  clear hown hb b1 hst
  go_wp2_with fail
  refine (zig_any (-1) (by unfold R64; omega) _).mono ?_; rw [z1]; rintro e w3 ⟨rfl, rfl⟩
  go_wp2_with fail
  refine (zig_any 1 (by unfold R64; omega) _).mono ?_; rw [z2]; rintro e w4 ⟨rfl, rfl⟩
  go_wp2_with fail
  go_ret
  exact ⟨rfl, b2⟩
end Go.Proofs.Ytplfibgciaokoaa
