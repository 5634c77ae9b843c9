/-
  Arrays of three int64, held against one another (their '==').
-/
import Derived.Test.YticcafmelijngaaBase
import Derived.ChangeKeysEq
namespace Go.Proofs.Yticcafmelijngaa
open Go.RowKit

theorem cells_e3 : Try.prog.cellsOf 2 = 1 := by kernel_rfl
theorem eq3_run (w : World) (a0 a1 a2 b0 b1 b2 : Int) :
    (Op.equalIn 10000 22 (.agg #[.int .i64 a0, .int .i64 a1, .int .i64 a2]) (.agg #[.int .i64 b0, .int .i64 b1, .int .i64 b2])).run Try.prog w = .ok (a0 == b0 && (a1 == b1 && a2 == b2)) w := by
  have hu := Try.underlying2
  obtain ⟨i, hi⟩ := info_of_underlying hu
  rw [show (10000 : Nat) = 9999 + 1 from rfl, run_equalIn_array w 9999 _ _ Try.underlying22 hi, cells_e3]
  have r3 : List.range 3 = [0, 1, 2] := rfl
  have e : ∀ a b : Int, (Op.equalIn 9999 2 (.int .i64 a) (.int .i64 b)).run Try.prog w = .ok (a == b) w := fun a b => run_equalIn_int w 9998 _ _ _ a b hu
  rw [r3]
  simp only [Op.eqItems, Sem.run_bind]
  simp [part, isAgg, run_underlying hu, e, go_sem]
  by_cases h0 : a0 = b0
  · by_cases h1 : a1 = b1
    · by_cases h2 : a2 = b2 <;> simp [h0, h1, h2]
    · simp [h0, h1]
  · simp [h0]
end Go.Proofs.Yticcafmelijngaa
