/-
  math/bits at this seat: Add64, Sub64 (the model's own entries), Mul64 (Go's text, walked).
-/
import Derived.Test.YtmclcoaicngodaaBase
import Derived.Test.YtmclcoaicngodaaMath2
import Derived.Lib.Mul64
import Derived.Laws.Bits64b
namespace Go.Proofs.Ytmclcoaicngodaa
open Go.RowKit

theorem add64_0 (x y : Int) (hx : 0 ≤ x) (hy : 0 ≤ y) (w : World) : (callFunc 36 #[.int .u64 x, .int .u64 y, .int .u64 0]).run Try.prog w =
    .ok (.value (.tuple #[.int .u64 ((x + y) % 18446744073709551616), .int .u64 ((x + y) / 18446744073709551616)])) w := by
  rw [run_callFunc_extern Try.func36 (by kernel_rfl) (by kernel_rfl) (by kernel_rfl) (e := add64Entry) (by kernel_rfl), run_add64 x y 0 hx hy (Int.le_refl 0) (by decide)]
  simp [Result.andThen]
theorem mul64_any (x y : Int) (hx : 0 ≤ x ∧ x ≤ 18446744073709551615) (hy : 0 ≤ y ∧ y ≤ 18446744073709551615) (w : World) :
    Calls Try.prog 37 #[.int .u64 x, .int .u64 y] w fun e w' => e = .returned (.tuple #[.int .u64 (x * y / 18446744073709551616), .int .u64 (x * y % 18446744073709551616)]) ∧ w' = w := by
  have e1 := mul64_hi_eq x y hx hy
  have e2 := u64_eq (x * y)
  obtain ⟨hx0, hx⟩ := hx
  obtain ⟨hy0, hy⟩ := hy
  have H1 := (show Hid _ from e1)
  have H2 := (show Hid _ from e2)
  clear e1 e2
  go_enter Try.func37, Try.ntmps37
  go_wp2
  rw [H1.out, H2.out]
  go_ret2
  exact ⟨rfl, rfl⟩
end Go.Proofs.Ytmclcoaicngodaa
