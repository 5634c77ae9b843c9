/-
  Layer 7 (reader): the document's own reader.
-/
import Derived.Test.YticcafmelijngaaRdr4
import Derived.Test.YticcafmelijngaaVint5
namespace Go.Proofs.Yticcafmelijngaa
open Go.RowKit
set_option linter.unusedVariables false
theorem got_five {l : List Int} (h : l ≠ []) : (got l).2.2 ≠ 5 := by
  unfold got; rw [if_neg h]
  split <;> (try split) <;> (try split) <;> (try split) <;> simp
theorem uintA_bd (m : Int) (s : St) : 0 ≤ uintA m s ∧ uintA m s ≤ 18446744073709551615 := by
  have := got_bd s.l
  unfold uintA; split <;> (try split) <;> omega
end Go.Proofs.Yticcafmelijngaa
