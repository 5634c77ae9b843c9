/-
  Layer 8 (record): kinds, anything, something, nothing, isLast, signed, Check; the document's numbers, empty, Check.
-/
import Derived.Test.YtjjaodlgnoiheaaRec
namespace Go.Proofs.Ytjjaodlgnoiheaa
open Go.RowKit
set_option linter.unusedVariables false
attribute [local go_sem ↓] eqR_run eqE_run eq6_run

set_option maxRecDepth 8000 in
theorem rec_nothing (w : World) (r : Rc) : Calls Try.prog 50 #[recV r] w fun e w' => e = .returned (.bool (emptyB r)) ∧ Below w.heap.size w w' := by
  go_enter Try.func50, Try.ntmps50
  go_wp2_with fail
  go_ret
  exact ⟨rfl, (Below.refl _ _).alloc (Nat.le_refl _) _⟩
theorem rec_anything (w : World) (r : Rc) : Calls Try.prog 44 #[recV r] w fun e w' => e = .returned (.bool true) ∧ Below w.heap.size w w' := by
  go_enter Try.func44, Try.ntmps44
  go_wp2_with fail
  go_ret
  exact ⟨rfl, (Below.refl _ _).alloc (Nat.le_refl _) _⟩
set_option maxRecDepth 8000 in
theorem rec_something (w : World) (r : Rc) : Calls Try.prog 47 #[recV r] w fun e w' => e = .returned (.bool (!emptyB r)) ∧ Below w.heap.size w w' := by
  go_enter Try.func47, Try.ntmps47
  go_wp2_with fail
  refine (rec_nothing _ r).mono ?_; rintro e w1 ⟨rfl, b1⟩
  go_wp2_with fail
  go_ret
  exact ⟨rfl, bthen ((Below.refl _ _).alloc (Nat.le_refl _) _) b1⟩
theorem rec_isLast (w : World) (x : Int) : Calls Try.prog 29 #[.int .i64 x] w fun e w' => e = .returned (.bool (decide (-1 ≤ x ∧ x ≤ 65535))) ∧ w' = w := by
  go_enter Try.func29, Try.ntmps29
  by_cases h1 : -1 ≤ x
  · by_cases h2 : x ≤ 65535
    · go_wp2_with fail
      go_ret
      exact ⟨ret_bool (decide_eq_true ⟨h1, h2⟩).symm, rfl⟩
    · go_wp2_with fail
      go_ret
      exact ⟨ret_bool (decide_eq_false (by omega)).symm, rfl⟩
  · go_wp2_with fail
    go_ret
    exact ⟨ret_bool (by simp; omega), rfl⟩
abbrev fnV (n : Nat) : Value := .func (.func n) #[] #[]
abbrev kindC : List Value := [fnV 44, fnV 45, fnV 46, fnV 47, fnV 48, fnV 49,
  fnV 50, fnV 51, fnV 52, fnV 44, fnV 45, fnV 46]
abbrev kindA : Array Value := #[fnV 44, fnV 45, fnV 46, fnV 47, fnV 48, fnV 49,
  fnV 50, fnV 51, fnV 52, fnV 44, fnV 45, fnV 46]
set_option maxRecDepth 8000 in
theorem rec_kinds (w : World) : Calls Try.prog 31 #[] w fun e w' => e = .returned (.agg kindA) ∧ Below w.heap.size w w' := by
  go_enter Try.func31, Try.ntmps31
  go_wp2_with fail
  refine bodyPost_ret (v := .agg kindA) (by simp [results, Try.results31, go_sem]) rfl ⟨rfl, (Below.refl _ _).alloc (Nat.le_refl _) _⟩
abbrev numV (r : Rc) : Value := .agg #[.int .i64 r.p0, .int .i64 r.p1, .int .i64 r.p2, .int .i64 r.v0, .int .i64 r.v1, .int .i64 r.v2]
set_option maxRecDepth 8000 in
theorem rec_signed (w : World) (r : Rc) : Calls Try.prog 59 #[recV r] w fun e w' => e = .returned (numV r) ∧ Below w.heap.size w w' := by
  go_enter Try.func59, Try.ntmps59
  go_wp2_with fail
  refine bodyPost_ret (v := numV r) (by simp [results, Try.results59, go_sem]) rfl ⟨rfl, ((Below.refl _ _).alloc (Nat.le_refl _) _).alloc (by simp) _⟩
set_option maxRecDepth 8000 in
theorem doc_numbers (w : World) (r : Rc) : Calls Try.prog 33 #[recV r] w fun e w' => e = .returned (numV r) ∧ Below w.heap.size w w' := by
  go_enter Try.func33, Try.ntmps33
  go_wp2_with fail
  refine bodyPost_ret (v := numV r) (by simp [results, Try.results33, go_sem]) rfl ⟨rfl, ((Below.refl _ _).alloc (Nat.le_refl _) _).alloc (by simp) _⟩
end Go.Proofs.Ytjjaodlgnoiheaa
