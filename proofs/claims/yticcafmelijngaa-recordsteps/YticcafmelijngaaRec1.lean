/-
  Layer 8 (record): kinds, anything, something, nothing, isLast, signed, Check; the document's numbers, empty, Check.
-/
import Derived.Test.YticcafmelijngaaRec
namespace Go.Proofs.Yticcafmelijngaa
open Go.RowKit
set_option linter.unusedVariables false
attribute [local go_sem ↓] eqR_run eqE_run eq6_run

set_option maxRecDepth 8000 in
theorem rec_nothing (w : World) (r : Rc) : Calls Try.prog 18 #[recV r] w fun e w' => e = .returned (.bool (emptyB r)) ∧ Below w.heap.size w w' := by
  go_enter Try.func18, Try.ntmps18
  go_wp2_with fail
  go_ret
  exact ⟨rfl, (Below.refl _ _).alloc (Nat.le_refl _) _⟩
theorem rec_anything (w : World) (r : Rc) : Calls Try.prog 12 #[recV r] w fun e w' => e = .returned (.bool true) ∧ Below w.heap.size w w' := by
  go_enter Try.func12, Try.ntmps12
  go_wp2_with fail
  go_ret
  exact ⟨rfl, (Below.refl _ _).alloc (Nat.le_refl _) _⟩
set_option maxRecDepth 8000 in
theorem rec_something (w : World) (r : Rc) : Calls Try.prog 15 #[recV r] w fun e w' => e = .returned (.bool (!emptyB r)) ∧ Below w.heap.size w w' := by
  go_enter Try.func15, Try.ntmps15
  go_wp2_with fail
  refine (rec_nothing _ r).mono ?_; rintro e w1 ⟨rfl, b1⟩
  go_wp2_with fail
  go_ret
  exact ⟨rfl, bthen ((Below.refl _ _).alloc (Nat.le_refl _) _) b1⟩
theorem rec_isLast (w : World) (x : Int) : Calls Try.prog 10 #[.int .i64 x] w fun e w' => e = .returned (.bool (decide (-1 ≤ x ∧ x ≤ 65535))) ∧ w' = w := by
  go_enter Try.func10, Try.ntmps10
  by_cases h1 : -1 ≤ x
  · by_cases h2 : x ≤ 65535
    · go_wp2_with fail
      go_ret
      exact ⟨ret_bool (decide_eq_true ⟨h1, h2⟩).symm, rfl⟩
    · go_wp2_with fail
      go_ret
      exact ⟨ret_bool (decide_eq_false (by omega)).symm, rfl⟩
  · go_wp2_with fail
    go_ret
    exact ⟨ret_bool (by simp; omega), rfl⟩
abbrev fnV (n : Nat) : Value := .func (.func n) #[] #[]
abbrev kindC : List Value := [fnV 12, fnV 13, fnV 14, fnV 15, fnV 16, fnV 17,
  fnV 18, fnV 19, fnV 20, fnV 12, fnV 13, fnV 14]
abbrev kindA : Array Value := #[fnV 12, fnV 13, fnV 14, fnV 15, fnV 16, fnV 17,
  fnV 18, fnV 19, fnV 20, fnV 12, fnV 13, fnV 14]
set_option maxRecDepth 8000 in
theorem rec_kinds (w : World) : Calls Try.prog 9 #[] w fun e w' => e = .returned (.agg kindA) ∧ Below w.heap.size w w' := by
  go_enter Try.func9, Try.ntmps9
  go_wp2_with fail
  refine bodyPost_ret (v := .agg kindA) (by simp [results, Try.results9, go_sem]) rfl ⟨rfl, (Below.refl _ _).alloc (Nat.le_refl _) _⟩
abbrev numV (r : Rc) : Value := .agg #[.int .i64 r.p0, .int .i64 r.p1, .int .i64 r.p2, .int .i64 r.v0, .int .i64 r.v1, .int .i64 r.v2]
set_option maxRecDepth 8000 in
theorem rec_signed (w : World) (r : Rc) : Calls Try.prog 22 #[recV r] w fun e w' => e = .returned (numV r) ∧ Below w.heap.size w w' := by
  go_enter Try.func22, Try.ntmps22
  go_wp2_with fail
  refine bodyPost_ret (v := numV r) (by simp [results, Try.results22, go_sem]) rfl ⟨rfl, ((Below.refl _ _).alloc (Nat.le_refl _) _).alloc (by simp) _⟩
end Go.Proofs.Yticcafmelijngaa
