/-
  Layer 14 (jitter): the contracts: Step, the document's Step, New, Add (with its deferred count), Now, Count, the document's example.
-/
import Derived.Test.YtnnfdmglohbgpaaRdr
import Derived.Test.YtnnfdmglohbgpaaJi1
import Derived.Defers
import Derived.Deep.LoopGhost
namespace Go.Proofs.Ytnnfdmglohbgpaa
open Go.RowKit
set_option linter.unusedVariables false
set_option maxRecDepth 20000

theorem boxed {w W : World} {cs : Array Value} {t : TypeId} (h : w.alloc (.cells cs t) = W) : Blk W w.heap.size cs.toList ∧ Below w.heap.size w W ∧ W.heap.size = w.heap.size + 1 := by
  subst h
  exact ⟨Blk.new w cs t rfl, (Below.refl _ w).alloc (Nat.le_refl _) _, by simp⟩
theorem Blk.below {w w' : World} {b B : Nat} {cs : List Value} (h : Blk w b cs) (k : Below B w w') (hB : b < B) : Blk w' b cs :=
  ⟨Nat.lt_of_lt_of_le h.lt k.size, fun i hi => (k.cell (p := ⟨b, i, none⟩) hB).trans (h.all i hi), fun i => (k.frozen (p := ⟨b, i, none⟩) hB).trans (h.froz i)⟩

theorem jstep (n s : Int) (hn : -9223372036854775808 ≤ n ∧ n ≤ 9223372036854775807) (hs : -9223372036854775808 ≤ s ∧ s ≤ 9223372036854775807) (w : World) :
    Calls Try.prog 10 #[.int .i64 n, .int .i64 s] w fun e w' => e = .returned (.int .i64 (stepI n s)) ∧ w' = w := by
  go_enter Try.func10, Try.ntmps10
  by_cases h1 : n < 0 <;> by_cases h2 : s < 0
  all_goals go_wp2_with fail
  all_goals go_ret
  all_goals (refine ⟨congrArg Ending.returned (congrArg (Value.int IntKind.i64) ?_), rfl⟩; unfold stepI; omega)
theorem jref (n s : Int) (hn : -9223372036854775808 ≤ n ∧ n ≤ 9223372036854775807) (hs : -9223372036854775808 ≤ s ∧ s ≤ 9223372036854775807) (w : World) :
    Calls Try.prog 11 #[.int .i64 n, .int .i64 s] w fun e w' => e = .returned (.int .i64 (stepI n s)) ∧ w' = w := by
  go_enter Try.func11, Try.ntmps11
  have hq := step_doc (s - n)
  have ht : 0 ≤ n → n.tdiv 16 = n / 16 := fun h => Int.tdiv_eq_ediv_of_nonneg h
  by_cases h1 : n < 0 <;> by_cases h2 : s < 0
  all_goals go_wp2_with fail
  all_goals go_ret
  all_goals (refine ⟨congrArg Ending.returned (congrArg (Value.int IntKind.i64) ?_), rfl⟩; unfold stepI; try unfold wrap64)
  all_goals omega

theorem jnew (w : World) : Calls Try.prog 12 #[] w fun e w' => e = .returned (.pointer (some ⟨w.heap.size, 0, none⟩)) ∧
    Blk w' w.heap.size [.int .i64 0, .int .i64 0] ∧ Below w.heap.size w w' := by
  go_enter Try.func12, Try.ntmps12
  go_wp2_with fail
  go_ret
  obtain ⟨X0, B0, Z0⟩ := boxed (w := w) (cs := #[.int .i64 0, .int .i64 0]) (t := 39) rfl
  exact ⟨rfl, X0, B0⟩

theorem jadd_nil (s : Int) (w : World) : Calls Try.prog 13 #[.pointer none, .int .i64 s] w fun e w' => e = .returned (.int .i64 1) ∧ w' = w := by
  go_enter_defers Try.func13, Try.ntmps13
  go_wp2_with fail
  exact ⟨_, results_tmp rfl _ _ _, rfl, rfl⟩
theorem jnow_nil (w : World) : Calls Try.prog 14 #[.pointer none] w fun e w' => e = .returned (.int .i64 0) ∧ w' = w := by
  go_enter Try.func14, Try.ntmps14
  go_wp2_with fail
  go_ret
  exact ⟨rfl, rfl⟩
theorem jcount_nil (w : World) : Calls Try.prog 15 #[.pointer none] w fun e w' => e = .returned (.int .i64 0) ∧ w' = w := by
  go_enter Try.func15, Try.ntmps15
  go_wp2_with fail
  go_ret
  exact ⟨rfl, rfl⟩
theorem jnow (w : World) (J : Nat) (n c : Int) (h : Blk w J [.int .i64 n, .int .i64 c]) : Calls Try.prog 14 #[.pointer (some ⟨J, 0, none⟩)] w fun e w' => e = .returned (.int .i64 n) ∧ w' = w := by
  have c0 := h.cell 0 _ rfl
  go_enter Try.func14, Try.ntmps14
  go_wp2_with fail
  go_ret
  exact ⟨rfl, rfl⟩
theorem jcount (w : World) (J : Nat) (n c : Int) (h : Blk w J [.int .i64 n, .int .i64 c]) : Calls Try.prog 15 #[.pointer (some ⟨J, 0, none⟩)] w fun e w' => e = .returned (.int .i64 c) ∧ w' = w := by
  have c1 := h.cell 1 _ rfl
  go_enter Try.func15, Try.ntmps15
  go_wp2_with fail
  go_ret
  exact ⟨rfl, rfl⟩
/-- The deferred count. -/
theorem jcounted (w : World) (J : Nat) (n c : Int) (hc : -9223372036854775808 ≤ c ∧ c < 9223372036854775807) (h : Blk w J [.int .i64 n, .int .i64 c]) (u : FrameMode) :
    CallsD Try.prog 16 #[.pointer (some ⟨J, 0, none⟩)] u w fun e u' w' => u' = u ∧ (e = .returned (.tuple #[]) ∧ w' = w.setCell ⟨J, 1, none⟩ (.int .i64 (c + 1))) := by
  have c1 := h.cell 1 _ rfl
  have f1 := h.froz 1
  go_enter_d Try.func16, Try.ntmps16
  go_wp2_with fail
  go_end0
  exact ⟨rfl, rfl⟩
theorem jadd (w : World) (J : Nat) (n c s : Int) (hn : -9223372036854775808 ≤ n ∧ n ≤ 9223372036854775807) (hs : -9223372036854775808 ≤ s ∧ s ≤ 9223372036854775807) (hc : -9223372036854775808 ≤ c ∧ c < 9223372036854775807) (h : Blk w J [.int .i64 n, .int .i64 c]) :
    Calls Try.prog 13 #[.pointer (some ⟨J, 0, none⟩), .int .i64 s] w fun e w' => e = .returned (.int .i64 0) ∧
      Blk w' J [.int .i64 (stepI n s), .int .i64 (c + 1)] ∧ Below J w w' := by
  have c0 := h.cell 0 _ rfl
  have f0 := h.froz 0
  go_enter_defers Try.func13, Try.ntmps13
  go_wp2_with (go_at_call 10; refine (jstep n s hn hs _).mono ?_; rintro e w' ⟨rfl, rfl⟩)
  refine leaves_cons (f := 16) (args := #[.pointer (some ⟨J, 0, none⟩)]) (by simp) (by simp [go_sem]) ?_
  refine (jcounted _ J (stepI n s) c hc (h.set 0 (.int .i64 (stepI n s)) (by simp)) .returning).mono ?_
  rintro e u' w'' ⟨rfl, rfl, rfl⟩
  exact ⟨_, results_tmp rfl _ _ _, rfl, (h.set 0 (.int .i64 (stepI n s)) (by simp)).set 1 (.int .i64 (c + 1)) (by simp), ((Below.refl J _).setCell (p := ⟨J, 0, none⟩) (Nat.le_refl _) _).setCell (p := ⟨J, 1, none⟩) (Nat.le_refl _) _⟩
/-- The document's example. -/
theorem ji_alive (w : World) : Calls Try.prog 9 #[] w fun e w' => e = .returned (.bool true) ∧ w' = w := by
  have e1 : stepI 0 160 = 10 := by decide
  have e2 : stepI 10 0 = 9 := by decide
  have e3 : stepI 9 9 = 9 := by decide
  go_enter Try.func9, Try.ntmps9
  go_wp2_with fail
  refine (jstep 0 160 (by omega) (by omega) _).mono ?_; rw [e1]; rintro e w1 ⟨rfl, rfl⟩
  go_wp2_with fail
  refine (jstep 10 0 (by omega) (by omega) _).mono ?_; rw [e2]; rintro e w1 ⟨rfl, rfl⟩
  go_wp2_with fail
  refine (jstep 9 9 (by omega) (by omega) _).mono ?_; rw [e3]; rintro e w1 ⟨rfl, rfl⟩
  go_wp2_with fail
  go_ret
  exact ⟨rfl, rfl⟩
end Go.Proofs.Ytnnfdmglohbgpaa
