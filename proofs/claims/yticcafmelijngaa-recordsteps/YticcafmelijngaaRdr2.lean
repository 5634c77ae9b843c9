/-
  Layer 7 (reader): New, Err, At, Left, Fail, Done, by the code.
-/
import Derived.Test.YticcafmelijngaaRdr
import Derived.Test.YticcafmelijngaaVint4
namespace Go.Proofs.Yticcafmelijngaa
open Go.RowKit
set_option linter.unusedVariables false

theorem err_any (w : World) (K R : Nat) (s : St) (h : Rdr w K R s) : Calls Try.prog 36 #[.pointer (some ⟨R, 0, none⟩)] w fun e w' => e = .returned (.int .i64 s.e) ∧ w' = w := by
  obtain ⟨v, h⟩ := h
  have c2 := h.c2
  go_enter Try.func36, Try.ntmps36
  go_wp2_with fail
  go_ret
  exact ⟨rfl, rfl⟩
theorem err_nil (w : World) : Calls Try.prog 36 #[.pointer none] w fun e w' => e = .returned (.int .i64 1) ∧ w' = w := by
  go_enter Try.func36, Try.ntmps36
  go_wp2_with fail
  go_ret
  exact ⟨rfl, rfl⟩
theorem left_any (w : World) (K R : Nat) (s : St) (h : Rdr w K R s) : Calls Try.prog 40 #[.pointer (some ⟨R, 0, none⟩)] w fun e w' => e = .returned (.int .i64 s.l.length) ∧ w' = w := by
  obtain ⟨v, h⟩ := h
  have c0 := h.c0
  obtain ⟨ao, cap, rfl, _, _, _, _⟩ := h.low
  go_enter Try.func40, Try.ntmps40
  go_wp2_with fail
  go_ret
  exact ⟨rfl, rfl⟩
theorem left_nil (w : World) : Calls Try.prog 40 #[.pointer none] w fun e w' => e = .returned (.int .i64 0) ∧ w' = w := by
  go_enter Try.func40, Try.ntmps40
  go_wp2_with fail
  go_ret
  exact ⟨rfl, rfl⟩
theorem fail_any (w : World) (K R : Nat) (s : St) (x : Int) (h : Rdr w K R s) : Calls Try.prog 27 #[.pointer (some ⟨R, 0, none⟩), .int .i64 x] w fun e w' => e = .returned (.tuple #[]) ∧ Rdr w' K R (failS s x) ∧ Ch R w w' := by
  have HR : Hid (Rdr w K R s) := h
  obtain ⟨l, n, e⟩ := s
  obtain ⟨v, h⟩ := h
  have HV : Hid (RdrV w K R v ⟨l, n, e⟩) := h
  have c2 := h.c2
  have f2 := h.f 2
  have lt := h.lt
  clear h
  simp only at c2
  by_cases he : e = 0
  · subst he
    go_enter Try.func27, Try.ntmps27
    go_wp2_with fail
    refine (err_any _ K R _ HR.out).mono ?_; rintro e w1 ⟨rfl, rfl⟩
    go_wp2_with fail
    go_end0
    exact ⟨rfl, ⟨v, HV.out.fail x⟩, (Ch.refl _ _).set 2 _⟩
  · go_enter Try.func27, Try.ntmps27
    go_wp2_with fail
    refine (err_any _ K R _ HR.out).mono ?_; rintro e w1 ⟨rfl, rfl⟩
    go_wp2_with fail
    go_end0
    refine ⟨rfl, ?_, Ch.refl _ _⟩
    unfold failS; rw [if_neg (by simpa using he)]; exact HR.out
theorem fail_nil (w : World) (x : Int) : Calls Try.prog 27 #[.pointer none, .int .i64 x] w fun e w' => e = .returned (.tuple #[]) ∧ w' = w := by
  go_enter Try.func27, Try.ntmps27
  go_wp2_with fail
  refine (err_nil _).mono ?_; rintro e w1 ⟨rfl, rfl⟩
  go_wp2_with fail
  go_end0
  exact ⟨rfl, rfl⟩
end Go.Proofs.Yticcafmelijngaa
