/-
  Layer 7 (reader): New, Err, At, Left, Fail, Done, by the code.
-/
import Derived.Test.YtjjaodlgnoiheaaRdr
import Derived.Test.YtjjaodlgnoiheaaVint4
namespace Go.Proofs.Ytjjaodlgnoiheaa
open Go.RowKit
set_option linter.unusedVariables false

theorem new_any (w : World) (v : Value) (l : List Int) (hb : Bytes l) (h : Rd w v l) : Calls Try.prog 17 #[v] w fun e w' =>
    e = .returned (.pointer (some ⟨w.heap.size, 0, none⟩)) ∧ Rdr w' w.heap.size w.heap.size ⟨l, 0, 0⟩ ∧ Below w.heap.size w w' ∧ w'.heap.size = w.heap.size + 1 := by
  have HR : Hid (Rd w v l) := h
  obtain ⟨ao, cap, rfl, _, _, _, _⟩ := h
  go_enter Try.func17, Try.ntmps17
  go_wp2_with fail
  go_ret
  exact ⟨rfl, Rdr.new HR.out hb _, (Below.refl _ _).alloc (Nat.le_refl _) _, by simp⟩

theorem err_any (w : World) (K R : Nat) (s : St) (h : Rdr w K R s) : Calls Try.prog 20 #[.pointer (some ⟨R, 0, none⟩)] w fun e w' => e = .returned (.int .i64 s.e) ∧ w' = w := by
  obtain ⟨v, h⟩ := h
  have c2 := h.c2
  go_enter Try.func20, Try.ntmps20
  go_wp2_with fail
  go_ret
  exact ⟨rfl, rfl⟩
theorem err_nil (w : World) : Calls Try.prog 20 #[.pointer none] w fun e w' => e = .returned (.int .i64 1) ∧ w' = w := by
  go_enter Try.func20, Try.ntmps20
  go_wp2_with fail
  go_ret
  exact ⟨rfl, rfl⟩
theorem at_any (w : World) (K R : Nat) (s : St) (h : Rdr w K R s) : Calls Try.prog 21 #[.pointer (some ⟨R, 0, none⟩)] w fun e w' => e = .returned (.int .i64 s.n) ∧ w' = w := by
  obtain ⟨v, h⟩ := h
  have c1 := h.c1
  go_enter Try.func21, Try.ntmps21
  go_wp2_with fail
  go_ret
  exact ⟨rfl, rfl⟩
theorem at_nil (w : World) : Calls Try.prog 21 #[.pointer none] w fun e w' => e = .returned (.int .i64 0) ∧ w' = w := by
  go_enter Try.func21, Try.ntmps21
  go_wp2_with fail
  go_ret
  exact ⟨rfl, rfl⟩
theorem left_any (w : World) (K R : Nat) (s : St) (h : Rdr w K R s) : Calls Try.prog 42 #[.pointer (some ⟨R, 0, none⟩)] w fun e w' => e = .returned (.int .i64 s.l.length) ∧ w' = w := by
  obtain ⟨v, h⟩ := h
  have c0 := h.c0
  obtain ⟨ao, cap, rfl, _, _, _, _⟩ := h.low
  go_enter Try.func42, Try.ntmps42
  go_wp2_with fail
  go_ret
  exact ⟨rfl, rfl⟩
theorem left_nil (w : World) : Calls Try.prog 42 #[.pointer none] w fun e w' => e = .returned (.int .i64 0) ∧ w' = w := by
  go_enter Try.func42, Try.ntmps42
  go_wp2_with fail
  go_ret
  exact ⟨rfl, rfl⟩
theorem fail_any (w : World) (K R : Nat) (s : St) (x : Int) (h : Rdr w K R s) : Calls Try.prog 54 #[.pointer (some ⟨R, 0, none⟩), .int .i64 x] w fun e w' => e = .returned (.tuple #[]) ∧ Rdr w' K R (failS s x) ∧ Ch R w w' := by
  have HR : Hid (Rdr w K R s) := h
  obtain ⟨l, n, e⟩ := s
  obtain ⟨v, h⟩ := h
  have HV : Hid (RdrV w K R v ⟨l, n, e⟩) := h
  have c2 := h.c2
  have f2 := h.f 2
  have lt := h.lt
  clear h
  simp only at c2
  by_cases he : e = 0
  · subst he
    go_enter Try.func54, Try.ntmps54
    go_wp2_with fail
    refine (err_any _ K R _ HR.out).mono ?_; rintro e w1 ⟨rfl, rfl⟩
    go_wp2_with fail
    go_end0
    exact ⟨rfl, ⟨v, HV.out.fail x⟩, (Ch.refl _ _).set 2 _⟩
  · go_enter Try.func54, Try.ntmps54
    go_wp2_with fail
    refine (err_any _ K R _ HR.out).mono ?_; rintro e w1 ⟨rfl, rfl⟩
    go_wp2_with fail
    go_end0
    refine ⟨rfl, ?_, Ch.refl _ _⟩
    unfold failS; rw [if_neg (by simpa using he)]; exact HR.out
theorem fail_nil (w : World) (x : Int) : Calls Try.prog 54 #[.pointer none, .int .i64 x] w fun e w' => e = .returned (.tuple #[]) ∧ w' = w := by
  go_enter Try.func54, Try.ntmps54
  go_wp2_with fail
  refine (err_nil _).mono ?_; rintro e w1 ⟨rfl, rfl⟩
  go_wp2_with fail
  go_end0
  exact ⟨rfl, rfl⟩
theorem done_any (w : World) (K R : Nat) (s : St) (h : Rdr w K R s) : Calls Try.prog 26 #[.pointer (some ⟨R, 0, none⟩)] w fun e w' => e = .returned (.int .i64 (doneA s)) ∧ w' = w := by
  have HR : Hid (Rdr w K R s) := h
  clear h
  obtain ⟨l, n, e⟩ := s
  obtain ⟨d, hd⟩ : ∃ d, doneA ⟨l, n, e⟩ = d := ⟨_, rfl⟩
  rw [hd]
  have HD := (show Hid _ from hd)
  clear hd
  by_cases he : e = 0
  · subst he
    by_cases hl : l = []
    · subst hl
      go_enter Try.func26, Try.ntmps26
      go_wp2_with fail
      refine (err_any _ K R _ HR.out).mono ?_; rintro e w1 ⟨rfl, rfl⟩
      go_wp2_with fail
      refine (left_any _ K R _ HR.out).mono ?_; rintro e w1 ⟨rfl, rfl⟩
      go_wp2_with fail
      refine (err_any _ K R _ HR.out).mono ?_; rintro e w1 ⟨rfl, rfl⟩
      go_wp2_with fail
      go_ret
      exact ⟨ret_int (by have := HD.out; simpa [doneA] using this), rfl⟩
    · have hp := List.length_pos_iff.2 hl
      obtain ⟨m, hm⟩ : ∃ m, l.length = m := ⟨_, rfl⟩
      rw [hm] at hp
      have HM := (show Hid _ from hm)
      have q : decide ((0 : Int) < (m : Int)) = true := by simp; omega
      clear hm
      go_enter Try.func26, Try.ntmps26
      go_wp2_with fail
      refine (err_any _ K R _ HR.out).mono ?_; rintro e w1 ⟨rfl, rfl⟩
      go_wp2_with fail
      refine (left_any _ K R _ HR.out).mono ?_; simp only; rw [HM.out]; rintro e w1 ⟨rfl, rfl⟩
      go_wp2_with fail
      go_ret
      exact ⟨ret_int (by have := HD.out; simpa [doneA, hl] using this), rfl⟩
  · go_enter Try.func26, Try.ntmps26
    go_wp2_with fail
    refine (err_any _ K R _ HR.out).mono ?_; rintro e w1 ⟨rfl, rfl⟩
    go_wp2_with fail
    refine (err_any _ K R _ HR.out).mono ?_; rintro e w1 ⟨rfl, rfl⟩
    go_wp2_with fail
    go_ret
    exact ⟨ret_int (by have := HD.out; simpa [doneA, he] using this), rfl⟩
theorem done_nil (w : World) : Calls Try.prog 26 #[.pointer none] w fun e w' => e = .returned (.int .i64 1) ∧ w' = w := by
  go_enter Try.func26, Try.ntmps26
  go_wp2_with fail
  refine (err_nil _).mono ?_; rintro e w1 ⟨rfl, rfl⟩
  go_wp2_with fail
  refine (err_nil _).mono ?_; rintro e w1 ⟨rfl, rfl⟩
  go_wp2_with fail
  go_ret
  exact ⟨rfl, rfl⟩
end Go.Proofs.Ytjjaodlgnoiheaa
