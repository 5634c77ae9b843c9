/-
  Layer 3 (angle), walked: Diff, Turn, and the document's answers for both (afterimageref03).
-/
import Derived.Test.YtoidoikapminfaaBase
namespace Go.Proofs.Ytoidoikapminfaa
open Go.RowKit

def U16 (x : Int) : Prop := 0 ≤ x ∧ x ≤ 65535
/-- The way from a to b. -/
def wayI (a b : Int) : Int := (b - a + 32768) % 65536 - 32768
/-- a turned by d. -/
def turnI (a d : Int) : Int := (a + d) % 65536
theorem u16_eq (n : Int) : IntKind.u16.wrap n = n % 65536 := IntKind.wrap_u16 n
theorem i16_eq (n : Int) : IntKind.i16.wrap n = (n + 32768) % 65536 - 32768 := by
  simp only [IntKind.wrap, IntKind.bits, IntKind.signed]; simp; try omega
theorem tmod_ex (d m : Int) (h : 0 < m) : ∃ q r : Int, d.tmod m = r ∧ d = m * q + r ∧ -m < r ∧ r < m ∧ (0 ≤ d → 0 ≤ r) ∧ (d ≤ 0 → r ≤ 0) := by
  by_cases hd : 0 ≤ d
  · have a1 := Int.mul_ediv_add_emod d m
    have a2 := Int.emod_nonneg d (show m ≠ 0 by omega)
    have a3 := Int.emod_lt_of_pos d h
    exact ⟨d / m, _, Int.tmod_eq_emod_of_nonneg hd, by omega, by omega, by omega, by omega, fun hd' => by
      have : d = 0 := by omega
      subst this; simp⟩
  · obtain ⟨e, rfl⟩ : ∃ e, d = -e := ⟨-d, by omega⟩
    have a1 := Int.mul_ediv_add_emod e m
    have a2 := Int.emod_nonneg e (show m ≠ 0 by omega)
    have a3 := Int.emod_lt_of_pos e h
    refine ⟨-(e / m), -(e % m), by rw [Int.neg_tmod, Int.tmod_eq_emod_of_nonneg (by omega)], ?_, by omega, by omega, by omega, by omega⟩
    rw [Int.mul_neg]; omega
theorem way_bd (a b : Int) : -32768 ≤ wayI a b ∧ wayI a b ≤ 32767 := by unfold wayI; omega
theorem way_R64 (a b : Int) : R64 (wayI a b) := by have := way_bd a b; unfold R64; omega
theorem turn_U16 (a d : Int) : U16 (turnI a d) := by unfold turnI U16; omega

theorem way_any (a b : Int) (w : World) :
    Calls Try.prog 22 #[.int .u16 a, .int .u16 b] w fun e w' => e = .returned (.int .i64 (wayI a b)) ∧ w' = w := by
  have h := way_bd a b
  have e1 : IntKind.i16.wrap (IntKind.u16.wrap (b - a)) = wayI a b := by rw [u16_eq, i16_eq]; unfold wayI; omega
  go_enter Try.func22, Try.ntmps22
  go_wp2_with fail
  go_ret
  exact ⟨rfl, rfl⟩
theorem diff_any (a b : Int) (w : World) :
    Calls Try.prog 11 #[.int .u16 a, .int .u16 b] w fun e w' => e = .returned (.int .i64 (wayI a b)) ∧ w' = w := by
  go_enter Try.func11, Try.ntmps11
  go_wp2_with fail
  refine (way_any a b _).mono ?_; rintro e w1 ⟨rfl, rfl⟩
  go_wp2_with fail
  go_ret
  exact ⟨rfl, rfl⟩
theorem turned_any (a d : Int) (w : World) :
    Calls Try.prog 23 #[.int .u16 a, .int .i64 d] w fun e w' => e = .returned (.int .u16 (turnI a d)) ∧ w' = w := by
  have e1 : IntKind.u16.wrap (a + IntKind.u16.wrap d) = turnI a d := by simp only [u16_eq]; unfold turnI; omega
  go_enter Try.func23, Try.ntmps23
  go_wp2_with fail
  go_ret
  exact ⟨rfl, rfl⟩
theorem turn_any (a d : Int) (w : World) :
    Calls Try.prog 13 #[.int .u16 a, .int .i64 d] w fun e w' => e = .returned (.int .u16 (turnI a d)) ∧ w' = w := by
  go_enter Try.func13, Try.ntmps13
  go_wp2_with fail
  refine (turned_any a d _).mono ?_; rintro e w1 ⟨rfl, rfl⟩
  go_wp2_with fail
  go_ret
  exact ⟨rfl, rfl⟩

theorem rdiff_any (a b : Int) (ha : U16 a) (hb : U16 b) (w : World) :
    Calls Try.prog 12 #[.int .u16 a, .int .u16 b] w fun e w' => e = .returned (.int .i64 (wayI a b)) ∧ w' = w := by
  obtain ⟨a0, a1⟩ := ha
  obtain ⟨b0, b1⟩ := hb
  go_enter Try.func12, Try.ntmps12
  go_wp2
  all_goals (go_ret; exact ⟨ret_int (by unfold wayI; omega), rfl⟩)
theorem rturn_any (a d : Int) (ha : U16 a) (hd : R64 d) (w : World) :
    Calls Try.prog 14 #[.int .u16 a, .int .i64 d] w fun e w' => e = .returned (.int .u16 (turnI a d)) ∧ w' = w := by
  obtain ⟨a0, a1⟩ := ha
  obtain ⟨d0, d1⟩ := hd
  obtain ⟨q, r, h1, h2, h3, h4, _, _⟩ := tmod_ex d 65536 (by omega)
  have h5 : wrap64 (a + r) = a + r := wrap64_of _ _ 0 (by omega) (by unfold R64; omega)
  obtain ⟨p, s, h6, h7, h8, h9, ha, hb⟩ := tmod_ex (a + r) 65536 (by omega)
  have H2 := (show Hid _ from h2); have H7 := (show Hid _ from h7)
  clear h2 h7
  go_enter Try.func14, Try.ntmps14
  go_wp2
  all_goals (go_ret; refine ⟨ret_int ?_, rfl⟩; have k2 := H2.out; have k7 := H7.out; unfold turnI; (try rw [u16_eq]); omega)
end Go.Proofs.Ytoidoikapminfaa
