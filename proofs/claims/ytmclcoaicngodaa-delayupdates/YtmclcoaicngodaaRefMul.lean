/-
  The document's answer for products (afterimageref01), walked: Size, signed, times, Mul.
-/
import Derived.Test.YtmclcoaicngodaaAlive
namespace Go.Proofs.Ytmclcoaicngodaa
open Go.RowKit

theorem size_any (a : Int) (ha : R64 a) (w : World) :
    Calls Try.prog 29 #[.int .i64 a] w fun e w' => e = .returned (.int .u64 (a.natAbs : Int)) ∧ w' = w := by
  obtain ⟨a1, a2⟩ := ha
  go_enter Try.func29, Try.ntmps29
  go_wp2
  all_goals (go_ret; refine ⟨ret_int ?_, rfl⟩)
  all_goals first | omega | (simp only [wrap64_eq] at *; omega) | (simp only [u64_eq] at *; omega)

/-- A size with a sign; it stops. -/
def signedI (n : Int) (over minus more : Bool) : Int :=
  if minus then (if over then -9223372036854775808 else sat (-(n + if more then 1 else 0))) else (if over then 9223372036854775807 else sat n)
theorem signed_any (n : Int) (over minus more : Bool) (h0 : 0 ≤ n) (h1 : n ≤ 18446744073709551615) (w : World) :
    Calls Try.prog 30 #[.int .u64 n, .bool over, .bool minus, .bool more] w fun e w' => e = .returned (.int .i64 (signedI n over minus more)) ∧ w' = w := by
  cases over <;> cases minus <;> cases more
  all_goals
    go_enter Try.func30, Try.ntmps30
    go_wp2
    all_goals (go_ret; refine ⟨ret_int ?_, rfl⟩)
    all_goals (simp only [signedI, sat, wrap64_eq, beq_iff_eq, beq_eq_false_iff_ne] at *; simp at *; try (split <;> (try split) <;> omega))

/-- The four products of the halves of two sizes. -/
theorem halves (x y : Int) (hx : 0 ≤ x ∧ x ≤ 18446744073709551615) (hy : 0 ≤ y ∧ y ≤ 18446744073709551615) : ∃ p q r s : Int,
    IntKind.u64.wrap (x / 4294967296 * (y / 4294967296)) = p ∧ IntKind.u64.wrap (x / 4294967296 * (y % 4294967296)) = q ∧ IntKind.u64.wrap (x % 4294967296 * (y / 4294967296)) = r ∧ IntKind.u64.wrap (x % 4294967296 * (y % 4294967296)) = s ∧
    0 ≤ p ∧ p ≤ 18446744065119617025 ∧ 0 ≤ q ∧ q ≤ 18446744065119617025 ∧ 0 ≤ r ∧ r ≤ 18446744065119617025 ∧ 0 ≤ s ∧ s ≤ 18446744065119617025 ∧ x * y = p * 18446744073709551616 + (q + r) * 4294967296 + s := by
  have ex : x = x / 4294967296 * 4294967296 + x % 4294967296 := by omega
  have ey : y = y / 4294967296 * 4294967296 + y % 4294967296 := by omega
  have bx1 : 0 ≤ x / 4294967296 ∧ x / 4294967296 ≤ 4294967295 := by omega
  have by1 : 0 ≤ y / 4294967296 ∧ y / 4294967296 ≤ 4294967295 := by omega
  have bx0 : 0 ≤ x % 4294967296 ∧ x % 4294967296 ≤ 4294967295 := by omega
  have by0 : 0 ≤ y % 4294967296 ∧ y % 4294967296 ≤ 4294967295 := by omega
  have e : x * y = x / 4294967296 * (y / 4294967296) * 18446744073709551616 + (x / 4294967296 * (y % 4294967296) + x % 4294967296 * (y / 4294967296)) * 4294967296 + x % 4294967296 * (y % 4294967296) := by
    conv => lhs; rw [ex, ey]
    simp only [Int.add_mul, Int.mul_add]
    have a1 : x / 4294967296 * 4294967296 * (y / 4294967296 * 4294967296) = x / 4294967296 * (y / 4294967296) * 18446744073709551616 := by
      rw [Int.mul_assoc, Int.mul_comm (4294967296 : Int) (y / 4294967296 * 4294967296), Int.mul_assoc (y / 4294967296), ← Int.mul_assoc]; rfl
    have a2 : x / 4294967296 * 4294967296 * (y % 4294967296) = x / 4294967296 * (y % 4294967296) * 4294967296 := by rw [Int.mul_assoc, Int.mul_comm (4294967296 : Int) (y % 4294967296), ← Int.mul_assoc]
    have a3 : x % 4294967296 * (y / 4294967296 * 4294967296) = x % 4294967296 * (y / 4294967296) * 4294967296 := by rw [← Int.mul_assoc]
    rw [a1, a2, a3]
    generalize x / 4294967296 * (y / 4294967296) = p
    generalize x / 4294967296 * (y % 4294967296) = q
    generalize x % 4294967296 * (y / 4294967296) = r
    generalize x % 4294967296 * (y % 4294967296) = s
    omega
  have p1 := le_mul_of bx1.1 by1.1 bx1.2 by1.2
  have p2 := le_mul_of bx1.1 by0.1 bx1.2 by0.2
  have p3 := le_mul_of bx0.1 by1.1 bx0.2 by1.2
  have p4 := le_mul_of bx0.1 by0.1 bx0.2 by0.2
  refine ⟨_, _, _, _, ?_, ?_, ?_, ?_, p1.1, p1.2, p2.1, p2.2, p3.1, p3.2, p4.1, p4.2, e⟩
  all_goals (rw [u64_eq]; omega)
theorem refTimes_any (a b : Int) (ha : 0 ≤ a ∧ a ≤ 18446744073709551615) (hb : 0 ≤ b ∧ b ≤ 18446744073709551615) (w : World) :
    Calls Try.prog 28 #[.int .u64 a, .int .u64 b] w fun e w' => e = .returned (.tuple #[.int .u64 (a * b / 18446744073709551616), .int .u64 (a * b % 18446744073709551616)]) ∧ w' = w := by
  obtain ⟨p, q, r, s, hp, hq, hr, hs, p0, p1, q0, q1, r0, r1, s0, s1, e⟩ := halves a b ha hb
  have hh : a * b ≤ 18446744073709551615 * 18446744073709551615 := (le_mul_of ha.1 hb.1 ha.2 hb.2).2
  obtain ⟨a1, a2⟩ := ha
  obtain ⟨b1, b2⟩ := hb
  rw [e] at hh ⊢
  clear e
  go_enter Try.func28, Try.ntmps28
  go_wp2
  go_ret2
  exact ⟨ret_two (by omega) (by omega), rfl⟩

theorem refMul_fin (a b : Int) (ha : R64 a) (hb : R64 b) (P : Int) (hP : (a.natAbs : Int) * (b.natAbs : Int) = P) :
    0 ≤ P ∧ P ≤ 85070591730234615865843651857942052864 ∧
    signedI (P % 18446744073709551616 / 65536 + P / 18446744073709551616 % 65536 * 281474976710656) (decide (65536 ≤ P / 18446744073709551616)) (decide (a * b < 0)) (P % 65536 != 0) = sat (a * b / 65536) := by
  have hn : ((a * b).natAbs : Int) = P := by rw [Int.natAbs_mul, Int.natCast_mul, hP]
  have hb2 : (a * b).natAbs ≤ 9223372036854775808 * 9223372036854775808 := by
    unfold R64 at *; rw [Int.natAbs_mul]; exact Nat.mul_le_mul (by omega) (by omega)
  refine ⟨by omega, by omega, ?_⟩
  generalize a * b = t at *
  unfold signedI
  by_cases h : t < 0
  · have e : t = -P := by omega
    subst e
    rw [decide_eq_true h]
    by_cases hm : P % 65536 = 0
    · have : (P % 65536 != 0) = false := by simpa using hm
      rw [this]
      by_cases ho : 65536 ≤ P / 18446744073709551616
      · rw [decide_eq_true ho]; simp only [if_true]; unfold sat; split <;> (try split) <;> omega
      · rw [decide_eq_false ho]; simp only [if_true, if_false, Bool.false_eq_true]; congr 1; omega
    · have : (P % 65536 != 0) = true := by simpa using hm
      rw [this]
      by_cases ho : 65536 ≤ P / 18446744073709551616
      · rw [decide_eq_true ho]; simp only [if_true]; unfold sat; split <;> (try split) <;> omega
      · rw [decide_eq_false ho]; simp only [if_true, if_false, Bool.false_eq_true]; congr 1; omega
  · have e : t = P := by omega
    subst e
    rw [decide_eq_false h]
    by_cases ho : 65536 ≤ t / 18446744073709551616
    · rw [decide_eq_true ho]; simp only [if_true, if_false, Bool.false_eq_true]; unfold sat; split <;> (try split) <;> omega
    · rw [decide_eq_false ho]; simp only [if_false, Bool.false_eq_true]; congr 1; omega
set_option maxHeartbeats 1000000 in
theorem refMul_sign (a b : Int) (ha : R64 a) (hb : R64 b) (m : Bool) (hm : decide (a * b < 0) = m) (hc : (m = true ∧ a < 0 ∧ 0 < b) ∨ (m = false ∧ a < 0 ∧ b ≤ 0) ∨ (m = false ∧ a = 0) ∨ (m = true ∧ 0 < a ∧ b < 0) ∨ (m = false ∧ 0 < a ∧ 0 ≤ b)) (w : World) :
    Calls Try.prog 24 #[.int .i64 a, .int .i64 b] w fun e w' => e = .returned (.int .i64 (sat (a * b / 65536))) ∧ w' = w := by
  obtain ⟨P, hP⟩ : ∃ P, (a.natAbs : Int) * (b.natAbs : Int) = P := ⟨_, rfl⟩
  obtain ⟨P0, P1, hfin⟩ := refMul_fin a b ha hb P hP
  rw [hm] at hfin
  have HF := (show Hid _ from hfin)
  have na : 0 ≤ (a.natAbs : Int) ∧ (a.natAbs : Int) ≤ 18446744073709551615 := by unfold R64 at *; omega
  have nb : 0 ≤ (b.natAbs : Int) ∧ (b.natAbs : Int) ≤ 18446744073709551615 := by unfold R64 at *; omega
  have HP := (show Hid _ from hP)
  clear hfin hP hm
  obtain ⟨A, hA⟩ : ∃ A, (a.natAbs : Int) = A := ⟨_, rfl⟩
  obtain ⟨B, hB⟩ : ∃ B, (b.natAbs : Int) = B := ⟨_, rfl⟩
  rw [hA] at na HP
  rw [hB] at nb HP
  have HA := (show Hid _ from hA)
  have HB := (show Hid _ from hB)
  clear hA hB
  rcases hc with ⟨rfl, c1, c2⟩ | ⟨rfl, c1, c2⟩ | ⟨rfl, rfl⟩ | ⟨rfl, c1, c2⟩ | ⟨rfl, c1, c2⟩
  all_goals
    try have k1 : decide (0 < b) = false := decide_eq_false (by omega)
    try have k2 : decide (b < 0) = false := decide_eq_false (by omega)
    go_enter Try.func24, Try.ntmps24
    go_wp2_with fail
    refine (size_any _ ha _).mono ?_; rw [HA.out]; rintro e w1 ⟨rfl, rfl⟩
    go_wp2_with fail
    refine (size_any b hb _).mono ?_; rw [HB.out]; rintro e w2 ⟨rfl, rfl⟩
    go_wp2_with fail
    refine (refTimes_any A B na nb _).mono ?_; rw [HP.out]; rintro e w3 ⟨rfl, rfl⟩
    go_wp2_with fail
    refine (signed_any (P % 18446744073709551616 / 65536 + P / 18446744073709551616 % 65536 * 281474976710656) _ _ _ (by omega) (by omega) _).mono ?_; rw [HF.out]; rintro e w4 ⟨rfl, rfl⟩
    go_wp2_with fail
    go_ret
    exact ⟨ret_int (by first | rfl | simp), rfl⟩
theorem refMul_any (a b : Int) (ha : R64 a) (hb : R64 b) (w : World) :
    Calls Try.prog 24 #[.int .i64 a, .int .i64 b] w fun e w' => e = .returned (.int .i64 (sat (a * b / 65536))) ∧ w' = w := by
  rcases Int.lt_trichotomy a 0 with h1 | h1 | h1
  · by_cases h2 : 0 < b
    · exact refMul_sign a b ha hb true (decide_eq_true (Int.mul_neg_of_neg_of_pos h1 h2)) (.inl ⟨rfl, h1, h2⟩) w
    · exact refMul_sign a b ha hb false (decide_eq_false (by have := Int.mul_nonneg_of_nonpos_of_nonpos (show a ≤ 0 by omega) (show b ≤ 0 by omega); omega)) (.inr (.inl ⟨rfl, h1, by omega⟩)) w
  · exact refMul_sign a b ha hb false (by subst h1; simp) (.inr (.inr (.inl ⟨rfl, h1⟩))) w
  · by_cases h2 : b < 0
    · exact refMul_sign a b ha hb true (decide_eq_true (Int.mul_neg_of_pos_of_neg h1 h2)) (.inr (.inr (.inr (.inl ⟨rfl, h1, h2⟩)))) w
    · exact refMul_sign a b ha hb false (decide_eq_false (by have := Int.mul_nonneg (show 0 ≤ a by omega) (show 0 ≤ b by omega); omega)) (.inr (.inr (.inr (.inr ⟨rfl, h1, by omega⟩)))) w
end Go.Proofs.Ytmclcoaicngodaa
