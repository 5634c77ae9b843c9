/-
  Plain arithmetic under math/bits' Mul64, Len64 and Div64.
-/
import Derived.Test.YtmclcoaicngodaaMath
import Derived.Lib.BitFns
import Derived.Laws.Bits64b
namespace Go.Proofs.Ytmclcoaicngodaa
open Go.RowKit

theorem mask32 (a : Int) (h0 : 0 ≤ a) (h1 : a ≤ 18446744073709551615) : bits .and .u64 a 4294967295 = a % 4294967296 := by
  obtain ⟨a, rfl⟩ := Int.eq_ofNat_of_zero_le h0
  have h := bits_and_u64_nat a 4294967295 (by omega) (by omega)
  have e : a &&& 4294967295 = a % 4294967296 := Nat.and_two_pow_sub_one_eq_mod a 32
  rw [e] at h
  exact h

theorem le_mul_of {a b c d : Int} (ha : 0 ≤ a) (hb : 0 ≤ b) (hc : a ≤ c) (hd : b ≤ d) : 0 ≤ a * b ∧ a * b ≤ c * d :=
  ⟨Int.mul_nonneg ha hb, Int.mul_le_mul hc hd hb (Int.le_trans ha hc)⟩

theorem mul64_hi_eq (x y : Int) (hx : 0 ≤ x ∧ x ≤ 18446744073709551615) (hy : 0 ≤ y ∧ y ≤ 18446744073709551615) :
    IntKind.u64.wrap (IntKind.u64.wrap (IntKind.u64.wrap (x / 4294967296 * (y / 4294967296)) +
      IntKind.u64.wrap (IntKind.u64.wrap (x / 4294967296 * bits .and .u64 y 4294967295) + IntKind.u64.wrap (bits .and .u64 x 4294967295 * bits .and .u64 y 4294967295) / 4294967296) / 4294967296) +
      IntKind.u64.wrap (bits .and .u64 (IntKind.u64.wrap (IntKind.u64.wrap (x / 4294967296 * bits .and .u64 y 4294967295) + IntKind.u64.wrap (bits .and .u64 x 4294967295 * bits .and .u64 y 4294967295) / 4294967296)) 4294967295 +
        IntKind.u64.wrap (bits .and .u64 x 4294967295 * (y / 4294967296))) / 4294967296) = x * y / 18446744073709551616 := by
  rw [mask32 x hx.1 hx.2, mask32 y hy.1 hy.2]
  have ex : x = x / 4294967296 * 4294967296 + x % 4294967296 := by omega
  have ey : y = y / 4294967296 * 4294967296 + y % 4294967296 := by omega
  have bx1 : 0 ≤ x / 4294967296 ∧ x / 4294967296 ≤ 4294967295 := by omega
  have by1 : 0 ≤ y / 4294967296 ∧ y / 4294967296 ≤ 4294967295 := by omega
  have bx0 : 0 ≤ x % 4294967296 ∧ x % 4294967296 ≤ 4294967295 := by omega
  have by0 : 0 ≤ y % 4294967296 ∧ y % 4294967296 ≤ 4294967295 := by omega
  have e : x * y = x / 4294967296 * (y / 4294967296) * 18446744073709551616 + (x / 4294967296 * (y % 4294967296) + x % 4294967296 * (y / 4294967296)) * 4294967296 + x % 4294967296 * (y % 4294967296) := by
    conv => lhs; rw [ex, ey]
    simp only [Int.add_mul, Int.mul_add]
    have a1 : x / 4294967296 * 4294967296 * (y / 4294967296 * 4294967296) = x / 4294967296 * (y / 4294967296) * 18446744073709551616 := by
      rw [Int.mul_assoc, Int.mul_comm (4294967296 : Int) (y / 4294967296 * 4294967296), Int.mul_assoc (y / 4294967296), ← Int.mul_assoc]; rfl
    have a2 : x / 4294967296 * 4294967296 * (y % 4294967296) = x / 4294967296 * (y % 4294967296) * 4294967296 := by rw [Int.mul_assoc, Int.mul_comm (4294967296 : Int) (y % 4294967296), ← Int.mul_assoc]
    have a3 : x % 4294967296 * (y / 4294967296 * 4294967296) = x % 4294967296 * (y / 4294967296) * 4294967296 := by rw [← Int.mul_assoc]
    rw [a1, a2, a3]
    generalize x / 4294967296 * (y / 4294967296) = p
    generalize x / 4294967296 * (y % 4294967296) = q
    generalize x % 4294967296 * (y / 4294967296) = r
    generalize x % 4294967296 * (y % 4294967296) = s
    omega
  have p1 := le_mul_of bx1.1 by1.1 bx1.2 by1.2
  have p2 := le_mul_of bx1.1 by0.1 bx1.2 by0.2
  have p3 := le_mul_of bx0.1 by1.1 bx0.2 by1.2
  have p4 := le_mul_of bx0.1 by0.1 bx0.2 by0.2
  rw [e]
  clear e ex ey bx1 by1 bx0 by0
  generalize x / 4294967296 * (y / 4294967296) = p at *
  generalize x / 4294967296 * (y % 4294967296) = q at *
  generalize x % 4294967296 * (y / 4294967296) = r at *
  generalize x % 4294967296 * (y % 4294967296) = s at *
  have e1 : IntKind.u64.wrap s = s := by rw [u64_eq]; omega
  have e2 : IntKind.u64.wrap q = q := by rw [u64_eq]; omega
  have e3 : IntKind.u64.wrap r = r := by rw [u64_eq]; omega
  have e4 : IntKind.u64.wrap p = p := by rw [u64_eq]; omega
  have e5 : IntKind.u64.wrap (q + s / 4294967296) = q + s / 4294967296 := by rw [u64_eq]; omega
  rw [e1, e2, e3, e4, e5, mask32 _ (by omega) (by omega)]
  simp only [u64_eq]
  omega

/-! Len64 -/
theorem bitLen_small : ∀ i : Fin 256, i.val ≠ 0 → i.val < 2 ^ Lib.bitLen i.val ∧ 2 ^ Lib.bitLen i.val ≤ 2 * i.val ∧ Lib.bitLen i.val ≤ 8 := by decide +kernel
theorem len_fin (y i : Int) (k : Nat) (K : Nat) (hK : 2 ^ k = K) (hi : i = y / K) (h0 : 1 ≤ i) (h1 : i ≤ 255) (hk : k ≤ 56) (hK0 : 0 < K) :
    ∃ s : Nat, (k : Int) + (Lib.bitLen i.toNat : Int) = (s : Int) ∧ y < (2 ^ s : Nat) ∧ ((2 ^ s : Nat) : Int) ≤ 2 * y ∧ s ≤ 64 := by
  obtain ⟨h2, h3, h4⟩ := bitLen_small ⟨i.toNat, by omega⟩ (by show i.toNat ≠ 0; omega)
  simp only at h2 h3 h4
  refine ⟨k + Lib.bitLen i.toNat, by omega, ?_, ?_, by omega⟩
  all_goals
    rw [Nat.pow_add, hK]
    generalize 2 ^ Lib.bitLen i.toNat = P at *
    have hP : (i.toNat : Int) = i := by omega
    have hd : (K : Int) * (y / K) + y % K = y := Int.mul_ediv_add_emod y K
    have hm : 0 ≤ y % K := Int.emod_nonneg _ (by omega)
    have hm2 : y % K < K := Int.emod_lt_of_pos _ (by omega)
    rw [← hi] at hd
    push_cast
  · have : (K : Int) * (i + 1) ≤ K * P := Int.mul_le_mul_of_nonneg_left (by omega) (by omega)
    rw [Int.mul_add] at this; omega
  · have : (K : Int) * P ≤ K * (2 * i) := Int.mul_le_mul_of_nonneg_left (by omega) (by omega)
    have e : (K : Int) * (2 * i) = 2 * (K * i) := by rw [Int.mul_left_comm]
    omega
theorem lead_fin (y : Int) (s : Nat) (h1 : y < (2 ^ s : Nat)) (h2 : ((2 ^ s : Nat) : Int) ≤ 2 * y) (h3 : s ≤ 64) (h0 : 1 ≤ y) :
    9223372036854775808 ≤ y * (2 ^ (64 - s) : Nat) ∧ y * (2 ^ (64 - s) : Nat) ≤ 18446744073709551615 ∧ 64 - s ≤ 63 := by
  have hs : s ≠ 0 := by rintro rfl; simp at h1; omega
  have e : 2 ^ s * 2 ^ (64 - s) = 18446744073709551616 := by rw [← Nat.pow_add, show s + (64 - s) = 64 by omega]
  have hp : 0 < 2 ^ (64 - s) := Nat.two_pow_pos _
  generalize 2 ^ (64 - s) = Q at *
  generalize 2 ^ s = P at *
  have e' : (P : Int) * Q = 18446744073709551616 := by omega
  have a1 : (y + 1) * Q ≤ P * Q := Int.mul_le_mul_of_nonneg_right (by omega) (by omega)
  have a2 : (P : Int) * Q ≤ (2 * y) * Q := Int.mul_le_mul_of_nonneg_right h2 (by omega)
  rw [Int.add_mul] at a1
  rw [Int.mul_assoc] at a2
  refine ⟨by omega, by omega, by omega⟩
end Go.Proofs.Ytmclcoaicngodaa
