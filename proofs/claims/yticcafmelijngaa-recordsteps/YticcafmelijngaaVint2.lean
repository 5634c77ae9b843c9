/-
  Layer 5 (varint): the other sign, how many bytes, and how a number ends, by the code and by the document.
-/
import Derived.Test.YticcafmelijngaaVint
import Derived.Test.YticcafmelijngaaBits2
import Derived.Test.YticcafmelijngaaBlk
import Derived.Lib.QuoteBits
import Derived.Lib.VarintBits
import Derived.Lib.Varint
namespace Go.Proofs.Yticcafmelijngaa
open Go.RowKit

theorem ret_three {k l m : IntKind} {a b c x y z : Int} (h : a = x) (h' : b = y) (h'' : c = z) : Ending.returned (.tuple #[.int k a, .int l b, .int m c]) = .returned (.tuple #[.int k x, .int l y, .int m z]) := by rw [h, h', h'']
theorem not64 {x : Int} (h : R64 x) : bits .xor .i64 (-1) x = -1 - x := by
  unfold R64 at h
  show IntKind.i64.wrap ((BitVec.ofInt 64 (-1) ^^^ BitVec.ofInt 64 x).toNat : Int) = _
  have h1 : BitVec.ofInt 64 (-1) = BitVec.allOnes 64 := by decide
  rw [h1, BitVec.allOnes_xor, BitVec.toNat_not, BitVec.toNat_ofInt, IntKind.wrap_i64]
  have e : (2 ^ 64 : Nat) = 18446744073709551616 := by decide
  rw [e]
  omega
theorem or1 {x : Int} (h0 : 0 ≤ x) (h1 : x ≤ 18446744073709551615) : bits .or .u64 x 1 = x / 2 * 2 + 1 := by
  rw [u64_or x 1 h0 (by omega) (by omega) (by omega)]
  have e : (1 : Int).toNat = 1 := rfl
  rw [e, Go.Lib.or_one_nat]; omega
/-- How many bytes, by how many bits. -/
theorem size_is {x y : Int} {s : Nat} (h0 : 0 ≤ x) (hy : y = x / 2 * 2 + 1) (h1 : y < (2 ^ s : Nat)) (h2 : ((2 ^ s : Nat) : Int) ≤ 2 * y) (hs : s ≤ 64) : (put x).length = (s + 6) / 7 := by
  have s1 : 1 ≤ s := by
    rcases Nat.eq_zero_or_pos s with h | h
    · subst h; simp at h1; omega
    · exact h
  obtain ⟨n, hn⟩ : ∃ n, (s + 6) / 7 = n + 1 := ⟨(s + 6) / 7 - 1, by omega⟩
  have e128 : ∀ k, 128 ^ k = 2 ^ (7 * k) := fun k => by rw [Nat.pow_mul]
  have up : 2 ^ s ≤ 128 ^ (n + 1) := by rw [e128]; exact Nat.pow_le_pow_right (by omega) (by omega)
  rw [hn]
  refine put_len n x h0 (by omega) ?_
  rcases Nat.eq_zero_or_pos n with h | h
  · exact Or.inl h
  · right
    have lo : 128 ^ n ≤ 2 ^ (s - 1) := by rw [e128]; exact Nat.pow_le_pow_right (by omega) (by omega)
    have e2 : 2 ^ s = 2 ^ (s - 1) * 2 := by rw [← Nat.pow_succ]; congr 1; omega
    obtain ⟨m, rfl⟩ : ∃ m, n = m + 1 := ⟨n - 1, by omega⟩
    have e3 : 128 ^ (m + 1) = 128 ^ m * 128 := Nat.pow_succ ..
    generalize 128 ^ m = p at *
    omega

def endedI (x n b : Int) : Int × Int × Int := if n = 10 ∧ 2 ≤ b then (0, 0, 8) else if 1 < n ∧ b = 0 then (0, 0, 7) else (x, n, 0)

theorem zig_any (x : Int) (hx : R64 x) (w : World) : Calls Try.prog 23 #[.int .i64 x] w fun e w' => e = .returned (.int .u64 (zig x)) ∧ w' = w := by
  have hN := (show Hid _ from not64 hx)
  obtain ⟨h0, h1⟩ := hx
  go_enter Try.func23, Try.ntmps23
  go_wp2
  · go_ret
    refine ⟨ret_int ?_, rfl⟩
    rw [hN.out]; simp only [IntKind.wrap_u64]; unfold zig; rw [if_neg (by omega)]; omega
  · go_ret
    refine ⟨ret_int ?_, rfl⟩
    unfold zig; rw [if_pos (by omega)]
theorem zag_any (x : Int) (h0 : 0 ≤ x) (h1 : x ≤ 18446744073709551615) (w : World) : Calls Try.prog 43 #[.int .u64 x] w fun e w' => e = .returned (.int .i64 (zag x)) ∧ w' = w := by
  have hN := (show Hid _ from not64 (x := x / 2) (by unfold R64; omega))
  go_enter Try.func43, Try.ntmps43
  go_wp2
  · go_ret
    refine ⟨ret_int ?_, rfl⟩
    have h : (x % 2 == 1) = true := by assumption
    simp at h
    rw [hN.out]; unfold zag; rw [if_neg (by omega)]; omega
  · go_ret
    refine ⟨ret_int ?_, rfl⟩
    have h : (x % 2 == 1) = false := by assumption
    simp at h
    unfold zag; rw [if_pos (by omega)]
theorem size_any (x : Int) (h0 : 0 ≤ x) (h1 : x ≤ 18446744073709551615) (w : World) : Calls Try.prog 21 #[.int .u64 x] w fun e w' => e = .returned (.int .i64 (put x).length) ∧ w' = w := by
  have hO := (show Hid _ from or1 h0 h1)
  go_enter Try.func21, Try.ntmps21
  go_wp2_with fail
  rw [hO.out]
  refine (len64_any (x / 2 * 2 + 1) (by omega) (by omega) _).mono ?_
  rintro e w' ⟨⟨s, rfl, a1, a2, a3⟩, rfl⟩
  have hL := (show Hid _ from size_is h0 rfl a1 a2 a3)
  clear a1 a2
  go_wp2_with fail
  go_ret
  refine ⟨ret_int ?_, rfl⟩
  rw [hL.out]; omega
theorem ended_any (x n b : Int) (hn : 1 ≤ n ∧ n ≤ 10) (hb : 0 ≤ b ∧ b < 128) (w : World) : Calls Try.prog 44 #[.int .u64 x, .int .i64 n, .int .u8 b] w fun e w' => e = .returned (.tuple #[.int .u64 (endedI x n b).1, .int .i64 (endedI x n b).2.1, .int .i64 (endedI x n b).2.2]) ∧ w' = w := by
  obtain ⟨r, hr⟩ : ∃ r, endedI x n b = r := ⟨_, rfl⟩
  rw [hr]
  have HR := (show Hid _ from hr); clear hr
  go_enter Try.func44, Try.ntmps44
  go_wp2
  all_goals
    go_ret3
    have h := HR.out
    unfold endedI at h
    first
      | (rw [if_pos ⟨by omega, by omega⟩] at h; subst h; exact ⟨ret_three (by first | rfl | (simp; omega)) (by first | rfl | (simp; omega)) (by first | rfl | (simp; omega)), rfl⟩)
      | (have hz : (b == 0) = true := by assumption
         simp at hz
         rw [if_neg (by omega), if_pos ⟨by omega, hz⟩] at h; subst h; exact ⟨ret_three (by first | rfl | (simp; omega)) (by first | rfl | (simp; omega)) (by first | rfl | (simp; omega)), rfl⟩)
      | (have hz : (b == 0) = false := by assumption
         simp at hz
         rw [if_neg (by omega), if_neg (by omega)] at h; subst h; exact ⟨ret_three (by first | rfl | (simp; omega)) (by first | rfl | (simp; omega)) (by first | rfl | (simp; omega)), rfl⟩)
      | (rw [if_neg (by omega), if_neg (by omega)] at h; subst h; exact ⟨ret_three (by first | rfl | (simp; omega)) (by first | rfl | (simp; omega)) (by first | rfl | (simp; omega)), rfl⟩)
end Go.Proofs.Yticcafmelijngaa
