/-
  Plain arithmetic for layer 1 (no program in sight): 128-bit numbers by halves, what stops, and numbers that wrap round.
-/
import Derived.WalkKit
namespace Go.Proofs.Ytmclcoaicngodaa
open Go.RowKit

/-- The high half (with sign) and the low half of a number of 128 bits. -/
def hi (X : Int) : Int := X / 18446744073709551616
def lo (X : Int) : Int := X % 18446744073709551616
def R128 (X : Int) : Prop := -170141183460469231731687303715884105728 ≤ X ∧ X < 170141183460469231731687303715884105728
def R64 (x : Int) : Prop := -9223372036854775808 ≤ x ∧ x ≤ 9223372036854775807

theorem hi_bd {X : Int} (h : R128 X) : -9223372036854775808 ≤ hi X ∧ hi X ≤ 9223372036854775807 := by
  unfold R128 at h; unfold hi; omega
theorem lo_bd (X : Int) : 0 ≤ lo X ∧ lo X ≤ 18446744073709551615 := by unfold lo; omega
theorem R64.wide {x : Int} (h : R64 x) : R128 x := by unfold R64 at h; unfold R128; omega
theorem hilo (X : Int) : hi X * 18446744073709551616 + lo X = X := by unfold hi lo; omega

/-- The number, or the end that it is beyond. -/
def sat (X : Int) : Int := if X < -9223372036854775808 then -9223372036854775808 else if X > 9223372036854775807 then 9223372036854775807 else X
theorem sat_bd (X : Int) : R64 (sat X) := by unfold sat R64; split <;> (try split) <;> omega
theorem sat_in {X : Int} (h : R64 X) : sat X = X := by unfold R64 at h; unfold sat; split <;> (try split) <;> omega
theorem sat_mono {X Y : Int} (h : X ≤ Y) : sat X ≤ sat Y := by unfold sat; split <;> (try split) <;> (try split) <;> (try split) <;> omega

/-! numbers that wrap round -/
theorem wrap64_eq (n : Int) : wrap64 n = (n + 9223372036854775808) % 18446744073709551616 - 9223372036854775808 := by
  unfold wrap64; first | rfl | (rw [IntKind.wrap_i64]) | omega
theorem wrap64_mod (n : Int) : ∃ k, wrap64 n = n + k * 18446744073709551616 := ⟨-((n + 9223372036854775808) / 18446744073709551616), by rw [wrap64_eq]; omega⟩
theorem wrap64_of (n m : Int) (k : Int) (h : n = m + k * 18446744073709551616) (hm : R64 m) : wrap64 n = m := by
  unfold R64 at hm; rw [wrap64_eq]; omega
theorem u64_eq (n : Int) : IntKind.u64.wrap n = n % 18446744073709551616 := IntKind.wrap_u64 n

theorem plus_hi (X Y : Int) (h : R128 (X + Y)) : wrap64 (wrap64 (hi X + hi Y) + (lo X + lo Y) / 18446744073709551616) = hi (X + Y) := by
  obtain ⟨k, hk⟩ := wrap64_mod (hi X + hi Y)
  refine wrap64_of _ _ k ?_ (hi_bd h)
  rw [hk]; unfold hi lo; omega
theorem plus_lo (X Y : Int) : (lo X + lo Y) % 18446744073709551616 = lo (X + Y) := by unfold lo; omega
/-- What is borrowed. -/
def bor (x y : Int) : Int := if x < y then 1 else 0
theorem minus_hi (X Y : Int) (h : R128 (X - Y)) : wrap64 (wrap64 (hi X - hi Y) - wrap64 (bor (lo X) (lo Y))) = hi (X - Y) := by
  obtain ⟨k, hk⟩ := wrap64_mod (hi X - hi Y)
  have e : wrap64 (bor (lo X) (lo Y)) = bor (lo X) (lo Y) := by rw [wrap64_eq]; unfold bor; split <;> omega
  refine wrap64_of _ _ k ?_ (hi_bd h)
  rw [hk, e]; unfold bor hi lo; split <;> omega
theorem minus_lo (X Y : Int) : (lo X - lo Y) % 18446744073709551616 = lo (X - Y) := by unfold lo; omega

theorem times_split (X Y : Int) : X * Y = (hi X * hi Y * 18446744073709551616 + hi X * lo Y + lo X * hi Y) * 18446744073709551616 + lo X * lo Y := by
  have e1 : (hi X * 18446744073709551616 + lo X) * (hi Y * 18446744073709551616 + lo Y) = X * Y := by rw [hilo, hilo]
  rw [← e1]
  simp only [Int.add_mul, Int.mul_add]
  have a1 : hi X * 18446744073709551616 * (hi Y * 18446744073709551616) = hi X * hi Y * 18446744073709551616 * 18446744073709551616 := by
    rw [Int.mul_assoc, Int.mul_comm (18446744073709551616 : Int) (hi Y * 18446744073709551616), ← Int.mul_assoc, ← Int.mul_assoc]
  have a2 : hi X * 18446744073709551616 * lo Y = hi X * lo Y * 18446744073709551616 := by rw [Int.mul_assoc, Int.mul_comm (18446744073709551616 : Int) (lo Y), ← Int.mul_assoc]
  have a3 : lo X * (hi Y * 18446744073709551616) = lo X * hi Y * 18446744073709551616 := by rw [← Int.mul_assoc]
  rw [a1, a2, a3]
  generalize hi X * hi Y = p
  generalize hi X * lo Y = q
  generalize lo X * hi Y = r
  generalize lo X * lo Y = s
  omega
theorem times_hi (X Y : Int) (h : R128 (X * Y)) :
    wrap64 (wrap64 (wrap64 (lo X * lo Y / 18446744073709551616) + wrap64 (hi X * wrap64 (lo Y))) + wrap64 (wrap64 (lo X) * hi Y)) = hi (X * Y) := by
  obtain ⟨k1, h1⟩ := wrap64_mod (lo X)
  obtain ⟨k2, h2⟩ := wrap64_mod (lo Y)
  obtain ⟨k3, h3⟩ := wrap64_mod (lo X * lo Y / 18446744073709551616)
  obtain ⟨k4, h4⟩ := wrap64_mod (hi X * wrap64 (lo Y))
  obtain ⟨k5, h5⟩ := wrap64_mod (wrap64 (lo X) * hi Y)
  obtain ⟨k6, h6⟩ := wrap64_mod (wrap64 (lo X * lo Y / 18446744073709551616) + wrap64 (hi X * wrap64 (lo Y)))
  have hs := times_split X Y
  have m1 : hi X * (lo Y + k2 * 18446744073709551616) = hi X * lo Y + hi X * k2 * 18446744073709551616 := by rw [Int.mul_add, Int.mul_assoc]
  have m2 : (lo X + k1 * 18446744073709551616) * hi Y = lo X * hi Y + k1 * hi Y * 18446744073709551616 := by rw [Int.add_mul, Int.mul_assoc, Int.mul_comm (18446744073709551616 : Int), ← Int.mul_assoc]
  have hh : hi (X * Y) = hi X * hi Y * 18446744073709551616 + hi X * lo Y + lo X * hi Y + lo X * lo Y / 18446744073709551616 := by
    have hz : ∀ Z, hi Z = Z / 18446744073709551616 := fun _ => rfl
    rw [hz (X * Y), hs]
    generalize lo X * lo Y = s
    generalize hi X * hi Y * 18446744073709551616 + hi X * lo Y + lo X * hi Y = t
    omega
  refine wrap64_of _ _ (k6 + k3 + k4 + k5 + hi X * k2 + k1 * hi Y - hi X * hi Y) ?_ (hi_bd h)
  rw [h6, h5, h4, h3, h2, h1, m1, m2, hh]
  simp only [Int.add_mul, Int.sub_mul]
  generalize lo X * lo Y / 18446744073709551616 = s
  generalize hi X * hi Y = p
  generalize hi X * lo Y = q
  generalize lo X * hi Y = r
  generalize hi X * k2 = t
  generalize k1 * hi Y = u
  omega
theorem times_lo (X Y : Int) : lo X * lo Y % 18446744073709551616 = lo (X * Y) := by
  have hs := times_split X Y
  have hz : ∀ Z, lo Z = Z % 18446744073709551616 := fun _ => rfl
  rw [hz (X * Y), hs]
  generalize lo X * lo Y = s
  generalize hi X * hi Y * 18446744073709551616 + hi X * lo Y + lo X * hi Y = t
  omega
end Go.Proofs.Ytmclcoaicngodaa
