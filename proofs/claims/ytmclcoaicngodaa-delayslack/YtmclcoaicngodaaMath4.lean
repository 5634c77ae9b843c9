/-
  Plain arithmetic under fix.wide's over: the floor of a number of either sign.
-/
import Derived.Test.YtmclcoaicngodaaMath3
namespace Go.Proofs.Ytmclcoaicngodaa
open Go.RowKit

theorem ofInt_toNat (a : Int) : ((BitVec.ofInt 64 a).toNat : Int) = a % 18446744073709551616 := by
  rw [BitVec.toNat_ofInt]; omega
theorem xor_i0 (a : Int) (h : R64 a) : bits .xor .i64 a 0 = a := by
  unfold R64 at h
  show IntKind.i64.wrap ((BitVec.ofInt 64 a ^^^ BitVec.ofInt 64 0).toNat : Int) = a
  have e : (BitVec.ofInt 64 a ^^^ BitVec.ofInt 64 0) = BitVec.ofInt 64 a := by simp
  rw [e, ofInt_toNat, IntKind.wrap_i64]; omega
theorem xor_u0 (a : Int) (h0 : 0 ≤ a) (h1 : a ≤ 18446744073709551615) : bits .xor .u64 a 0 = a := by
  show IntKind.u64.wrap ((BitVec.ofInt 64 a ^^^ BitVec.ofInt 64 0).toNat : Int) = a
  have e : (BitVec.ofInt 64 a ^^^ BitVec.ofInt 64 0) = BitVec.ofInt 64 a := by simp
  rw [e, ofInt_toNat, IntKind.wrap_u64]; omega
theorem xor_ones (x : BitVec 64) : ((x ^^^ BitVec.allOnes 64).toNat : Int) = 18446744073709551615 - (x.toNat : Int) := by
  rw [BitVec.xor_allOnes, BitVec.toNat_not]
  have := x.isLt
  omega
theorem xor_i1 (a : Int) (h : R64 a) : bits .xor .i64 a (-1) = -1 - a := by
  unfold R64 at h
  show IntKind.i64.wrap ((BitVec.ofInt 64 a ^^^ BitVec.ofInt 64 (-1)).toNat : Int) = -1 - a
  rw [show BitVec.ofInt 64 (-1) = BitVec.allOnes 64 from rfl, xor_ones, ofInt_toNat, IntKind.wrap_i64]; omega
theorem xor_u1 (a : Int) (h0 : 0 ≤ a) (h1 : a ≤ 18446744073709551615) : bits .xor .u64 a 18446744073709551615 = 18446744073709551615 - a := by
  show IntKind.u64.wrap ((BitVec.ofInt 64 a ^^^ BitVec.ofInt 64 18446744073709551615).toNat : Int) = 18446744073709551615 - a
  rw [show BitVec.ofInt 64 18446744073709551615 = BitVec.allOnes 64 from rfl, xor_ones, ofInt_toNat, IntKind.wrap_u64]; omega

/-- The two halves of a floor. -/
theorem over_fin (Z d : Int) (hd : 1 ≤ d) : hi (Z / d) = hi Z / d ∧ lo (Z / d) = (hi Z % d * 18446744073709551616 + lo Z) / d := by
  have e := hilo Z
  have h1 := Int.mul_ediv_add_emod (hi Z) d
  have h2 := Int.emod_nonneg (hi Z) (show d ≠ 0 by omega)
  have h3 := Int.emod_lt_of_pos (hi Z) (show 0 < d by omega)
  have hl := lo_bd Z
  have eq : Z / d = hi Z / d * 18446744073709551616 + (hi Z % d * 18446744073709551616 + lo Z) / d := by
    have e2 : Z = (hi Z % d * 18446744073709551616 + lo Z) + (hi Z / d * 18446744073709551616) * d := by
      have e3 : (hi Z / d * 18446744073709551616) * d = d * (hi Z / d) * 18446744073709551616 := by rw [Int.mul_comm d, Int.mul_right_comm]
      rw [e3]
      generalize d * (hi Z / d) = t at *
      generalize hi Z % d = z at *
      omega
    conv => lhs; rw [e2]
    rw [Int.add_mul_ediv_right _ _ (show d ≠ 0 by omega)]; omega
  have b0 : 0 ≤ (hi Z % d * 18446744073709551616 + lo Z) / d := Int.ediv_nonneg (by omega) (by omega)
  have b1 : (hi Z % d * 18446744073709551616 + lo Z) / d < 18446744073709551616 := by
    apply Int.ediv_lt_of_lt_mul (by omega)
    have : hi Z % d + 1 ≤ d := by omega
    omega
  generalize (hi Z % d * 18446744073709551616 + lo Z) / d = s at *
  generalize hi Z / d = q at *
  have hz : ∀ Z, hi Z = Z / 18446744073709551616 := fun _ => rfl
  have lz : ∀ Z, lo Z = Z % 18446744073709551616 := fun _ => rfl
  rw [hz (Z / d), lz (Z / d), eq]
  omega
theorem turn_hi (q : Int) : hi (-1 - q) = -1 - hi q := by unfold hi; omega
theorem turn_lo (q : Int) : lo (-1 - q) = 18446744073709551615 - lo q := by unfold lo; omega
theorem turn_div (X d : Int) (hd : 1 ≤ d) : X / d = -1 - (-1 - X) / d := by
  have h1 := Int.mul_ediv_add_emod (-1 - X) d
  have h2 := Int.emod_nonneg (-1 - X) (show d ≠ 0 by omega)
  have h3 := Int.emod_lt_of_pos (-1 - X) (show 0 < d by omega)
  have e : X = (d - 1 - (-1 - X) % d) + (-1 - (-1 - X) / d) * d := by
    rw [Int.sub_mul, Int.mul_comm ((-1 - X) / d)]
    generalize d * ((-1 - X) / d) = t at *
    generalize (-1 - X) % d = z at *
    omega
  conv => lhs; rw [e]
  rw [Int.add_mul_ediv_right _ _ (show d ≠ 0 by omega), Int.ediv_eq_zero_of_lt (by omega) (by omega)]; omega
theorem div_R128 (X d : Int) (hX : R128 X) (hd : 1 ≤ d) : R128 (X / d) := by
  unfold R128 at *
  constructor
  · apply (Int.le_ediv_iff_mul_le (by omega)).2
    have : (-170141183460469231731687303715884105728) * d ≤ (-170141183460469231731687303715884105728) * 1 := Int.mul_le_mul_of_nonpos_left (by omega) hd
    omega
  · by_cases h : 0 ≤ X
    · have := Int.ediv_le_self d h; omega
    · have : X / d < 0 := Int.ediv_neg_of_neg_of_pos (by omega) (by omega)
      omega
/-- All that 'over' reckons with, for a number of either sign (k: -1 or 0, u: as a uint64). -/
theorem over_all (X d : Int) (hX : R128 X) (hd : 1 ≤ d) (k u : Int) (hk : (0 ≤ X ∧ k = 0 ∧ u = 0) ∨ (X < 0 ∧ k = -1 ∧ u = 18446744073709551615)) :
    ∃ h l : Int, bits .xor .i64 (hi X) k = h ∧ bits .xor .u64 (lo X) u = l ∧ 0 ≤ h ∧ h ≤ 9223372036854775807 ∧ 0 ≤ l ∧ l ≤ 18446744073709551615 ∧ 0 ≤ h / d ∧ h / d ≤ 9223372036854775807 ∧ 0 ≤ h % d ∧ h % d < d ∧
      bits .xor .i64 (h / d) k = hi (X / d) ∧ bits .xor .u64 ((h % d * 18446744073709551616 + l) / d) u = lo (X / d) := by
  have key : ∀ Z : Int, 0 ≤ Z → R128 Z → 0 ≤ hi Z ∧ hi Z ≤ 9223372036854775807 ∧ 0 ≤ lo Z ∧ lo Z ≤ 18446744073709551615 ∧ 0 ≤ hi Z / d ∧ hi Z / d ≤ 9223372036854775807 ∧ 0 ≤ hi Z % d ∧ hi Z % d < d := by
    intro Z h0 hR
    have a := hi_bd hR
    have b := lo_bd Z
    have c : 0 ≤ hi Z := by unfold hi; omega
    have e := Int.ediv_le_self d c
    exact ⟨c, a.2, b.1, b.2, Int.ediv_nonneg c (by omega), by omega, Int.emod_nonneg _ (by omega), Int.emod_lt_of_pos _ (by omega)⟩
  rcases hk with ⟨h0, rfl, rfl⟩ | ⟨h0, rfl, rfl⟩
  · obtain ⟨k1, k2, k3, k4, k5, k6, k7, k8⟩ := key X h0 hX
    obtain ⟨o1, o2⟩ := over_fin X d hd
    have hl := lo_bd (X / d)
    refine ⟨hi X, lo X, xor_i0 _ (hi_bd hX), xor_u0 _ k3 k4, k1, k2, k3, k4, k5, k6, k7, k8, ?_, ?_⟩
    · rw [xor_i0 _ ⟨by omega, k6⟩, o1]
    · rw [← o2, xor_u0 _ hl.1 hl.2]
  · have hZ : R128 (-1 - X) := by unfold R128 at *; omega
    obtain ⟨k1, k2, k3, k4, k5, k6, k7, k8⟩ := key (-1 - X) (by omega) hZ
    obtain ⟨o1, o2⟩ := over_fin (-1 - X) d hd
    have hl := lo_bd ((-1 - X) / d)
    have hx := lo_bd X
    refine ⟨hi (-1 - X), lo (-1 - X), ?_, ?_, k1, k2, k3, k4, k5, k6, k7, k8, ?_, ?_⟩
    · rw [xor_i1 _ (hi_bd hX), turn_hi]
    · rw [xor_u1 _ hx.1 hx.2, turn_lo]
    · rw [xor_i1 _ ⟨by omega, k6⟩, ← o1, turn_div X d hd, turn_hi]
    · rw [← o2, xor_u1 _ hl.1 hl.2, turn_div X d hd, turn_lo]
end Go.Proofs.Ytmclcoaicngodaa
