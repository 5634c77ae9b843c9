/-
  The document's answer for parts (afterimageref01), walked: part, Lerp, Part, Fine.
-/
import Derived.Test.YtajobokmddecmaaAlive
namespace Go.Proofs.Ytajobokmddecmaa
open Go.RowKit

/-- Behind k bits of N: q times den and r are so many times num (r may still be too great). -/
def Pt (N num den n q r : Int) (k : Nat) : Prop :=
  ∃ V : Int, q * den + r = V * num ∧ 0 ≤ r ∧ 0 ≤ q ∧ 0 ≤ n ∧ n < 18446744073709551616 ∧ 0 ≤ V ∧ N * 2 ^ k = V * 18446744073709551616 + n
theorem Pt.start {N num den : Int} (h0 : 0 ≤ N) (h1 : N ≤ 18446744073709551615) : Pt N num den N 0 0 0 :=
  ⟨0, by simp, by omega, by omega, h0, by omega, by omega, by simp⟩
/-- No number is too great for 64 bits. -/
theorem Pt.bds {N num den n q r : Int} {k : Nat} (h : Pt N num den n q r k) (hk : k ≤ 64) (hN : 0 ≤ N ∧ N ≤ 18446744073709551615) (hn : 0 ≤ num ∧ num ≤ den) (hd : 1 ≤ den) :
    0 ≤ r ∧ 0 ≤ q ∧ q ≤ 18446744073709551615 ∧ 0 ≤ n ∧ n ≤ 18446744073709551615 ∧ (k < 64 → q ≤ 9223372036854775807) ∧ (den ≤ r → q ≤ 18446744073709551614) := by
  obtain ⟨V, h1, h2, h3, h4, h5, h6, h7⟩ := h
  have hp : (0 : Int) < 2 ^ k := Int.pow_pos (by decide)
  have hVk : V < 2 ^ k := by
    have : N * 2 ^ k ≤ 18446744073709551615 * 2 ^ k := Int.mul_le_mul_of_nonneg_right hN.2 (by omega)
    omega
  have hle : ∀ j : Nat, j ≤ 64 → k ≤ j → (2 : Int) ^ k ≤ 2 ^ j := by
    intro j _ hkj
    have := Int.ofNat_le.2 (Nat.pow_le_pow_right (show 0 < 2 by decide) hkj)
    simpa using this
  have hV64 : V < 18446744073709551616 := by
    have := hle 64 (by omega) hk
    have e : (2 : Int) ^ 64 = 18446744073709551616 := rfl
    omega
  have hV63 : k < 64 → V < 9223372036854775808 := by
    intro hk'
    have := hle 63 (by omega) (by omega)
    have e : (2 : Int) ^ 63 = 9223372036854775808 := rfl
    omega
  have hm : V * num ≤ V * den := Int.mul_le_mul_of_nonneg_left hn.2 h6
  have hq : q ≤ V := by
    have : q * den ≤ V * den := by omega
    exact Int.le_of_mul_le_mul_right this (by omega)
  have hq2 : den ≤ r → q + 1 ≤ V := by
    intro hr
    have e : (q + 1) * den = q * den + den := by rw [Int.add_mul, Int.one_mul]
    have : (q + 1) * den ≤ V * den := by omega
    exact Int.le_of_mul_le_mul_right this (by omega)
  refine ⟨h2, h3, by omega, h4, by omega, fun h => by have := hV63 h; omega, fun h => by have := hq2 h; omega⟩
theorem Pt.twice {N num den n q r : Int} {k : Nat} (h : Pt N num den n q r k) (hn : 0 ≤ num) (n' r' : Int)
    (hb : (9223372036854775808 ≤ n ∧ r' = r * 2 + num ∧ n' = n * 2 - 18446744073709551616) ∨ (n < 9223372036854775808 ∧ r' = r * 2 ∧ n' = n * 2)) : Pt N num den n' (q * 2) r' (k + 1) := by
  obtain ⟨V, h1, h2, h3, h4, h5, h6, h7⟩ := h
  have e0 : q * 2 * den = 2 * (q * den) := by rw [Int.mul_right_comm, Int.mul_comm]
  have e7 : N * 2 ^ (k + 1) = 2 * (N * 2 ^ k) := by rw [Int.pow_succ, ← Int.mul_assoc, Int.mul_comm]
  rcases hb with ⟨b1, rfl, rfl⟩ | ⟨b1, rfl, rfl⟩
  · refine ⟨2 * V + 1, ?_, by omega, by omega, by omega, by omega, by omega, by rw [e7, h7]; omega⟩
    have e1 : (2 * V + 1) * num = 2 * (V * num) + num := by rw [Int.add_mul, Int.one_mul, Int.mul_assoc]
    rw [e0, e1]; omega
  · refine ⟨2 * V, ?_, by omega, by omega, by omega, by omega, by omega, by rw [e7, h7]; omega⟩
    have e1 : 2 * V * num = 2 * (V * num) := Int.mul_assoc _ _ _
    rw [e0, e1]; omega
theorem Pt.less {N num den n q r : Int} {k : Nat} (h : Pt N num den n q r k) (hr : den ≤ r) : Pt N num den n (q + 1) (r - den) k := by
  obtain ⟨V, h1, h2, h3, h4, h5, h6, h7⟩ := h
  refine ⟨V, ?_, by omega, by omega, h4, h5, h6, h7⟩
  rw [Int.add_mul, Int.one_mul]; omega
theorem Pt.done {N num den n q r : Int} (h : Pt N num den n q r 64) (hr : r < den) : q = N * num / den ∧ r = N * num % den := by
  obtain ⟨V, h1, h2, h3, h4, h5, h6, h7⟩ := h
  have e : (2 : Int) ^ 64 = 18446744073709551616 := rfl
  rw [e] at h7
  have hV : V = N := by omega
  subst hV
  rw [← h1, Int.add_comm, Int.add_mul_ediv_right _ _ (by omega), Int.ediv_eq_zero_of_lt h2 hr, Int.add_mul_emod_self_right, Int.emod_eq_of_lt h2 hr]
  omega

set_option maxHeartbeats 2000000 in
theorem refPart_walk (N num den : Int) (hN0 : 0 ≤ N) (hN1 : N ≤ 18446744073709551615) (n0 : 0 ≤ num) (n1 : num ≤ den) (d0 : 1 ≤ den) (d1 : den ≤ 4611686018427387904) (w : World) :
    Calls Try.prog 38 #[.int .u64 N, .int .u64 num, .int .u64 den] w fun e w' => e = .returned (.tuple #[.int .u64 (N * num / den), .bool (N * num % den != 0)]) ∧ w' = w := by
  go_enter Try.func38, Try.ntmps38
  go_wp2_with fail
  go_loop [0, 8, 9, 10] (fun a b c i => ∃ (n q r : Int) (k : Nat), k ≤ 64 ∧ a = .int .u64 n ∧ b = .int .u64 q ∧ c = .int .u64 r ∧ i = .int .i64 k ∧ Pt N num den n q r k ∧ r < den) (fun _ _ _ i => 64 - (intOf i).toNat)
  case atStart => exact ⟨_, _, _, 0, by omega, rfl, rfl, rfl, rfl, Pt.start hN0 hN1, by omega⟩
  case round =>
    obtain ⟨n, q, r, k, hk, rfl, rfl, rfl, rfl, hP, hr⟩ := hrel
    obtain ⟨r0, q0, q1, m0, m1, q2, _⟩ := hP.bds hk ⟨hN0, hN1⟩ ⟨n0, n1⟩ d0
    by_cases hk2 : k < 64
    · have q3 := q2 hk2
      by_cases hb : 9223372036854775808 ≤ n
      · obtain ⟨n2, hn2⟩ : ∃ n2, n * 2 - 18446744073709551616 = n2 := ⟨_, rfl⟩
        have hw : IntKind.u64.wrap (n * 2) = n2 := by rw [u64_eq]; omega
        have hw' := hw
        have hT := hP.twice n0 _ _ (.inl ⟨hb, rfl, hn2.symm⟩)
        clear hP q2 hw'
        go_wp2_with fail
        go_loop [8, 9] (fun b c => ∃ q r : Int, b = .int .u64 q ∧ c = .int .u64 r ∧ Pt N num den n2 q r (k + 1) ∧ r < 3 * den) (fun _ c => (intOf c).toNat)
        case atStart => exact ⟨_, _, rfl, rfl, hT, by omega⟩
        case round =>
          obtain ⟨x, y, rfl, rfl, hI, hy3⟩ := hrel
          obtain ⟨y0, x0, x1, _, _, _, x3⟩ := hI.bds (by omega) ⟨hN0, hN1⟩ ⟨n0, n1⟩ d0
          clear hn2 hw
          by_cases hy : den ≤ y
          · have x4 := x3 hy
            go_wp2_with fail
            go_round
            case rel => exact ⟨_, _, rfl, rfl, hI.less hy, by omega⟩
            case measure => simp [intOf]; omega
          · go_wp2_with fail
            go_round
            case rel => exact ⟨_, _, _, k + 1, by omega, rfl, rfl, rfl, by go_num, hI, by omega⟩
            case measure => simp [intOf]; omega
      · obtain ⟨n2, hn2⟩ : ∃ n2, n * 2 = n2 := ⟨_, rfl⟩
        have hw : IntKind.u64.wrap n2 = n2 := by rw [u64_eq]; omega
        have hw' := hw
        have hT := hP.twice n0 _ _ (.inr ⟨by omega, rfl, hn2.symm⟩)
        clear hP q2 hw'
        go_wp2_with fail
        go_loop [8, 9] (fun b c => ∃ q r : Int, b = .int .u64 q ∧ c = .int .u64 r ∧ Pt N num den n2 q r (k + 1) ∧ r < 3 * den) (fun _ c => (intOf c).toNat)
        case atStart => exact ⟨_, _, rfl, rfl, hT, by omega⟩
        case round =>
          obtain ⟨x, y, rfl, rfl, hI, hy3⟩ := hrel
          obtain ⟨y0, x0, x1, _, _, _, x3⟩ := hI.bds (by omega) ⟨hN0, hN1⟩ ⟨n0, n1⟩ d0
          clear hn2 hw
          by_cases hy : den ≤ y
          · have x4 := x3 hy
            go_wp2_with fail
            go_round
            case rel => exact ⟨_, _, rfl, rfl, hI.less hy, by omega⟩
            case measure => simp [intOf]; omega
          · go_wp2_with fail
            go_round
            case rel => exact ⟨_, _, _, k + 1, by omega, rfl, rfl, rfl, by go_num, hI, by omega⟩
            case measure => simp [intOf]; omega
    · have hk64 : k = 64 := by omega
      subst hk64
      obtain ⟨f1, f2⟩ := hP.done hr
      have F1 := (show Hid _ from f1)
      have F2 := (show Hid _ from f2)
      clear f1 f2
      go_wp2_with fail
      go_ret2
      exact ⟨by rw [← F1.out, ← F2.out]; rfl, rfl⟩

theorem refFine_any (num den : Int) (w : World) :
    Calls Try.prog 12 #[.int .i64 num, .int .i64 den] w fun e w' => e = .returned (.bool (fineB num den)) ∧ w' = w := by
  go_enter Try.func12, Try.ntmps12
  go_wp2
  all_goals (go_ret; refine ⟨ret_bool ?_, rfl⟩; unfold fineB)
  all_goals first
    | (refine decide_eq_decide.2 ?_; omega)
    | (symm; refine decide_eq_false ?_; omega)
theorem refPart_any (num den : Int) (h : fineB num den = true) (w : World) :
    Calls Try.prog 23 #[.int .i64 num, .int .i64 den] w fun e w' => e = .returned (.int .i64 (num * 65536 / den)) ∧ w' = w := by
  obtain ⟨h1, h2, h3⟩ := part_in h
  obtain ⟨f1, f2, f3, f4⟩ := fineB_true h
  obtain ⟨X, hX⟩ : ∃ X, num * 65536 / den = X := ⟨_, rfl⟩
  have hX' : 65536 * num / den = X := by rw [Int.mul_comm, hX]
  rw [hX] at h2 ⊢
  have HX := (show Hid _ from hX')
  clear hX hX'
  obtain ⟨x1, x2⟩ := h2
  have hw : wrap64 X = X := wrap64_of _ _ 0 (by omega) ⟨x1, x2⟩
  go_enter Try.func23, Try.ntmps23
  go_wp2_with fail
  refine (refPart_walk 65536 num den (by omega) (by omega) f1 f2 f3 f4 _).mono ?_; rw [HX.out]; rintro e w1 ⟨rfl, rfl⟩
  go_wp2_with fail
  go_ret
  exact ⟨rfl, rfl⟩
theorem floor_turn (X d : Int) (hd : 1 ≤ d) : -X / d = -(X / d + if X % d = 0 then 0 else 1) := by
  have a1 := Int.mul_ediv_add_emod X d
  have a2 := Int.emod_nonneg X (show d ≠ 0 by omega)
  have a3 := Int.emod_lt_of_pos X (show 0 < d by omega)
  have e : -X = -(X % d) + -(X / d) * d := by rw [Int.neg_mul, Int.mul_comm (X / d)]; omega
  conv => lhs; rw [e]
  rw [Int.add_mul_ediv_right _ _ (by omega)]
  by_cases hz : X % d = 0
  · rw [if_pos hz, hz]; simp
  · rw [if_neg hz]
    have : -(X % d) / d = -1 := by
      rw [show -(X % d) = (d - X % d) + (-1) * d by omega, Int.add_mul_ediv_right _ _ (by omega), Int.ediv_eq_zero_of_lt (by omega) (by omega)]; omega
    omega
end Go.Proofs.Ytajobokmddecmaa
