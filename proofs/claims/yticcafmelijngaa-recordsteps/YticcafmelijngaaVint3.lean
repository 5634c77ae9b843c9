/-
  Layer 5 (varint): Put, by the document and by the code.
-/
import Derived.Test.YticcafmelijngaaSl
import Derived.Test.YticcafmelijngaaVint2
namespace Go.Proofs.Yticcafmelijngaa
open Go.RowKit
theorem pow7 (k : Nat) : (2 : Int) ^ (7 * k) = ((128 ^ k : Nat) : Int) := by
  have : 128 ^ k = 2 ^ (7 * k) := by rw [Nat.pow_mul]
  rw [this]; simp
theorem dig_or (x : Int) (k : Nat) : bits .or .u8 (x / 2 ^ (7 * k) % 256) 128 = x / (128 ^ k : Nat) % 128 + 128 := by
  rw [pow7, Go.Lib.u8_or128_any _ (by omega) (by omega)]; omega
set_option maxHeartbeats 400000 in
theorem put_any (x : Int) (h0 : 0 ≤ x) (h1 : x ≤ 18446744073709551615) (w : World) : Calls Try.prog 11 #[.int .u64 x] w fun e w' => ∃ v, e = .returned v ∧ Own w' w.heap.size v (put x) ∧ Below w.heap.size w w' := by
  have n1 := put_pos x
  have n2 := put_ten h0 h1
  obtain ⟨n, hn⟩ : ∃ n, (put x).length = n := ⟨_, rfl⟩
  have HN := (show Hid _ from hn)
  rw [hn] at n1 n2
  clear hn
  go_enter Try.func11, Try.ntmps11
  go_wp2_with fail
  refine (size_any x h0 h1 _).mono ?_; rw [HN.out]; rintro e w1 ⟨rfl, rfl⟩
  go_wp2_with (at_make; refine make_wp rfl _ _ rfl w1.heap.size n _ rfl rfl rfl (by omega) (Nat.le_refl _) ?_; intro w2 hown hb)
  go_loopw [10] (fun i wr => ∃ k : Nat, k ≤ n ∧ i = .int .i64 k ∧ Own wr w1.heap.size (.slice (some ⟨w1.heap.size, 0, none⟩) n n) (stage x n k) ∧ Below w1.heap.size w1 wr) (fun i _ => n - (intOf i).toNat)
  case atStart => exact ⟨0, Nat.zero_le _, rfl, by rw [stage_zero]; exact hown, hb⟩
  case round =>
    obtain ⟨k, hk, rfl, hO, hB⟩ := hrel
    by_cases hlt : k < n
    · have hc := hO.cell k (by rw [stage_len]; exact hlt)
      have hf := hO.free k
      go_wp2_with fail
      go_roundw
      case rel =>
        refine ⟨k + 1, by omega, by go_num, ?_, hB.setCell (by exact Nat.le_refl _) _⟩
        rw [dig_or x k, ← stage_succ]; exact hO.store k _
      case measure => simp [intOf]; omega
    · obtain rfl : k = n := by omega
      have hc := hO.cell (k - 1) (by rw [stage_len]; omega)
      have hf := hO.free (k - 1)
      go_wp2_with fail
      go_ret
      refine ⟨_, rfl, ?_, hB.setCell (by exact Nat.le_refl _) _⟩
      have e : ((stage x k k)[k - 1]?.getD 0 - 128) % 256 = x / (128 ^ (k - 1) : Nat) % 128 := by
        have := stage_last x k n1
        rw [List.getD_eq_getElem?_getD] at this
        rw [this]; omega
      rw [e, ← stage_end h0 HN.out]; exact hO.store (k - 1) _
end Go.Proofs.Yticcafmelijngaa
