/-
  math/bits at this seat: Len64, LeadingZeros64 (Go's text, walked).
-/
import Derived.Test.YtmclcoaicngodaaBits
import Derived.Lib.Strings
import Derived.Lib.Slices
import Derived.Lib.Small
import Derived.Lib.Walk
import Derived.Lib.BitFns
namespace Go.Proofs.Ytmclcoaicngodaa
open Go.RowKit

theorem len8_size : Lib.len8tab.size = 256 := by kernel_rfl
theorem len8_at : ∀ i : Fin 256, (Lib.len8tab[i.val]'(by have := i.isLt; rw [len8_size]; omega)).toNat = Lib.bitLen i.val := by decide +kernel
theorem len8_int (z : Int) (h : z.toNat < Lib.len8tab.size) (h0 : 1 ≤ z) (h1 : z ≤ 255) : (Lib.len8tab[z.toNat]'h).toNat = Lib.bitLen z.toNat := len8_at ⟨z.toNat, by omega⟩
theorem len_done (y z : Int) (k K : Nat) (h : z.toNat < Lib.len8tab.size) (hK : 2 ^ k = K) (hz : z = y / K) (h0 : 1 ≤ z) (h1 : z ≤ 255) (hk : k ≤ 56) (hK0 : 0 < K) :
    ∃ s : Nat, Ending.returned (.int .i64 (wrap64 ((k : Int) + wrap64 (((Lib.len8tab[z.toNat]'h).toNat : Nat) : Int)))) = .returned (.int .i64 (s : Int)) ∧ y < (2 ^ s : Nat) ∧ ((2 ^ s : Nat) : Int) ≤ 2 * y ∧ s ≤ 64 := by
  obtain ⟨s, h2, h3, h4, h5⟩ := len_fin y z k K hK hz h0 h1 hk hK0
  have hb : Lib.bitLen z.toNat ≤ 8 := (bitLen_small ⟨z.toNat, by omega⟩ (by show z.toNat ≠ 0; omega)).2.2
  have e1 : wrap64 ((Lib.bitLen z.toNat : Nat) : Int) = (Lib.bitLen z.toNat : Int) := wrap64_of _ _ 0 (by omega) (by unfold R64; omega)
  have e2 : wrap64 ((k : Int) + (Lib.bitLen z.toNat : Int)) = (s : Int) := wrap64_of _ _ 0 (by omega) (by unfold R64; omega)
  refine ⟨s, ?_, h3, h4, h5⟩
  rw [len8_int z h h0 h1, e1, e2]
theorem len_done0 (y : Int) (h : y.toNat < Lib.len8tab.size) (h0 : 1 ≤ y) (h1 : y ≤ 255) :
    ∃ s : Nat, Ending.returned (.int .i64 (wrap64 (wrap64 (((Lib.len8tab[y.toNat]'h).toNat : Nat) : Int)))) = .returned (.int .i64 (s : Int)) ∧ y < (2 ^ s : Nat) ∧ ((2 ^ s : Nat) : Int) ≤ 2 * y ∧ s ≤ 64 := by
  obtain ⟨s, h2, h3, h4, h5⟩ := len_fin y y 0 1 rfl (by omega) h0 h1 (by omega) (by omega)
  have hb : Lib.bitLen y.toNat ≤ 8 := (bitLen_small ⟨y.toNat, by omega⟩ (by show y.toNat ≠ 0; omega)).2.2
  have e1 : wrap64 ((Lib.bitLen y.toNat : Nat) : Int) = (s : Int) := wrap64_of _ _ 0 (by omega) (by unfold R64; omega)
  refine ⟨s, ?_, h3, h4, h5⟩
  have e2 : wrap64 (s : Int) = (s : Int) := wrap64_of _ _ 0 (by omega) (by unfold R64; omega)
  rw [len8_int y h h0 h1, e1, e2]
set_option maxRecDepth 100000 in
set_option maxHeartbeats 1000000 in
theorem len64_any (y : Int) (hy0 : 1 ≤ y) (hy : y ≤ 18446744073709551615) (w : World) :
    Calls Try.prog 40 #[.int .u64 y] w fun e w' => (∃ s : Nat, e = .returned (.int .i64 (s : Int)) ∧ y < (2 ^ s : Nat) ∧ ((2 ^ s : Nat) : Int) ≤ 2 * y ∧ s ≤ 64) ∧ w' = w := by
  have hs : Lib.len8tab.size = 256 := len8_size
  go_enter Try.func40, Try.ntmps40
  go_wp2
  all_goals (go_ret; refine ⟨?_, rfl⟩)
  all_goals first
    | exact len_done0 y _ (by omega) (by omega)
    | exact len_done y _ 8 256 _ rfl (by omega) (by omega) (by omega) (by omega) (by omega)
    | exact len_done y _ 16 65536 _ rfl (by omega) (by omega) (by omega) (by omega) (by omega)
    | exact len_done y _ 24 16777216 _ rfl (by omega) (by omega) (by omega) (by omega) (by omega)
    | exact len_done y _ 32 4294967296 _ rfl (by omega) (by omega) (by omega) (by omega) (by omega)
    | exact len_done y _ 40 1099511627776 _ rfl (by omega) (by omega) (by omega) (by omega) (by omega)
    | exact len_done y _ 48 281474976710656 _ rfl (by omega) (by omega) (by omega) (by omega) (by omega)
    | exact len_done y _ 56 72057594037927936 _ rfl (by omega) (by omega) (by omega) (by omega) (by omega)

theorem lead_any (y : Int) (hy0 : 1 ≤ y) (hy : y ≤ 18446744073709551615) (w : World) :
    Calls Try.prog 39 #[.int .u64 y] w fun e w' => (∃ s : Nat, e = .returned (.int .i64 (s : Int)) ∧ 9223372036854775808 ≤ y * (2 ^ s : Nat) ∧ y * (2 ^ s : Nat) ≤ 18446744073709551615 ∧ s ≤ 63) ∧ w' = w := by
  go_enter Try.func39, Try.ntmps39
  go_wp2_with (go_at_call 40; refine (len64_any y hy0 hy _).mono ?_; rintro e w' ⟨⟨s, rfl, h1, h2, h3⟩, rfl⟩)
  go_ret
  refine ⟨⟨64 - s, ?_, ?_⟩, rfl⟩
  · exact ret_int (by omega)
  · exact lead_fin y s h1 h2 h3 hy0
end Go.Proofs.Ytmclcoaicngodaa
