/-
  Layer 6 (crc): what one bit makes of a sum, what a byte does (the closure), by the code.
-/
import Derived.Test.YthofloblheodbaaCrc
import Derived.Test.YthofloblheodbaaSl
namespace Go.Proofs.Ythofloblheodbaa
open Go.RowKit

theorem x32 (a b : Nat) (ha : a < 4294967296) (hb : b < 4294967296) : bits .xor .u32 (a : Int) (b : Int) = ((a ^^^ b : Nat) : Int) := u32_xor_nat a b ha hb
theorem halved_x (s : Nat) (h : s < 4294967296) : bits .xor .u32 ((s : Int) / 2) 3988292384 = ((s / 2 ^^^ 3988292384 : Nat) : Int) := by
  rw [show (s : Int) / 2 = ((s / 2 : Nat) : Int) by omega]
  exact x32 (s / 2) 3988292384 (by omega) (by omega)
theorem halved_any (s : Nat) (h : s < 4294967296) (w : World) : Calls Try.prog 17 #[.int .u32 (s : Int)] w fun e w' => e = .returned (.int .u32 ((half s : Nat) : Int)) ∧ w' = w := by
  have hX := (show Hid _ from halved_x s h)
  obtain ⟨r, hr⟩ : ∃ r, half s = r := ⟨_, rfl⟩
  rw [hr]
  have HR := (show Hid _ from hr); clear hr
  go_enter Try.func17, Try.ntmps17
  go_wp2
  · go_ret
    have ho : ((s : Int) % 2 == 1) = true := by assumption
    simp at ho
    refine ⟨ret_int ?_, rfl⟩
    rw [hX.out, ← HR.out]; unfold half; rw [if_pos (by omega)]
  · go_ret
    have ho : ((s : Int) % 2 == 1) = false := by assumption
    simp at ho
    refine ⟨ret_int ?_, rfl⟩
    rw [← HR.out]; unfold half; rw [if_neg (by omega)]; omega
theorem byte_x (s : Nat) (c : Int) (hs : s < 4294967296) (hc : 0 ≤ c ∧ c ≤ 255) : bits .xor .u32 (s : Int) c = ((s ^^^ c.toNat : Nat) : Int) := by
  have := x32 s c.toNat hs (by omega)
  rwa [show ((c.toNat : Nat) : Int) = c by omega] at this
/-- The block of the sum. -/
def Sm (w : World) (B : Nat) (s : Nat) : Prop := w.heap[B]? = some (.cells #[.int .u32 (s : Int)] 24 (0, 0))
theorem Sm.cell {w : World} {B s : Nat} (h : Sm w B s) : w.cell? ⟨B, 0, none⟩ = some (.int .u32 (s : Int)) := cell_of_one h
theorem Sm.free {w : World} {B s : Nat} (h : Sm w B s) : w.frozen? ⟨B, 0, none⟩ = false := free_of_one h
theorem Sm.set {w : World} {B s : Nat} (h : Sm w B s) (t : Nat) : Sm (w.setCell ⟨B, 0, none⟩ (.int .u32 (t : Int))) B t := one_setCell h
theorem Sm.lt {w : World} {B s : Nat} (h : Sm w B s) : B < w.heap.size := lt_of_block h
set_option maxHeartbeats 400000 in
theorem take_any (s : Nat) (hs : s < 4294967296) (c : Int) (hc : 0 ≤ c ∧ c ≤ 255) (B : Nat) (w : World) (hv : Sm w B s) :
    Calls Try.prog 16 #[.int .u8 c, .pointer (some ⟨B, 0, none⟩)] w fun e w' => e = .returned (.tuple #[]) ∧ Sm w' B (eat s c) ∧ Below B w w' := by
  have HX := (show Hid _ from byte_x s c hs hc)
  have hl := xor_lt hs (show c.toNat < 4294967296 by omega)
  obtain ⟨x, hx⟩ : ∃ x, s ^^^ c.toNat = x := ⟨_, rfl⟩
  have HE : Hid (eat s c = halfs 8 x) := by rw [← hx]; exact rfl
  rw [hx] at hl HX
  clear hx
  have h1 := hv.cell
  have h2 := hv.free
  have HV : Hid (Sm w B s) := hv
  clear hv
  go_enter Try.func16, Try.ntmps16
  go_wp2_with fail
  rw [HX.out]
  go_loopw [7] (fun i wr => ∃ k : Nat, k ≤ 8 ∧ i = .int .i64 k ∧ Sm wr B (halfs k x) ∧ Below B w wr) (fun i _ => 8 - (intOf i).toNat)
  case atStart => exact ⟨0, Nat.zero_le _, rfl, Sm.set HV.out x, (Below.refl B w).setCell (Nat.le_refl _) _⟩
  case round =>
    obtain ⟨k, hk, rfl, hS, hB⟩ := hrel
    have HS : Hid (Sm wr B (halfs k x)) := hS
    have c1 := hS.cell
    have c2 := hS.free
    clear hS
    by_cases hlt : k < 8
    · go_wp2_with fail
      refine (halved_any _ (halfs_lt hl k) _).mono ?_; rintro e w1 ⟨rfl, rfl⟩
      go_wp2_with fail
      go_roundw
      case rel => exact ⟨k + 1, by omega, by go_num, Sm.set HS.out _, hB.setCell (Nat.le_refl _) _⟩
      case measure => simp [intOf]; omega
    · obtain rfl : k = 8 := by omega
      go_wp2_with fail
      go_end0
      exact ⟨rfl, by rw [HE.out]; exact HS.out, hB⟩
end Go.Proofs.Ythofloblheodbaa
