/-
  Layer 11 (ring): the document's example; how many there may be; Lay of no ring.
-/
import Derived.Test.YtfpngbeomgfmfaaRg7
namespace Go.Proofs.Ytfpngbeomgfmfaa
open Go.RowKit
set_option linter.unusedVariables false
set_option maxRecDepth 20000

theorem lay_nilS (w : World) (k : Int) (x : ByteArray) : Calls Try.prog 12 #[.pointer none, .int .i64 k, .string x] w fun e w' => e = .returned (.tuple #[.int .i64 0, .bool false, .int .i64 1]) ∧ w' = w := by
  go_enter Try.func12, Try.ntmps12
  go_wp2_with fail
  go_ret3
  exact ⟨rfl, rfl⟩
def mostN (n : Int) : Nat := 1 + (n % 64).toNat
theorem most_bd (n : Int) : 1 ≤ mostN n ∧ mostN n ≤ 64 := by unfold mostN; omega
theorem most_any (w : World) (n : Int) : Calls Try.prog 10 #[.int .i64 n] w fun e w' => e = .returned (.int .i64 (mostN n : Nat)) ∧ w' = w := by
  have e0 : ((mostN n : Nat) : Int) = 1 + n % 64 := by unfold mostN; omega
  rw [e0]
  have h1 : IntKind.u64.wrap n = n % 18446744073709551616 := IntKind.wrap_u64 n
  have h2 : Int.tmod (n % 18446744073709551616) 64 = n % 64 := by
    rw [Int.tmod_eq_emod_of_nonneg (by omega)]; omega
  have h3 : IntKind.i64.wrap (n % 64) = n % 64 := by rw [IntKind.wrap_i64]; omega
  have h4 : IntKind.i64.wrap (1 + n % 64) = 1 + n % 64 := by rw [IntKind.wrap_i64]; omega
  have h5 : IntKind.u64.wrap (n % 64) = n % 64 := by rw [IntKind.wrap_u64]; omega
  go_enter Try.func10, Try.ntmps10
  go_wp2_with fail
  go_ret
  exact ⟨rfl, rfl⟩
def sA : Value := .string ⟨#[97]⟩
def sB : Value := .string ⟨#[98]⟩
def sC : Value := .string ⟨#[99]⟩
def sD : Value := .string ⟨#[100]⟩
def sE : Value := .string ⟨#[101]⟩
def ex1 : Rs := ⟨2, [(5, .string ⟨#[97]⟩)], 0, false⟩
def ex2 : Rs := ⟨2, [(3, .string ⟨#[98]⟩), (5, .string ⟨#[97]⟩)], 0, false⟩
def ex3 : Rs := ⟨2, [(4, .string ⟨#[99]⟩), (5, .string ⟨#[97]⟩)], 3, true⟩
theorem ex_1 : layS (emptyR 2) 5 (.string ⟨#[97]⟩) = ex1 := by rfl
theorem ex_2 : layS ex1 3 (.string ⟨#[98]⟩) = ex2 := by rfl
theorem ex_3 : layS ex2 4 (.string ⟨#[99]⟩) = ex3 ∧ layA ex2 4 = (3, true, 0) := by exact ⟨rfl, rfl⟩
theorem ex_4 (x : Value) : layS ex3 3 x = ex3 ∧ layA ex3 3 = (0, false, 13) := by exact ⟨rfl, rfl⟩
theorem ex_5 (x : Value) : layS ex3 5 x = ex3 ∧ layA ex3 5 = (0, false, 12) := by exact ⟨rfl, rfl⟩
theorem ex_6 (z : Value) : getX ex3.L 5 z = .string ⟨#[97]⟩ ∧ isAt ex3.L 5 = true := by exact ⟨rfl, rfl⟩
set_option maxHeartbeats 4000000 in
theorem rg_alive (w : World) : Calls Try.prog 11 #[] w fun e w' => e = .returned (.bool true) ∧ Below w.heap.size w w' := by
  have HH : Hid (w.heap.size = w.heap.size) := rfl
  go_enter Try.func11, Try.ntmps11
  go_wp2_with fail
  refine (new_anyS w 2 (by omega) (by omega)).mono ?_; rintro e w1 ⟨rfl, r1, b1, z1⟩
  obtain ⟨H, hH⟩ : ∃ H, w.heap.size = H := ⟨_, rfl⟩
  have R1 : Hid (RngV 77 w1 H H (.slice none 0 0) (emptyR 2)) := by rw [← hH]; exact r1
  have B1 : Hid (Below w.heap.size w w1) := b1
  rw [hH]
  clear r1 b1 z1
  have HHH : Hid (w.heap.size = H) := hH
  clear hH HH
  go_wp2_with fail
  refine (lay_anyS w1 H H _ _ R1.out 5 (by omega) _).mono ?_; rintro e w2 ⟨rfl, v2, r2, c2⟩
  rw [ex_1] at r2
  have R2 : Hid (RngV 77 w2 H H v2 ex1) := r2
  have B2 : Hid (Below w.heap.size w w2) := B1.out.trans (by rw [HHH.out]; exact c2.below)
  clear r2 c2 R1 B1
  go_wp2_with fail
  refine (lay_anyS w2 H H _ _ R2.out 3 (by omega) _).mono ?_; rintro e w3 ⟨rfl, v3, r3, c3⟩
  rw [ex_2] at r3
  have R3 : Hid (RngV 77 w3 H H v3 ex2) := r3
  have B3 : Hid (Below w.heap.size w w3) := B2.out.trans (by rw [HHH.out]; exact c3.below)
  clear r3 c3 R2 B2
  go_wp2_with fail
  refine (lay_anyS w3 H H _ _ R3.out 4 (by omega) _).mono ?_; rintro e w4 ⟨rfl, v4, r4, c4⟩
  rw [ex_3.1] at r4
  rw [ex_3.2]
  have R4 : Hid (RngV 77 w4 H H v4 ex3) := r4
  have B4 : Hid (Below w.heap.size w w4) := B3.out.trans (by rw [HHH.out]; exact c4.below)
  clear r4 c4 R3 B3
  go_wp2_with fail
  refine (lay_anyS w4 H H _ _ R4.out 3 (by omega) _).mono ?_; rintro e w5 ⟨rfl, v5, r5, c5⟩
  rw [(ex_4 _).1] at r5
  rw [(ex_4 noPr.2).2]
  have R5 : Hid (RngV 77 w5 H H v5 ex3) := r5
  have B5 : Hid (Below w.heap.size w w5) := B4.out.trans (by rw [HHH.out]; exact c5.below)
  clear r5 c5 R4 B4
  go_wp2_with fail
  refine (lay_anyS w5 H H _ _ R5.out 5 (by omega) _).mono ?_; rintro e w6 ⟨rfl, v6, r6, c6⟩
  rw [(ex_5 _).1] at r6
  rw [(ex_5 noPr.2).2]
  have R6 : Hid (RngV 77 w6 H H v6 ex3) := r6
  have B6 : Hid (Below w.heap.size w w6) := B5.out.trans (by rw [HHH.out]; exact c6.below)
  clear r6 c6 R5 B5
  go_wp2_with fail
  refine (get_anyS w6 H H _ _ R6.out 5).mono ?_; rintro e w7 ⟨rfl, b7⟩
  rw [(ex_6 _).1, (ex_6 noPr.2).2]
  have B7 : Hid (Below w.heap.size w w7) := B6.out.trans (b7.mono B6.out.size)
  clear b7 B6 R6
  go_wp2_with fail
  go_ret
  exact ⟨rfl, B7.out⟩
end Go.Proofs.Ytfpngbeomgfmfaa
