/-
  Layer 8 (record): Check, by the code and by the document.
-/
import Derived.Test.YticcafmelijngaaRec1
namespace Go.Proofs.Yticcafmelijngaa
open Go.RowKit
set_option linter.unusedVariables false
attribute [local go_sem ↓] eqR_run eqE_run eq6_run

theorem six_empty (r : Rc) : (r.p0 == 0 && (r.p1 == 0 && (r.p2 == 0 && (r.v0 == 0 && (r.v1 == 0 && r.v2 == 0))))) = decide (r.p0 = 0 ∧ r.p1 = 0 ∧ r.p2 = 0 ∧ r.v0 = 0 ∧ r.v1 = 0 ∧ r.v2 = 0) := by
  rw [Bool.eq_iff_iff]; simp
set_option maxRecDepth 8000 in
set_option maxHeartbeats 2000000 in
theorem rec_check (w : World) (r : Rc) : Calls Try.prog 7 #[recV r] w fun e w' => e = .returned (.int .i64 (chk r)) ∧ Below w.heap.size w w' := by
  obtain ⟨k, i, p0, p1, p2, v0, v1, v2, a⟩ := r
  obtain ⟨c, hc⟩ : ∃ c, chk ⟨k, i, p0, p1, p2, v0, v1, v2, a⟩ = c := ⟨_, rfl⟩
  obtain ⟨eb, heb⟩ : ∃ b, emptyB ⟨k, i, p0, p1, p2, v0, v1, v2, a⟩ = b := ⟨_, rfl⟩
  have HB : Hid (emptyB ⟨k, i, p0, p1, p2, v0, v1, v2, a⟩ = eb) := heb
  have HC : Hid (c = if k < 0 ∨ 4 ≤ k then 11 else if i < 0 ∨ 65535 < i then 3 else if (k = 1 ∧ eb = true) ∨ (k = 2 ∧ eb = false) then 2 else 0) := by rw [← hc, ← heb]; rfl
  rw [hc]
  clear hc heb
  go_enter Try.func7, Try.ntmps7
  go_wp2_with fail
  generalize hW : w.alloc (.cells (recA ⟨k, i, p0, p1, p2, v0, v1, v2, a⟩) 29) = W
  obtain ⟨A0, B0, Z0⟩ := boxed hW
  clear hW
  refine (rec_kinds _).mono ?_; rintro e w1 ⟨rfl, b1⟩
  have A1 := A0.below b1 (by omega)
  have B1 := bthen B0 b1
  have z1 := b1.size
  clear A0 B0 b1
  have A2 := A1.alloc (.cells kindA 46)
  have B2 := B1.alloc B1.size (.cells kindA 46)
  have K2 : Blk (w1.alloc (.cells kindA 46)) w1.heap.size kindC := Blk.new w1 _ _ rfl
  have x0 := A1.cell 0 _ rfl
  have x1 := A1.cell 1 _ rfl
  have l1 := A1.lt
  by_cases h1 : k < 0
  · go_wp2_with fail
    go_ret
    exact ⟨ret_int (by rw [HC.out, if_pos (by omega)]), B2⟩
  by_cases h2 : 3 < k
  · go_wp2_with fail
    go_ret
    exact ⟨ret_int (by rw [HC.out, if_pos (by omega)]), B2⟩
  by_cases h3 : i < 0
  · go_wp2_with fail
    go_ret
    exact ⟨ret_int (by rw [HC.out, if_neg (by omega), if_pos (by omega)]), B2⟩
  by_cases h4 : 65535 < i
  · go_wp2_with fail
    go_ret
    exact ⟨ret_int (by rw [HC.out, if_neg (by omega), if_pos (by omega)]), B2⟩
  by_cases g0 : k = 0
  · subst g0
    go_upto_block 4 with fail
    generalize w1.alloc (.cells kindA 46) = W2 at A2 B2 K2 ⊢
    obtain ⟨M, hM⟩ : ∃ M, w1.heap.size = M := ⟨_, rfl⟩
    obtain ⟨H, hH⟩ : ∃ H, w.heap.size = H := ⟨_, rfl⟩
    rw [hM] at K2
    rw [hH] at A2
    rw [hM, hH]
    have x0_0 := A2.cell 0 _ rfl
    have x1_0 := A2.cell 1 _ rfl
    have x2_0 := A2.cell 2 _ rfl
    have x3_0 := A2.cell 3 _ rfl
    have x4_0 := A2.cell 4 _ rfl
    have x5_0 := A2.cell 5 _ rfl
    have x6_0 := A2.cell 6 _ rfl
    have x7_0 := A2.cell 7 _ rfl
    have x8_0 := A2.cell 8 _ rfl
    have y_0 := K2.cell 0 _ rfl
    have la := A2.lt
    have lk := K2.lt
    go_region_held3 (fun w' => w'.cell? ⟨H, 0, none⟩ = some (.int .i64 0) ∧ w'.cell? ⟨H, 1, none⟩ = some (.int .i64 i) ∧ w'.cell? ⟨H, 2, none⟩ = some (.int .i64 p0) ∧ w'.cell? ⟨H, 3, none⟩ = some (.int .i64 p1) ∧ w'.cell? ⟨H, 4, none⟩ = some (.int .i64 p2) ∧ w'.cell? ⟨H, 5, none⟩ = some (.int .i64 v0) ∧ w'.cell? ⟨H, 6, none⟩ = some (.int .i64 v1) ∧ w'.cell? ⟨H, 7, none⟩ = some (.int .i64 v2) ∧ w'.cell? ⟨H, 8, none⟩ = some (.int .u16 a) ∧ w'.cell? ⟨M, 0, none⟩ = some (fnV 12)) (first | with_reducible exact ⟨x0_1, x1_1, x2_1, x3_1, x4_1, x5_1, x6_1, x7_1, x8_1, y_1⟩ | with_reducible exact ⟨x0_0, x1_0, x2_0, x3_0, x4_0, x5_0, x6_0, x7_0, x8_0, y_0⟩ | go_keep)
      (first | (go_at_call 12; (with_reducible refine (rec_anything _ ⟨0, i, p0, p1, p2, v0, v1, v2, a⟩).mono ?_); rintro e w3 ⟨rfl, b3⟩; have B3 := bthen B2.drew b3; have A3 := A2.drew.below b3 A2.lt; have K3 := K2.drew.below b3 K2.lt; have x0_1 := A3.cell 0 _ rfl; have x1_1 := A3.cell 1 _ rfl; have x2_1 := A3.cell 2 _ rfl; have x3_1 := A3.cell 3 _ rfl; have x4_1 := A3.cell 4 _ rfl; have x5_1 := A3.cell 5 _ rfl; have x6_1 := A3.cell 6 _ rfl; have x7_1 := A3.cell 7 _ rfl; have x8_1 := A3.cell 8 _ rfl; have y_1 := K3.cell 0 _ rfl))
    go_wp2_with fail
    go_ret
    exact ⟨ret_int (by rw [HC.out, if_neg (by omega), if_neg (by omega), if_neg (by omega)]), (by first | exact B3 | exact hH ▸ B3)⟩
  by_cases g1 : k = 1
  · subst g1
    go_upto_block 4 with fail
    generalize w1.alloc (.cells kindA 46) = W2 at A2 B2 K2 ⊢
    obtain ⟨M, hM⟩ : ∃ M, w1.heap.size = M := ⟨_, rfl⟩
    obtain ⟨H, hH⟩ : ∃ H, w.heap.size = H := ⟨_, rfl⟩
    rw [hM] at K2
    rw [hH] at A2
    rw [hM, hH]
    have x0_0 := A2.cell 0 _ rfl
    have x1_0 := A2.cell 1 _ rfl
    have x2_0 := A2.cell 2 _ rfl
    have x3_0 := A2.cell 3 _ rfl
    have x4_0 := A2.cell 4 _ rfl
    have x5_0 := A2.cell 5 _ rfl
    have x6_0 := A2.cell 6 _ rfl
    have x7_0 := A2.cell 7 _ rfl
    have x8_0 := A2.cell 8 _ rfl
    have y_0 := K2.cell 3 _ rfl
    have la := A2.lt
    have lk := K2.lt
    go_region_held3 (fun w' => w'.cell? ⟨H, 0, none⟩ = some (.int .i64 1) ∧ w'.cell? ⟨H, 1, none⟩ = some (.int .i64 i) ∧ w'.cell? ⟨H, 2, none⟩ = some (.int .i64 p0) ∧ w'.cell? ⟨H, 3, none⟩ = some (.int .i64 p1) ∧ w'.cell? ⟨H, 4, none⟩ = some (.int .i64 p2) ∧ w'.cell? ⟨H, 5, none⟩ = some (.int .i64 v0) ∧ w'.cell? ⟨H, 6, none⟩ = some (.int .i64 v1) ∧ w'.cell? ⟨H, 7, none⟩ = some (.int .i64 v2) ∧ w'.cell? ⟨H, 8, none⟩ = some (.int .u16 a) ∧ w'.cell? ⟨M, 3, none⟩ = some (fnV 15)) (first | with_reducible exact ⟨x0_1, x1_1, x2_1, x3_1, x4_1, x5_1, x6_1, x7_1, x8_1, y_1⟩ | with_reducible exact ⟨x0_0, x1_0, x2_0, x3_0, x4_0, x5_0, x6_0, x7_0, x8_0, y_0⟩ | go_keep)
      (first | (go_at_call 15; (with_reducible refine (rec_something _ ⟨1, i, p0, p1, p2, v0, v1, v2, a⟩).mono ?_); rw [HB.out]; rintro e w3 ⟨rfl, b3⟩; have B3 := bthen B2.drew b3; have A3 := A2.drew.below b3 A2.lt; have K3 := K2.drew.below b3 K2.lt; have x0_1 := A3.cell 0 _ rfl; have x1_1 := A3.cell 1 _ rfl; have x2_1 := A3.cell 2 _ rfl; have x3_1 := A3.cell 3 _ rfl; have x4_1 := A3.cell 4 _ rfl; have x5_1 := A3.cell 5 _ rfl; have x6_1 := A3.cell 6 _ rfl; have x7_1 := A3.cell 7 _ rfl; have x8_1 := A3.cell 8 _ rfl; have y_1 := K3.cell 3 _ rfl))
    cases eb
    · go_wp2_with fail
      go_ret
      exact ⟨ret_int (by rw [HC.out, if_neg (by omega), if_neg (by omega)]; rfl), (by first | exact B3 | exact hH ▸ B3)⟩
    · go_wp2_with fail
      go_ret
      exact ⟨ret_int (by rw [HC.out, if_neg (by omega), if_neg (by omega)]; rfl), (by first | exact B3 | exact hH ▸ B3)⟩
  by_cases g2 : k = 2
  · subst g2
    go_upto_block 4 with fail
    generalize w1.alloc (.cells kindA 46) = W2 at A2 B2 K2 ⊢
    obtain ⟨M, hM⟩ : ∃ M, w1.heap.size = M := ⟨_, rfl⟩
    obtain ⟨H, hH⟩ : ∃ H, w.heap.size = H := ⟨_, rfl⟩
    rw [hM] at K2
    rw [hH] at A2
    rw [hM, hH]
    have x0_0 := A2.cell 0 _ rfl
    have x1_0 := A2.cell 1 _ rfl
    have x2_0 := A2.cell 2 _ rfl
    have x3_0 := A2.cell 3 _ rfl
    have x4_0 := A2.cell 4 _ rfl
    have x5_0 := A2.cell 5 _ rfl
    have x6_0 := A2.cell 6 _ rfl
    have x7_0 := A2.cell 7 _ rfl
    have x8_0 := A2.cell 8 _ rfl
    have y_0 := K2.cell 6 _ rfl
    have la := A2.lt
    have lk := K2.lt
    go_region_held3 (fun w' => w'.cell? ⟨H, 0, none⟩ = some (.int .i64 2) ∧ w'.cell? ⟨H, 1, none⟩ = some (.int .i64 i) ∧ w'.cell? ⟨H, 2, none⟩ = some (.int .i64 p0) ∧ w'.cell? ⟨H, 3, none⟩ = some (.int .i64 p1) ∧ w'.cell? ⟨H, 4, none⟩ = some (.int .i64 p2) ∧ w'.cell? ⟨H, 5, none⟩ = some (.int .i64 v0) ∧ w'.cell? ⟨H, 6, none⟩ = some (.int .i64 v1) ∧ w'.cell? ⟨H, 7, none⟩ = some (.int .i64 v2) ∧ w'.cell? ⟨H, 8, none⟩ = some (.int .u16 a) ∧ w'.cell? ⟨M, 6, none⟩ = some (fnV 18)) (first | with_reducible exact ⟨x0_1, x1_1, x2_1, x3_1, x4_1, x5_1, x6_1, x7_1, x8_1, y_1⟩ | with_reducible exact ⟨x0_0, x1_0, x2_0, x3_0, x4_0, x5_0, x6_0, x7_0, x8_0, y_0⟩ | go_keep)
      (first | (go_at_call 18; (with_reducible refine (rec_nothing _ ⟨2, i, p0, p1, p2, v0, v1, v2, a⟩).mono ?_); rw [HB.out]; rintro e w3 ⟨rfl, b3⟩; have B3 := bthen B2.drew b3; have A3 := A2.drew.below b3 A2.lt; have K3 := K2.drew.below b3 K2.lt; have x0_1 := A3.cell 0 _ rfl; have x1_1 := A3.cell 1 _ rfl; have x2_1 := A3.cell 2 _ rfl; have x3_1 := A3.cell 3 _ rfl; have x4_1 := A3.cell 4 _ rfl; have x5_1 := A3.cell 5 _ rfl; have x6_1 := A3.cell 6 _ rfl; have x7_1 := A3.cell 7 _ rfl; have x8_1 := A3.cell 8 _ rfl; have y_1 := K3.cell 6 _ rfl))
    cases eb
    · go_wp2_with fail
      go_ret
      exact ⟨ret_int (by rw [HC.out, if_neg (by omega), if_neg (by omega)]; rfl), (by first | exact B3 | exact hH ▸ B3)⟩
    · go_wp2_with fail
      go_ret
      exact ⟨ret_int (by rw [HC.out, if_neg (by omega), if_neg (by omega)]; rfl), (by first | exact B3 | exact hH ▸ B3)⟩
  · obtain rfl : k = 3 := by omega
    go_upto_block 4 with fail
    generalize w1.alloc (.cells kindA 46) = W2 at A2 B2 K2 ⊢
    obtain ⟨M, hM⟩ : ∃ M, w1.heap.size = M := ⟨_, rfl⟩
    obtain ⟨H, hH⟩ : ∃ H, w.heap.size = H := ⟨_, rfl⟩
    rw [hM] at K2
    rw [hH] at A2
    rw [hM, hH]
    have x0_0 := A2.cell 0 _ rfl
    have x1_0 := A2.cell 1 _ rfl
    have x2_0 := A2.cell 2 _ rfl
    have x3_0 := A2.cell 3 _ rfl
    have x4_0 := A2.cell 4 _ rfl
    have x5_0 := A2.cell 5 _ rfl
    have x6_0 := A2.cell 6 _ rfl
    have x7_0 := A2.cell 7 _ rfl
    have x8_0 := A2.cell 8 _ rfl
    have y_0 := K2.cell 9 _ rfl
    have la := A2.lt
    have lk := K2.lt
    go_region_held3 (fun w' => w'.cell? ⟨H, 0, none⟩ = some (.int .i64 3) ∧ w'.cell? ⟨H, 1, none⟩ = some (.int .i64 i) ∧ w'.cell? ⟨H, 2, none⟩ = some (.int .i64 p0) ∧ w'.cell? ⟨H, 3, none⟩ = some (.int .i64 p1) ∧ w'.cell? ⟨H, 4, none⟩ = some (.int .i64 p2) ∧ w'.cell? ⟨H, 5, none⟩ = some (.int .i64 v0) ∧ w'.cell? ⟨H, 6, none⟩ = some (.int .i64 v1) ∧ w'.cell? ⟨H, 7, none⟩ = some (.int .i64 v2) ∧ w'.cell? ⟨H, 8, none⟩ = some (.int .u16 a) ∧ w'.cell? ⟨M, 9, none⟩ = some (fnV 12)) (first | with_reducible exact ⟨x0_1, x1_1, x2_1, x3_1, x4_1, x5_1, x6_1, x7_1, x8_1, y_1⟩ | with_reducible exact ⟨x0_0, x1_0, x2_0, x3_0, x4_0, x5_0, x6_0, x7_0, x8_0, y_0⟩ | go_keep)
      (first | (go_at_call 12; (with_reducible refine (rec_anything _ ⟨3, i, p0, p1, p2, v0, v1, v2, a⟩).mono ?_); rintro e w3 ⟨rfl, b3⟩; have B3 := bthen B2.drew b3; have A3 := A2.drew.below b3 A2.lt; have K3 := K2.drew.below b3 K2.lt; have x0_1 := A3.cell 0 _ rfl; have x1_1 := A3.cell 1 _ rfl; have x2_1 := A3.cell 2 _ rfl; have x3_1 := A3.cell 3 _ rfl; have x4_1 := A3.cell 4 _ rfl; have x5_1 := A3.cell 5 _ rfl; have x6_1 := A3.cell 6 _ rfl; have x7_1 := A3.cell 7 _ rfl; have x8_1 := A3.cell 8 _ rfl; have y_1 := K3.cell 9 _ rfl))
    go_wp2_with fail
    go_ret
    exact ⟨ret_int (by rw [HC.out, if_neg (by omega), if_neg (by omega), if_neg (by omega)]), (by first | exact B3 | exact hH ▸ B3)⟩
end Go.Proofs.Yticcafmelijngaa
