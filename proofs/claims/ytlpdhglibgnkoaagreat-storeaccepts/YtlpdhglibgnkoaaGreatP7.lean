/-
  Texts Rec2, Rec3, Rec4, Rec5 in one.
-/
import Derived.Test.YtlpdhglibgnkoaaGreatP6
namespace Go.Proofs.YtlpdhglibgnkoaaGreat
open Go.RowKit
set_option linter.unusedVariables false
attribute [local go_sem ↓] eqR_run eqE_run eq6_run

theorem six_empty (r : Rc) : (r.p0 == 0 && (r.p1 == 0 && (r.p2 == 0 && (r.v0 == 0 && (r.v1 == 0 && r.v2 == 0))))) = decide (r.p0 = 0 ∧ r.p1 = 0 ∧ r.p2 = 0 ∧ r.v0 = 0 ∧ r.v1 = 0 ∧ r.v2 = 0) := by
  rw [Bool.eq_iff_iff]; simp
set_option maxRecDepth 8000 in
theorem doc_empty (w : World) (r : Rc) : Calls Tryz.prog 122 #[recV r] w fun e w' => e = .returned (.bool (emptyB r)) ∧ Below w.heap.size w w' := by
  have he := emptyB_iff r
  go_enter Tryz.func122, Tryz.ntmps122
  go_wp2_with fail
  generalize hW : w.alloc (.cells (recA r) 107) = W
  obtain ⟨A0, B0, Z0⟩ := boxed hW
  clear hW
  refine (doc_numbers _ r).mono ?_; rintro e w1 ⟨rfl, b1⟩
  have A1 := A0.below b1 (by omega)
  have c8 := A1.cell 8 _ rfl
  have l1 := A1.lt
  have six := six_empty r
  by_cases h6 : r.p0 = 0 ∧ r.p1 = 0 ∧ r.p2 = 0 ∧ r.v0 = 0 ∧ r.v1 = 0 ∧ r.v2 = 0
  · rw [decide_eq_true h6] at six
    go_wp2_with fail
    go_ret
    refine ⟨ret_bool ?_, bthen B0 b1⟩
    rw [Bool.eq_iff_iff, he]
    simp [h6]
  · rw [decide_eq_false h6] at six
    go_wp2_with fail
    go_ret
    refine ⟨ret_bool ?_, bthen B0 b1⟩
    symm
    cases e : emptyB r
    · rfl
    · exact absurd (he.1 e).1 h6
set_option maxRecDepth 8000 in
theorem doc_check (w : World) (r : Rc) : Calls Tryz.prog 98 #[recV r] w fun e w' => e = .returned (.int .i64 (chk r)) ∧ Below w.heap.size w w' := by
  obtain ⟨k, i, p0, p1, p2, v0, v1, v2, a⟩ := r
  obtain ⟨c, hc⟩ : ∃ c, chk ⟨k, i, p0, p1, p2, v0, v1, v2, a⟩ = c := ⟨_, rfl⟩
  obtain ⟨eb, heb⟩ : ∃ b, emptyB ⟨k, i, p0, p1, p2, v0, v1, v2, a⟩ = b := ⟨_, rfl⟩
  have HB : Hid (emptyB ⟨k, i, p0, p1, p2, v0, v1, v2, a⟩ = eb) := heb
  have HC : Hid (c = if k < 0 ∨ 4 ≤ k then 11 else if i < 0 ∨ 65535 < i then 3 else if (k = 1 ∧ eb = true) ∨ (k = 2 ∧ eb = false) then 2 else 0) := by rw [← hc, ← heb]; rfl
  rw [hc]
  clear hc heb
  go_enter Tryz.func98, Tryz.ntmps98
  have B00 : Below w.heap.size w (w.alloc (.cells (recA ⟨k, i, p0, p1, p2, v0, v1, v2, a⟩) 107)) := (Below.refl _ _).alloc (Nat.le_refl _) _
  by_cases h1 : k < 0
  · go_wp2_with fail
    go_ret
    exact ⟨ret_int (by rw [HC.out, if_pos (by omega)]), B00⟩
  by_cases h2 : 3 < k
  · go_wp2_with fail
    go_ret
    exact ⟨ret_int (by rw [HC.out, if_pos (by omega)]), B00⟩
  by_cases h3 : i < 0
  · go_wp2_with fail
    go_ret
    exact ⟨ret_int (by rw [HC.out, if_neg (by omega), if_pos (by omega)]), B00⟩
  by_cases h4 : 65535 < i
  · go_wp2_with fail
    go_ret
    exact ⟨ret_int (by rw [HC.out, if_neg (by omega), if_pos (by omega)]), B00⟩
  by_cases h5 : k = 1
  · subst h5
    go_wp2_with fail
    generalize hW : w.alloc (.cells (recA ⟨1, i, p0, p1, p2, v0, v1, v2, a⟩) 107) = W
    obtain ⟨A0, B0, Z0⟩ := boxed hW
    clear hW B00
    refine (doc_empty _ ⟨1, i, p0, p1, p2, v0, v1, v2, a⟩).mono ?_; rw [HB.out]; rintro e w1 ⟨rfl, b1⟩
    have A1 := A0.below b1 (by omega)
    have c0 := A1.cell 0 _ rfl
    cases eb
    · go_wp2_with fail
      go_ret
      exact ⟨ret_int (by rw [HC.out, if_neg (by omega), if_neg (by omega)]; rfl), bthen B0 b1⟩
    · go_wp2_with fail
      go_ret
      exact ⟨ret_int (by rw [HC.out, if_neg (by omega), if_neg (by omega)]; rfl), bthen B0 b1⟩
  by_cases h6 : k = 2
  · subst h6
    go_wp2_with fail
    generalize hW : w.alloc (.cells (recA ⟨2, i, p0, p1, p2, v0, v1, v2, a⟩) 107) = W
    obtain ⟨A0, B0, Z0⟩ := boxed hW
    clear hW B00
    refine (doc_empty _ ⟨2, i, p0, p1, p2, v0, v1, v2, a⟩).mono ?_; rw [HB.out]; rintro e w1 ⟨rfl, b1⟩
    have A1 := A0.below b1 (by omega)
    have c0 := A1.cell 0 _ rfl
    cases eb
    · go_wp2_with fail
      go_ret
      exact ⟨ret_int (by rw [HC.out, if_neg (by omega), if_neg (by omega)]; rfl), bthen B0 b1⟩
    · go_wp2_with fail
      go_ret
      exact ⟨ret_int (by rw [HC.out, if_neg (by omega), if_neg (by omega)]; rfl), bthen B0 b1⟩
  · go_wp2_with fail
    go_ret
    exact ⟨ret_int (by rw [HC.out, if_neg (by omega), if_neg (by omega), if_neg (by omega)]), B00⟩
set_option maxRecDepth 8000 in
set_option maxHeartbeats 2000000 in
theorem rec_check (w : World) (r : Rc) : Calls Tryz.prog 103 #[recV r] w fun e w' => e = .returned (.int .i64 (chk r)) ∧ Below w.heap.size w w' := by
  obtain ⟨k, i, p0, p1, p2, v0, v1, v2, a⟩ := r
  obtain ⟨c, hc⟩ : ∃ c, chk ⟨k, i, p0, p1, p2, v0, v1, v2, a⟩ = c := ⟨_, rfl⟩
  obtain ⟨eb, heb⟩ : ∃ b, emptyB ⟨k, i, p0, p1, p2, v0, v1, v2, a⟩ = b := ⟨_, rfl⟩
  have HB : Hid (emptyB ⟨k, i, p0, p1, p2, v0, v1, v2, a⟩ = eb) := heb
  have HC : Hid (c = if k < 0 ∨ 4 ≤ k then 11 else if i < 0 ∨ 65535 < i then 3 else if (k = 1 ∧ eb = true) ∨ (k = 2 ∧ eb = false) then 2 else 0) := by rw [← hc, ← heb]; rfl
  rw [hc]
  clear hc heb
  go_enter Tryz.func103, Tryz.ntmps103
  go_wp2_with fail
  generalize hW : w.alloc (.cells (recA ⟨k, i, p0, p1, p2, v0, v1, v2, a⟩) 107) = W
  obtain ⟨A0, B0, Z0⟩ := boxed hW
  clear hW
  refine (rec_kinds _).mono ?_; rintro e w1 ⟨rfl, b1⟩
  have A1 := A0.below b1 (by omega)
  have B1 := bthen B0 b1
  have z1 := b1.size
  clear A0 B0 b1
  have A2 := A1.alloc (.cells kindA 165)
  have B2 := B1.alloc B1.size (.cells kindA 165)
  have K2 : Blk (w1.alloc (.cells kindA 165)) w1.heap.size kindC := Blk.new w1 _ _ rfl
  have x0 := A1.cell 0 _ rfl
  have x1 := A1.cell 1 _ rfl
  have l1 := A1.lt
  by_cases h1 : k < 0
  · go_wp2_with fail
    go_ret
    exact ⟨ret_int (by rw [HC.out, if_pos (by omega)]), B2⟩
  by_cases h2 : 3 < k
  · go_wp2_with fail
    go_ret
    exact ⟨ret_int (by rw [HC.out, if_pos (by omega)]), B2⟩
  by_cases h3 : i < 0
  · go_wp2_with fail
    go_ret
    exact ⟨ret_int (by rw [HC.out, if_neg (by omega), if_pos (by omega)]), B2⟩
  by_cases h4 : 65535 < i
  · go_wp2_with fail
    go_ret
    exact ⟨ret_int (by rw [HC.out, if_neg (by omega), if_pos (by omega)]), B2⟩
  by_cases g0 : k = 0
  · subst g0
    go_upto_block 4 with fail
    generalize w1.alloc (.cells kindA 165) = W2 at A2 B2 K2 ⊢
    obtain ⟨M, hM⟩ : ∃ M, w1.heap.size = M := ⟨_, rfl⟩
    obtain ⟨H, hH⟩ : ∃ H, w.heap.size = H := ⟨_, rfl⟩
    rw [hM] at K2
    rw [hH] at A2
    rw [hM, hH]
    have x0_0 := A2.cell 0 _ rfl
    have x1_0 := A2.cell 1 _ rfl
    have x2_0 := A2.cell 2 _ rfl
    have x3_0 := A2.cell 3 _ rfl
    have x4_0 := A2.cell 4 _ rfl
    have x5_0 := A2.cell 5 _ rfl
    have x6_0 := A2.cell 6 _ rfl
    have x7_0 := A2.cell 7 _ rfl
    have x8_0 := A2.cell 8 _ rfl
    have y_0 := K2.cell 0 _ rfl
    have la := A2.lt
    have lk := K2.lt
    go_region_held3 (fun w' => w'.cell? ⟨H, 0, none⟩ = some (.int .i64 0) ∧ w'.cell? ⟨H, 1, none⟩ = some (.int .i64 i) ∧ w'.cell? ⟨H, 2, none⟩ = some (.int .i64 p0) ∧ w'.cell? ⟨H, 3, none⟩ = some (.int .i64 p1) ∧ w'.cell? ⟨H, 4, none⟩ = some (.int .i64 p2) ∧ w'.cell? ⟨H, 5, none⟩ = some (.int .i64 v0) ∧ w'.cell? ⟨H, 6, none⟩ = some (.int .i64 v1) ∧ w'.cell? ⟨H, 7, none⟩ = some (.int .i64 v2) ∧ w'.cell? ⟨H, 8, none⟩ = some (.int .u16 a) ∧ w'.cell? ⟨M, 0, none⟩ = some (fnV 124)) (first | with_reducible exact ⟨x0_1, x1_1, x2_1, x3_1, x4_1, x5_1, x6_1, x7_1, x8_1, y_1⟩ | with_reducible exact ⟨x0_0, x1_0, x2_0, x3_0, x4_0, x5_0, x6_0, x7_0, x8_0, y_0⟩ | go_keep)
      (first | (go_at_call 124; (with_reducible refine (rec_anything _ ⟨0, i, p0, p1, p2, v0, v1, v2, a⟩).mono ?_); rintro e w3 ⟨rfl, b3⟩; have B3 := bthen B2.drew b3; have A3 := A2.drew.below b3 A2.lt; have K3 := K2.drew.below b3 K2.lt; have x0_1 := A3.cell 0 _ rfl; have x1_1 := A3.cell 1 _ rfl; have x2_1 := A3.cell 2 _ rfl; have x3_1 := A3.cell 3 _ rfl; have x4_1 := A3.cell 4 _ rfl; have x5_1 := A3.cell 5 _ rfl; have x6_1 := A3.cell 6 _ rfl; have x7_1 := A3.cell 7 _ rfl; have x8_1 := A3.cell 8 _ rfl; have y_1 := K3.cell 0 _ rfl))
    go_wp2_with fail
    go_ret
    exact ⟨ret_int (by rw [HC.out, if_neg (by omega), if_neg (by omega), if_neg (by omega)]), (by first | exact B3 | exact hH ▸ B3)⟩
  by_cases g1 : k = 1
  · subst g1
    go_upto_block 4 with fail
    generalize w1.alloc (.cells kindA 165) = W2 at A2 B2 K2 ⊢
    obtain ⟨M, hM⟩ : ∃ M, w1.heap.size = M := ⟨_, rfl⟩
    obtain ⟨H, hH⟩ : ∃ H, w.heap.size = H := ⟨_, rfl⟩
    rw [hM] at K2
    rw [hH] at A2
    rw [hM, hH]
    have x0_0 := A2.cell 0 _ rfl
    have x1_0 := A2.cell 1 _ rfl
    have x2_0 := A2.cell 2 _ rfl
    have x3_0 := A2.cell 3 _ rfl
    have x4_0 := A2.cell 4 _ rfl
    have x5_0 := A2.cell 5 _ rfl
    have x6_0 := A2.cell 6 _ rfl
    have x7_0 := A2.cell 7 _ rfl
    have x8_0 := A2.cell 8 _ rfl
    have y_0 := K2.cell 3 _ rfl
    have la := A2.lt
    have lk := K2.lt
    go_region_held3 (fun w' => w'.cell? ⟨H, 0, none⟩ = some (.int .i64 1) ∧ w'.cell? ⟨H, 1, none⟩ = some (.int .i64 i) ∧ w'.cell? ⟨H, 2, none⟩ = some (.int .i64 p0) ∧ w'.cell? ⟨H, 3, none⟩ = some (.int .i64 p1) ∧ w'.cell? ⟨H, 4, none⟩ = some (.int .i64 p2) ∧ w'.cell? ⟨H, 5, none⟩ = some (.int .i64 v0) ∧ w'.cell? ⟨H, 6, none⟩ = some (.int .i64 v1) ∧ w'.cell? ⟨H, 7, none⟩ = some (.int .i64 v2) ∧ w'.cell? ⟨H, 8, none⟩ = some (.int .u16 a) ∧ w'.cell? ⟨M, 3, none⟩ = some (fnV 127)) (first | with_reducible exact ⟨x0_1, x1_1, x2_1, x3_1, x4_1, x5_1, x6_1, x7_1, x8_1, y_1⟩ | with_reducible exact ⟨x0_0, x1_0, x2_0, x3_0, x4_0, x5_0, x6_0, x7_0, x8_0, y_0⟩ | go_keep)
      (first | (go_at_call 127; (with_reducible refine (rec_something _ ⟨1, i, p0, p1, p2, v0, v1, v2, a⟩).mono ?_); rw [HB.out]; rintro e w3 ⟨rfl, b3⟩; have B3 := bthen B2.drew b3; have A3 := A2.drew.below b3 A2.lt; have K3 := K2.drew.below b3 K2.lt; have x0_1 := A3.cell 0 _ rfl; have x1_1 := A3.cell 1 _ rfl; have x2_1 := A3.cell 2 _ rfl; have x3_1 := A3.cell 3 _ rfl; have x4_1 := A3.cell 4 _ rfl; have x5_1 := A3.cell 5 _ rfl; have x6_1 := A3.cell 6 _ rfl; have x7_1 := A3.cell 7 _ rfl; have x8_1 := A3.cell 8 _ rfl; have y_1 := K3.cell 3 _ rfl))
    cases eb
    · go_wp2_with fail
      go_ret
      exact ⟨ret_int (by rw [HC.out, if_neg (by omega), if_neg (by omega)]; rfl), (by first | exact B3 | exact hH ▸ B3)⟩
    · go_wp2_with fail
      go_ret
      exact ⟨ret_int (by rw [HC.out, if_neg (by omega), if_neg (by omega)]; rfl), (by first | exact B3 | exact hH ▸ B3)⟩
  by_cases g2 : k = 2
  · subst g2
    go_upto_block 4 with fail
    generalize w1.alloc (.cells kindA 165) = W2 at A2 B2 K2 ⊢
    obtain ⟨M, hM⟩ : ∃ M, w1.heap.size = M := ⟨_, rfl⟩
    obtain ⟨H, hH⟩ : ∃ H, w.heap.size = H := ⟨_, rfl⟩
    rw [hM] at K2
    rw [hH] at A2
    rw [hM, hH]
    have x0_0 := A2.cell 0 _ rfl
    have x1_0 := A2.cell 1 _ rfl
    have x2_0 := A2.cell 2 _ rfl
    have x3_0 := A2.cell 3 _ rfl
    have x4_0 := A2.cell 4 _ rfl
    have x5_0 := A2.cell 5 _ rfl
    have x6_0 := A2.cell 6 _ rfl
    have x7_0 := A2.cell 7 _ rfl
    have x8_0 := A2.cell 8 _ rfl
    have y_0 := K2.cell 6 _ rfl
    have la := A2.lt
    have lk := K2.lt
    go_region_held3 (fun w' => w'.cell? ⟨H, 0, none⟩ = some (.int .i64 2) ∧ w'.cell? ⟨H, 1, none⟩ = some (.int .i64 i) ∧ w'.cell? ⟨H, 2, none⟩ = some (.int .i64 p0) ∧ w'.cell? ⟨H, 3, none⟩ = some (.int .i64 p1) ∧ w'.cell? ⟨H, 4, none⟩ = some (.int .i64 p2) ∧ w'.cell? ⟨H, 5, none⟩ = some (.int .i64 v0) ∧ w'.cell? ⟨H, 6, none⟩ = some (.int .i64 v1) ∧ w'.cell? ⟨H, 7, none⟩ = some (.int .i64 v2) ∧ w'.cell? ⟨H, 8, none⟩ = some (.int .u16 a) ∧ w'.cell? ⟨M, 6, none⟩ = some (fnV 130)) (first | with_reducible exact ⟨x0_1, x1_1, x2_1, x3_1, x4_1, x5_1, x6_1, x7_1, x8_1, y_1⟩ | with_reducible exact ⟨x0_0, x1_0, x2_0, x3_0, x4_0, x5_0, x6_0, x7_0, x8_0, y_0⟩ | go_keep)
      (first | (go_at_call 130; (with_reducible refine (rec_nothing _ ⟨2, i, p0, p1, p2, v0, v1, v2, a⟩).mono ?_); rw [HB.out]; rintro e w3 ⟨rfl, b3⟩; have B3 := bthen B2.drew b3; have A3 := A2.drew.below b3 A2.lt; have K3 := K2.drew.below b3 K2.lt; have x0_1 := A3.cell 0 _ rfl; have x1_1 := A3.cell 1 _ rfl; have x2_1 := A3.cell 2 _ rfl; have x3_1 := A3.cell 3 _ rfl; have x4_1 := A3.cell 4 _ rfl; have x5_1 := A3.cell 5 _ rfl; have x6_1 := A3.cell 6 _ rfl; have x7_1 := A3.cell 7 _ rfl; have x8_1 := A3.cell 8 _ rfl; have y_1 := K3.cell 6 _ rfl))
    cases eb
    · go_wp2_with fail
      go_ret
      exact ⟨ret_int (by rw [HC.out, if_neg (by omega), if_neg (by omega)]; rfl), (by first | exact B3 | exact hH ▸ B3)⟩
    · go_wp2_with fail
      go_ret
      exact ⟨ret_int (by rw [HC.out, if_neg (by omega), if_neg (by omega)]; rfl), (by first | exact B3 | exact hH ▸ B3)⟩
  · obtain rfl : k = 3 := by omega
    go_upto_block 4 with fail
    generalize w1.alloc (.cells kindA 165) = W2 at A2 B2 K2 ⊢
    obtain ⟨M, hM⟩ : ∃ M, w1.heap.size = M := ⟨_, rfl⟩
    obtain ⟨H, hH⟩ : ∃ H, w.heap.size = H := ⟨_, rfl⟩
    rw [hM] at K2
    rw [hH] at A2
    rw [hM, hH]
    have x0_0 := A2.cell 0 _ rfl
    have x1_0 := A2.cell 1 _ rfl
    have x2_0 := A2.cell 2 _ rfl
    have x3_0 := A2.cell 3 _ rfl
    have x4_0 := A2.cell 4 _ rfl
    have x5_0 := A2.cell 5 _ rfl
    have x6_0 := A2.cell 6 _ rfl
    have x7_0 := A2.cell 7 _ rfl
    have x8_0 := A2.cell 8 _ rfl
    have y_0 := K2.cell 9 _ rfl
    have la := A2.lt
    have lk := K2.lt
    go_region_held3 (fun w' => w'.cell? ⟨H, 0, none⟩ = some (.int .i64 3) ∧ w'.cell? ⟨H, 1, none⟩ = some (.int .i64 i) ∧ w'.cell? ⟨H, 2, none⟩ = some (.int .i64 p0) ∧ w'.cell? ⟨H, 3, none⟩ = some (.int .i64 p1) ∧ w'.cell? ⟨H, 4, none⟩ = some (.int .i64 p2) ∧ w'.cell? ⟨H, 5, none⟩ = some (.int .i64 v0) ∧ w'.cell? ⟨H, 6, none⟩ = some (.int .i64 v1) ∧ w'.cell? ⟨H, 7, none⟩ = some (.int .i64 v2) ∧ w'.cell? ⟨H, 8, none⟩ = some (.int .u16 a) ∧ w'.cell? ⟨M, 9, none⟩ = some (fnV 124)) (first | with_reducible exact ⟨x0_1, x1_1, x2_1, x3_1, x4_1, x5_1, x6_1, x7_1, x8_1, y_1⟩ | with_reducible exact ⟨x0_0, x1_0, x2_0, x3_0, x4_0, x5_0, x6_0, x7_0, x8_0, y_0⟩ | go_keep)
      (first | (go_at_call 124; (with_reducible refine (rec_anything _ ⟨3, i, p0, p1, p2, v0, v1, v2, a⟩).mono ?_); rintro e w3 ⟨rfl, b3⟩; have B3 := bthen B2.drew b3; have A3 := A2.drew.below b3 A2.lt; have K3 := K2.drew.below b3 K2.lt; have x0_1 := A3.cell 0 _ rfl; have x1_1 := A3.cell 1 _ rfl; have x2_1 := A3.cell 2 _ rfl; have x3_1 := A3.cell 3 _ rfl; have x4_1 := A3.cell 4 _ rfl; have x5_1 := A3.cell 5 _ rfl; have x6_1 := A3.cell 6 _ rfl; have x7_1 := A3.cell 7 _ rfl; have x8_1 := A3.cell 8 _ rfl; have y_1 := K3.cell 9 _ rfl))
    go_wp2_with fail
    go_ret
    exact ⟨ret_int (by rw [HC.out, if_neg (by omega), if_neg (by omega), if_neg (by omega)]), (by first | exact B3 | exact hH ▸ B3)⟩
end Go.Proofs.YtlpdhglibgnkoaaGreat

namespace Go.Proofs.YtlpdhglibgnkoaaGreat
open Go.RowKit
set_option linter.unusedVariables false

def nums (r : Rc) : List Int := [r.p0, r.p1, r.p2, r.v0, r.v1, r.v2]
theorem nums_len (r : Rc) : (nums r).length = 6 := rfl
theorem Rc.ok.nums {r : Rc} (h : r.ok) : ∀ x ∈ nums r, S64 x := by
  intro x hx
  simp only [Proofs.YtlpdhglibgnkoaaGreat.nums, List.mem_cons, List.not_mem_nil, or_false] at hx
  rcases hx with h' | h' | h' | h' | h' | h' <;> rw [h']
  · exact h.p0
  · exact h.p1
  · exact h.p2
  · exact h.v0
  · exact h.v1
  · exact h.v2
theorem getD_mem {l : List Int} {k : Nat} (h : k < l.length) : l.getD k 0 ∈ l := by
  have e : l.getD k 0 = l[k] := by simp [List.getD, h]
  rw [e]; exact List.getElem_mem h
/-- Numbers of either sign, one behind the other. -/
def zs (l : List Int) : List Int := l.flatMap fun x => put (zig x)
theorem zs_snoc (l : List Int) (k : Nat) (h : k < l.length) : zs (l.take (k + 1)) = zs (l.take k) ++ put (zig (l.getD k 0)) := by
  unfold zs; rw [take_snoc' l k h, List.flatMap_append]; simp
theorem zs_len : ∀ (l : List Int), (∀ n ∈ l, S64 n) → (zs l).length ≤ 10 * l.length
  | [], _ => by simp [zs]
  | x :: r, h => by
    have h1 := zs_len r (fun n hn => h n (by simp [hn]))
    have h2 := zig_bd (h x (by simp))
    have h3 := put_ten h2.1 h2.2
    unfold zs at h1 ⊢
    rw [List.flatMap_cons, List.length_append, List.length_cons]; omega
theorem zs_ok (l : List Int) (h : ∀ n ∈ l, S64 n) : Bytes (zs l) := by
  intro b hb
  simp only [zs, List.mem_flatMap] at hb
  obtain ⟨x, hx, hb⟩ := hb
  exact put_ok (zig_bd (h x hx)).1 b hb
def wholeB (r : Rc) : List Int := zs (nums r) ++ put r.a
/-- Those that aren't 0. -/
def zn (l : List Int) : List Int := l.flatMap fun x => if x = 0 then [] else put (zig x)
theorem zn_snoc (l : List Int) (k : Nat) (h : k < l.length) : zn (l.take (k + 1)) = zn (l.take k) ++ (if l.getD k 0 = 0 then [] else put (zig (l.getD k 0))) := by
  unfold zn; rw [take_snoc' l k h, List.flatMap_append]; simp
theorem zn_len : ∀ (l : List Int), (∀ n ∈ l, S64 n) → (zn l).length ≤ 10 * l.length
  | [], _ => by simp [zn]
  | x :: r, h => by
    have h1 := zn_len r (fun n hn => h n (by simp [hn]))
    have h2 := zig_bd (h x (by simp))
    have h3 := put_ten h2.1 h2.2
    unfold zn at h1 ⊢
    rw [List.flatMap_cons, List.length_append, List.length_cons]
    split
    · rw [List.length_nil]; omega
    · omega
theorem zn_ok (l : List Int) (h : ∀ n ∈ l, S64 n) : Bytes (zn l) := by
  intro b hb
  simp only [zn, List.mem_flatMap] at hb
  obtain ⟨x, hx, hb⟩ := hb
  split at hb
  · simp at hb
  · exact put_ok (zig_bd (h x hx)).1 b hb
def mask : List Int → Int
  | [] => 0
  | x :: r => (if x = 0 then 0 else 1) + 2 * mask r
theorem mask_bd : ∀ l : List Int, 0 ≤ mask l ∧ mask l < 2 ^ l.length
  | [] => by simp [mask]
  | x :: r => by
    have := mask_bd r
    simp only [mask, List.length_cons, Int.pow_succ]
    split <;> omega
theorem mask_app : ∀ (l : List Int) (x : Int), mask (l ++ [x]) = mask l + if x = 0 then 0 else 2 ^ l.length
  | [], x => by simp [mask]
  | y :: r, x => by
    have := mask_app r x
    simp only [List.cons_append, mask, List.length_cons, Int.pow_succ]
    rw [this]
    split <;> split <;> omega
theorem mask_snoc (l : List Int) (k : Nat) (h : k < l.length) : mask (l.take (k + 1)) = mask (l.take k) + if l.getD k 0 = 0 then 0 else 2 ^ k := by
  rw [take_snoc' l k h, mask_app, List.length_take, Nat.min_eq_left (by omega)]
theorem mask_take (l : List Int) (k : Nat) (h : k ≤ l.length) : 0 ≤ mask (l.take k) ∧ mask (l.take k) < 2 ^ k := by
  have := mask_bd (l.take k)
  rwa [List.length_take, Nat.min_eq_left h] at this
def maskR (r : Rc) : Int := mask (nums r) + if r.a = 0 then 0 else 64
def restR (r : Rc) : List Int := zn (nums r) ++ if r.a = 0 then [] else put r.a
def updB (r : Rc) : List Int := maskR r :: restR r
theorem maskR_bd (r : Rc) : 0 ≤ maskR r ∧ maskR r ≤ 127 := by
  have := mask_bd (nums r)
  rw [nums_len] at this
  unfold maskR
  split <;> omega
def bodyB (r : Rc) : List Int := if r.k = 1 then updB r else if r.k = 2 then [] else wholeB r
def wrE (r : Rc) (last : Int) : Int := if chk r = 0 then (if last < -1 ∨ 65535 < last then 3 else if r.i ≤ last then 10 else 0) else chk r
def wrB (r : Rc) (last : Int) : List Int := if wrE r last = 0 then put (r.i - last - 1) ++ r.k :: bodyB r else []
theorem wrE_ok {r : Rc} {last : Int} (h : wrE r last = 0) : chk r = 0 ∧ (-1 ≤ last ∧ last ≤ 65535) ∧ last < r.i := by
  unfold wrE at h
  split at h
  · rename_i hc
    refine ⟨hc, ?_⟩
    split at h
    · omega
    · split at h <;> omega
  · omega
theorem put_a {x : Int} (h : 0 ≤ x ∧ x ≤ 65535) : (put x).length ≤ 3 := put_le 2 x h.1 (by omega)
theorem whole_len {r : Rc} (h : r.ok) : (wholeB r).length ≤ 63 := by
  have h1 := zs_len (nums r) h.nums
  have h2 := put_a h.a
  rw [nums_len] at h1
  unfold wholeB
  rw [List.length_append]; omega
theorem rest_len {r : Rc} (h : r.ok) : (restR r).length ≤ 63 := by
  have h1 := zn_len (nums r) h.nums
  have h2 := put_a h.a
  rw [nums_len] at h1
  unfold restR
  rw [List.length_append]
  split
  · simp; omega
  · omega
theorem body_len {r : Rc} (h : r.ok) : (bodyB r).length ≤ 64 := by
  have h1 := whole_len h
  have h2 := rest_len h
  unfold bodyB updB
  split
  · rw [List.length_cons]; omega
  · split
    · simp
    · omega
theorem whole_ok {r : Rc} (h : r.ok) : Bytes (wholeB r) := (zs_ok _ h.nums).append (put_ok h.a.1)
theorem rest_ok {r : Rc} (h : r.ok) : Bytes (restR r) := by
  refine (zn_ok _ h.nums).append ?_
  split
  · exact Bytes.nil
  · exact put_ok h.a.1
theorem body_ok {r : Rc} (h : r.ok) : Bytes (bodyB r) := by
  unfold bodyB updB
  split
  · have := maskR_bd r
    exact Bytes.cons.2 ⟨by omega, rest_ok h⟩
  · split
    · exact Bytes.nil
    · exact whole_ok h
theorem wr_len {r : Rc} {last : Int} (h : r.ok) : (wrB r last).length ≤ 68 := by
  have h1 := body_len h
  unfold wrB
  split
  · rename_i e
    obtain ⟨c, l, m⟩ := wrE_ok e
    have := (chk_ok c).2.1
    have h2 := put_le 2 (r.i - last - 1) (by omega) (by omega)
    rw [List.length_append, List.length_cons]; omega
  · simp
theorem wr_ok {r : Rc} {last : Int} (h : r.ok) : Bytes (wrB r last) := by
  unfold wrB
  split
  · rename_i e
    obtain ⟨c, l, m⟩ := wrE_ok e
    have := chk_ok c
    exact (put_ok (by omega)).append (Bytes.cons.2 ⟨by omega, body_ok h⟩)
  · exact Bytes.nil
theorem or_bit : ∀ k : Fin 7, ∀ m : Fin 128, m.val < 2 ^ k.val → bits .or .u8 (m.val : Int) (2 ^ k.val) = (m.val : Int) + 2 ^ k.val := by decide +kernel
theorem or_pow {m : Int} {k : Nat} (hk : k ≤ 6) (h0 : 0 ≤ m) (h1 : m < 2 ^ k) : bits .or .u8 m (2 ^ k) = m + 2 ^ k := by
  have hp : (2 : Int) ^ k ≤ 64 := by
    have : (2 : Nat) ^ k ≤ 2 ^ 6 := Nat.pow_le_pow_right (by omega) hk
    have e : ((2 ^ k : Nat) : Int) = (2 : Int) ^ k := by simp
    omega
  obtain ⟨n, rfl⟩ := Int.eq_ofNat_of_zero_le h0
  have e : ((2 ^ k : Nat) : Int) = (2 : Int) ^ k := by simp
  exact or_bit ⟨k, by omega⟩ ⟨n, by omega⟩ (by show n < 2 ^ k; omega)
theorem and_bit : ∀ k : Fin 7, ∀ m : Fin 256, bits .and .u8 (m.val : Int) (2 ^ k.val) = if m.val / 2 ^ k.val % 2 = 1 then 2 ^ k.val else 0 := by decide +kernel
end Go.Proofs.YtlpdhglibgnkoaaGreat

namespace Go.Proofs.YtlpdhglibgnkoaaGreat
open Go.RowKit
set_option linter.unusedVariables false

theorem rec_writeNothing (w : World) (r : Rc) : Calls Tryz.prog 131 #[recV r] w fun e w' => ∃ v, e = .returned v ∧ Own w' w.heap.size v [] ∧ Below w.heap.size w w' := by
  go_enter Tryz.func131, Tryz.ntmps131
  go_wp2_with fail
  go_ret
  exact ⟨_, rfl, Own.nil _ _, (Below.refl _ _).alloc (Nat.le_refl _) _⟩
/-- The six numbers as cells. -/
theorem nums_at (r : Rc) (k : Nat) (h : k < 6) : (#[.int .i64 r.p0, .int .i64 r.p1, .int .i64 r.p2, .int .i64 r.v0, .int .i64 r.v1, .int .i64 r.v2] : Array Value)[k]? = some (.int .i64 ((nums r).getD k 0)) := by
  match k, h with
  | 0, _ => rfl
  | 1, _ => rfl
  | 2, _ => rfl
  | 3, _ => rfl
  | 4, _ => rfl
  | 5, _ => rfl
theorem size_i64 (w : World) : (sizeOf 2).run Tryz.prog w = .ok 1 w := by
  have h : (Tryz.prog.info? 2).map (·.size) = some 1 := by kernel_rfl
  cases hq : Tryz.prog.info? 2 with
  | none => simp [hq] at h
  | some i => simp [hq] at h; simp [sizeOf, typeInfo, hq, h]
theorem index6 (cs : Array Value) (k : Nat) (x : Int) (hk : k < 6) (h : cs[k]? = some (.int .i64 x)) (w : World) : (Instr.index 191 (.agg cs) (.int .i64 (k : Int))).run Tryz.prog w = .ok (.int .i64 x) w := by
  have hlt : (0 : Int) ≤ (k : Int) ∧ (k : Int) < 6 := by omega
  simp only [Instr.index, Sem.run_bind, run_underlying Tryz.underlying191, Result.andThen_ok, asIntOf, Sem.run_pure]
  rw [if_pos (by exact hlt)]
  simp only [Sem.run_bind, size_i64, Result.andThen_ok, Int.toNat_natCast, Nat.mul_one, part, isAgg, run_underlying Tryz.underlying2, Sem.run_pure]
  simp [h]
theorem num_letter (r : Rc) : ∃ cs : Array Value, numV r = .agg cs ∧ cs.size = 6 ∧ ∀ k, k < 6 → cs[k]? = some (.int .i64 ((nums r).getD k 0)) := ⟨_, rfl, rfl, nums_at r⟩
set_option maxRecDepth 8000 in
set_option maxHeartbeats 1000000 in
theorem rec_writeWhole (w : World) (r : Rc) (ok : r.ok) : Calls Tryz.prog 125 #[recV r] w fun e w' => ∃ v, e = .returned v ∧ Own w' w.heap.size v (wholeB r) ∧ Below w.heap.size w w' := by
  have OK : Hid r.ok := ok
  clear ok
  go_enter Tryz.func125, Tryz.ntmps125
  go_wp2_with fail
  generalize hW : w.alloc (.cells (recA r) 107) = W
  obtain ⟨A0, B0, Z0⟩ := boxed hW
  clear hW
  refine (rec_signed _ r).mono ?_; rintro e w1 ⟨rfl, b1⟩
  obtain ⟨cs, hcs, sz, hat⟩ := num_letter r
  have HCS : Hid (∀ k, k < 6 → cs[k]? = some (.int .i64 ((nums r).getD k 0))) := hat
  have B1 := bthen B0 b1
  have A1 := A0.below b1 (by omega)
  have z1 := b1.size
  have B1' : Hid (Below w.heap.size w w1) := B1
  rw [hcs]
  clear hcs hat A0 B0 b1 B1
  go_wp2_with fail
  go_loopw [8, 3] (fun i v wr => ∃ k : Nat, k ≤ 6 ∧ i = .int .i64 k ∧ Own wr w1.heap.size v (zs ((nums r).take k)) ∧ Below w1.heap.size w1 wr) (fun i _ _ => 6 - (intOf i).toNat)
  case atStart => exact ⟨0, by omega, rfl, Own.nil _ _, Below.refl _ _⟩
  case round =>
    obtain ⟨k, hk, rfl, hown, hbl⟩ := hrel
    have HO : Hid (Own wr w1.heap.size u3 (zs ((nums r).take k))) := hown
    have HL : (zs ((nums r).take k)).length ≤ 60 := by
      have h1 := zs_len ((nums r).take k) (fun n hn => OK.out.nums n (List.mem_of_mem_take hn))
      have h2 : ((nums r).take k).length ≤ k := List.length_take_le _ _
      omega
    clear hown
    by_cases hlt : k < 6
    · have hx0 := HCS.out k hlt
      have bx := OK.out.nums _ (getD_mem (k := k) (by rw [nums_len]; exact hlt))
      have HE : Hid (zs ((nums r).take (k + 1)) = zs ((nums r).take k) ++ put (zig ((nums r).getD k 0))) := zs_snoc (nums r) k (by rw [nums_len]; exact hlt)
      obtain ⟨x, hxx⟩ : ∃ x, (nums r).getD k 0 = x := ⟨_, rfl⟩
      rw [hxx] at hx0 bx HE
      clear hxx
      have hx := index6 cs k x hlt hx0 wr
      clear hx0
      have bz := zig_bd bx
      go_wp2_with fail
      refine (zig_any x bx _).mono ?_; rintro e w2 ⟨rfl, rfl⟩
      obtain ⟨z, hz⟩ : ∃ z, zig x = z := ⟨_, rfl⟩
      rw [hz] at bz HE
      rw [hz]
      clear hz
      obtain ⟨z0, z1'⟩ := bz
      go_wp2_with fail
      refine (put_any z z0 z1' _).mono ?_; rintro e w3 ⟨u, rfl, own3, b3⟩
      have O3 := Own.below HO.out b3
      have l3 := put_ten z0 z1'
      have s1 := hbl.size
      have s2 := b3.size
      go_wp2_with (at_builtin; refine app_wp rfl _ _ rfl w1.heap.size _ (zs ((nums r).take k)) rfl (by exact O3) _ (put z) rfl (by exact own3.rd) (by omega) (by omega) ?_; intro u4 w4 own4 b4)
      go_roundw
      case rel => exact ⟨k + 1, by omega, by go_num, by rw [HE.out]; exact own4, (bup hbl (Nat.le_refl _) b3).trans b4⟩
      case measure => simp [intOf]; omega
    · obtain rfl : k = 6 := by omega
      have A2 := A1.below hbl (by omega)
      have x8 := A2.cell 8 _ rfl
      have l2 := A2.lt
      have ba := OK.out.a
      have E6 : Hid (zs ((nums r).take 6) = zs (nums r)) := rfl
      obtain ⟨a0, a1⟩ := ba
      go_wp2_with fail
      refine (put_any r.a a0 (by omega) _).mono ?_; rintro e w3 ⟨u, rfl, own3, b3⟩
      have O3 := Own.below HO.out b3
      have l3 := put_ten a0 (by omega)
      have s1 := hbl.size
      have s2 := b3.size
      go_wp2_with (at_builtin; refine app_wp rfl _ _ rfl w1.heap.size _ (zs ((nums r).take 6)) rfl (by exact O3) _ (put r.a) rfl (by exact own3.rd) (by omega) (by omega) ?_; intro u4 w4 own4 b4)
      go_ret
      exact ⟨_, rfl, own4.mono (by omega), (bup (bup B1'.out (Nat.le_refl _) hbl) (Nat.le_refl _) b3).trans (b4.mono (by omega))⟩
end Go.Proofs.YtlpdhglibgnkoaaGreat

namespace Go.Proofs.YtlpdhglibgnkoaaGreat
open Go.RowKit
set_option linter.unusedVariables false

theorem Own.built (w : World) (B : Nat) (hB : B ≤ w.heap.size) (l : List Int) (n : Nat) (hn : l.length = n) (hl : n ≤ 9223372036854775807) : Own (w.alloc (.cells (u8s l).toArray 5)) B (.slice (some ⟨w.heap.size, 0, none⟩) n n) l := by
  subst hn
  refine ⟨by rw [u8s_len, Nat.mul_one], Or.inr ⟨w.heap.size, l.length, (u8s l).toArray, rfl, hB, heap_alloc_new w _, Nat.le_refl _, hl, ?_, ?_⟩⟩
  · simp [u8s]
  · rw [Nat.mul_one, ← u8s_len l]; simp
set_option maxRecDepth 8000 in
set_option maxHeartbeats 1000000 in
theorem rec_writeUpdate (w : World) (r : Rc) (ok : r.ok) : Calls Tryz.prog 128 #[recV r] w fun e w' => ∃ v, e = .returned v ∧ Own w' w.heap.size v (updB r) ∧ Below w.heap.size w w' := by
  have OK : Hid r.ok := ok
  clear ok
  go_enter Tryz.func128, Tryz.ntmps128
  go_wp2_with fail
  generalize hW : w.alloc (.cells (recA r) 107) = W
  obtain ⟨A0, B0, Z0⟩ := boxed hW
  have OW : Own (W.alloc (.cells #[.int .u8 0] 5)) W.heap.size (.slice (some ⟨W.heap.size, 0, none⟩) 1 1) [0] := Own.built W _ (Nat.le_refl _) [0] 1 rfl (by omega)
  have BW : Below W.heap.size W (W.alloc (.cells #[.int .u8 0] 5)) := (Below.refl _ _).alloc (Nat.le_refl _) _
  clear hW
  rw [← Z0]
  have zlt : w.heap.size < W.heap.size := by omega
  clear Z0
  generalize hW2 : W.alloc (.cells #[.int .u8 0] 5) = W2 at OW BW ⊢
  clear hW2
  refine (rec_signed _ r).mono ?_; rintro e w1 ⟨rfl, b1⟩
  obtain ⟨cs, hcs, sz, hat⟩ := num_letter r
  have HCS : Hid (∀ k, k < 6 → cs[k]? = some (.int .i64 ((nums r).getD k 0))) := hat
  have O1 := OW.below b1
  have B1 := bthen BW b1
  have B1' : Hid (Below W.heap.size W w1) := B1
  have O1' : Hid (Own w1 W.heap.size (.slice (some ⟨W.heap.size, 0, none⟩) 1 1) [0]) := O1
  rw [hcs]
  clear hcs hat BW b1 B1 O1 OW
  go_wp2_with fail
  go_loopw [9, 3] (fun i v wr => ∃ k : Nat, k ≤ 6 ∧ i = .int .i64 k ∧ Own wr W.heap.size v (mask ((nums r).take k) :: zn ((nums r).take k)) ∧ Below W.heap.size W wr) (fun i _ _ => 6 - (intOf i).toNat)
  case atStart => exact ⟨0, by omega, rfl, O1'.out, B1'.out⟩
  case round =>
    obtain ⟨k, hk, rfl, hown, hbl⟩ := hrel
    have HO : Hid (Own wr W.heap.size u3 (mask ((nums r).take k) :: zn ((nums r).take k))) := hown
    have HL : (zn ((nums r).take k)).length ≤ 60 := by
      have h1 := zn_len ((nums r).take k) (fun n hn => OK.out.nums n (List.mem_of_mem_take hn))
      have h2 : ((nums r).take k).length ≤ k := List.length_take_le _ _
      omega
    have s1 := hbl.size
    clear hown
    by_cases hlt : k < 6
    · have hx0 := HCS.out k hlt
      have bx := OK.out.nums _ (getD_mem (k := k) (by rw [nums_len]; exact hlt))
      have HE : Hid (zn ((nums r).take (k + 1)) = zn ((nums r).take k) ++ (if (nums r).getD k 0 = 0 then [] else put (zig ((nums r).getD k 0)))) := zn_snoc (nums r) k (by rw [nums_len]; exact hlt)
      have HM : Hid (mask ((nums r).take (k + 1)) = mask ((nums r).take k) + (if (nums r).getD k 0 = 0 then 0 else 2 ^ k)) := mask_snoc (nums r) k (by rw [nums_len]; exact hlt)
      have hmb := mask_take (nums r) k (by rw [nums_len]; omega)
      obtain ⟨x, hxx⟩ : ∃ x, (nums r).getD k 0 = x := ⟨_, rfl⟩
      rw [hxx] at hx0 bx HE HM
      clear hxx
      obtain ⟨m, hm⟩ : ∃ m, mask ((nums r).take k) = m := ⟨_, rfl⟩
      rw [hm] at hmb HM HO
      have hx := index6 cs k x hlt hx0 wr
      clear hx0
      by_cases hx1 : x = 0
      · subst hx1
        go_wp2_with fail
        go_roundw
        case rel => exact ⟨k + 1, by omega, by go_num, by rw [HE.out, HM.out]; simpa using HO.out, hbl⟩
        case measure => simp [intOf]; omega
      · have HP : Hid (bits .or .u8 m (2 ^ k) = m + 2 ^ k) := or_pow (by omega) hmb.1 hmb.2
        obtain ⟨g, cap, hu, hg, hgl, hc, hcm, hat⟩ := HO.out.form (by simp)
        have HO2 := HO
        rw [hu] at HO2
        subst hu
        have c0 := HO2.out.cell 0 (by simp)
        have f0 := HO2.out.free 0
        simp only [List.getD_cons_zero] at c0
        clear hat HO
        obtain ⟨n, hn⟩ : ∃ n, (m :: zn ((nums r).take k)).length = n := ⟨_, rfl⟩
        have hn1 : 1 ≤ n ∧ n ≤ 61 := by rw [← hn, List.length_cons]; omega
        rw [hn] at hc HO2
        rw [hn]
        have HN : Hid ((m :: zn ((nums r).take k)).length = n) := hn
        clear hn
        have bz := zig_bd bx
        have hp : (2 : Int) ^ k ≤ 32 := by
          have : (2 : Nat) ^ k ≤ 2 ^ 5 := Nat.pow_le_pow_right (by omega) (by omega)
          have e : ((2 ^ k : Nat) : Int) = (2 : Int) ^ k := by simp
          omega
        go_wp2_with fail
        go_region
        rw [HP.out]
        have O3 : Own (wr.setCell ⟨g, 0, none⟩ (.int .u8 (m + 2 ^ k))).drew W.heap.size (.slice (some ⟨g, 0, none⟩) n cap) ((m + 2 ^ k) :: zn ((nums r).take k)) := HO2.out.store 0 (m + 2 ^ k)
        have B3 : Below W.heap.size W (wr.setCell ⟨g, 0, none⟩ (.int .u8 (m + 2 ^ k))).drew := (hbl.setCell hg _).drew
        generalize (wr.setCell ⟨g, 0, none⟩ (.int .u8 (m + 2 ^ k))).drew = W3 at O3 B3 ⊢
        have O3' : Hid (Own W3 W.heap.size (.slice (some ⟨g, 0, none⟩) n cap) ((m + 2 ^ k) :: zn ((nums r).take k))) := O3
        clear O3 c0 f0 HO2 hbl
        have HE2 : Hid (zn ((nums r).take (k + 1)) = zn ((nums r).take k) ++ put (zig x)) := by have h := HE.out; rw [if_neg hx1] at h; exact h
        have HM2 : Hid (mask ((nums r).take (k + 1)) = m + 2 ^ k) := by have h := HM.out; rw [if_neg hx1] at h; exact h
        clear HE HM
        go_wp2_with fail
        refine (zig_any x bx _).mono ?_; rintro e w2 ⟨rfl, rfl⟩
        obtain ⟨z, hz⟩ : ∃ z, zig x = z := ⟨_, rfl⟩
        rw [hz] at bz HE2
        rw [hz]
        clear hz
        obtain ⟨z0, z1⟩ := bz
        go_wp2_with fail
        refine (put_any z z0 z1 _).mono ?_; rintro e w3 ⟨u, rfl, own3, b3⟩
        have O4 := Own.below O3'.out b3
        have l3 := put_ten z0 z1
        have s2 := b3.size
        have s3 := B3.size
        have ln : ((m + 2 ^ k) :: zn ((nums r).take k)).length ≤ 61 := by rw [List.length_cons]; omega
        go_wp2_with (at_builtin; refine app_wp rfl _ _ rfl W.heap.size _ ((m + 2 ^ k) :: zn ((nums r).take k)) rfl (by exact O4) _ (put z) rfl (by exact own3.rd) (by omega) (by omega) ?_; intro u4 w4 own4 b4)
        go_roundw
        case rel => exact ⟨k + 1, by omega, by go_num, by rw [HE2.out, HM2.out]; exact own4, (bup B3 (Nat.le_refl _) b3).trans b4⟩
        case measure => simp [intOf]; omega
    · obtain rfl : k = 6 := by omega
      have A2 := A0.below hbl zlt
      have x8 := A2.cell 8 _ rfl
      have l2 := A2.lt
      have ba := OK.out.a
      obtain ⟨m, hm⟩ : ∃ m, mask ((nums r).take 6) = m := ⟨_, rfl⟩
      obtain ⟨q, hq⟩ : ∃ q, zn ((nums r).take 6) = q := ⟨_, rfl⟩
      have hmb := mask_take (nums r) 6 (by rw [nums_len]; omega)
      rw [hm] at hmb HO
      rw [hq] at HL HO
      have HU : Hid (updB r = (m + if r.a = 0 then 0 else 64) :: (q ++ if r.a = 0 then [] else put r.a)) := by rw [← hm, ← hq]; rfl
      clear hm hq
      obtain ⟨a, ha⟩ : ∃ a, r.a = a := ⟨_, rfl⟩
      rw [ha] at ba x8 HU
      clear ha
      obtain ⟨a0, a1⟩ := ba
      by_cases hz : a = 0
      · subst hz
        go_wp2_with fail
        go_ret
        exact ⟨_, rfl, by rw [HU.out]; simpa using HO.out.mono (by omega), bup B0 (Nat.le_refl _) hbl⟩
      · obtain ⟨g, cap, hu, hg, hgl, hc, hcm, hat⟩ := HO.out.form (by simp)
        have HO2 := HO
        rw [hu] at HO2
        subst hu
        have c0 := HO2.out.cell 0 (by simp)
        have f0 := HO2.out.free 0
        simp only [List.getD_cons_zero] at c0
        clear hat HO
        obtain ⟨n, hn⟩ : ∃ n, (m :: q).length = n := ⟨_, rfl⟩
        have hn1 : 1 ≤ n ∧ n ≤ 61 := by rw [← hn, List.length_cons]; omega
        rw [hn] at hc HO2
        rw [hn]
        clear hn
        have HP : Hid (bits .or .u8 m 64 = m + 64) := or_pow (k := 6) (by omega) hmb.1 hmb.2
        have hgw : g ≠ w.heap.size := by omega
        go_wp2_with fail
        rw [HP.out]
        have O3 : Own (wr.setCell ⟨g, 0, none⟩ (.int .u8 (m + 64))) W.heap.size (.slice (some ⟨g, 0, none⟩) n cap) ((m + 64) :: q) := HO2.out.store 0 (m + 64)
        have B3 : Below W.heap.size W (wr.setCell ⟨g, 0, none⟩ (.int .u8 (m + 64))) := hbl.setCell hg _
        generalize (wr.setCell ⟨g, 0, none⟩ (.int .u8 (m + 64))) = W3 at O3 B3 ⊢
        have O3' : Hid (Own W3 W.heap.size (.slice (some ⟨g, 0, none⟩) n cap) ((m + 64) :: q)) := O3
        clear O3 c0 f0 HO2 hbl
        refine (put_any a a0 (by omega) _).mono ?_; rintro e w3 ⟨u, rfl, own3, b3⟩
        have O4 := Own.below O3'.out b3
        have l3 := put_ten a0 (by omega)
        have s2 := b3.size
        have s3 := B3.size
        have ln : ((m + 64) :: q).length ≤ 61 := by rw [List.length_cons]; omega
        go_wp2_with (at_builtin; refine app_wp rfl _ _ rfl W.heap.size _ ((m + 64) :: q) rfl (by exact O4) _ (put a) rfl (by exact own3.rd) (by omega) (by omega) ?_; intro u4 w4 own4 b4)
        go_ret
        refine ⟨_, rfl, ?_, bup B0 (Nat.le_refl _) ((bup B3 (Nat.le_refl _) b3).trans b4)⟩
        have h := HU.out
        rw [if_neg hz, if_neg hz] at h
        rw [h]; exact own4.mono (by omega)
end Go.Proofs.YtlpdhglibgnkoaaGreat
