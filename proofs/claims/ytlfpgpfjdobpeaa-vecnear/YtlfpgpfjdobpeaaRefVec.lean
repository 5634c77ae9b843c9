/-
  The document's answers for layer 2 (afterimageref02), walked: Add, Sub, Scale, Lerp, Clamp, Go.
-/
import Derived.Test.YtlfpgpfjdobpeaaBlk
import Derived.Test.YtlfpgpfjdobpeaaRefAdds
import Derived.Test.YtlfpgpfjdobpeaaRefMul
import Derived.Test.YtlfpgpfjdobpeaaRefPart
import Derived.Test.YtlfpgpfjdobpeaaRefClamp
import Derived.Deep.DrawnRows
namespace Go.Proofs.Ytlfpgpfjdobpeaa
open Go.RowKit
attribute [local go_sem ↓] Go.wp_at_zero Go.wp_at_succ

theorem rvadd_any (a0 a1 a2 b0 b1 b2 : Int) (ha0 : R64 a0) (ha1 : R64 a1) (ha2 : R64 a2) (hb0 : R64 b0) (hb1 : R64 b1) (hb2 : R64 b2) (w : World) :
    Calls Try.prog 11 #[.agg #[.int .i64 a0, .int .i64 a1, .int .i64 a2], .agg #[.int .i64 b0, .int .i64 b1, .int .i64 b2]] w
      fun e w' => e = .returned (.agg #[.int .i64 (sat (a0 + b0)), .int .i64 (sat (a1 + b1)), .int .i64 (sat (a2 + b2))]) ∧ Gr w.heap.size w w' := by
  obtain ⟨H, hH⟩ : ∃ H, w.heap.size = H := ⟨_, rfl⟩
  go_enter Try.func11, Try.ntmps11
  go_wp2_with fail
  obtain ⟨W, hW⟩ : ∃ W, (((w.alloc (.cells #[.int .i64 a0, .int .i64 a1, .int .i64 a2] 22)).alloc (.cells #[.int .i64 b0, .int .i64 b1, .int .i64 b2] 22)).alloc (.cells #[.int .i64 0, .int .i64 0, .int .i64 0] 22)) = W := ⟨_, rfl⟩
  have A0 : Blk W (H) [.int .i64 a0, .int .i64 a1, .int .i64 a2] := by rw [← hW]; exact (((Blk.new _ _ _ hH.symm)).alloc _).alloc _
  have B0 : Blk W (H + 1) [.int .i64 b0, .int .i64 b1, .int .i64 b2] := by rw [← hW]; exact ((Blk.new _ _ _ (by simp [hH]))).alloc _
  have R0 : Blk W (H + 1 + 1) [.int .i64 0, .int .i64 0, .int .i64 0] := by rw [← hW]; exact (Blk.new _ _ _ (by simp [hH]))
  have G0 : Gr w.heap.size w W := by rw [← hW]; repeat' (first | exact Gr.refl _ _ | refine Gr.alloc ?_ ?_ _ _ | (simp; done) | (simp; omega))
  have Z0 : W.heap.size = H + 1 + 1 + 1 := by rw [← hW]; simp [hH]
  rw [hW]
  clear hW
  have nRA : H + 1 + 1 ≠ H := by omega
  have nRB : H + 1 + 1 ≠ H + 1 := by omega
  have xA0_0 := A0.cell 0 _ rfl
  have xA1_0 := A0.cell 1 _ rfl
  have xA2_0 := A0.cell 2 _ rfl
  have xB0_0 := B0.cell 0 _ rfl
  have xB1_0 := B0.cell 1 _ rfl
  have xB2_0 := B0.cell 2 _ rfl
  go_region_held3 (fun w' => w'.cell? ⟨H, 0, none⟩ = some (.int .i64 a0) ∧ w'.cell? ⟨H, 1, none⟩ = some (.int .i64 a1) ∧ w'.cell? ⟨H, 2, none⟩ = some (.int .i64 a2) ∧ w'.cell? ⟨H + 1, 0, none⟩ = some (.int .i64 b0) ∧ w'.cell? ⟨H + 1, 1, none⟩ = some (.int .i64 b1) ∧ w'.cell? ⟨H + 1, 2, none⟩ = some (.int .i64 b2)) (first | with_reducible exact ⟨(far3 xA0_3 nRA), (far3 xA1_3 nRA), (far3 xA2_3 nRA), (far3 xB0_3 nRB), (far3 xB1_3 nRB), (far3 xB2_3 nRB)⟩ | with_reducible exact ⟨(far3d xA0_3 nRA), (far3d xA1_3 nRA), (far3d xA2_3 nRA), (far3d xB0_3 nRB), (far3d xB1_3 nRB), (far3d xB2_3 nRB)⟩ | with_reducible exact ⟨xA0_3, xA1_3, xA2_3, xB0_3, xB1_3, xB2_3⟩ | with_reducible exact ⟨xA0_2, xA1_2, xA2_2, xB0_2, xB1_2, xB2_2⟩ | with_reducible exact ⟨xA0_1, xA1_1, xA2_1, xB0_1, xB1_1, xB2_1⟩ | with_reducible exact ⟨xA0_0, xA1_0, xA2_0, xB0_0, xB1_0, xB2_0⟩ | go_keep)
    (first
      | (go_at_call 30; (with_reducible refine (refAdd_any a0 b0 ha0 hb0 _).mono ?_); rintro e w1 ⟨rfl, g1⟩; subst g1; have G1 := G0.drew; have Z1 := Z0; have A1 := A0; have B1 := B0; have R1 := R0; have xA0_1 := A1.cell 0 _ rfl; have xA1_1 := A1.cell 1 _ rfl; have xA2_1 := A1.cell 2 _ rfl; have xB0_1 := B1.cell 0 _ rfl; have xB1_1 := B1.cell 1 _ rfl; have xB2_1 := B1.cell 2 _ rfl)
      | (go_at_call 30; (with_reducible refine (refAdd_any a1 b1 ha1 hb1 _).mono ?_); rintro e w2 ⟨rfl, g2⟩; subst g2; have G2 := G1; have Z2 := Z1; have A2 := A1; have B2 := B1; have R2 := R1; have xA0_2 := A2.cell 0 _ rfl; have xA1_2 := A2.cell 1 _ rfl; have xA2_2 := A2.cell 2 _ rfl; have xB0_2 := B2.cell 0 _ rfl; have xB1_2 := B2.cell 1 _ rfl; have xB2_2 := B2.cell 2 _ rfl)
      | (go_at_call 30; (with_reducible refine (refAdd_any a2 b2 ha2 hb2 _).mono ?_); rintro e w3 ⟨rfl, g3⟩; subst g3; have G3 := G2; have Z3 := Z2; have A3 := A2; have B3 := B2; have R3 := R2; have xA0_3 := A3.cell 0 _ rfl; have xA1_3 := A3.cell 1 _ rfl; have xA2_3 := A3.cell 2 _ rfl; have xB0_3 := B3.cell 0 _ rfl; have xB1_3 := B3.cell 1 _ rfl; have xB2_3 := B3.cell 2 _ rfl; have cR0 := R3.cell 0 _ rfl; have fR0 := R3.froz 0; have cR1 := R3.cell 1 _ rfl; have fR1 := R3.froz 1; have cR2 := R3.cell 2 _ rfl; have fR2 := R3.froz 2))
  go_wp2_with fail
  refine bodyPost_ret (v := .agg #[.int .i64 (sat (a0 + b0)), .int .i64 (sat (a1 + b1)), .int .i64 (sat (a2 + b2))]) (by simp [results, Try.results11, go_sem, cR0, cR1, cR2]) rfl ⟨rfl, ?_⟩
  exact (Gr.setCell (Gr.setCell (Gr.setCell G3 (by simp; omega) _) (by simp; omega) _) (by simp; omega) _)

theorem rvsub_any (a0 a1 a2 b0 b1 b2 : Int) (ha0 : R64 a0) (ha1 : R64 a1) (ha2 : R64 a2) (hb0 : R64 b0) (hb1 : R64 b1) (hb2 : R64 b2) (w : World) :
    Calls Try.prog 13 #[.agg #[.int .i64 a0, .int .i64 a1, .int .i64 a2], .agg #[.int .i64 b0, .int .i64 b1, .int .i64 b2]] w
      fun e w' => e = .returned (.agg #[.int .i64 (sat (a0 - b0)), .int .i64 (sat (a1 - b1)), .int .i64 (sat (a2 - b2))]) ∧ Gr w.heap.size w w' := by
  obtain ⟨H, hH⟩ : ∃ H, w.heap.size = H := ⟨_, rfl⟩
  go_enter Try.func13, Try.ntmps13
  go_wp2_with fail
  obtain ⟨W, hW⟩ : ∃ W, (((w.alloc (.cells #[.int .i64 a0, .int .i64 a1, .int .i64 a2] 22)).alloc (.cells #[.int .i64 b0, .int .i64 b1, .int .i64 b2] 22)).alloc (.cells #[.int .i64 0, .int .i64 0, .int .i64 0] 22)) = W := ⟨_, rfl⟩
  have A0 : Blk W (H) [.int .i64 a0, .int .i64 a1, .int .i64 a2] := by rw [← hW]; exact (((Blk.new _ _ _ hH.symm)).alloc _).alloc _
  have B0 : Blk W (H + 1) [.int .i64 b0, .int .i64 b1, .int .i64 b2] := by rw [← hW]; exact ((Blk.new _ _ _ (by simp [hH]))).alloc _
  have R0 : Blk W (H + 1 + 1) [.int .i64 0, .int .i64 0, .int .i64 0] := by rw [← hW]; exact (Blk.new _ _ _ (by simp [hH]))
  have G0 : Gr w.heap.size w W := by rw [← hW]; repeat' (first | exact Gr.refl _ _ | refine Gr.alloc ?_ ?_ _ _ | (simp; done) | (simp; omega))
  have Z0 : W.heap.size = H + 1 + 1 + 1 := by rw [← hW]; simp [hH]
  rw [hW]
  clear hW
  have nRA : H + 1 + 1 ≠ H := by omega
  have nRB : H + 1 + 1 ≠ H + 1 := by omega
  have xA0_0 := A0.cell 0 _ rfl
  have xA1_0 := A0.cell 1 _ rfl
  have xA2_0 := A0.cell 2 _ rfl
  have xB0_0 := B0.cell 0 _ rfl
  have xB1_0 := B0.cell 1 _ rfl
  have xB2_0 := B0.cell 2 _ rfl
  go_region_held3 (fun w' => w'.cell? ⟨H, 0, none⟩ = some (.int .i64 a0) ∧ w'.cell? ⟨H, 1, none⟩ = some (.int .i64 a1) ∧ w'.cell? ⟨H, 2, none⟩ = some (.int .i64 a2) ∧ w'.cell? ⟨H + 1, 0, none⟩ = some (.int .i64 b0) ∧ w'.cell? ⟨H + 1, 1, none⟩ = some (.int .i64 b1) ∧ w'.cell? ⟨H + 1, 2, none⟩ = some (.int .i64 b2)) (first | with_reducible exact ⟨(far3 xA0_3 nRA), (far3 xA1_3 nRA), (far3 xA2_3 nRA), (far3 xB0_3 nRB), (far3 xB1_3 nRB), (far3 xB2_3 nRB)⟩ | with_reducible exact ⟨(far3d xA0_3 nRA), (far3d xA1_3 nRA), (far3d xA2_3 nRA), (far3d xB0_3 nRB), (far3d xB1_3 nRB), (far3d xB2_3 nRB)⟩ | with_reducible exact ⟨xA0_3, xA1_3, xA2_3, xB0_3, xB1_3, xB2_3⟩ | with_reducible exact ⟨xA0_2, xA1_2, xA2_2, xB0_2, xB1_2, xB2_2⟩ | with_reducible exact ⟨xA0_1, xA1_1, xA2_1, xB0_1, xB1_1, xB2_1⟩ | with_reducible exact ⟨xA0_0, xA1_0, xA2_0, xB0_0, xB1_0, xB2_0⟩ | go_keep)
    (first
      | (go_at_call 32; (with_reducible refine (refSub_any a0 b0 ha0 hb0 _).mono ?_); rintro e w1 ⟨rfl, g1⟩; subst g1; have G1 := G0.drew; have Z1 := Z0; have A1 := A0; have B1 := B0; have R1 := R0; have xA0_1 := A1.cell 0 _ rfl; have xA1_1 := A1.cell 1 _ rfl; have xA2_1 := A1.cell 2 _ rfl; have xB0_1 := B1.cell 0 _ rfl; have xB1_1 := B1.cell 1 _ rfl; have xB2_1 := B1.cell 2 _ rfl)
      | (go_at_call 32; (with_reducible refine (refSub_any a1 b1 ha1 hb1 _).mono ?_); rintro e w2 ⟨rfl, g2⟩; subst g2; have G2 := G1; have Z2 := Z1; have A2 := A1; have B2 := B1; have R2 := R1; have xA0_2 := A2.cell 0 _ rfl; have xA1_2 := A2.cell 1 _ rfl; have xA2_2 := A2.cell 2 _ rfl; have xB0_2 := B2.cell 0 _ rfl; have xB1_2 := B2.cell 1 _ rfl; have xB2_2 := B2.cell 2 _ rfl)
      | (go_at_call 32; (with_reducible refine (refSub_any a2 b2 ha2 hb2 _).mono ?_); rintro e w3 ⟨rfl, g3⟩; subst g3; have G3 := G2; have Z3 := Z2; have A3 := A2; have B3 := B2; have R3 := R2; have xA0_3 := A3.cell 0 _ rfl; have xA1_3 := A3.cell 1 _ rfl; have xA2_3 := A3.cell 2 _ rfl; have xB0_3 := B3.cell 0 _ rfl; have xB1_3 := B3.cell 1 _ rfl; have xB2_3 := B3.cell 2 _ rfl; have cR0 := R3.cell 0 _ rfl; have fR0 := R3.froz 0; have cR1 := R3.cell 1 _ rfl; have fR1 := R3.froz 1; have cR2 := R3.cell 2 _ rfl; have fR2 := R3.froz 2))
  go_wp2_with fail
  refine bodyPost_ret (v := .agg #[.int .i64 (sat (a0 - b0)), .int .i64 (sat (a1 - b1)), .int .i64 (sat (a2 - b2))]) (by simp [results, Try.results13, go_sem, cR0, cR1, cR2]) rfl ⟨rfl, ?_⟩
  exact (Gr.setCell (Gr.setCell (Gr.setCell G3 (by simp; omega) _) (by simp; omega) _) (by simp; omega) _)

theorem rvscale_any (a0 a1 a2 k : Int) (ha0 : R64 a0) (ha1 : R64 a1) (ha2 : R64 a2) (hk : R64 k) (w : World) :
    Calls Try.prog 15 #[.agg #[.int .i64 a0, .int .i64 a1, .int .i64 a2], .int .i64 k] w
      fun e w' => e = .returned (.agg #[.int .i64 (sat (a0 * k / 65536)), .int .i64 (sat (a1 * k / 65536)), .int .i64 (sat (a2 * k / 65536))]) ∧ Gr w.heap.size w w' := by
  obtain ⟨H, hH⟩ : ∃ H, w.heap.size = H := ⟨_, rfl⟩
  go_enter Try.func15, Try.ntmps15
  go_wp2_with fail
  obtain ⟨W, hW⟩ : ∃ W, ((w.alloc (.cells #[.int .i64 a0, .int .i64 a1, .int .i64 a2] 22)).alloc (.cells #[.int .i64 0, .int .i64 0, .int .i64 0] 22)) = W := ⟨_, rfl⟩
  have A0 : Blk W (H) [.int .i64 a0, .int .i64 a1, .int .i64 a2] := by rw [← hW]; exact ((Blk.new _ _ _ hH.symm)).alloc _
  have R0 : Blk W (H + 1) [.int .i64 0, .int .i64 0, .int .i64 0] := by rw [← hW]; exact (Blk.new _ _ _ (by simp [hH]))
  have G0 : Gr w.heap.size w W := by rw [← hW]; repeat' (first | exact Gr.refl _ _ | refine Gr.alloc ?_ ?_ _ _ | (simp; done) | (simp; omega))
  have Z0 : W.heap.size = H + 1 + 1 := by rw [← hW]; simp [hH]
  rw [hW]
  clear hW
  have nRA : H + 1 ≠ H := by omega
  have xA0_0 := A0.cell 0 _ rfl
  have xA1_0 := A0.cell 1 _ rfl
  have xA2_0 := A0.cell 2 _ rfl
  go_region_held3 (fun w' => w'.cell? ⟨H, 0, none⟩ = some (.int .i64 a0) ∧ w'.cell? ⟨H, 1, none⟩ = some (.int .i64 a1) ∧ w'.cell? ⟨H, 2, none⟩ = some (.int .i64 a2)) (first | with_reducible exact ⟨(far3 xA0_3 nRA), (far3 xA1_3 nRA), (far3 xA2_3 nRA)⟩ | with_reducible exact ⟨(far3d xA0_3 nRA), (far3d xA1_3 nRA), (far3d xA2_3 nRA)⟩ | with_reducible exact ⟨xA0_3, xA1_3, xA2_3⟩ | with_reducible exact ⟨xA0_2, xA1_2, xA2_2⟩ | with_reducible exact ⟨xA0_1, xA1_1, xA2_1⟩ | with_reducible exact ⟨xA0_0, xA1_0, xA2_0⟩ | go_keep)
    (first
      | (go_at_call 34; (with_reducible refine (refMul_any a0 k ha0 hk _).mono ?_); rintro e w1 ⟨rfl, g1⟩; subst g1; have G1 := G0.drew; have Z1 := Z0; have A1 := A0; have R1 := R0; have xA0_1 := A1.cell 0 _ rfl; have xA1_1 := A1.cell 1 _ rfl; have xA2_1 := A1.cell 2 _ rfl)
      | (go_at_call 34; (with_reducible refine (refMul_any a1 k ha1 hk _).mono ?_); rintro e w2 ⟨rfl, g2⟩; subst g2; have G2 := G1; have Z2 := Z1; have A2 := A1; have R2 := R1; have xA0_2 := A2.cell 0 _ rfl; have xA1_2 := A2.cell 1 _ rfl; have xA2_2 := A2.cell 2 _ rfl)
      | (go_at_call 34; (with_reducible refine (refMul_any a2 k ha2 hk _).mono ?_); rintro e w3 ⟨rfl, g3⟩; subst g3; have G3 := G2; have Z3 := Z2; have A3 := A2; have R3 := R2; have xA0_3 := A3.cell 0 _ rfl; have xA1_3 := A3.cell 1 _ rfl; have xA2_3 := A3.cell 2 _ rfl; have cR0 := R3.cell 0 _ rfl; have fR0 := R3.froz 0; have cR1 := R3.cell 1 _ rfl; have fR1 := R3.froz 1; have cR2 := R3.cell 2 _ rfl; have fR2 := R3.froz 2))
  go_wp2_with fail
  refine bodyPost_ret (v := .agg #[.int .i64 (sat (a0 * k / 65536)), .int .i64 (sat (a1 * k / 65536)), .int .i64 (sat (a2 * k / 65536))]) (by simp [results, Try.results15, go_sem, cR0, cR1, cR2]) rfl ⟨rfl, ?_⟩
  exact (Gr.setCell (Gr.setCell (Gr.setCell G3 (by simp; omega) _) (by simp; omega) _) (by simp; omega) _)

theorem rvlerp_any (a0 a1 a2 b0 b1 b2 num den : Int) (ha0 : R64 a0) (ha1 : R64 a1) (ha2 : R64 a2) (hb0 : R64 b0) (hb1 : R64 b1) (hb2 : R64 b2) (h : fineB num den = true) (w : World) :
    Calls Try.prog 20 #[.agg #[.int .i64 a0, .int .i64 a1, .int .i64 a2], .agg #[.int .i64 b0, .int .i64 b1, .int .i64 b2], .int .i64 num, .int .i64 den] w
      fun e w' => e = .returned (.agg #[.int .i64 (lerpI a0 b0 num den), .int .i64 (lerpI a1 b1 num den), .int .i64 (lerpI a2 b2 num den)]) ∧ Gr w.heap.size w w' := by
  obtain ⟨H, hH⟩ : ∃ H, w.heap.size = H := ⟨_, rfl⟩
  go_enter Try.func20, Try.ntmps20
  go_wp2_with fail
  obtain ⟨W, hW⟩ : ∃ W, (((w.alloc (.cells #[.int .i64 a0, .int .i64 a1, .int .i64 a2] 22)).alloc (.cells #[.int .i64 b0, .int .i64 b1, .int .i64 b2] 22)).alloc (.cells #[.int .i64 0, .int .i64 0, .int .i64 0] 22)) = W := ⟨_, rfl⟩
  have A0 : Blk W (H) [.int .i64 a0, .int .i64 a1, .int .i64 a2] := by rw [← hW]; exact (((Blk.new _ _ _ hH.symm)).alloc _).alloc _
  have B0 : Blk W (H + 1) [.int .i64 b0, .int .i64 b1, .int .i64 b2] := by rw [← hW]; exact ((Blk.new _ _ _ (by simp [hH]))).alloc _
  have R0 : Blk W (H + 1 + 1) [.int .i64 0, .int .i64 0, .int .i64 0] := by rw [← hW]; exact (Blk.new _ _ _ (by simp [hH]))
  have G0 : Gr w.heap.size w W := by rw [← hW]; repeat' (first | exact Gr.refl _ _ | refine Gr.alloc ?_ ?_ _ _ | (simp; done) | (simp; omega))
  have Z0 : W.heap.size = H + 1 + 1 + 1 := by rw [← hW]; simp [hH]
  rw [hW]
  clear hW
  have nRA : H + 1 + 1 ≠ H := by omega
  have nRB : H + 1 + 1 ≠ H + 1 := by omega
  have xA0_0 := A0.cell 0 _ rfl
  have xA1_0 := A0.cell 1 _ rfl
  have xA2_0 := A0.cell 2 _ rfl
  have xB0_0 := B0.cell 0 _ rfl
  have xB1_0 := B0.cell 1 _ rfl
  have xB2_0 := B0.cell 2 _ rfl
  go_region_held3 (fun w' => w'.cell? ⟨H, 0, none⟩ = some (.int .i64 a0) ∧ w'.cell? ⟨H, 1, none⟩ = some (.int .i64 a1) ∧ w'.cell? ⟨H, 2, none⟩ = some (.int .i64 a2) ∧ w'.cell? ⟨H + 1, 0, none⟩ = some (.int .i64 b0) ∧ w'.cell? ⟨H + 1, 1, none⟩ = some (.int .i64 b1) ∧ w'.cell? ⟨H + 1, 2, none⟩ = some (.int .i64 b2)) (first | with_reducible exact ⟨(far3 xA0_3 nRA), (far3 xA1_3 nRA), (far3 xA2_3 nRA), (far3 xB0_3 nRB), (far3 xB1_3 nRB), (far3 xB2_3 nRB)⟩ | with_reducible exact ⟨(far3d xA0_3 nRA), (far3d xA1_3 nRA), (far3d xA2_3 nRA), (far3d xB0_3 nRB), (far3d xB1_3 nRB), (far3d xB2_3 nRB)⟩ | with_reducible exact ⟨xA0_3, xA1_3, xA2_3, xB0_3, xB1_3, xB2_3⟩ | with_reducible exact ⟨xA0_2, xA1_2, xA2_2, xB0_2, xB1_2, xB2_2⟩ | with_reducible exact ⟨xA0_1, xA1_1, xA2_1, xB0_1, xB1_1, xB2_1⟩ | with_reducible exact ⟨xA0_0, xA1_0, xA2_0, xB0_0, xB1_0, xB2_0⟩ | go_keep)
    (first
      | (go_at_call 36; (with_reducible refine (refLerp_any a0 b0 num den ha0 hb0 h _).mono ?_); rintro e w1 ⟨rfl, g1⟩; subst g1; have G1 := G0.drew; have Z1 := Z0; have A1 := A0; have B1 := B0; have R1 := R0; have xA0_1 := A1.cell 0 _ rfl; have xA1_1 := A1.cell 1 _ rfl; have xA2_1 := A1.cell 2 _ rfl; have xB0_1 := B1.cell 0 _ rfl; have xB1_1 := B1.cell 1 _ rfl; have xB2_1 := B1.cell 2 _ rfl)
      | (go_at_call 36; (with_reducible refine (refLerp_any a1 b1 num den ha1 hb1 h _).mono ?_); rintro e w2 ⟨rfl, g2⟩; subst g2; have G2 := G1; have Z2 := Z1; have A2 := A1; have B2 := B1; have R2 := R1; have xA0_2 := A2.cell 0 _ rfl; have xA1_2 := A2.cell 1 _ rfl; have xA2_2 := A2.cell 2 _ rfl; have xB0_2 := B2.cell 0 _ rfl; have xB1_2 := B2.cell 1 _ rfl; have xB2_2 := B2.cell 2 _ rfl)
      | (go_at_call 36; (with_reducible refine (refLerp_any a2 b2 num den ha2 hb2 h _).mono ?_); rintro e w3 ⟨rfl, g3⟩; subst g3; have G3 := G2; have Z3 := Z2; have A3 := A2; have B3 := B2; have R3 := R2; have xA0_3 := A3.cell 0 _ rfl; have xA1_3 := A3.cell 1 _ rfl; have xA2_3 := A3.cell 2 _ rfl; have xB0_3 := B3.cell 0 _ rfl; have xB1_3 := B3.cell 1 _ rfl; have xB2_3 := B3.cell 2 _ rfl; have cR0 := R3.cell 0 _ rfl; have fR0 := R3.froz 0; have cR1 := R3.cell 1 _ rfl; have fR1 := R3.froz 1; have cR2 := R3.cell 2 _ rfl; have fR2 := R3.froz 2))
  go_wp2_with fail
  refine bodyPost_ret (v := .agg #[.int .i64 (lerpI a0 b0 num den), .int .i64 (lerpI a1 b1 num den), .int .i64 (lerpI a2 b2 num den)]) (by simp [results, Try.results20, go_sem, cR0, cR1, cR2]) rfl ⟨rfl, ?_⟩
  exact (Gr.setCell (Gr.setCell (Gr.setCell G3 (by simp; omega) _) (by simp; omega) _) (by simp; omega) _)

theorem rvclamp_any (x0 x1 x2 a0 a1 a2 b0 b1 b2 : Int) (w : World) :
    Calls Try.prog 23 #[.agg #[.int .i64 x0, .int .i64 x1, .int .i64 x2], .agg #[.int .i64 a0, .int .i64 a1, .int .i64 a2], .agg #[.int .i64 b0, .int .i64 b1, .int .i64 b2]] w
      fun e w' => e = .returned (.agg #[.int .i64 (clampI x0 a0 b0), .int .i64 (clampI x1 a1 b1), .int .i64 (clampI x2 a2 b2)]) ∧ Gr w.heap.size w w' := by
  obtain ⟨H, hH⟩ : ∃ H, w.heap.size = H := ⟨_, rfl⟩
  go_enter Try.func23, Try.ntmps23
  go_wp2_with fail
  obtain ⟨W, hW⟩ : ∃ W, ((((w.alloc (.cells #[.int .i64 x0, .int .i64 x1, .int .i64 x2] 22)).alloc (.cells #[.int .i64 a0, .int .i64 a1, .int .i64 a2] 22)).alloc (.cells #[.int .i64 b0, .int .i64 b1, .int .i64 b2] 22)).alloc (.cells #[.int .i64 0, .int .i64 0, .int .i64 0] 22)) = W := ⟨_, rfl⟩
  have X0 : Blk W (H) [.int .i64 x0, .int .i64 x1, .int .i64 x2] := by rw [← hW]; exact ((((Blk.new _ _ _ hH.symm)).alloc _).alloc _).alloc _
  have A0 : Blk W (H + 1) [.int .i64 a0, .int .i64 a1, .int .i64 a2] := by rw [← hW]; exact (((Blk.new _ _ _ (by simp [hH]))).alloc _).alloc _
  have B0 : Blk W (H + 1 + 1) [.int .i64 b0, .int .i64 b1, .int .i64 b2] := by rw [← hW]; exact ((Blk.new _ _ _ (by simp [hH]))).alloc _
  have R0 : Blk W (H + 1 + 1 + 1) [.int .i64 0, .int .i64 0, .int .i64 0] := by rw [← hW]; exact (Blk.new _ _ _ (by simp [hH]))
  have G0 : Gr w.heap.size w W := by rw [← hW]; repeat' (first | exact Gr.refl _ _ | refine Gr.alloc ?_ ?_ _ _ | (simp; done) | (simp; omega))
  have Z0 : W.heap.size = H + 1 + 1 + 1 + 1 := by rw [← hW]; simp [hH]
  rw [hW]
  clear hW
  have nRX : H + 1 + 1 + 1 ≠ H := by omega
  have nRA : H + 1 + 1 + 1 ≠ H + 1 := by omega
  have nRB : H + 1 + 1 + 1 ≠ H + 1 + 1 := by omega
  have xX0_0 := X0.cell 0 _ rfl
  have xX1_0 := X0.cell 1 _ rfl
  have xX2_0 := X0.cell 2 _ rfl
  have xA0_0 := A0.cell 0 _ rfl
  have xA1_0 := A0.cell 1 _ rfl
  have xA2_0 := A0.cell 2 _ rfl
  have xB0_0 := B0.cell 0 _ rfl
  have xB1_0 := B0.cell 1 _ rfl
  have xB2_0 := B0.cell 2 _ rfl
  go_region_held3 (fun w' => w'.cell? ⟨H, 0, none⟩ = some (.int .i64 x0) ∧ w'.cell? ⟨H, 1, none⟩ = some (.int .i64 x1) ∧ w'.cell? ⟨H, 2, none⟩ = some (.int .i64 x2) ∧ w'.cell? ⟨H + 1, 0, none⟩ = some (.int .i64 a0) ∧ w'.cell? ⟨H + 1, 1, none⟩ = some (.int .i64 a1) ∧ w'.cell? ⟨H + 1, 2, none⟩ = some (.int .i64 a2) ∧ w'.cell? ⟨H + 1 + 1, 0, none⟩ = some (.int .i64 b0) ∧ w'.cell? ⟨H + 1 + 1, 1, none⟩ = some (.int .i64 b1) ∧ w'.cell? ⟨H + 1 + 1, 2, none⟩ = some (.int .i64 b2)) (first | with_reducible exact ⟨(far3 xX0_3 nRX), (far3 xX1_3 nRX), (far3 xX2_3 nRX), (far3 xA0_3 nRA), (far3 xA1_3 nRA), (far3 xA2_3 nRA), (far3 xB0_3 nRB), (far3 xB1_3 nRB), (far3 xB2_3 nRB)⟩ | with_reducible exact ⟨(far3d xX0_3 nRX), (far3d xX1_3 nRX), (far3d xX2_3 nRX), (far3d xA0_3 nRA), (far3d xA1_3 nRA), (far3d xA2_3 nRA), (far3d xB0_3 nRB), (far3d xB1_3 nRB), (far3d xB2_3 nRB)⟩ | with_reducible exact ⟨xX0_3, xX1_3, xX2_3, xA0_3, xA1_3, xA2_3, xB0_3, xB1_3, xB2_3⟩ | with_reducible exact ⟨xX0_2, xX1_2, xX2_2, xA0_2, xA1_2, xA2_2, xB0_2, xB1_2, xB2_2⟩ | with_reducible exact ⟨xX0_1, xX1_1, xX2_1, xA0_1, xA1_1, xA2_1, xB0_1, xB1_1, xB2_1⟩ | with_reducible exact ⟨xX0_0, xX1_0, xX2_0, xA0_0, xA1_0, xA2_0, xB0_0, xB1_0, xB2_0⟩ | go_keep)
    (first
      | (go_at_call 41; (with_reducible refine (refClamp_any x0 a0 b0 _).mono ?_); rintro e w1 ⟨rfl, g1⟩; subst g1; have G1 := G0.drew; have Z1 := Z0; have X1 := X0; have A1 := A0; have B1 := B0; have R1 := R0; have xX0_1 := X1.cell 0 _ rfl; have xX1_1 := X1.cell 1 _ rfl; have xX2_1 := X1.cell 2 _ rfl; have xA0_1 := A1.cell 0 _ rfl; have xA1_1 := A1.cell 1 _ rfl; have xA2_1 := A1.cell 2 _ rfl; have xB0_1 := B1.cell 0 _ rfl; have xB1_1 := B1.cell 1 _ rfl; have xB2_1 := B1.cell 2 _ rfl)
      | (go_at_call 41; (with_reducible refine (refClamp_any x1 a1 b1 _).mono ?_); rintro e w2 ⟨rfl, g2⟩; subst g2; have G2 := G1; have Z2 := Z1; have X2 := X1; have A2 := A1; have B2 := B1; have R2 := R1; have xX0_2 := X2.cell 0 _ rfl; have xX1_2 := X2.cell 1 _ rfl; have xX2_2 := X2.cell 2 _ rfl; have xA0_2 := A2.cell 0 _ rfl; have xA1_2 := A2.cell 1 _ rfl; have xA2_2 := A2.cell 2 _ rfl; have xB0_2 := B2.cell 0 _ rfl; have xB1_2 := B2.cell 1 _ rfl; have xB2_2 := B2.cell 2 _ rfl)
      | (go_at_call 41; (with_reducible refine (refClamp_any x2 a2 b2 _).mono ?_); rintro e w3 ⟨rfl, g3⟩; subst g3; have G3 := G2; have Z3 := Z2; have X3 := X2; have A3 := A2; have B3 := B2; have R3 := R2; have xX0_3 := X3.cell 0 _ rfl; have xX1_3 := X3.cell 1 _ rfl; have xX2_3 := X3.cell 2 _ rfl; have xA0_3 := A3.cell 0 _ rfl; have xA1_3 := A3.cell 1 _ rfl; have xA2_3 := A3.cell 2 _ rfl; have xB0_3 := B3.cell 0 _ rfl; have xB1_3 := B3.cell 1 _ rfl; have xB2_3 := B3.cell 2 _ rfl; have cR0 := R3.cell 0 _ rfl; have fR0 := R3.froz 0; have cR1 := R3.cell 1 _ rfl; have fR1 := R3.froz 1; have cR2 := R3.cell 2 _ rfl; have fR2 := R3.froz 2))
  go_wp2_with fail
  refine bodyPost_ret (v := .agg #[.int .i64 (clampI x0 a0 b0), .int .i64 (clampI x1 a1 b1), .int .i64 (clampI x2 a2 b2)]) (by simp [results, Try.results23, go_sem, cR0, cR1, cR2]) rfl ⟨rfl, ?_⟩
  exact (Gr.setCell (Gr.setCell (Gr.setCell G3 (by simp; omega) _) (by simp; omega) _) (by simp; omega) _)

theorem rvgo_any (a0 a1 a2 b0 b1 b2 k : Int) (ha0 : R64 a0) (ha1 : R64 a1) (ha2 : R64 a2) (hb0 : R64 b0) (hb1 : R64 b1) (hb2 : R64 b2) (hk : R64 k) (w : World) :
    Calls Try.prog 17 #[.agg #[.int .i64 a0, .int .i64 a1, .int .i64 a2], .agg #[.int .i64 b0, .int .i64 b1, .int .i64 b2], .int .i64 k] w
      fun e w' => e = .returned (.agg #[.int .i64 (sat (a0 + sat (b0 * k / 65536))), .int .i64 (sat (a1 + sat (b1 * k / 65536))), .int .i64 (sat (a2 + sat (b2 * k / 65536)))]) ∧ Gr w.heap.size w w' := by
  obtain ⟨H, hH⟩ : ∃ H, w.heap.size = H := ⟨_, rfl⟩
  go_enter Try.func17, Try.ntmps17
  go_wp2_with fail
  obtain ⟨W, hW⟩ : ∃ W, (((w.alloc (.cells #[.int .i64 a0, .int .i64 a1, .int .i64 a2] 22)).alloc (.cells #[.int .i64 b0, .int .i64 b1, .int .i64 b2] 22)).alloc (.cells #[.int .i64 0, .int .i64 0, .int .i64 0] 22)) = W := ⟨_, rfl⟩
  have A0 : Blk W (H) [.int .i64 a0, .int .i64 a1, .int .i64 a2] := by rw [← hW]; exact (((Blk.new _ _ _ hH.symm)).alloc _).alloc _
  have B0 : Blk W (H + 1) [.int .i64 b0, .int .i64 b1, .int .i64 b2] := by rw [← hW]; exact ((Blk.new _ _ _ (by simp [hH]))).alloc _
  have R0 : Blk W (H + 1 + 1) [.int .i64 0, .int .i64 0, .int .i64 0] := by rw [← hW]; exact (Blk.new _ _ _ (by simp [hH]))
  have G0 : Gr w.heap.size w W := by rw [← hW]; repeat' (first | exact Gr.refl _ _ | refine Gr.alloc ?_ ?_ _ _ | (simp; done) | (simp; omega))
  have Z0 : W.heap.size = H + 1 + 1 + 1 := by rw [← hW]; simp [hH]
  rw [hW]
  clear hW
  have nRA : H + 1 + 1 ≠ H := by omega
  have nRB : H + 1 + 1 ≠ H + 1 := by omega
  have xA0_0 := A0.cell 0 _ rfl
  have xA1_0 := A0.cell 1 _ rfl
  have xA2_0 := A0.cell 2 _ rfl
  have xB0_0 := B0.cell 0 _ rfl
  have xB1_0 := B0.cell 1 _ rfl
  have xB2_0 := B0.cell 2 _ rfl
  go_region_held3 (fun w' => w'.cell? ⟨H, 0, none⟩ = some (.int .i64 a0) ∧ w'.cell? ⟨H, 1, none⟩ = some (.int .i64 a1) ∧ w'.cell? ⟨H, 2, none⟩ = some (.int .i64 a2) ∧ w'.cell? ⟨H + 1, 0, none⟩ = some (.int .i64 b0) ∧ w'.cell? ⟨H + 1, 1, none⟩ = some (.int .i64 b1) ∧ w'.cell? ⟨H + 1, 2, none⟩ = some (.int .i64 b2)) (first | with_reducible exact ⟨(far3 xA0_2 nRA), (far3 xA1_2 nRA), (far3 xA2_2 nRA), (far3 xB0_2 nRB), (far3 xB1_2 nRB), (far3 xB2_2 nRB)⟩ | with_reducible exact ⟨(far3d xA0_2 nRA), (far3d xA1_2 nRA), (far3d xA2_2 nRA), (far3d xB0_2 nRB), (far3d xB1_2 nRB), (far3d xB2_2 nRB)⟩ | with_reducible exact ⟨xA0_2, xA1_2, xA2_2, xB0_2, xB1_2, xB2_2⟩ | with_reducible exact ⟨xA0_1, xA1_1, xA2_1, xB0_1, xB1_1, xB2_1⟩ | with_reducible exact ⟨xA0_0, xA1_0, xA2_0, xB0_0, xB1_0, xB2_0⟩ | go_keep)
    (first
      | (go_at_call 15; (with_reducible refine (rvscale_any b0 b1 b2 k hb0 hb1 hb2 hk _).mono ?_); rintro e w1 ⟨rfl, g1⟩; have G1 := G0.drew.then g1; have Z1 := g1.size; have A1 := A0.drew.gr g1 A0.lt; have B1 := B0.drew.gr g1 B0.lt; have R1 := R0.drew.gr g1 R0.lt; have xA0_1 := A1.cell 0 _ rfl; have xA1_1 := A1.cell 1 _ rfl; have xA2_1 := A1.cell 2 _ rfl; have xB0_1 := B1.cell 0 _ rfl; have xB1_1 := B1.cell 1 _ rfl; have xB2_1 := B1.cell 2 _ rfl)
      | (go_at_call 11; (with_reducible refine (rvadd_any a0 a1 a2 (sat (b0 * k / 65536)) (sat (b1 * k / 65536)) (sat (b2 * k / 65536)) ha0 ha1 ha2 (sat_bd _) (sat_bd _) (sat_bd _) _).mono ?_); rintro e w2 ⟨rfl, g2⟩; have G2 := G1.then g2; have Z2 := g2.size; have A2 := A1.gr g2 A1.lt; have B2 := B1.gr g2 B1.lt; have R2 := R1.gr g2 R1.lt; have xA0_2 := A2.cell 0 _ rfl; have xA1_2 := A2.cell 1 _ rfl; have xA2_2 := A2.cell 2 _ rfl; have xB0_2 := B2.cell 0 _ rfl; have xB1_2 := B2.cell 1 _ rfl; have xB2_2 := B2.cell 2 _ rfl; have cR0 := R2.cell 0 _ rfl; have fR0 := R2.froz 0; have cR1 := R2.cell 1 _ rfl; have fR1 := R2.froz 1; have cR2 := R2.cell 2 _ rfl; have fR2 := R2.froz 2))
  go_wp2_with fail
  refine bodyPost_ret (v := .agg #[.int .i64 (sat (a0 + sat (b0 * k / 65536))), .int .i64 (sat (a1 + sat (b1 * k / 65536))), .int .i64 (sat (a2 + sat (b2 * k / 65536)))]) (by simp [results, Try.results17, go_sem, cR0, cR1, cR2]) rfl ⟨rfl, ?_⟩
  exact (Gr.setCell (Gr.setCell (Gr.setCell G2 (by simp; omega) _) (by simp; omega) _) (by simp; omega) _)

end Go.Proofs.Ytlfpgpfjdobpeaa
