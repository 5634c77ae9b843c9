/-
  Layer 4 (curve): a place on a curve, by the code and by the document.
-/
import Derived.Test.YtajobokmddecmaaCurve3
import Derived.Deep.DrawnRows
namespace Go.Proofs.Ytajobokmddecmaa
open Go.RowKit
attribute [local go_sem ↓] Go.wp_at_zero Go.wp_at_succ

set_option maxHeartbeats 4000000 in
theorem rcvec_any (a0 a1 a2 v0 v1 v2 b0 b1 b2 u0 u1 u2 num den : Int) (ha0 : R64 a0) (ha1 : R64 a1) (ha2 : R64 a2) (hv0 : R64 v0) (hv1 : R64 v1) (hv2 : R64 v2) (hb0 : R64 b0) (hb1 : R64 b1) (hb2 : R64 b2) (hu0 : R64 u0) (hu1 : R64 u1) (hu2 : R64 u2) (h : fineB num den = true) (w : World) :
    Calls Try.prog 15 #[.agg #[.int .i64 a0, .int .i64 a1, .int .i64 a2], .agg #[.int .i64 v0, .int .i64 v1, .int .i64 v2], .agg #[.int .i64 b0, .int .i64 b1, .int .i64 b2], .agg #[.int .i64 u0, .int .i64 u1, .int .i64 u2], .int .i64 num, .int .i64 den] w
      fun e w' => e = .returned (.agg #[.int .i64 (curveI a0 v0 b0 u0 num den), .int .i64 (curveI a1 v1 b1 u1 num den), .int .i64 (curveI a2 v2 b2 u2 num den)]) ∧ Gr w.heap.size w w' := by
  obtain ⟨H, hH⟩ : ∃ H, w.heap.size = H := ⟨_, rfl⟩
  go_enter Try.func15, Try.ntmps15
  go_wp2_with fail
  obtain ⟨W, hW⟩ : ∃ W, (((((w.alloc (.cells #[.int .i64 a0, .int .i64 a1, .int .i64 a2] 35)).alloc (.cells #[.int .i64 v0, .int .i64 v1, .int .i64 v2] 35)).alloc (.cells #[.int .i64 b0, .int .i64 b1, .int .i64 b2] 35)).alloc (.cells #[.int .i64 u0, .int .i64 u1, .int .i64 u2] 35)).alloc (.cells #[.int .i64 0, .int .i64 0, .int .i64 0] 35)) = W := ⟨_, rfl⟩
  have A0 : Blk W (H) [.int .i64 a0, .int .i64 a1, .int .i64 a2] := by rw [← hW]; exact (((((Blk.new _ _ _ hH.symm)).alloc _).alloc _).alloc _).alloc _
  have V0 : Blk W (H + 1) [.int .i64 v0, .int .i64 v1, .int .i64 v2] := by rw [← hW]; exact ((((Blk.new _ _ _ (by simp [hH]))).alloc _).alloc _).alloc _
  have B0 : Blk W (H + 1 + 1) [.int .i64 b0, .int .i64 b1, .int .i64 b2] := by rw [← hW]; exact (((Blk.new _ _ _ (by simp [hH]))).alloc _).alloc _
  have U0 : Blk W (H + 1 + 1 + 1) [.int .i64 u0, .int .i64 u1, .int .i64 u2] := by rw [← hW]; exact ((Blk.new _ _ _ (by simp [hH]))).alloc _
  have R0 : Blk W (H + 1 + 1 + 1 + 1) [.int .i64 0, .int .i64 0, .int .i64 0] := by rw [← hW]; exact (Blk.new _ _ _ (by simp [hH]))
  have G0 : Gr w.heap.size w W := by rw [← hW]; repeat' (first | exact Gr.refl _ _ | refine Gr.alloc ?_ ?_ _ _ | (simp; done) | (simp; omega))
  have Z0 : W.heap.size = H + 1 + 1 + 1 + 1 + 1 := by rw [← hW]; simp [hH]
  rw [hW]
  clear hW
  have nRA : H + 1 + 1 + 1 + 1 ≠ H := by omega
  have nRV : H + 1 + 1 + 1 + 1 ≠ H + 1 := by omega
  have nRB : H + 1 + 1 + 1 + 1 ≠ H + 1 + 1 := by omega
  have nRU : H + 1 + 1 + 1 + 1 ≠ H + 1 + 1 + 1 := by omega
  have xA0_0 := A0.cell 0 _ rfl
  have xA1_0 := A0.cell 1 _ rfl
  have xA2_0 := A0.cell 2 _ rfl
  have xV0_0 := V0.cell 0 _ rfl
  have xV1_0 := V0.cell 1 _ rfl
  have xV2_0 := V0.cell 2 _ rfl
  have xB0_0 := B0.cell 0 _ rfl
  have xB1_0 := B0.cell 1 _ rfl
  have xB2_0 := B0.cell 2 _ rfl
  have xU0_0 := U0.cell 0 _ rfl
  have xU1_0 := U0.cell 1 _ rfl
  have xU2_0 := U0.cell 2 _ rfl
  go_region_held3 (fun w' => w'.cell? ⟨H, 0, none⟩ = some (.int .i64 a0) ∧ w'.cell? ⟨H, 1, none⟩ = some (.int .i64 a1) ∧ w'.cell? ⟨H, 2, none⟩ = some (.int .i64 a2) ∧ w'.cell? ⟨H + 1, 0, none⟩ = some (.int .i64 v0) ∧ w'.cell? ⟨H + 1, 1, none⟩ = some (.int .i64 v1) ∧ w'.cell? ⟨H + 1, 2, none⟩ = some (.int .i64 v2) ∧ w'.cell? ⟨H + 1 + 1, 0, none⟩ = some (.int .i64 b0) ∧ w'.cell? ⟨H + 1 + 1, 1, none⟩ = some (.int .i64 b1) ∧ w'.cell? ⟨H + 1 + 1, 2, none⟩ = some (.int .i64 b2) ∧ w'.cell? ⟨H + 1 + 1 + 1, 0, none⟩ = some (.int .i64 u0) ∧ w'.cell? ⟨H + 1 + 1 + 1, 1, none⟩ = some (.int .i64 u1) ∧ w'.cell? ⟨H + 1 + 1 + 1, 2, none⟩ = some (.int .i64 u2)) (first | with_reducible exact ⟨(far3 xA0_3 nRA), (far3 xA1_3 nRA), (far3 xA2_3 nRA), (far3 xV0_3 nRV), (far3 xV1_3 nRV), (far3 xV2_3 nRV), (far3 xB0_3 nRB), (far3 xB1_3 nRB), (far3 xB2_3 nRB), (far3 xU0_3 nRU), (far3 xU1_3 nRU), (far3 xU2_3 nRU)⟩ | with_reducible exact ⟨(far3d xA0_3 nRA), (far3d xA1_3 nRA), (far3d xA2_3 nRA), (far3d xV0_3 nRV), (far3d xV1_3 nRV), (far3d xV2_3 nRV), (far3d xB0_3 nRB), (far3d xB1_3 nRB), (far3d xB2_3 nRB), (far3d xU0_3 nRU), (far3d xU1_3 nRU), (far3d xU2_3 nRU)⟩ | with_reducible exact ⟨xA0_3, xA1_3, xA2_3, xV0_3, xV1_3, xV2_3, xB0_3, xB1_3, xB2_3, xU0_3, xU1_3, xU2_3⟩ | with_reducible exact ⟨xA0_2, xA1_2, xA2_2, xV0_2, xV1_2, xV2_2, xB0_2, xB1_2, xB2_2, xU0_2, xU1_2, xU2_2⟩ | with_reducible exact ⟨xA0_1, xA1_1, xA2_1, xV0_1, xV1_1, xV2_1, xB0_1, xB1_1, xB2_1, xU0_1, xU1_1, xU2_1⟩ | with_reducible exact ⟨xA0_0, xA1_0, xA2_0, xV0_0, xV1_0, xV2_0, xB0_0, xB1_0, xB2_0, xU0_0, xU1_0, xU2_0⟩ | go_keep)
    (first
      | (go_at_call 13; (with_reducible refine (rat_any a0 v0 b0 u0 num den ha0 hv0 hb0 hu0 h _).mono ?_); rintro e w1 ⟨rfl, g1⟩; subst g1; have G1 := G0.drew; have Z1 := Z0; have A1 := A0; have V1 := V0; have B1 := B0; have U1 := U0; have R1 := R0; have xA0_1 := A1.cell 0 _ rfl; have xA1_1 := A1.cell 1 _ rfl; have xA2_1 := A1.cell 2 _ rfl; have xV0_1 := V1.cell 0 _ rfl; have xV1_1 := V1.cell 1 _ rfl; have xV2_1 := V1.cell 2 _ rfl; have xB0_1 := B1.cell 0 _ rfl; have xB1_1 := B1.cell 1 _ rfl; have xB2_1 := B1.cell 2 _ rfl; have xU0_1 := U1.cell 0 _ rfl; have xU1_1 := U1.cell 1 _ rfl; have xU2_1 := U1.cell 2 _ rfl)
      | (go_at_call 13; (with_reducible refine (rat_any a1 v1 b1 u1 num den ha1 hv1 hb1 hu1 h _).mono ?_); rintro e w2 ⟨rfl, g2⟩; subst g2; have G2 := G1; have Z2 := Z1; have A2 := A1; have V2 := V1; have B2 := B1; have U2 := U1; have R2 := R1; have xA0_2 := A2.cell 0 _ rfl; have xA1_2 := A2.cell 1 _ rfl; have xA2_2 := A2.cell 2 _ rfl; have xV0_2 := V2.cell 0 _ rfl; have xV1_2 := V2.cell 1 _ rfl; have xV2_2 := V2.cell 2 _ rfl; have xB0_2 := B2.cell 0 _ rfl; have xB1_2 := B2.cell 1 _ rfl; have xB2_2 := B2.cell 2 _ rfl; have xU0_2 := U2.cell 0 _ rfl; have xU1_2 := U2.cell 1 _ rfl; have xU2_2 := U2.cell 2 _ rfl)
      | (go_at_call 13; (with_reducible refine (rat_any a2 v2 b2 u2 num den ha2 hv2 hb2 hu2 h _).mono ?_); rintro e w3 ⟨rfl, g3⟩; subst g3; have G3 := G2; have Z3 := Z2; have A3 := A2; have V3 := V2; have B3 := B2; have U3 := U2; have R3 := R2; have xA0_3 := A3.cell 0 _ rfl; have xA1_3 := A3.cell 1 _ rfl; have xA2_3 := A3.cell 2 _ rfl; have xV0_3 := V3.cell 0 _ rfl; have xV1_3 := V3.cell 1 _ rfl; have xV2_3 := V3.cell 2 _ rfl; have xB0_3 := B3.cell 0 _ rfl; have xB1_3 := B3.cell 1 _ rfl; have xB2_3 := B3.cell 2 _ rfl; have xU0_3 := U3.cell 0 _ rfl; have xU1_3 := U3.cell 1 _ rfl; have xU2_3 := U3.cell 2 _ rfl; have cR0 := R3.cell 0 _ rfl; have fR0 := R3.froz 0; have cR1 := R3.cell 1 _ rfl; have fR1 := R3.froz 1; have cR2 := R3.cell 2 _ rfl; have fR2 := R3.froz 2))
  go_wp2_with fail
  refine bodyPost_ret (v := .agg #[.int .i64 (curveI a0 v0 b0 u0 num den), .int .i64 (curveI a1 v1 b1 u1 num den), .int .i64 (curveI a2 v2 b2 u2 num den)]) (by simp [results, Try.results15, go_sem, cR0, cR1, cR2]) rfl ⟨rfl, ?_⟩
  exact (Gr.setCell (Gr.setCell (Gr.setCell G3 (by simp; omega) _) (by simp; omega) _) (by simp; omega) _)

set_option maxHeartbeats 6000000 in
theorem cvec_any (a0 a1 a2 v0 v1 v2 b0 b1 b2 u0 u1 u2 num den : Int) (ha0 : R64 a0) (ha1 : R64 a1) (ha2 : R64 a2) (hv0 : R64 v0) (hv1 : R64 v1) (hv2 : R64 v2) (hb0 : R64 b0) (hb1 : R64 b1) (hb2 : R64 b2) (hu0 : R64 u0) (hu1 : R64 u1) (hu2 : R64 u2) (h : fineB num den = true) (w : World) :
    Calls Try.prog 14 #[.agg #[.int .i64 a0, .int .i64 a1, .int .i64 a2], .agg #[.int .i64 v0, .int .i64 v1, .int .i64 v2], .agg #[.int .i64 b0, .int .i64 b1, .int .i64 b2], .agg #[.int .i64 u0, .int .i64 u1, .int .i64 u2], .int .i64 num, .int .i64 den] w
      fun e w' => e = .returned (.tuple #[.agg #[.int .i64 (curveI a0 v0 b0 u0 num den), .int .i64 (curveI a1 v1 b1 u1 num den), .int .i64 (curveI a2 v2 b2 u2 num den)], .int .i64 0]) ∧ Gr w.heap.size w w' := by
  obtain ⟨H, hH⟩ : ∃ H, w.heap.size = H := ⟨_, rfl⟩
  obtain ⟨c0, hc0⟩ : ∃ c, curveI a0 v0 b0 u0 num den = c := ⟨_, rfl⟩
  rw [hc0]
  have C0 := (show Hid _ from hc0); clear hc0
  obtain ⟨c1, hc1⟩ : ∃ c, curveI a1 v1 b1 u1 num den = c := ⟨_, rfl⟩
  rw [hc1]
  have C1 := (show Hid _ from hc1); clear hc1
  obtain ⟨c2, hc2⟩ : ∃ c, curveI a2 v2 b2 u2 num den = c := ⟨_, rfl⟩
  rw [hc2]
  have C2 := (show Hid _ from hc2); clear hc2
  go_enter Try.func14, Try.ntmps14
  go_wp2_with fail
  obtain ⟨W, hW⟩ : ∃ W, ((((((w.alloc (.cells #[.int .i64 a0, .int .i64 a1, .int .i64 a2] 35)).alloc (.cells #[.int .i64 v0, .int .i64 v1, .int .i64 v2] 35)).alloc (.cells #[.int .i64 b0, .int .i64 b1, .int .i64 b2] 35)).alloc (.cells #[.int .i64 u0, .int .i64 u1, .int .i64 u2] 35)).alloc (.cells #[.int .i64 0, .int .i64 0, .int .i64 0] 35)).alloc (.cells #[.int .i64 0, .int .i64 0, .int .i64 0] 35)) = W := ⟨_, rfl⟩
  have A0 : Blk W (H) [.int .i64 a0, .int .i64 a1, .int .i64 a2] := by rw [← hW]; exact ((((((Blk.new _ _ _ hH.symm)).alloc _).alloc _).alloc _).alloc _).alloc _
  have V0 : Blk W (H + 1) [.int .i64 v0, .int .i64 v1, .int .i64 v2] := by rw [← hW]; exact (((((Blk.new _ _ _ (by simp [hH]))).alloc _).alloc _).alloc _).alloc _
  have B0 : Blk W (H + 1 + 1) [.int .i64 b0, .int .i64 b1, .int .i64 b2] := by rw [← hW]; exact ((((Blk.new _ _ _ (by simp [hH]))).alloc _).alloc _).alloc _
  have U0 : Blk W (H + 1 + 1 + 1) [.int .i64 u0, .int .i64 u1, .int .i64 u2] := by rw [← hW]; exact (((Blk.new _ _ _ (by simp [hH]))).alloc _).alloc _
  have R0 : Blk W (H + 1 + 1 + 1 + 1) [.int .i64 0, .int .i64 0, .int .i64 0] := by rw [← hW]; exact ((Blk.new _ _ _ (by simp [hH]))).alloc _
  have D0 : Blk W (H + 1 + 1 + 1 + 1 + 1) [.int .i64 0, .int .i64 0, .int .i64 0] := by rw [← hW]; exact (Blk.new _ _ _ (by simp [hH]))
  have G0 : Gr w.heap.size w W := by rw [← hW]; repeat' (first | exact Gr.refl _ _ | refine Gr.alloc ?_ ?_ _ _ | (simp; done) | (simp; omega))
  have Z0 : W.heap.size = H + 1 + 1 + 1 + 1 + 1 + 1 := by rw [← hW]; simp [hH]
  rw [hW]
  clear hW
  refine wp_loop_rounds 4 ?_
  rw [rounds_succ]
  go_wp2_with fail
  have xA0_0 := A0.cell 0 _ rfl
  have xA1_0 := A0.cell 1 _ rfl
  have xA2_0 := A0.cell 2 _ rfl
  have xV0_0 := V0.cell 0 _ rfl
  have xV1_0 := V0.cell 1 _ rfl
  have xV2_0 := V0.cell 2 _ rfl
  have xB0_0 := B0.cell 0 _ rfl
  have xB1_0 := B0.cell 1 _ rfl
  have xB2_0 := B0.cell 2 _ rfl
  have xU0_0 := U0.cell 0 _ rfl
  have xU1_0 := U0.cell 1 _ rfl
  have xU2_0 := U0.cell 2 _ rfl
  go_region_held3 (fun w' => w'.cell? ⟨H, 0, none⟩ = some (.int .i64 a0) ∧ w'.cell? ⟨H, 1, none⟩ = some (.int .i64 a1) ∧ w'.cell? ⟨H, 2, none⟩ = some (.int .i64 a2) ∧ w'.cell? ⟨H + 1, 0, none⟩ = some (.int .i64 v0) ∧ w'.cell? ⟨H + 1, 1, none⟩ = some (.int .i64 v1) ∧ w'.cell? ⟨H + 1, 2, none⟩ = some (.int .i64 v2) ∧ w'.cell? ⟨H + 1 + 1, 0, none⟩ = some (.int .i64 b0) ∧ w'.cell? ⟨H + 1 + 1, 1, none⟩ = some (.int .i64 b1) ∧ w'.cell? ⟨H + 1 + 1, 2, none⟩ = some (.int .i64 b2) ∧ w'.cell? ⟨H + 1 + 1 + 1, 0, none⟩ = some (.int .i64 u0) ∧ w'.cell? ⟨H + 1 + 1 + 1, 1, none⟩ = some (.int .i64 u1) ∧ w'.cell? ⟨H + 1 + 1 + 1, 2, none⟩ = some (.int .i64 u2)) (first | with_reducible exact ⟨xA0_1, xA1_1, xA2_1, xV0_1, xV1_1, xV2_1, xB0_1, xB1_1, xB2_1, xU0_1, xU1_1, xU2_1⟩ | with_reducible exact ⟨xA0_0, xA1_0, xA2_0, xV0_0, xV1_0, xV2_0, xB0_0, xB1_0, xB2_0, xU0_0, xU1_0, xU2_0⟩ | go_keep)
    (first
      | (go_at_call 11; (with_reducible refine (at_any a0 v0 b0 u0 num den ha0 hv0 hb0 hu0 h _).mono ?_); rw [C0.out]; rintro e w1 ⟨rfl, g1⟩; have G1 := G0.drew.then g1; have Z1 := g1.size; have A1 := A0.drew.gr g1 A0.lt; have V1 := V0.drew.gr g1 V0.lt; have B1 := B0.drew.gr g1 B0.lt; have U1 := U0.drew.gr g1 U0.lt; have R1 := R0.drew.gr g1 R0.lt; have D1 := D0.drew.gr g1 D0.lt; have xA0_1 := A1.cell 0 _ rfl; have xA1_1 := A1.cell 1 _ rfl; have xA2_1 := A1.cell 2 _ rfl; have xV0_1 := V1.cell 0 _ rfl; have xV1_1 := V1.cell 1 _ rfl; have xV2_1 := V1.cell 2 _ rfl; have xB0_1 := B1.cell 0 _ rfl; have xB1_1 := B1.cell 1 _ rfl; have xB2_1 := B1.cell 2 _ rfl; have xU0_1 := U1.cell 0 _ rfl; have xU1_1 := U1.cell 1 _ rfl; have xU2_1 := U1.cell 2 _ rfl))
  have dc := D1.cell 0 _ rfl; have df := D1.froz 0
  go_wp2_with fail
  have A2 := A1.other (p := ⟨H + 1 + 1 + 1 + 1 + 1, 0, none⟩) (fun h => by have h' : H + 1 + 1 + 1 + 1 + 1 = H := h; omega) (.int .i64 c0)
  have V2 := V1.other (p := ⟨H + 1 + 1 + 1 + 1 + 1, 0, none⟩) (fun h => by have h' : H + 1 + 1 + 1 + 1 + 1 = H + 1 := h; omega) (.int .i64 c0)
  have B2 := B1.other (p := ⟨H + 1 + 1 + 1 + 1 + 1, 0, none⟩) (fun h => by have h' : H + 1 + 1 + 1 + 1 + 1 = H + 1 + 1 := h; omega) (.int .i64 c0)
  have U2 := U1.other (p := ⟨H + 1 + 1 + 1 + 1 + 1, 0, none⟩) (fun h => by have h' : H + 1 + 1 + 1 + 1 + 1 = H + 1 + 1 + 1 := h; omega) (.int .i64 c0)
  have R2 := R1.other (p := ⟨H + 1 + 1 + 1 + 1 + 1, 0, none⟩) (fun h => by have h' : H + 1 + 1 + 1 + 1 + 1 = H + 1 + 1 + 1 + 1 := h; omega) (.int .i64 c0)
  have D2 := D1.set 0 (.int .i64 c0) (by simp)
  simp only [List.set] at D2
  have G2 := Gr.setCell (p := ⟨H + 1 + 1 + 1 + 1 + 1, 0, none⟩) G1 (show w.heap.size ≤ H + 1 + 1 + 1 + 1 + 1 by omega) (.int .i64 c0)
  obtain ⟨W2, hW⟩ : ∃ W, w1.setCell ⟨H + 1 + 1 + 1 + 1 + 1, 0, none⟩ (.int .i64 c0) = W := ⟨_, rfl⟩
  rw [hW] at A2 V2 B2 U2 R2 D2 G2
  rw [hW]
  have Z2 := D2.lt
  clear hW dc df A1 V1 B1 U1 R1 D1
  clear xA0_0 xA0_1 xA1_0 xA1_1 xA2_0 xA2_1 xV0_0 xV0_1 xV1_0 xV1_1 xV2_0 xV2_1 xB0_0 xB0_1 xB1_0 xB1_1 xB2_0 xB2_1 xU0_0 xU0_1 xU1_0 xU1_1 xU2_0 xU2_1
  rw [rounds_succ]
  go_wp2_with fail
  have xA0_2 := A2.cell 0 _ rfl
  have xA1_2 := A2.cell 1 _ rfl
  have xA2_2 := A2.cell 2 _ rfl
  have xV0_2 := V2.cell 0 _ rfl
  have xV1_2 := V2.cell 1 _ rfl
  have xV2_2 := V2.cell 2 _ rfl
  have xB0_2 := B2.cell 0 _ rfl
  have xB1_2 := B2.cell 1 _ rfl
  have xB2_2 := B2.cell 2 _ rfl
  have xU0_2 := U2.cell 0 _ rfl
  have xU1_2 := U2.cell 1 _ rfl
  have xU2_2 := U2.cell 2 _ rfl
  go_region_held3 (fun w' => w'.cell? ⟨H, 0, none⟩ = some (.int .i64 a0) ∧ w'.cell? ⟨H, 1, none⟩ = some (.int .i64 a1) ∧ w'.cell? ⟨H, 2, none⟩ = some (.int .i64 a2) ∧ w'.cell? ⟨H + 1, 0, none⟩ = some (.int .i64 v0) ∧ w'.cell? ⟨H + 1, 1, none⟩ = some (.int .i64 v1) ∧ w'.cell? ⟨H + 1, 2, none⟩ = some (.int .i64 v2) ∧ w'.cell? ⟨H + 1 + 1, 0, none⟩ = some (.int .i64 b0) ∧ w'.cell? ⟨H + 1 + 1, 1, none⟩ = some (.int .i64 b1) ∧ w'.cell? ⟨H + 1 + 1, 2, none⟩ = some (.int .i64 b2) ∧ w'.cell? ⟨H + 1 + 1 + 1, 0, none⟩ = some (.int .i64 u0) ∧ w'.cell? ⟨H + 1 + 1 + 1, 1, none⟩ = some (.int .i64 u1) ∧ w'.cell? ⟨H + 1 + 1 + 1, 2, none⟩ = some (.int .i64 u2)) (first | with_reducible exact ⟨xA0_3, xA1_3, xA2_3, xV0_3, xV1_3, xV2_3, xB0_3, xB1_3, xB2_3, xU0_3, xU1_3, xU2_3⟩ | with_reducible exact ⟨xA0_2, xA1_2, xA2_2, xV0_2, xV1_2, xV2_2, xB0_2, xB1_2, xB2_2, xU0_2, xU1_2, xU2_2⟩ | go_keep)
    (first
      | (go_at_call 11; (with_reducible refine (at_any a1 v1 b1 u1 num den ha1 hv1 hb1 hu1 h _).mono ?_); rw [C1.out]; rintro e w3 ⟨rfl, g3⟩; have G3 := G2.drew.then g3; have Z3 := g3.size; have A3 := A2.drew.gr g3 A2.lt; have V3 := V2.drew.gr g3 V2.lt; have B3 := B2.drew.gr g3 B2.lt; have U3 := U2.drew.gr g3 U2.lt; have R3 := R2.drew.gr g3 R2.lt; have D3 := D2.drew.gr g3 D2.lt; have xA0_3 := A3.cell 0 _ rfl; have xA1_3 := A3.cell 1 _ rfl; have xA2_3 := A3.cell 2 _ rfl; have xV0_3 := V3.cell 0 _ rfl; have xV1_3 := V3.cell 1 _ rfl; have xV2_3 := V3.cell 2 _ rfl; have xB0_3 := B3.cell 0 _ rfl; have xB1_3 := B3.cell 1 _ rfl; have xB2_3 := B3.cell 2 _ rfl; have xU0_3 := U3.cell 0 _ rfl; have xU1_3 := U3.cell 1 _ rfl; have xU2_3 := U3.cell 2 _ rfl))
  have dc := D3.cell 1 _ rfl; have df := D3.froz 1
  go_wp2_with fail
  have A4 := A3.other (p := ⟨H + 1 + 1 + 1 + 1 + 1, 1, none⟩) (fun h => by have h' : H + 1 + 1 + 1 + 1 + 1 = H := h; omega) (.int .i64 c1)
  have V4 := V3.other (p := ⟨H + 1 + 1 + 1 + 1 + 1, 1, none⟩) (fun h => by have h' : H + 1 + 1 + 1 + 1 + 1 = H + 1 := h; omega) (.int .i64 c1)
  have B4 := B3.other (p := ⟨H + 1 + 1 + 1 + 1 + 1, 1, none⟩) (fun h => by have h' : H + 1 + 1 + 1 + 1 + 1 = H + 1 + 1 := h; omega) (.int .i64 c1)
  have U4 := U3.other (p := ⟨H + 1 + 1 + 1 + 1 + 1, 1, none⟩) (fun h => by have h' : H + 1 + 1 + 1 + 1 + 1 = H + 1 + 1 + 1 := h; omega) (.int .i64 c1)
  have R4 := R3.other (p := ⟨H + 1 + 1 + 1 + 1 + 1, 1, none⟩) (fun h => by have h' : H + 1 + 1 + 1 + 1 + 1 = H + 1 + 1 + 1 + 1 := h; omega) (.int .i64 c1)
  have D4 := D3.set 1 (.int .i64 c1) (by simp)
  simp only [List.set] at D4
  have G4 := Gr.setCell (p := ⟨H + 1 + 1 + 1 + 1 + 1, 1, none⟩) G3 (show w.heap.size ≤ H + 1 + 1 + 1 + 1 + 1 by omega) (.int .i64 c1)
  obtain ⟨W4, hW⟩ : ∃ W, w3.setCell ⟨H + 1 + 1 + 1 + 1 + 1, 1, none⟩ (.int .i64 c1) = W := ⟨_, rfl⟩
  rw [hW] at A4 V4 B4 U4 R4 D4 G4
  rw [hW]
  have Z4 := D4.lt
  clear hW dc df A3 V3 B3 U3 R3 D3
  clear xA0_2 xA0_3 xA1_2 xA1_3 xA2_2 xA2_3 xV0_2 xV0_3 xV1_2 xV1_3 xV2_2 xV2_3 xB0_2 xB0_3 xB1_2 xB1_3 xB2_2 xB2_3 xU0_2 xU0_3 xU1_2 xU1_3 xU2_2 xU2_3
  rw [rounds_succ]
  go_wp2_with fail
  have xA0_4 := A4.cell 0 _ rfl
  have xA1_4 := A4.cell 1 _ rfl
  have xA2_4 := A4.cell 2 _ rfl
  have xV0_4 := V4.cell 0 _ rfl
  have xV1_4 := V4.cell 1 _ rfl
  have xV2_4 := V4.cell 2 _ rfl
  have xB0_4 := B4.cell 0 _ rfl
  have xB1_4 := B4.cell 1 _ rfl
  have xB2_4 := B4.cell 2 _ rfl
  have xU0_4 := U4.cell 0 _ rfl
  have xU1_4 := U4.cell 1 _ rfl
  have xU2_4 := U4.cell 2 _ rfl
  go_region_held3 (fun w' => w'.cell? ⟨H, 0, none⟩ = some (.int .i64 a0) ∧ w'.cell? ⟨H, 1, none⟩ = some (.int .i64 a1) ∧ w'.cell? ⟨H, 2, none⟩ = some (.int .i64 a2) ∧ w'.cell? ⟨H + 1, 0, none⟩ = some (.int .i64 v0) ∧ w'.cell? ⟨H + 1, 1, none⟩ = some (.int .i64 v1) ∧ w'.cell? ⟨H + 1, 2, none⟩ = some (.int .i64 v2) ∧ w'.cell? ⟨H + 1 + 1, 0, none⟩ = some (.int .i64 b0) ∧ w'.cell? ⟨H + 1 + 1, 1, none⟩ = some (.int .i64 b1) ∧ w'.cell? ⟨H + 1 + 1, 2, none⟩ = some (.int .i64 b2) ∧ w'.cell? ⟨H + 1 + 1 + 1, 0, none⟩ = some (.int .i64 u0) ∧ w'.cell? ⟨H + 1 + 1 + 1, 1, none⟩ = some (.int .i64 u1) ∧ w'.cell? ⟨H + 1 + 1 + 1, 2, none⟩ = some (.int .i64 u2)) (first | with_reducible exact ⟨xA0_5, xA1_5, xA2_5, xV0_5, xV1_5, xV2_5, xB0_5, xB1_5, xB2_5, xU0_5, xU1_5, xU2_5⟩ | with_reducible exact ⟨xA0_4, xA1_4, xA2_4, xV0_4, xV1_4, xV2_4, xB0_4, xB1_4, xB2_4, xU0_4, xU1_4, xU2_4⟩ | go_keep)
    (first
      | (go_at_call 11; (with_reducible refine (at_any a2 v2 b2 u2 num den ha2 hv2 hb2 hu2 h _).mono ?_); rw [C2.out]; rintro e w5 ⟨rfl, g5⟩; have G5 := G4.drew.then g5; have Z5 := g5.size; have A5 := A4.drew.gr g5 A4.lt; have V5 := V4.drew.gr g5 V4.lt; have B5 := B4.drew.gr g5 B4.lt; have U5 := U4.drew.gr g5 U4.lt; have R5 := R4.drew.gr g5 R4.lt; have D5 := D4.drew.gr g5 D4.lt; have xA0_5 := A5.cell 0 _ rfl; have xA1_5 := A5.cell 1 _ rfl; have xA2_5 := A5.cell 2 _ rfl; have xV0_5 := V5.cell 0 _ rfl; have xV1_5 := V5.cell 1 _ rfl; have xV2_5 := V5.cell 2 _ rfl; have xB0_5 := B5.cell 0 _ rfl; have xB1_5 := B5.cell 1 _ rfl; have xB2_5 := B5.cell 2 _ rfl; have xU0_5 := U5.cell 0 _ rfl; have xU1_5 := U5.cell 1 _ rfl; have xU2_5 := U5.cell 2 _ rfl))
  have dc := D5.cell 2 _ rfl; have df := D5.froz 2
  go_wp2_with fail
  have A6 := A5.other (p := ⟨H + 1 + 1 + 1 + 1 + 1, 2, none⟩) (fun h => by have h' : H + 1 + 1 + 1 + 1 + 1 = H := h; omega) (.int .i64 c2)
  have V6 := V5.other (p := ⟨H + 1 + 1 + 1 + 1 + 1, 2, none⟩) (fun h => by have h' : H + 1 + 1 + 1 + 1 + 1 = H + 1 := h; omega) (.int .i64 c2)
  have B6 := B5.other (p := ⟨H + 1 + 1 + 1 + 1 + 1, 2, none⟩) (fun h => by have h' : H + 1 + 1 + 1 + 1 + 1 = H + 1 + 1 := h; omega) (.int .i64 c2)
  have U6 := U5.other (p := ⟨H + 1 + 1 + 1 + 1 + 1, 2, none⟩) (fun h => by have h' : H + 1 + 1 + 1 + 1 + 1 = H + 1 + 1 + 1 := h; omega) (.int .i64 c2)
  have R6 := R5.other (p := ⟨H + 1 + 1 + 1 + 1 + 1, 2, none⟩) (fun h => by have h' : H + 1 + 1 + 1 + 1 + 1 = H + 1 + 1 + 1 + 1 := h; omega) (.int .i64 c2)
  have D6 := D5.set 2 (.int .i64 c2) (by simp)
  simp only [List.set] at D6
  have G6 := Gr.setCell (p := ⟨H + 1 + 1 + 1 + 1 + 1, 2, none⟩) G5 (show w.heap.size ≤ H + 1 + 1 + 1 + 1 + 1 by omega) (.int .i64 c2)
  obtain ⟨W6, hW⟩ : ∃ W, w5.setCell ⟨H + 1 + 1 + 1 + 1 + 1, 2, none⟩ (.int .i64 c2) = W := ⟨_, rfl⟩
  rw [hW] at A6 V6 B6 U6 R6 D6 G6
  rw [hW]
  have Z6 := D6.lt
  clear hW dc df A5 V5 B5 U5 R5 D5
  clear xA0_4 xA0_5 xA1_4 xA1_5 xA2_4 xA2_5 xV0_4 xV0_5 xV1_4 xV1_5 xV2_4 xV2_5 xB0_4 xB0_5 xB1_4 xB1_5 xB2_4 xB2_5 xU0_4 xU0_5 xU1_4 xU1_5 xU2_4 xU2_5
  rw [rounds_succ]
  have x0 := D6.cell 0 _ rfl; have y0 := R6.cell 0 _ rfl; have f0 := R6.froz 0
  have x1 := D6.cell 1 _ rfl; have y1 := R6.cell 1 _ rfl; have f1 := R6.froz 1
  have x2 := D6.cell 2 _ rfl; have y2 := R6.cell 2 _ rfl; have f2 := R6.froz 2
  go_wp2_with fail
  refine bodyPost_ret (v := .tuple #[.agg #[.int .i64 c0, .int .i64 c1, .int .i64 c2], .int .i64 0]) (by simp [results, Try.results14, go_sem, y0, y1, y2]) rfl ⟨rfl, ?_⟩
  exact Gr.setCell (Gr.setCell (Gr.setCell G6 (by simp; omega) _) (by simp; omega) _) (by simp; omega) _

set_option maxHeartbeats 6000000 in
theorem cvec_no (a0 a1 a2 v0 v1 v2 b0 b1 b2 u0 u1 u2 num den : Int)  (h : fineB num den = false) (w : World) :
    Calls Try.prog 14 #[.agg #[.int .i64 a0, .int .i64 a1, .int .i64 a2], .agg #[.int .i64 v0, .int .i64 v1, .int .i64 v2], .agg #[.int .i64 b0, .int .i64 b1, .int .i64 b2], .agg #[.int .i64 u0, .int .i64 u1, .int .i64 u2], .int .i64 num, .int .i64 den] w
      fun e w' => e = .returned (.tuple #[.agg #[.int .i64 0, .int .i64 0, .int .i64 0], .int .i64 3]) ∧ Gr w.heap.size w w' := by
  obtain ⟨H, hH⟩ : ∃ H, w.heap.size = H := ⟨_, rfl⟩
  go_enter Try.func14, Try.ntmps14
  go_wp2_with fail
  obtain ⟨W, hW⟩ : ∃ W, ((((((w.alloc (.cells #[.int .i64 a0, .int .i64 a1, .int .i64 a2] 35)).alloc (.cells #[.int .i64 v0, .int .i64 v1, .int .i64 v2] 35)).alloc (.cells #[.int .i64 b0, .int .i64 b1, .int .i64 b2] 35)).alloc (.cells #[.int .i64 u0, .int .i64 u1, .int .i64 u2] 35)).alloc (.cells #[.int .i64 0, .int .i64 0, .int .i64 0] 35)).alloc (.cells #[.int .i64 0, .int .i64 0, .int .i64 0] 35)) = W := ⟨_, rfl⟩
  have A0 : Blk W (H) [.int .i64 a0, .int .i64 a1, .int .i64 a2] := by rw [← hW]; exact ((((((Blk.new _ _ _ hH.symm)).alloc _).alloc _).alloc _).alloc _).alloc _
  have V0 : Blk W (H + 1) [.int .i64 v0, .int .i64 v1, .int .i64 v2] := by rw [← hW]; exact (((((Blk.new _ _ _ (by simp [hH]))).alloc _).alloc _).alloc _).alloc _
  have B0 : Blk W (H + 1 + 1) [.int .i64 b0, .int .i64 b1, .int .i64 b2] := by rw [← hW]; exact ((((Blk.new _ _ _ (by simp [hH]))).alloc _).alloc _).alloc _
  have U0 : Blk W (H + 1 + 1 + 1) [.int .i64 u0, .int .i64 u1, .int .i64 u2] := by rw [← hW]; exact (((Blk.new _ _ _ (by simp [hH]))).alloc _).alloc _
  have R0 : Blk W (H + 1 + 1 + 1 + 1) [.int .i64 0, .int .i64 0, .int .i64 0] := by rw [← hW]; exact ((Blk.new _ _ _ (by simp [hH]))).alloc _
  have D0 : Blk W (H + 1 + 1 + 1 + 1 + 1) [.int .i64 0, .int .i64 0, .int .i64 0] := by rw [← hW]; exact (Blk.new _ _ _ (by simp [hH]))
  have G0 : Gr w.heap.size w W := by rw [← hW]; repeat' (first | exact Gr.refl _ _ | refine Gr.alloc ?_ ?_ _ _ | (simp; done) | (simp; omega))
  have Z0 : W.heap.size = H + 1 + 1 + 1 + 1 + 1 + 1 := by rw [← hW]; simp [hH]
  rw [hW]
  clear hW
  refine wp_loop_rounds 4 ?_
  rw [rounds_succ]
  go_wp2_with fail
  have xA0_0 := A0.cell 0 _ rfl
  have xA1_0 := A0.cell 1 _ rfl
  have xA2_0 := A0.cell 2 _ rfl
  have xV0_0 := V0.cell 0 _ rfl
  have xV1_0 := V0.cell 1 _ rfl
  have xV2_0 := V0.cell 2 _ rfl
  have xB0_0 := B0.cell 0 _ rfl
  have xB1_0 := B0.cell 1 _ rfl
  have xB2_0 := B0.cell 2 _ rfl
  have xU0_0 := U0.cell 0 _ rfl
  have xU1_0 := U0.cell 1 _ rfl
  have xU2_0 := U0.cell 2 _ rfl
  go_region_held3 (fun w' => w'.cell? ⟨H, 0, none⟩ = some (.int .i64 a0) ∧ w'.cell? ⟨H, 1, none⟩ = some (.int .i64 a1) ∧ w'.cell? ⟨H, 2, none⟩ = some (.int .i64 a2) ∧ w'.cell? ⟨H + 1, 0, none⟩ = some (.int .i64 v0) ∧ w'.cell? ⟨H + 1, 1, none⟩ = some (.int .i64 v1) ∧ w'.cell? ⟨H + 1, 2, none⟩ = some (.int .i64 v2) ∧ w'.cell? ⟨H + 1 + 1, 0, none⟩ = some (.int .i64 b0) ∧ w'.cell? ⟨H + 1 + 1, 1, none⟩ = some (.int .i64 b1) ∧ w'.cell? ⟨H + 1 + 1, 2, none⟩ = some (.int .i64 b2) ∧ w'.cell? ⟨H + 1 + 1 + 1, 0, none⟩ = some (.int .i64 u0) ∧ w'.cell? ⟨H + 1 + 1 + 1, 1, none⟩ = some (.int .i64 u1) ∧ w'.cell? ⟨H + 1 + 1 + 1, 2, none⟩ = some (.int .i64 u2)) (first | with_reducible exact ⟨xA0_1, xA1_1, xA2_1, xV0_1, xV1_1, xV2_1, xB0_1, xB1_1, xB2_1, xU0_1, xU1_1, xU2_1⟩ | with_reducible exact ⟨xA0_0, xA1_0, xA2_0, xV0_0, xV1_0, xV2_0, xB0_0, xB1_0, xB2_0, xU0_0, xU1_0, xU2_0⟩ | go_keep)
    (first
      | (go_at_call 11; (with_reducible refine (at_no a0 v0 b0 u0 num den h _).mono ?_); rintro e w1 ⟨rfl, g1⟩; subst g1; have G1 := G0.drew; have Z1 := Z0; have A1 := A0; have V1 := V0; have B1 := B0; have U1 := U0; have R1 := R0; have D1 := D0; have xA0_1 := A1.cell 0 _ rfl; have xA1_1 := A1.cell 1 _ rfl; have xA2_1 := A1.cell 2 _ rfl; have xV0_1 := V1.cell 0 _ rfl; have xV1_1 := V1.cell 1 _ rfl; have xV2_1 := V1.cell 2 _ rfl; have xB0_1 := B1.cell 0 _ rfl; have xB1_1 := B1.cell 1 _ rfl; have xB2_1 := B1.cell 2 _ rfl; have xU0_1 := U1.cell 0 _ rfl; have xU1_1 := U1.cell 1 _ rfl; have xU2_1 := U1.cell 2 _ rfl))
  have y0 := R1.cell 0 _ rfl; have f0 := R1.froz 0
  have y1 := R1.cell 1 _ rfl; have f1 := R1.froz 1
  have y2 := R1.cell 2 _ rfl; have f2 := R1.froz 2
  go_wp2_with fail
  refine bodyPost_ret (v := .tuple #[.agg #[.int .i64 0, .int .i64 0, .int .i64 0], .int .i64 3]) (by simp [results, Try.results14, go_sem, y0, y1, y2]) rfl ⟨rfl, ?_⟩
  exact Gr.setCell (Gr.setCell (Gr.setCell G1 (by simp; omega) _) (by simp; omega) _) (by simp; omega) _
end Go.Proofs.Ytajobokmddecmaa
