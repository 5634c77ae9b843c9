/-
  Proved: of any places, speeds and part curve.Vec answers what the document's own answer does, between both, or ErrRange (the law CurvePlaces answers true).
  Conditions: none.
-/
import Derived.Test.YtajobokmddecmaaRows
import Derived.Test.YtajobokmddecmaaCurve4
import Derived.Test.YtajobokmddecmaaVec4
import Derived.Test.YtajobokmddecmaaEq3
import Derived.WalkKit
import Derived.ProofKit
import Derived.OpenShut
import Derived.Test.YtajobokmddecmaaArr
namespace Go.Proofs.Ytajobokmddecmaa
open Go.ChangeShapes Go.WideShapes Go.ChangeAt Go.RowKit
set_option linter.unusedVariables false

namespace CurvePlacesL
theorem own : ownKnob Try.prog.godebug = none := by kernel_rfl
theorem cells_a2 : Try.prog.cellsOf 29 = 2 := by kernel_rfl
theorem cells_m23 : Try.prog.cellsOf 36 = 6 := by kernel_rfl
theorem cells_a3 : Try.prog.cellsOf 35 = 3 := by kernel_rfl
theorem cells_e : Try.prog.cellsOf 2 = 1 := by kernel_rfl
attribute [local go_sem ↓] Go.wp_at_zero Go.wp_at_succ
attribute [local go_sem] eq3_run
set_option maxHeartbeats 4000000 in
theorem walkN (a0 a1 a2 b0 b1 b2 v0 v1 v2 u0 u1 u2 p q : Int) (va0 : (Lit.int .i64 a0).wf = true) (va1 : (Lit.int .i64 a1).wf = true) (va2 : (Lit.int .i64 a2).wf = true) (vb0 : (Lit.int .i64 b0).wf = true) (vb1 : (Lit.int .i64 b1).wf = true) (vb2 : (Lit.int .i64 b2).wf = true) (vv0 : (Lit.int .i64 v0).wf = true) (vv1 : (Lit.int .i64 v1).wf = true) (vv2 : (Lit.int .i64 v2).wf = true) (vu0 : (Lit.int .i64 u0).wf = true) (vu1 : (Lit.int .i64 u1).wf = true) (vu2 : (Lit.int .i64 u2).wf = true) (vp : (Lit.int .i64 p).wf = true) (vq : (Lit.int .i64 q).wf = true) (h : fineB p q = false) (w : World) :
    Calls Try.prog 5 #[.agg #[.int .i64 a0, .int .i64 a1, .int .i64 a2, .int .i64 b0, .int .i64 b1, .int .i64 b2], .agg #[.int .i64 v0, .int .i64 v1, .int .i64 v2, .int .i64 u0, .int .i64 u1, .int .i64 u2], .agg #[.int .i64 p, .int .i64 q]] w fun e w' => e = .returned (.bool true) ∧ Grown w w' := by
  have ha0 := wf_R64 va0
  have ha1 := wf_R64 va1
  have ha2 := wf_R64 va2
  have hb0 := wf_R64 vb0
  have hb1 := wf_R64 vb1
  have hb2 := wf_R64 vb2
  have hv0 := wf_R64 vv0
  have hv1 := wf_R64 vv1
  have hv2 := wf_R64 vv2
  have hu0 := wf_R64 vu0
  have hu1 := wf_R64 vu1
  have hu2 := wf_R64 vu2
  have hp := wf_R64 vp
  have hq := wf_R64 vq
  clear va0 va1 va2 vb0 vb1 vb2 vv0 vv1 vv2 vu0 vu1 vu2 vp vq
  obtain ⟨H, hH⟩ : ∃ H, w.heap.size = H := ⟨_, rfl⟩
  have HF := (show Hid _ from h); clear h
  go_enter Try.func5, Try.ntmps5
  go_wp2_with fail
  obtain ⟨W, hW⟩ : ∃ W, (((w.alloc (.cells #[.int .i64 a0, .int .i64 a1, .int .i64 a2, .int .i64 b0, .int .i64 b1, .int .i64 b2] 36)).alloc (.cells #[.int .i64 v0, .int .i64 v1, .int .i64 v2, .int .i64 u0, .int .i64 u1, .int .i64 u2] 36)).alloc (.cells #[.int .i64 p, .int .i64 q] 29)) = W := ⟨_, rfl⟩
  have A0 : Blk W (H) [.int .i64 a0, .int .i64 a1, .int .i64 a2, .int .i64 b0, .int .i64 b1, .int .i64 b2] := by rw [← hW]; exact (((Blk.new _ _ _ hH.symm)).alloc _).alloc _
  have V0 : Blk W (H + 1) [.int .i64 v0, .int .i64 v1, .int .i64 v2, .int .i64 u0, .int .i64 u1, .int .i64 u2] := by rw [← hW]; exact ((Blk.new _ _ _ (by simp [hH]))).alloc _
  have P0 : Blk W (H + 1 + 1) [.int .i64 p, .int .i64 q] := by rw [← hW]; exact (Blk.new _ _ _ (by simp [hH]))
  have G0 : Gr w.heap.size w W := by rw [← hW]; repeat' (first | exact Gr.refl _ _ | refine Gr.alloc ?_ ?_ _ _ | (simp; done) | (simp; omega))
  have Z0 : W.heap.size = H + 1 + 1 + 1 := by rw [← hW]; simp [hH]
  rw [hW]
  clear hW
  have xA0_0 := A0.cell 0 _ rfl; have xA1_0 := A0.cell 1 _ rfl; have xA2_0 := A0.cell 2 _ rfl; have xA3_0 := A0.cell 3 _ rfl; have xA4_0 := A0.cell 4 _ rfl; have xA5_0 := A0.cell 5 _ rfl
  have xV0_0 := V0.cell 0 _ rfl; have xV1_0 := V0.cell 1 _ rfl; have xV2_0 := V0.cell 2 _ rfl; have xV3_0 := V0.cell 3 _ rfl; have xV4_0 := V0.cell 4 _ rfl; have xV5_0 := V0.cell 5 _ rfl
  have xP0_0 := P0.cell 0 _ rfl; have xP1_0 := P0.cell 1 _ rfl
  go_wp2_with fail
  refine (cvec_no a0 a1 a2 v0 v1 v2 b0 b1 b2 u0 u1 u2 p q HF.out _).mono ?_; rintro e w1 ⟨rfl, g1⟩
  have G1 := G0.then g1
  have A1 := A0.gr g1 A0.lt
  have V1 := V0.gr g1 V0.lt
  have P1 := P0.gr g1 P0.lt
  have xP0_1 := P1.cell 0 _ rfl; have xP1_1 := P1.cell 1 _ rfl
  have lP1 := P1.lt
  go_wp2_with fail
  obtain ⟨M, hM⟩ : ∃ M, w1.heap.size = M := ⟨_, rfl⟩
  obtain ⟨W2, hW2⟩ : ∃ W, w1.alloc (.cells #[.int .i64 0, .int .i64 0, .int .i64 0] 35) = W := ⟨_, rfl⟩
  have X2 : Blk W2 M [.int .i64 0, .int .i64 0, .int .i64 0] := by rw [← hW2]; exact Blk.new _ _ _ hM.symm
  have nXA : H ≠ M := by have := A1.lt; omega
  have A2 := A1.alloc (.cells #[.int .i64 0, .int .i64 0, .int .i64 0] 35); rw [hW2] at A2
  have nXV : H + 1 ≠ M := by have := V1.lt; omega
  have V2 := V1.alloc (.cells #[.int .i64 0, .int .i64 0, .int .i64 0] 35); rw [hW2] at V2
  have nXP : H + 1 + 1 ≠ M := by have := P1.lt; omega
  have P2 := P1.alloc (.cells #[.int .i64 0, .int .i64 0, .int .i64 0] 35); rw [hW2] at P2
  have G2 : Gr w.heap.size w W2 := by rw [← hW2]; exact G1.alloc G1.size _ _
  have Z2 := X2.lt
  rw [hW2, hM]
  clear hW2 hM
  refine (refFine_any p q _).mono ?_; rw [HF.out]; rintro e w3 ⟨rfl, g3⟩
  subst g3
  have G3 := G2
  have A3 := A2
  have V3 := V2
  have P3 := P2
  have X3 := X2
  go_wp2_with fail
  refine (calive_any _).mono ?_; rintro e w4 ⟨rfl, g4⟩
  have G4 := G3.then g4
  have A4 := A3.gr g4 A3.lt
  have V4 := V3.gr g4 V3.lt
  have P4 := P3.gr g4 P3.lt
  have X4 := X3.gr g4 X3.lt
  have xX0_4 := X4.cell 0 _ rfl; have xX1_4 := X4.cell 1 _ rfl; have xX2_4 := X4.cell 2 _ rfl
  go_wp2_with fail
  go_ret
  exact ⟨rfl, G4.grown⟩
set_option maxHeartbeats 8000000 in
theorem walkY (a0 a1 a2 b0 b1 b2 v0 v1 v2 u0 u1 u2 p q : Int) (va0 : (Lit.int .i64 a0).wf = true) (va1 : (Lit.int .i64 a1).wf = true) (va2 : (Lit.int .i64 a2).wf = true) (vb0 : (Lit.int .i64 b0).wf = true) (vb1 : (Lit.int .i64 b1).wf = true) (vb2 : (Lit.int .i64 b2).wf = true) (vv0 : (Lit.int .i64 v0).wf = true) (vv1 : (Lit.int .i64 v1).wf = true) (vv2 : (Lit.int .i64 v2).wf = true) (vu0 : (Lit.int .i64 u0).wf = true) (vu1 : (Lit.int .i64 u1).wf = true) (vu2 : (Lit.int .i64 u2).wf = true) (vp : (Lit.int .i64 p).wf = true) (vq : (Lit.int .i64 q).wf = true) (h : fineB p q = true) (w : World) :
    Calls Try.prog 5 #[.agg #[.int .i64 a0, .int .i64 a1, .int .i64 a2, .int .i64 b0, .int .i64 b1, .int .i64 b2], .agg #[.int .i64 v0, .int .i64 v1, .int .i64 v2, .int .i64 u0, .int .i64 u1, .int .i64 u2], .agg #[.int .i64 p, .int .i64 q]] w fun e w' => e = .returned (.bool true) ∧ Grown w w' := by
  have ha0 := wf_R64 va0
  have ha1 := wf_R64 va1
  have ha2 := wf_R64 va2
  have hb0 := wf_R64 vb0
  have hb1 := wf_R64 vb1
  have hb2 := wf_R64 vb2
  have hv0 := wf_R64 vv0
  have hv1 := wf_R64 vv1
  have hv2 := wf_R64 vv2
  have hu0 := wf_R64 vu0
  have hu1 := wf_R64 vu1
  have hu2 := wf_R64 vu2
  have hp := wf_R64 vp
  have hq := wf_R64 vq
  clear va0 va1 va2 vb0 vb1 vb2 vv0 vv1 vv2 vu0 vu1 vu2 vp vq
  obtain ⟨H, hH⟩ : ∃ H, w.heap.size = H := ⟨_, rfl⟩
  have HF := (show Hid _ from h); clear h
  obtain ⟨c0, hc0⟩ : ∃ c, curveI a0 v0 b0 u0 p q = c := ⟨_, rfl⟩
  have rc0 : R64 c0 := by have := curve_btw a0 v0 b0 u0 p q; rw [hc0] at this; unfold R64 at *; omega
  have kc0 : btwB c0 a0 b0 = true := by have := curve_btw a0 v0 b0 u0 p q; rw [hc0] at this; unfold btwB clampI; simp; omega
  have C0 := (show Hid _ from hc0); clear hc0
  obtain ⟨c1, hc1⟩ : ∃ c, curveI a1 v1 b1 u1 p q = c := ⟨_, rfl⟩
  have rc1 : R64 c1 := by have := curve_btw a1 v1 b1 u1 p q; rw [hc1] at this; unfold R64 at *; omega
  have kc1 : btwB c1 a1 b1 = true := by have := curve_btw a1 v1 b1 u1 p q; rw [hc1] at this; unfold btwB clampI; simp; omega
  have C1 := (show Hid _ from hc1); clear hc1
  obtain ⟨c2, hc2⟩ : ∃ c, curveI a2 v2 b2 u2 p q = c := ⟨_, rfl⟩
  have rc2 : R64 c2 := by have := curve_btw a2 v2 b2 u2 p q; rw [hc2] at this; unfold R64 at *; omega
  have kc2 : btwB c2 a2 b2 = true := by have := curve_btw a2 v2 b2 u2 p q; rw [hc2] at this; unfold btwB clampI; simp; omega
  have C2 := (show Hid _ from hc2); clear hc2
  go_enter Try.func5, Try.ntmps5
  go_wp2_with fail
  obtain ⟨W, hW⟩ : ∃ W, (((w.alloc (.cells #[.int .i64 a0, .int .i64 a1, .int .i64 a2, .int .i64 b0, .int .i64 b1, .int .i64 b2] 36)).alloc (.cells #[.int .i64 v0, .int .i64 v1, .int .i64 v2, .int .i64 u0, .int .i64 u1, .int .i64 u2] 36)).alloc (.cells #[.int .i64 p, .int .i64 q] 29)) = W := ⟨_, rfl⟩
  have A0 : Blk W (H) [.int .i64 a0, .int .i64 a1, .int .i64 a2, .int .i64 b0, .int .i64 b1, .int .i64 b2] := by rw [← hW]; exact (((Blk.new _ _ _ hH.symm)).alloc _).alloc _
  have V0 : Blk W (H + 1) [.int .i64 v0, .int .i64 v1, .int .i64 v2, .int .i64 u0, .int .i64 u1, .int .i64 u2] := by rw [← hW]; exact ((Blk.new _ _ _ (by simp [hH]))).alloc _
  have P0 : Blk W (H + 1 + 1) [.int .i64 p, .int .i64 q] := by rw [← hW]; exact (Blk.new _ _ _ (by simp [hH]))
  have G0 : Gr w.heap.size w W := by rw [← hW]; repeat' (first | exact Gr.refl _ _ | refine Gr.alloc ?_ ?_ _ _ | (simp; done) | (simp; omega))
  have Z0 : W.heap.size = H + 1 + 1 + 1 := by rw [← hW]; simp [hH]
  rw [hW]
  clear hW
  have xA0_0 := A0.cell 0 _ rfl; have xA1_0 := A0.cell 1 _ rfl; have xA2_0 := A0.cell 2 _ rfl; have xA3_0 := A0.cell 3 _ rfl; have xA4_0 := A0.cell 4 _ rfl; have xA5_0 := A0.cell 5 _ rfl
  have xV0_0 := V0.cell 0 _ rfl; have xV1_0 := V0.cell 1 _ rfl; have xV2_0 := V0.cell 2 _ rfl; have xV3_0 := V0.cell 3 _ rfl; have xV4_0 := V0.cell 4 _ rfl; have xV5_0 := V0.cell 5 _ rfl
  have xP0_0 := P0.cell 0 _ rfl; have xP1_0 := P0.cell 1 _ rfl
  go_wp2_with fail
  refine (cvec_any a0 a1 a2 v0 v1 v2 b0 b1 b2 u0 u1 u2 p q ha0 ha1 ha2 hv0 hv1 hv2 hb0 hb1 hb2 hu0 hu1 hu2 HF.out _).mono ?_; rw [C0.out, C1.out, C2.out]; rintro e w1 ⟨rfl, g1⟩
  have G1 := G0.then g1
  have A1 := A0.gr g1 A0.lt
  have V1 := V0.gr g1 V0.lt
  have P1 := P0.gr g1 P0.lt
  have xP0_1 := P1.cell 0 _ rfl; have xP1_1 := P1.cell 1 _ rfl
  have lP1 := P1.lt
  go_wp2_with fail
  obtain ⟨M, hM⟩ : ∃ M, w1.heap.size = M := ⟨_, rfl⟩
  obtain ⟨W2, hW2⟩ : ∃ W, w1.alloc (.cells #[.int .i64 c0, .int .i64 c1, .int .i64 c2] 35) = W := ⟨_, rfl⟩
  have X2 : Blk W2 M [.int .i64 c0, .int .i64 c1, .int .i64 c2] := by rw [← hW2]; exact Blk.new _ _ _ hM.symm
  have nXA : H ≠ M := by have := A1.lt; omega
  have A2 := A1.alloc (.cells #[.int .i64 c0, .int .i64 c1, .int .i64 c2] 35); rw [hW2] at A2
  have nXV : H + 1 ≠ M := by have := V1.lt; omega
  have V2 := V1.alloc (.cells #[.int .i64 c0, .int .i64 c1, .int .i64 c2] 35); rw [hW2] at V2
  have nXP : H + 1 + 1 ≠ M := by have := P1.lt; omega
  have P2 := P1.alloc (.cells #[.int .i64 c0, .int .i64 c1, .int .i64 c2] 35); rw [hW2] at P2
  have G2 : Gr w.heap.size w W2 := by rw [← hW2]; exact G1.alloc G1.size _ _
  have Z2 := X2.lt
  rw [hW2, hM]
  clear hW2 hM
  refine (refFine_any p q _).mono ?_; rw [HF.out]; rintro e w3 ⟨rfl, g3⟩
  subst g3
  have G3 := G2
  have A3 := A2
  have V3 := V2
  have P3 := P2
  have X3 := X2
  have Z3 := X3.lt
  go_wp2_with fail
  have xA0_3 := A3.cell 0 _ rfl
  have xA1_3 := A3.cell 1 _ rfl
  have xA2_3 := A3.cell 2 _ rfl
  have xA3_3 := A3.cell 3 _ rfl
  have xA4_3 := A3.cell 4 _ rfl
  have xA5_3 := A3.cell 5 _ rfl
  have xV0_3 := V3.cell 0 _ rfl
  have xV1_3 := V3.cell 1 _ rfl
  have xV2_3 := V3.cell 2 _ rfl
  have xV3_3 := V3.cell 3 _ rfl
  have xV4_3 := V3.cell 4 _ rfl
  have xV5_3 := V3.cell 5 _ rfl
  have xP0_3 := P3.cell 0 _ rfl
  have xP1_3 := P3.cell 1 _ rfl
  have xX0_3 := X3.cell 0 _ rfl
  have xX1_3 := X3.cell 1 _ rfl
  have xX2_3 := X3.cell 2 _ rfl
  go_region_held3 (fun w' => w'.cell? ⟨H, 0, none⟩ = some (.int .i64 a0) ∧ w'.cell? ⟨H, 1, none⟩ = some (.int .i64 a1) ∧ w'.cell? ⟨H, 2, none⟩ = some (.int .i64 a2) ∧ w'.cell? ⟨H, 3, none⟩ = some (.int .i64 b0) ∧ w'.cell? ⟨H, 4, none⟩ = some (.int .i64 b1) ∧ w'.cell? ⟨H, 5, none⟩ = some (.int .i64 b2) ∧ w'.cell? ⟨H + 1, 0, none⟩ = some (.int .i64 v0) ∧ w'.cell? ⟨H + 1, 1, none⟩ = some (.int .i64 v1) ∧ w'.cell? ⟨H + 1, 2, none⟩ = some (.int .i64 v2) ∧ w'.cell? ⟨H + 1, 3, none⟩ = some (.int .i64 u0) ∧ w'.cell? ⟨H + 1, 4, none⟩ = some (.int .i64 u1) ∧ w'.cell? ⟨H + 1, 5, none⟩ = some (.int .i64 u2) ∧ w'.cell? ⟨H + 1 + 1, 0, none⟩ = some (.int .i64 p) ∧ w'.cell? ⟨H + 1 + 1, 1, none⟩ = some (.int .i64 q) ∧ w'.cell? ⟨M, 0, none⟩ = some (.int .i64 c0) ∧ w'.cell? ⟨M, 1, none⟩ = some (.int .i64 c1) ∧ w'.cell? ⟨M, 2, none⟩ = some (.int .i64 c2)) (first | with_reducible exact ⟨xA0_6, xA1_6, xA2_6, xA3_6, xA4_6, xA5_6, xV0_6, xV1_6, xV2_6, xV3_6, xV4_6, xV5_6, xP0_6, xP1_6, xX0_6, xX1_6, xX2_6⟩ | with_reducible exact ⟨xA0_5, xA1_5, xA2_5, xA3_5, xA4_5, xA5_5, xV0_5, xV1_5, xV2_5, xV3_5, xV4_5, xV5_5, xP0_5, xP1_5, xX0_5, xX1_5, xX2_5⟩ | with_reducible exact ⟨xA0_4, xA1_4, xA2_4, xA3_4, xA4_4, xA5_4, xV0_4, xV1_4, xV2_4, xV3_4, xV4_4, xV5_4, xP0_4, xP1_4, xX0_4, xX1_4, xX2_4⟩ | with_reducible exact ⟨xA0_3, xA1_3, xA2_3, xA3_3, xA4_3, xA5_3, xV0_3, xV1_3, xV2_3, xV3_3, xV4_3, xV5_3, xP0_3, xP1_3, xX0_3, xX1_3, xX2_3⟩ | go_keep)
    (first
      | (go_at_call 9; (with_reducible refine (calive_any _).mono ?_); rintro e w4 ⟨rfl, g4⟩; have G4 := G3.drew.then g4; have Z4 := g4.size; have A4 := A3.drew.gr g4 A3.lt; have V4 := V3.drew.gr g4 V3.lt; have P4 := P3.drew.gr g4 P3.lt; have X4 := X3.drew.gr g4 X3.lt; have xA0_4 := A4.cell 0 _ rfl; have xA1_4 := A4.cell 1 _ rfl; have xA2_4 := A4.cell 2 _ rfl; have xA3_4 := A4.cell 3 _ rfl; have xA4_4 := A4.cell 4 _ rfl; have xA5_4 := A4.cell 5 _ rfl; have xV0_4 := V4.cell 0 _ rfl; have xV1_4 := V4.cell 1 _ rfl; have xV2_4 := V4.cell 2 _ rfl; have xV3_4 := V4.cell 3 _ rfl; have xV4_4 := V4.cell 4 _ rfl; have xV5_4 := V4.cell 5 _ rfl; have xP0_4 := P4.cell 0 _ rfl; have xP1_4 := P4.cell 1 _ rfl; have xX0_4 := X4.cell 0 _ rfl; have xX1_4 := X4.cell 1 _ rfl; have xX2_4 := X4.cell 2 _ rfl)
      | (go_at_call 15; (with_reducible refine (rcvec_any a0 a1 a2 v0 v1 v2 b0 b1 b2 u0 u1 u2 p q ha0 ha1 ha2 hv0 hv1 hv2 hb0 hb1 hb2 hu0 hu1 hu2 HF.out _).mono ?_); rw [C0.out, C1.out, C2.out]; rintro e w5 ⟨rfl, g5⟩; have G5 := G4.then g5; have Z5 := g5.size; have A5 := A4.gr g5 A4.lt; have V5 := V4.gr g5 V4.lt; have P5 := P4.gr g5 P4.lt; have X5 := X4.gr g5 X4.lt; have xA0_5 := A5.cell 0 _ rfl; have xA1_5 := A5.cell 1 _ rfl; have xA2_5 := A5.cell 2 _ rfl; have xA3_5 := A5.cell 3 _ rfl; have xA4_5 := A5.cell 4 _ rfl; have xA5_5 := A5.cell 5 _ rfl; have xV0_5 := V5.cell 0 _ rfl; have xV1_5 := V5.cell 1 _ rfl; have xV2_5 := V5.cell 2 _ rfl; have xV3_5 := V5.cell 3 _ rfl; have xV4_5 := V5.cell 4 _ rfl; have xV5_5 := V5.cell 5 _ rfl; have xP0_5 := P5.cell 0 _ rfl; have xP1_5 := P5.cell 1 _ rfl; have xX0_5 := X5.cell 0 _ rfl; have xX1_5 := X5.cell 1 _ rfl; have xX2_5 := X5.cell 2 _ rfl)
      | (go_at_call 16; (with_reducible refine (vbetween_any c0 c1 c2 a0 a1 a2 b0 b1 b2 rc0 rc1 rc2 ha0 ha1 ha2 hb0 hb1 hb2 _).mono ?_); rw [kc0, kc1, kc2]; rintro e w6 ⟨rfl, g6⟩; have G6 := G5.then g6; have Z6 := g6.size; have A6 := A5.gr g6 A5.lt; have V6 := V5.gr g6 V5.lt; have P6 := P5.gr g6 P5.lt; have X6 := X5.gr g6 X5.lt; have xA0_6 := A6.cell 0 _ rfl; have xA1_6 := A6.cell 1 _ rfl; have xA2_6 := A6.cell 2 _ rfl; have xA3_6 := A6.cell 3 _ rfl; have xA4_6 := A6.cell 4 _ rfl; have xA5_6 := A6.cell 5 _ rfl; have xV0_6 := V6.cell 0 _ rfl; have xV1_6 := V6.cell 1 _ rfl; have xV2_6 := V6.cell 2 _ rfl; have xV3_6 := V6.cell 3 _ rfl; have xV4_6 := V6.cell 4 _ rfl; have xV5_6 := V6.cell 5 _ rfl; have xP0_6 := P6.cell 0 _ rfl; have xP1_6 := P6.cell 1 _ rfl; have xX0_6 := X6.cell 0 _ rfl; have xX1_6 := X6.cell 1 _ rfl; have xX2_6 := X6.cell 2 _ rfl))
  go_wp2_with fail
  go_ret
  exact ⟨rfl, G6.grown⟩
theorem walk (a0 a1 a2 b0 b1 b2 v0 v1 v2 u0 u1 u2 p q : Int) (va0 : (Lit.int .i64 a0).wf = true) (va1 : (Lit.int .i64 a1).wf = true) (va2 : (Lit.int .i64 a2).wf = true) (vb0 : (Lit.int .i64 b0).wf = true) (vb1 : (Lit.int .i64 b1).wf = true) (vb2 : (Lit.int .i64 b2).wf = true) (vv0 : (Lit.int .i64 v0).wf = true) (vv1 : (Lit.int .i64 v1).wf = true) (vv2 : (Lit.int .i64 v2).wf = true) (vu0 : (Lit.int .i64 u0).wf = true) (vu1 : (Lit.int .i64 u1).wf = true) (vu2 : (Lit.int .i64 u2).wf = true) (vp : (Lit.int .i64 p).wf = true) (vq : (Lit.int .i64 q).wf = true) (w : World) :
    Calls Try.prog 5 #[.agg #[.int .i64 a0, .int .i64 a1, .int .i64 a2, .int .i64 b0, .int .i64 b1, .int .i64 b2], .agg #[.int .i64 v0, .int .i64 v1, .int .i64 v2, .int .i64 u0, .int .i64 u1, .int .i64 u2], .agg #[.int .i64 p, .int .i64 q]] w fun e w' => e = .returned (.bool true) ∧ Grown w w' := by
  cases h : fineB p q
  · exact walkN a0 a1 a2 b0 b1 b2 v0 v1 v2 u0 u1 u2 p q va0 va1 va2 vb0 vb1 vb2 vv0 vv1 vv2 vu0 vu1 vu2 vp vq h w
  · exact walkY a0 a1 a2 b0 b1 b2 v0 v1 v2 u0 u1 u2 p q va0 va1 va2 vb0 vb1 vb2 vv0 vv1 vv2 vu0 vu1 vu2 vp vq h w

set_option maxRecDepth 100000 in
theorem lifted (os : Os) (started : os.Started) (H : Type) (enc : TypeId × Value → H) :
    ReturnsInHanded {} Try.checked os 5 .any (Rows.curvePlacesSpec.pre6 enc Try.prog Try.f5 Rows.curvePlacesRow.domain false) (Rows.curvePlacesSpec.post enc Try.prog Try.f5 false true false false) := by
  refine returnsInHanded_of_change (C := Try.checked) own started (by kernel_rfl) Try.func5
    (ChangeSpec.witness6 (enc := enc) (C := Try.checked) false ⟨#[], #[.agg #[.int .i64 0, .int .i64 0, .int .i64 0, .int .i64 0, .int .i64 0, .int .i64 0], .agg #[.int .i64 0, .int .i64 0, .int .i64 0, .int .i64 0, .int .i64 0, .int .i64 0], .agg #[.int .i64 0, .int .i64 0]], []⟩ 8 (by kernel_rfl) (by kernel_rfl) (by kernel_rfl) (by kernel_rfl)) ?_
  intro W base args ds gs before hval0 hW hcnd _
  have hval : ∀ (j : Nat) t v, Try.f5.params[j]? = some t → args[j]? = some v → Value.okWide Try.prog W .any base t v := hval0
  have hW' := hW
  obtain ⟨p, q, hA0, hV, rfl, hfz, hnd⟩ := hW
  have hA : DataW.TrodAll enc Try.prog W 0 (fun _ => true) true Try.f5.params.toList args.toList ds p := hA0
  rw [Try.params5] at hA hval
  obtain ⟨v0, vs0, d0, ds0, p0, q0, hargs, rfl, rfl, h0, r0⟩ := trodAll_cons hA
  obtain ⟨v1, vs1, d1, ds1, p1, q1, rfl, rfl, rfl, h1, r1⟩ := trodAll_cons r0
  obtain ⟨v2, vs2, d2, ds2, p2, q2, rfl, rfl, rfl, h2, r2⟩ := trodAll_cons r1
  obtain ⟨rfl, rfl, rfl⟩ := trodAll_nil r2
  obtain rfl : args = #[v0, v1, v2] := by cases args; simp_all
  obtain ⟨rfl, rfl⟩ := trodVars_none hV
  obtain ⟨a00, a01, a02, a03, a04, a05, rfl, rfl, rfl, w00, w01, w02, w03, w04, w05⟩ := open_arr23 Try.underlying36 Try.underlying35 Try.underlying2 cells_m23 cells_a3 cells_e (hval 0 36 v0 rfl rfl) h0
  obtain ⟨a10, a11, a12, a13, a14, a15, rfl, rfl, rfl, w10, w11, w12, w13, w14, w15⟩ := open_arr23 Try.underlying36 Try.underlying35 Try.underlying2 cells_m23 cells_a3 cells_e (hval 1 36 v1 rfl rfl) h1
  obtain ⟨a20, a21, rfl, rfl, rfl, w20, w21⟩ := open_arr2 Try.underlying29 Try.underlying2 cells_a2 cells_e (hval 2 29 v2 rfl rfl) h2
  clear hA0 hval0
  simp only [List.append_nil] at hW'
  refine (walk a00 a01 a02 a03 a04 a05 a10 a11 a12 a13 a14 a15 a20 a21 w00 w01 w02 w03 w04 w05 w10 w11 w12 w13 w14 w15 w20 w21 W).mono fun e W' ⟨he, hg⟩ => ?_
  subst he
  exact ⟨_, rfl, post_of_same (pa := []) (pv := []) hW' (fun _ _ _ => (trodAll_cons_mk (shut_bool Try.underlying4 _) trodAll_mk0)) (fun sp _ => (trodAll_cons_mk (shut_arr23 Try.underlying36 Try.underlying35 Try.underlying2 cells_m23 cells_a3 cells_e w00 w01 w02 w03 w04 w05) (trodAll_cons_mk (shut_arr23 Try.underlying36 Try.underlying35 Try.underlying2 cells_m23 cells_a3 cells_e w10 w11 w12 w13 w14 w15) (trodAll_cons_mk (shut_arr2 Try.underlying29 Try.underlying2 cells_a2 cells_e w20 w21) trodAll_mk0)))) (fun _ _ => rfl) rfl
    (hg.frame _) hg.2.1 (ok_one (by kernel_rfl) rfl (okWide_bool_mk Try.underlying4 _))⟩

theorem over : Rows.curvePlacesRow.holds Try.pinned (OpenSpec.ofChange Rows.curvePlacesSpec) :=
  OpenClaim.holds_of_wide 5 Try.f5 rfl rfl rfl rfl rfl rfl rfl ⟨rfl, rfl, rfl, rfl, rfl⟩ rfl rfl rfl rfl rfl (by kernel_rfl) Try.func5 (by kernel_rfl)
    (of_decide_eq_true (by kernel_rfl)) (by unfold Func.isWrapper; first | (rw [if_pos (by decide +kernel)]; kernel_rfl) | (rw [if_neg (by decide +kernel)]; exact ⟨rfl, rfl⟩))
    (fun os started H enc _ => lifted os started H enc)
end CurvePlacesL

theorem curvePlaces_proved : Rows.CurvePlacesSaid := CurvePlacesL.over
#print axioms curvePlaces_proved
end Go.Proofs.Ytajobokmddecmaa
