/-
  Proved: a place on a curve is, number by number, a number on one; one number's speed plays no part in the others (the law CurveEach answers true at every input).
  Conditions: none.
-/
import Derived.Test.YtajobokmddecmaaRows
import Derived.Test.YtajobokmddecmaaCurve4
import Derived.Test.YtajobokmddecmaaEq3
import Derived.WalkKit
import Derived.ProofKit
import Derived.OpenShut
import Derived.Test.YtajobokmddecmaaArr
namespace Go.Proofs.Ytajobokmddecmaa
open Go.ChangeShapes Go.WideShapes Go.ChangeAt Go.RowKit
set_option linter.unusedVariables false

namespace CurveEachL
theorem own : ownKnob Try.prog.godebug = none := by kernel_rfl
theorem cells_a3 : Try.prog.cellsOf 35 = 3 := by kernel_rfl
theorem cells_m23 : Try.prog.cellsOf 36 = 6 := by kernel_rfl
theorem cells_e : Try.prog.cellsOf 2 = 1 := by kernel_rfl
attribute [local go_sem ↓] Go.wp_at_zero Go.wp_at_succ
attribute [local go_sem] eq3_run
set_option maxHeartbeats 8000000 in
theorem walk (a0 a1 a2 b0 b1 b2 v0 v1 v2 u0 u1 u2 n0 n1 n2 : Int) (va0 : (Lit.int .i64 a0).wf = true) (va1 : (Lit.int .i64 a1).wf = true) (va2 : (Lit.int .i64 a2).wf = true) (vb0 : (Lit.int .i64 b0).wf = true) (vb1 : (Lit.int .i64 b1).wf = true) (vb2 : (Lit.int .i64 b2).wf = true) (vv0 : (Lit.int .i64 v0).wf = true) (vv1 : (Lit.int .i64 v1).wf = true) (vv2 : (Lit.int .i64 v2).wf = true) (vu0 : (Lit.int .i64 u0).wf = true) (vu1 : (Lit.int .i64 u1).wf = true) (vu2 : (Lit.int .i64 u2).wf = true) (vn0 : (Lit.int .i64 n0).wf = true) (vn1 : (Lit.int .i64 n1).wf = true) (vn2 : (Lit.int .i64 n2).wf = true) (w : World) :
    Calls Try.prog 7 #[.agg #[.int .i64 a0, .int .i64 a1, .int .i64 a2, .int .i64 b0, .int .i64 b1, .int .i64 b2], .agg #[.int .i64 v0, .int .i64 v1, .int .i64 v2, .int .i64 u0, .int .i64 u1, .int .i64 u2], .agg #[.int .i64 n0, .int .i64 n1, .int .i64 n2]] w fun e w' => e = .returned (.bool true) ∧ Grown w w' := by
  have ha0 := wf_R64 va0
  have ha1 := wf_R64 va1
  have ha2 := wf_R64 va2
  have hb0 := wf_R64 vb0
  have hb1 := wf_R64 vb1
  have hb2 := wf_R64 vb2
  have hv0 := wf_R64 vv0
  have hv1 := wf_R64 vv1
  have hv2 := wf_R64 vv2
  have hu0 := wf_R64 vu0
  have hu1 := wf_R64 vu1
  have hu2 := wf_R64 vu2
  have hn0 := wf_R64 vn0
  have hn1 := wf_R64 vn1
  have hn2 := wf_R64 vn2
  clear va0 va1 va2 vb0 vb1 vb2 vv0 vv1 vv2 vu0 vu1 vu2 vn0 vn1 vn2
  obtain ⟨H, hH⟩ : ∃ H, w.heap.size = H := ⟨_, rfl⟩
  obtain ⟨U, hU⟩ : ∃ u, IntKind.u64.wrap n1 = u := ⟨_, rfl⟩
  obtain ⟨V, hV⟩ : ∃ v, IntKind.u64.wrap n0 = v := ⟨_, rfl⟩
  have U0 : 0 ≤ U ∧ U ≤ 18446744073709551615 := by rw [← hU, u64_eq]; omega
  have V0 : 0 ≤ V ∧ V ≤ 18446744073709551615 := by rw [← hV, u64_eq]; omega
  obtain ⟨U0, U1⟩ := U0
  obtain ⟨V0, V1⟩ := V0
  obtain ⟨M, hM, M0, M1⟩ := mod_fine V (U % 4611686018427387904 + 1) (by omega) (by omega)
  obtain ⟨D, hD⟩ : ∃ D, U % 4611686018427387904 + 1 = D := ⟨_, rfl⟩
  have D0 : 1 ≤ D := by omega
  have D1 : D ≤ 4611686018427387904 := by omega
  have M2 : M ≤ D := by omega
  have h : fineB M D = true := fineB_mk M0 M2 D0 D1
  have h0 : fineB 0 D = true := fineB_mk (by omega) (by omega) D0 D1
  have h1 : fineB D D = true := fineB_mk (by omega) (by omega) D0 D1
  have HF := (show Hid _ from h); have HF0 := (show Hid _ from h0); have HF1 := (show Hid _ from h1)
  have HD := (show Hid _ from hD)
  clear hD h h0 h1
  obtain ⟨c0, hc0⟩ : ∃ c, curveI a0 v0 b0 u0 M D = c := ⟨_, rfl⟩
  have C0 := (show Hid _ from hc0); clear hc0
  obtain ⟨c1, hc1⟩ : ∃ c, curveI a1 v1 b1 u1 M D = c := ⟨_, rfl⟩
  have C1 := (show Hid _ from hc1); clear hc1
  obtain ⟨c2, hc2⟩ : ∃ c, curveI a2 v2 b2 u2 M D = c := ⟨_, rfl⟩
  have C2 := (show Hid _ from hc2); clear hc2
  obtain ⟨d0, hd0⟩ : ∃ c, curveI a0 n2 b0 0 M D = c := ⟨_, rfl⟩
  have E0 := (show Hid _ from hd0); clear hd0
  have r0 : R64 0 := by unfold R64; omega
  go_enter Try.func7, Try.ntmps7
  go_wp2_with fail
  obtain ⟨W, hW⟩ : ∃ W, (((w.alloc (.cells #[.int .i64 a0, .int .i64 a1, .int .i64 a2, .int .i64 b0, .int .i64 b1, .int .i64 b2] 36)).alloc (.cells #[.int .i64 v0, .int .i64 v1, .int .i64 v2, .int .i64 u0, .int .i64 u1, .int .i64 u2] 36)).alloc (.cells #[.int .i64 n0, .int .i64 n1, .int .i64 n2] 35)) = W := ⟨_, rfl⟩
  have A0 : Blk W (H) [.int .i64 a0, .int .i64 a1, .int .i64 a2, .int .i64 b0, .int .i64 b1, .int .i64 b2] := by rw [← hW]; exact (((Blk.new _ _ _ hH.symm)).alloc _).alloc _
  have S0 : Blk W (H + 1) [.int .i64 v0, .int .i64 v1, .int .i64 v2, .int .i64 u0, .int .i64 u1, .int .i64 u2] := by rw [← hW]; exact ((Blk.new _ _ _ (by simp [hH]))).alloc _
  have P0 : Blk W (H + 1 + 1) [.int .i64 n0, .int .i64 n1, .int .i64 n2] := by rw [← hW]; exact (Blk.new _ _ _ (by simp [hH]))
  have G0 : Gr w.heap.size w W := by rw [← hW]; repeat' (first | exact Gr.refl _ _ | refine Gr.alloc ?_ ?_ _ _ | (simp; done) | (simp; omega))
  have Z0 : W.heap.size = H + 1 + 1 + 1 := by rw [← hW]; simp [hH]
  rw [hW]
  clear hW
  have xA0_0 := A0.cell 0 _ rfl; have xA1_0 := A0.cell 1 _ rfl; have xA2_0 := A0.cell 2 _ rfl; have xA3_0 := A0.cell 3 _ rfl; have xA4_0 := A0.cell 4 _ rfl; have xA5_0 := A0.cell 5 _ rfl
  have xS0_0 := S0.cell 0 _ rfl; have xS1_0 := S0.cell 1 _ rfl; have xS2_0 := S0.cell 2 _ rfl; have xS3_0 := S0.cell 3 _ rfl; have xS4_0 := S0.cell 4 _ rfl; have xS5_0 := S0.cell 5 _ rfl
  have xP0_0 := P0.cell 0 _ rfl; have xP1_0 := P0.cell 1 _ rfl; have xP2_0 := P0.cell 2 _ rfl
  go_wp2_with fail
  rw [HD.out] at hM
  rw [HD.out, hM]
  clear hM HD M1 hU hV U0 U1 V0 V1
  refine (cvec_any a0 a1 a2 v0 v1 v2 b0 b1 b2 u0 u1 u2 M D ha0 ha1 ha2 hv0 hv1 hv2 hb0 hb1 hb2 hu0 hu1 hu2 HF.out _).mono ?_; rw [C0.out, C1.out, C2.out]; rintro e w1 ⟨rfl, g1⟩
  have G1 := G0.then g1
  have A1 := A0.gr g1 A0.lt
  have S1 := S0.gr g1 S0.lt
  have P1 := P0.gr g1 P0.lt
  go_wp2_with fail
  obtain ⟨N, hN⟩ : ∃ M, w1.heap.size = M := ⟨_, rfl⟩
  obtain ⟨W2, hW2⟩ : ∃ W, w1.alloc (.cells #[.int .i64 c0, .int .i64 c1, .int .i64 c2] 35) = W := ⟨_, rfl⟩
  have X2 : Blk W2 N [.int .i64 c0, .int .i64 c1, .int .i64 c2] := by rw [← hW2]; exact Blk.new _ _ _ hN.symm
  have nXA : H ≠ N := by have := A1.lt; omega
  have A2 := A1.alloc (.cells #[.int .i64 c0, .int .i64 c1, .int .i64 c2] 35); rw [hW2] at A2
  have nXS : H + 1 ≠ N := by have := S1.lt; omega
  have S2 := S1.alloc (.cells #[.int .i64 c0, .int .i64 c1, .int .i64 c2] 35); rw [hW2] at S2
  have nXP : H + 1 + 1 ≠ N := by have := P1.lt; omega
  have P2 := P1.alloc (.cells #[.int .i64 c0, .int .i64 c1, .int .i64 c2] 35); rw [hW2] at P2
  have G2 : Gr w.heap.size w W2 := by rw [← hW2]; exact G1.alloc G1.size _ _
  have Z2 := X2.lt
  rw [hW2, hN]
  clear hW2 hN
  refine wp_loop_rounds 4 ?_
  rw [rounds_succ]
  have xX0_2 := X2.cell 0 _ rfl; have xX1_2 := X2.cell 1 _ rfl; have xX2_2 := X2.cell 2 _ rfl
  go_wp2_with fail
  have xA0_2 := A2.cell 0 _ rfl
  have xA1_2 := A2.cell 1 _ rfl
  have xA2_2 := A2.cell 2 _ rfl
  have xA3_2 := A2.cell 3 _ rfl
  have xA4_2 := A2.cell 4 _ rfl
  have xA5_2 := A2.cell 5 _ rfl
  have xS0_2 := S2.cell 0 _ rfl
  have xS1_2 := S2.cell 1 _ rfl
  have xS2_2 := S2.cell 2 _ rfl
  have xS3_2 := S2.cell 3 _ rfl
  have xS4_2 := S2.cell 4 _ rfl
  have xS5_2 := S2.cell 5 _ rfl
  go_region_held3 (fun w' => w'.cell? ⟨H, 0, none⟩ = some (.int .i64 a0) ∧ w'.cell? ⟨H, 1, none⟩ = some (.int .i64 a1) ∧ w'.cell? ⟨H, 2, none⟩ = some (.int .i64 a2) ∧ w'.cell? ⟨H, 3, none⟩ = some (.int .i64 b0) ∧ w'.cell? ⟨H, 4, none⟩ = some (.int .i64 b1) ∧ w'.cell? ⟨H, 5, none⟩ = some (.int .i64 b2) ∧ w'.cell? ⟨H + 1, 0, none⟩ = some (.int .i64 v0) ∧ w'.cell? ⟨H + 1, 1, none⟩ = some (.int .i64 v1) ∧ w'.cell? ⟨H + 1, 2, none⟩ = some (.int .i64 v2) ∧ w'.cell? ⟨H + 1, 3, none⟩ = some (.int .i64 u0) ∧ w'.cell? ⟨H + 1, 4, none⟩ = some (.int .i64 u1) ∧ w'.cell? ⟨H + 1, 5, none⟩ = some (.int .i64 u2)) (first | with_reducible exact ⟨xA0_3, xA1_3, xA2_3, xA3_3, xA4_3, xA5_3, xS0_3, xS1_3, xS2_3, xS3_3, xS4_3, xS5_3⟩ | with_reducible exact ⟨xA0_2, xA1_2, xA2_2, xA3_2, xA4_2, xA5_2, xS0_2, xS1_2, xS2_2, xS3_2, xS4_2, xS5_2⟩ | go_keep)
    (first
      | (go_at_call 11; (with_reducible refine (at_any a0 v0 b0 u0 M D ha0 hv0 hb0 hu0 HF.out _).mono ?_); rw [C0.out]; rintro e w3 ⟨rfl, g3⟩; have G3 := G2.drew.then g3; have Z3 := g3.size; have A3 := A2.drew.gr g3 A2.lt; have S3 := S2.drew.gr g3 S2.lt; have P3 := P2.drew.gr g3 P2.lt; have X3 := X2.drew.gr g3 X2.lt; have xA0_3 := A3.cell 0 _ rfl; have xA1_3 := A3.cell 1 _ rfl; have xA2_3 := A3.cell 2 _ rfl; have xA3_3 := A3.cell 3 _ rfl; have xA4_3 := A3.cell 4 _ rfl; have xA5_3 := A3.cell 5 _ rfl; have xS0_3 := S3.cell 0 _ rfl; have xS1_3 := S3.cell 1 _ rfl; have xS2_3 := S3.cell 2 _ rfl; have xS3_3 := S3.cell 3 _ rfl; have xS4_3 := S3.cell 4 _ rfl; have xS5_3 := S3.cell 5 _ rfl))
  have xX0_3 := X3.cell 0 _ rfl; have xX1_3 := X3.cell 1 _ rfl; have xX2_3 := X3.cell 2 _ rfl
  go_wp2_with fail
  rw [rounds_succ]
  have xX0_3 := X3.cell 0 _ rfl; have xX1_3 := X3.cell 1 _ rfl; have xX2_3 := X3.cell 2 _ rfl
  go_wp2_with fail
  have xA0_3 := A3.cell 0 _ rfl
  have xA1_3 := A3.cell 1 _ rfl
  have xA2_3 := A3.cell 2 _ rfl
  have xA3_3 := A3.cell 3 _ rfl
  have xA4_3 := A3.cell 4 _ rfl
  have xA5_3 := A3.cell 5 _ rfl
  have xS0_3 := S3.cell 0 _ rfl
  have xS1_3 := S3.cell 1 _ rfl
  have xS2_3 := S3.cell 2 _ rfl
  have xS3_3 := S3.cell 3 _ rfl
  have xS4_3 := S3.cell 4 _ rfl
  have xS5_3 := S3.cell 5 _ rfl
  go_region_held3 (fun w' => w'.cell? ⟨H, 0, none⟩ = some (.int .i64 a0) ∧ w'.cell? ⟨H, 1, none⟩ = some (.int .i64 a1) ∧ w'.cell? ⟨H, 2, none⟩ = some (.int .i64 a2) ∧ w'.cell? ⟨H, 3, none⟩ = some (.int .i64 b0) ∧ w'.cell? ⟨H, 4, none⟩ = some (.int .i64 b1) ∧ w'.cell? ⟨H, 5, none⟩ = some (.int .i64 b2) ∧ w'.cell? ⟨H + 1, 0, none⟩ = some (.int .i64 v0) ∧ w'.cell? ⟨H + 1, 1, none⟩ = some (.int .i64 v1) ∧ w'.cell? ⟨H + 1, 2, none⟩ = some (.int .i64 v2) ∧ w'.cell? ⟨H + 1, 3, none⟩ = some (.int .i64 u0) ∧ w'.cell? ⟨H + 1, 4, none⟩ = some (.int .i64 u1) ∧ w'.cell? ⟨H + 1, 5, none⟩ = some (.int .i64 u2)) (first | with_reducible exact ⟨xA0_4, xA1_4, xA2_4, xA3_4, xA4_4, xA5_4, xS0_4, xS1_4, xS2_4, xS3_4, xS4_4, xS5_4⟩ | with_reducible exact ⟨xA0_3, xA1_3, xA2_3, xA3_3, xA4_3, xA5_3, xS0_3, xS1_3, xS2_3, xS3_3, xS4_3, xS5_3⟩ | go_keep)
    (first
      | (go_at_call 11; (with_reducible refine (at_any a1 v1 b1 u1 M D ha1 hv1 hb1 hu1 HF.out _).mono ?_); rw [C1.out]; rintro e w4 ⟨rfl, g4⟩; have G4 := G3.drew.then g4; have Z4 := g4.size; have A4 := A3.drew.gr g4 A3.lt; have S4 := S3.drew.gr g4 S3.lt; have P4 := P3.drew.gr g4 P3.lt; have X4 := X3.drew.gr g4 X3.lt; have xA0_4 := A4.cell 0 _ rfl; have xA1_4 := A4.cell 1 _ rfl; have xA2_4 := A4.cell 2 _ rfl; have xA3_4 := A4.cell 3 _ rfl; have xA4_4 := A4.cell 4 _ rfl; have xA5_4 := A4.cell 5 _ rfl; have xS0_4 := S4.cell 0 _ rfl; have xS1_4 := S4.cell 1 _ rfl; have xS2_4 := S4.cell 2 _ rfl; have xS3_4 := S4.cell 3 _ rfl; have xS4_4 := S4.cell 4 _ rfl; have xS5_4 := S4.cell 5 _ rfl))
  have xX0_4 := X4.cell 0 _ rfl; have xX1_4 := X4.cell 1 _ rfl; have xX2_4 := X4.cell 2 _ rfl
  go_wp2_with fail
  rw [rounds_succ]
  have xX0_4 := X4.cell 0 _ rfl; have xX1_4 := X4.cell 1 _ rfl; have xX2_4 := X4.cell 2 _ rfl
  go_wp2_with fail
  have xA0_4 := A4.cell 0 _ rfl
  have xA1_4 := A4.cell 1 _ rfl
  have xA2_4 := A4.cell 2 _ rfl
  have xA3_4 := A4.cell 3 _ rfl
  have xA4_4 := A4.cell 4 _ rfl
  have xA5_4 := A4.cell 5 _ rfl
  have xS0_4 := S4.cell 0 _ rfl
  have xS1_4 := S4.cell 1 _ rfl
  have xS2_4 := S4.cell 2 _ rfl
  have xS3_4 := S4.cell 3 _ rfl
  have xS4_4 := S4.cell 4 _ rfl
  have xS5_4 := S4.cell 5 _ rfl
  go_region_held3 (fun w' => w'.cell? ⟨H, 0, none⟩ = some (.int .i64 a0) ∧ w'.cell? ⟨H, 1, none⟩ = some (.int .i64 a1) ∧ w'.cell? ⟨H, 2, none⟩ = some (.int .i64 a2) ∧ w'.cell? ⟨H, 3, none⟩ = some (.int .i64 b0) ∧ w'.cell? ⟨H, 4, none⟩ = some (.int .i64 b1) ∧ w'.cell? ⟨H, 5, none⟩ = some (.int .i64 b2) ∧ w'.cell? ⟨H + 1, 0, none⟩ = some (.int .i64 v0) ∧ w'.cell? ⟨H + 1, 1, none⟩ = some (.int .i64 v1) ∧ w'.cell? ⟨H + 1, 2, none⟩ = some (.int .i64 v2) ∧ w'.cell? ⟨H + 1, 3, none⟩ = some (.int .i64 u0) ∧ w'.cell? ⟨H + 1, 4, none⟩ = some (.int .i64 u1) ∧ w'.cell? ⟨H + 1, 5, none⟩ = some (.int .i64 u2)) (first | with_reducible exact ⟨xA0_5, xA1_5, xA2_5, xA3_5, xA4_5, xA5_5, xS0_5, xS1_5, xS2_5, xS3_5, xS4_5, xS5_5⟩ | with_reducible exact ⟨xA0_4, xA1_4, xA2_4, xA3_4, xA4_4, xA5_4, xS0_4, xS1_4, xS2_4, xS3_4, xS4_4, xS5_4⟩ | go_keep)
    (first
      | (go_at_call 11; (with_reducible refine (at_any a2 v2 b2 u2 M D ha2 hv2 hb2 hu2 HF.out _).mono ?_); rw [C2.out]; rintro e w5 ⟨rfl, g5⟩; have G5 := G4.drew.then g5; have Z5 := g5.size; have A5 := A4.drew.gr g5 A4.lt; have S5 := S4.drew.gr g5 S4.lt; have P5 := P4.drew.gr g5 P4.lt; have X5 := X4.drew.gr g5 X4.lt; have xA0_5 := A5.cell 0 _ rfl; have xA1_5 := A5.cell 1 _ rfl; have xA2_5 := A5.cell 2 _ rfl; have xA3_5 := A5.cell 3 _ rfl; have xA4_5 := A5.cell 4 _ rfl; have xA5_5 := A5.cell 5 _ rfl; have xS0_5 := S5.cell 0 _ rfl; have xS1_5 := S5.cell 1 _ rfl; have xS2_5 := S5.cell 2 _ rfl; have xS3_5 := S5.cell 3 _ rfl; have xS4_5 := S5.cell 4 _ rfl; have xS5_5 := S5.cell 5 _ rfl))
  have xX0_5 := X5.cell 0 _ rfl; have xX1_5 := X5.cell 1 _ rfl; have xX2_5 := X5.cell 2 _ rfl
  go_wp2_with fail
  rw [rounds_succ]
  have xA0_5 := A5.cell 0 _ rfl; have xA1_5 := A5.cell 1 _ rfl; have xA2_5 := A5.cell 2 _ rfl; have xA3_5 := A5.cell 3 _ rfl; have xA4_5 := A5.cell 4 _ rfl; have xA5_5 := A5.cell 5 _ rfl
  have xS0_5 := S5.cell 0 _ rfl; have xS1_5 := S5.cell 1 _ rfl; have xS2_5 := S5.cell 2 _ rfl; have xS3_5 := S5.cell 3 _ rfl; have xS4_5 := S5.cell 4 _ rfl; have xS5_5 := S5.cell 5 _ rfl
  have xP0_5 := P5.cell 0 _ rfl; have xP1_5 := P5.cell 1 _ rfl; have xP2_5 := P5.cell 2 _ rfl
  have lA5 := A5.lt; have lS5 := S5.lt; have lP5 := P5.lt
  go_wp2_with fail
  obtain ⟨O, hO⟩ : ∃ M, w5.heap.size = M := ⟨_, rfl⟩
  obtain ⟨W6, hW6⟩ : ∃ W, w5.alloc (.cells #[.int .i64 n2, .int .i64 v1, .int .i64 v2, .int .i64 0, .int .i64 u1, .int .i64 u2] 36) = W := ⟨_, rfl⟩
  have O6 : Blk W6 O [.int .i64 n2, .int .i64 v1, .int .i64 v2, .int .i64 0, .int .i64 u1, .int .i64 u2] := by rw [← hW6]; exact Blk.new _ _ _ hO.symm
  have nOA : H ≠ O := by have := A5.lt; omega
  have A6 := A5.alloc (.cells #[.int .i64 n2, .int .i64 v1, .int .i64 v2, .int .i64 0, .int .i64 u1, .int .i64 u2] 36); rw [hW6] at A6
  have nOS : H + 1 ≠ O := by have := S5.lt; omega
  have S6 := S5.alloc (.cells #[.int .i64 n2, .int .i64 v1, .int .i64 v2, .int .i64 0, .int .i64 u1, .int .i64 u2] 36); rw [hW6] at S6
  have nOP : H + 1 + 1 ≠ O := by have := P5.lt; omega
  have P6 := P5.alloc (.cells #[.int .i64 n2, .int .i64 v1, .int .i64 v2, .int .i64 0, .int .i64 u1, .int .i64 u2] 36); rw [hW6] at P6
  have nOX : N ≠ O := by have := X5.lt; omega
  have X6 := X5.alloc (.cells #[.int .i64 n2, .int .i64 v1, .int .i64 v2, .int .i64 0, .int .i64 u1, .int .i64 u2] 36); rw [hW6] at X6
  have G6 : Gr w.heap.size w W6 := by rw [← hW6]; exact G5.alloc G5.size _ _
  have Z6 := O6.lt
  rw [hW6, hO]
  clear hW6 hO
  refine (cvec_any a0 a1 a2 n2 v1 v2 b0 b1 b2 0 u1 u2 M D ha0 ha1 ha2 hn2 hv1 hv2 hb0 hb1 hb2 r0 hu1 hu2 HF.out _).mono ?_; rw [E0.out, C1.out, C2.out]; rintro e w7 ⟨rfl, g7⟩
  have G7 := G6.then g7
  have X7 := X6.gr g7 X6.lt
  go_wp2_with fail
  obtain ⟨Q, hQ⟩ : ∃ M, w7.heap.size = M := ⟨_, rfl⟩
  obtain ⟨W8, hW8⟩ : ∃ W, w7.alloc (.cells #[.int .i64 d0, .int .i64 c1, .int .i64 c2] 35) = W := ⟨_, rfl⟩
  have Y8 : Blk W8 Q [.int .i64 d0, .int .i64 c1, .int .i64 c2] := by rw [← hW8]; exact Blk.new _ _ _ hQ.symm
  have nYX : N ≠ Q := by have := X7.lt; omega
  have X8 := X7.alloc (.cells #[.int .i64 d0, .int .i64 c1, .int .i64 c2] 35); rw [hW8] at X8
  have G8 : Gr w.heap.size w W8 := by rw [← hW8]; exact G7.alloc G7.size _ _
  have Z8 := Y8.lt
  rw [hW8, hQ]
  clear hW8 hQ
  refine (calive_any _).mono ?_; rintro e w9 ⟨rfl, g9⟩
  have G9 := G8.then g9
  have X9 := X8.gr g9 X8.lt
  have Y9 := Y8.gr g9 Y8.lt
  have xX0_9 := X9.cell 0 _ rfl; have xX1_9 := X9.cell 1 _ rfl; have xX2_9 := X9.cell 2 _ rfl
  have xY0_9 := Y9.cell 0 _ rfl; have xY1_9 := Y9.cell 1 _ rfl; have xY2_9 := Y9.cell 2 _ rfl
  go_wp2_with fail
  go_ret
  exact ⟨rfl, G9.grown⟩

set_option maxRecDepth 100000 in
theorem lifted (os : Os) (started : os.Started) (H : Type) (enc : TypeId × Value → H) :
    ReturnsInHanded {} Try.checked os 7 .any (Rows.curveEachSpec.pre6 enc Try.prog Try.f7 Rows.curveEachRow.domain false) (Rows.curveEachSpec.post enc Try.prog Try.f7 false true false false) := by
  refine returnsInHanded_of_change (C := Try.checked) own started (by kernel_rfl) Try.func7
    (ChangeSpec.witness6 (enc := enc) (C := Try.checked) false ⟨#[], #[.agg #[.int .i64 0, .int .i64 0, .int .i64 0, .int .i64 0, .int .i64 0, .int .i64 0], .agg #[.int .i64 0, .int .i64 0, .int .i64 0, .int .i64 0, .int .i64 0, .int .i64 0], .agg #[.int .i64 0, .int .i64 0, .int .i64 0]], []⟩ 8 (by kernel_rfl) (by kernel_rfl) (by kernel_rfl) (by kernel_rfl)) ?_
  intro W base args ds gs before hval0 hW hcnd _
  have hval : ∀ (j : Nat) t v, Try.f7.params[j]? = some t → args[j]? = some v → Value.okWide Try.prog W .any base t v := hval0
  have hW' := hW
  obtain ⟨p, q, hA0, hV, rfl, hfz, hnd⟩ := hW
  have hA : DataW.TrodAll enc Try.prog W 0 (fun _ => true) true Try.f7.params.toList args.toList ds p := hA0
  rw [Try.params7] at hA hval
  obtain ⟨v0, vs0, d0, ds0, p0, q0, hargs, rfl, rfl, h0, r0⟩ := trodAll_cons hA
  obtain ⟨v1, vs1, d1, ds1, p1, q1, rfl, rfl, rfl, h1, r1⟩ := trodAll_cons r0
  obtain ⟨v2, vs2, d2, ds2, p2, q2, rfl, rfl, rfl, h2, r2⟩ := trodAll_cons r1
  obtain ⟨rfl, rfl, rfl⟩ := trodAll_nil r2
  obtain rfl : args = #[v0, v1, v2] := by cases args; simp_all
  obtain ⟨rfl, rfl⟩ := trodVars_none hV
  obtain ⟨a00, a01, a02, a03, a04, a05, rfl, rfl, rfl, w00, w01, w02, w03, w04, w05⟩ := open_arr23 Try.underlying36 Try.underlying35 Try.underlying2 cells_m23 cells_a3 cells_e (hval 0 36 v0 rfl rfl) h0
  obtain ⟨a10, a11, a12, a13, a14, a15, rfl, rfl, rfl, w10, w11, w12, w13, w14, w15⟩ := open_arr23 Try.underlying36 Try.underlying35 Try.underlying2 cells_m23 cells_a3 cells_e (hval 1 36 v1 rfl rfl) h1
  obtain ⟨a20, a21, a22, rfl, rfl, rfl, w20, w21, w22⟩ := open_arr3 Try.underlying35 Try.underlying2 cells_a3 cells_e (hval 2 35 v2 rfl rfl) h2
  clear hA0 hval0
  simp only [List.append_nil] at hW'
  refine (walk a00 a01 a02 a03 a04 a05 a10 a11 a12 a13 a14 a15 a20 a21 a22 w00 w01 w02 w03 w04 w05 w10 w11 w12 w13 w14 w15 w20 w21 w22 W).mono fun e W' ⟨he, hg⟩ => ?_
  subst he
  exact ⟨_, rfl, post_of_same (pa := []) (pv := []) hW' (fun _ _ _ => (trodAll_cons_mk (shut_bool Try.underlying4 _) trodAll_mk0)) (fun sp _ => (trodAll_cons_mk (shut_arr23 Try.underlying36 Try.underlying35 Try.underlying2 cells_m23 cells_a3 cells_e w00 w01 w02 w03 w04 w05) (trodAll_cons_mk (shut_arr23 Try.underlying36 Try.underlying35 Try.underlying2 cells_m23 cells_a3 cells_e w10 w11 w12 w13 w14 w15) (trodAll_cons_mk (shut_arr3 Try.underlying35 Try.underlying2 cells_a3 cells_e w20 w21 w22) trodAll_mk0)))) (fun _ _ => rfl) rfl
    (hg.frame _) hg.2.1 (ok_one (by kernel_rfl) rfl (okWide_bool_mk Try.underlying4 _))⟩

theorem over : Rows.curveEachRow.holds Try.pinned (OpenSpec.ofChange Rows.curveEachSpec) :=
  OpenClaim.holds_of_wide 7 Try.f7 rfl rfl rfl rfl rfl rfl rfl ⟨rfl, rfl, rfl, rfl, rfl⟩ rfl rfl rfl rfl rfl (by kernel_rfl) Try.func7 (by kernel_rfl)
    (of_decide_eq_true (by kernel_rfl)) (by unfold Func.isWrapper; first | (rw [if_pos (by decide +kernel)]; kernel_rfl) | (rw [if_neg (by decide +kernel)]; exact ⟨rfl, rfl⟩))
    (fun os started H enc _ => lifted os started H enc)
end CurveEachL

theorem curveEach_proved : Rows.CurveEachSaid := CurveEachL.over
#print axioms curveEach_proved
end Go.Proofs.Ytajobokmddecmaa
