/-
  Proved: a vector a part of the way is, number by number, layer 1's, between both ends, the same there and back; what is near by less is near by more (the law VecLines answers true at every input).
  Conditions: none.
-/
import Derived.Test.YtlfpgpfjdobpeaaRows
import Derived.Test.YtlfpgpfjdobpeaaVecAlive
import Derived.Test.YtlfpgpfjdobpeaaVec5
import Derived.Test.YtlfpgpfjdobpeaaBetween
import Derived.WalkKit
import Derived.ProofKit
import Derived.OpenShut
import Derived.Test.YtlfpgpfjdobpeaaArr
namespace Go.Proofs.Ytlfpgpfjdobpeaa
open Go.ChangeShapes Go.WideShapes Go.ChangeAt Go.RowKit
set_option linter.unusedVariables false

namespace VecLinesL
theorem own : ownKnob Try.prog.godebug = none := by kernel_rfl
theorem cells_a3 : Try.prog.cellsOf 22 = 3 := by kernel_rfl
theorem cells_e : Try.prog.cellsOf 2 = 1 := by kernel_rfl
attribute [local go_sem ↓] Go.wp_at_zero Go.wp_at_succ
attribute [local go_sem] eq3_run
theorem lerp_back (a b : Int) {n d : Int} (hd : 1 ≤ d) : lerpI b a (d - n) d = lerpI a b n d := by
  unfold lerpI
  have e : (a - b) * (d - n) = (b - a) * n + (a - b) * d := by
    have e1 : (a - b) * (d - n) = (a - b) * d - (a - b) * n := Int.mul_sub _ _ _
    have e2 : (b - a) * n = -((a - b) * n) := by rw [← Int.neg_mul]; congr 1; omega
    omega
  rw [e, Int.add_mul_ediv_right _ _ (by omega)]
  omega
set_option maxHeartbeats 8000000 in
theorem walk (a0 a1 a2 b0 b1 b2 n0 n1 n2 : Int) (va0 : (Lit.int .i64 a0).wf = true) (va1 : (Lit.int .i64 a1).wf = true) (va2 : (Lit.int .i64 a2).wf = true) (vb0 : (Lit.int .i64 b0).wf = true) (vb1 : (Lit.int .i64 b1).wf = true) (vb2 : (Lit.int .i64 b2).wf = true) (vn0 : (Lit.int .i64 n0).wf = true) (vn1 : (Lit.int .i64 n1).wf = true) (vn2 : (Lit.int .i64 n2).wf = true) (w : World) :
    Calls Try.prog 8 #[.agg #[.int .i64 a0, .int .i64 a1, .int .i64 a2], .agg #[.int .i64 b0, .int .i64 b1, .int .i64 b2], .agg #[.int .i64 n0, .int .i64 n1, .int .i64 n2]] w fun e w' => e = .returned (.bool true) ∧ Grown w w' := by
  have ha0 := wf_R64 va0
  have ha1 := wf_R64 va1
  have ha2 := wf_R64 va2
  have hb0 := wf_R64 vb0
  have hb1 := wf_R64 vb1
  have hb2 := wf_R64 vb2
  have hn0 := wf_R64 vn0
  have hn1 := wf_R64 vn1
  have hn2 := wf_R64 vn2
  clear va0 va1 va2 vb0 vb1 vb2 vn0 vn1 vn2
  obtain ⟨H, hH⟩ : ∃ H, w.heap.size = H := ⟨_, rfl⟩
  obtain ⟨u, hu⟩ : ∃ u, IntKind.u64.wrap n1 = u := ⟨_, rfl⟩
  obtain ⟨v, hv⟩ : ∃ v, IntKind.u64.wrap n0 = v := ⟨_, rfl⟩
  have u0 : 0 ≤ u ∧ u ≤ 18446744073709551615 := by rw [← hu, u64_eq]; omega
  have v0 : 0 ≤ v ∧ v ≤ 18446744073709551615 := by rw [← hv, u64_eq]; omega
  obtain ⟨u0, u1⟩ := u0
  obtain ⟨v0, v1⟩ := v0
  obtain ⟨M, hM, M0, M1⟩ := mod_fine v (u % 4611686018427387904 + 1) (by omega) (by omega)
  obtain ⟨D, hD⟩ : ∃ D, u % 4611686018427387904 + 1 = D := ⟨_, rfl⟩
  have D0 : 1 ≤ D := by omega
  have D1 : D ≤ 4611686018427387904 := by omega
  have M1' : M ≤ D := by omega
  have HD := (show Hid _ from hD)
  have h : fineB M D = true := fineB_mk M0 M1' D0 D1
  have h' : fineB (D - M) D = true := fineB_mk (by omega) (by omega) D0 D1
  obtain ⟨c0, hc0⟩ : ∃ c, lerpI a0 b0 M D = c := ⟨_, rfl⟩
  have rc0 : R64 c0 := by rw [← hc0]; exact lerp_R64 ha0 hb0 h
  have kc0 : btwB c0 a0 b0 = true := by have := lerp_btw a0 b0 h; rw [hc0] at this; unfold btwB clampI; simp; omega
  have bc0 : lerpI b0 a0 (D - M) D = c0 := by rw [← hc0]; exact lerp_back _ _ D0
  have C0 := (show Hid _ from hc0); have E0 := (show Hid _ from bc0); clear hc0 bc0
  obtain ⟨c1, hc1⟩ : ∃ c, lerpI a1 b1 M D = c := ⟨_, rfl⟩
  have rc1 : R64 c1 := by rw [← hc1]; exact lerp_R64 ha1 hb1 h
  have kc1 : btwB c1 a1 b1 = true := by have := lerp_btw a1 b1 h; rw [hc1] at this; unfold btwB clampI; simp; omega
  have bc1 : lerpI b1 a1 (D - M) D = c1 := by rw [← hc1]; exact lerp_back _ _ D0
  have C1 := (show Hid _ from hc1); have E1 := (show Hid _ from bc1); clear hc1 bc1
  obtain ⟨c2, hc2⟩ : ∃ c, lerpI a2 b2 M D = c := ⟨_, rfl⟩
  have rc2 : R64 c2 := by rw [← hc2]; exact lerp_R64 ha2 hb2 h
  have kc2 : btwB c2 a2 b2 = true := by have := lerp_btw a2 b2 h; rw [hc2] at this; unfold btwB clampI; simp; omega
  have bc2 : lerpI b2 a2 (D - M) D = c2 := by rw [← hc2]; exact lerp_back _ _ D0
  have C2 := (show Hid _ from hc2); have E2 := (show Hid _ from bc2); clear hc2 bc2
  have hs : nearB c0 c1 c2 c0 c1 c2 1 = true := by unfold nearB apartI; refine decide_eq_true ?_; omega
  have HS := (show Hid _ from hs)
  clear hs hD
  go_enter Try.func8, Try.ntmps8
  go_wp2_with fail
  obtain ⟨W, hW⟩ : ∃ W, (((w.alloc (.cells #[.int .i64 a0, .int .i64 a1, .int .i64 a2] 22)).alloc (.cells #[.int .i64 b0, .int .i64 b1, .int .i64 b2] 22)).alloc (.cells #[.int .i64 n0, .int .i64 n1, .int .i64 n2] 22)) = W := ⟨_, rfl⟩
  have A0 : Blk W (H) [.int .i64 a0, .int .i64 a1, .int .i64 a2] := by rw [← hW]; exact (((Blk.new _ _ _ hH.symm)).alloc _).alloc _
  have B0 : Blk W (H + 1) [.int .i64 b0, .int .i64 b1, .int .i64 b2] := by rw [← hW]; exact ((Blk.new _ _ _ (by simp [hH]))).alloc _
  have P0 : Blk W (H + 1 + 1) [.int .i64 n0, .int .i64 n1, .int .i64 n2] := by rw [← hW]; exact (Blk.new _ _ _ (by simp [hH]))
  have G0 : Gr w.heap.size w W := by rw [← hW]; repeat' (first | exact Gr.refl _ _ | refine Gr.alloc ?_ ?_ _ _ | (simp; done) | (simp; omega))
  have Z0 : W.heap.size = H + 1 + 1 + 1 := by rw [← hW]; simp [hH]
  rw [hW]
  clear hW
  have xA0_0 := A0.cell 0 _ rfl; have xA1_0 := A0.cell 1 _ rfl; have xA2_0 := A0.cell 2 _ rfl
  have xB0_0 := B0.cell 0 _ rfl; have xB1_0 := B0.cell 1 _ rfl; have xB2_0 := B0.cell 2 _ rfl
  have xP0_0 := P0.cell 0 _ rfl; have xP1_0 := P0.cell 1 _ rfl; have xP2_0 := P0.cell 2 _ rfl
  rw [HD.out] at hM
  rw [HD.out, hM]
  clear hM HD M1 hu hv u0 u1 v0 v1
  refine (vlerp_any a0 a1 a2 b0 b1 b2 M D ha0 ha1 ha2 hb0 hb1 hb2 h _).mono ?_; rw [C0.out, C1.out, C2.out]; rintro e w1 ⟨rfl, g1⟩
  have G1 := G0.then g1
  have Z1 := g1.size; (try rw [Z0] at Z1)
  have A1 := A0.gr g1 A0.lt; have lA1 := A1.lt
  have B1 := B0.gr g1 B0.lt; have lB1 := B1.lt
  have P1 := P0.gr g1 P0.lt; have lP1 := P1.lt
  have xA0_1 := A1.cell 0 _ rfl; have xA1_1 := A1.cell 1 _ rfl; have xA2_1 := A1.cell 2 _ rfl
  have xB0_1 := B1.cell 0 _ rfl; have xB1_1 := B1.cell 1 _ rfl; have xB2_1 := B1.cell 2 _ rfl
  have xP0_1 := P1.cell 0 _ rfl; have xP1_1 := P1.cell 1 _ rfl; have xP2_1 := P1.cell 2 _ rfl
  go_wp2_with fail
  obtain ⟨O, hO⟩ : ∃ M, w1.heap.size = M := ⟨_, rfl⟩
  obtain ⟨W2, hW2⟩ : ∃ W, w1.alloc (.cells #[.int .i64 c0, .int .i64 c1, .int .i64 c2] 22) = W := ⟨_, rfl⟩
  have X2 : Blk W2 O [.int .i64 c0, .int .i64 c1, .int .i64 c2] := by rw [← hW2]; exact Blk.new _ _ _ hO.symm
  have A2 := A1.alloc (.cells #[.int .i64 c0, .int .i64 c1, .int .i64 c2] 22); rw [hW2] at A2
  have B2 := B1.alloc (.cells #[.int .i64 c0, .int .i64 c1, .int .i64 c2] 22); rw [hW2] at B2
  have P2 := P1.alloc (.cells #[.int .i64 c0, .int .i64 c1, .int .i64 c2] 22); rw [hW2] at P2
  have G2 : Gr w.heap.size w W2 := by rw [← hW2]; exact G1.alloc (by omega) _ _
  have Z2 : W2.heap.size = O + 1 := by rw [← hW2]; simp [hO]
  have L2 := Z1
  rw [hW2, hO]
  rw [hO] at L2
  clear hW2
  refine (vlerp_any b0 b1 b2 a0 a1 a2 (D - M) D hb0 hb1 hb2 ha0 ha1 ha2 h' _).mono ?_; rw [E0.out, E1.out, E2.out]; rintro e w3 ⟨rfl, g3⟩
  have G3 := G2.then g3
  have Z3 := g3.size; (try rw [Z2] at Z3)
  have A3 := A2.gr g3 A2.lt; have lA3 := A3.lt
  have B3 := B2.gr g3 B2.lt; have lB3 := B3.lt
  have P3 := P2.gr g3 P2.lt; have lP3 := P3.lt
  have X3 := X2.gr g3 X2.lt; have lX3 := X3.lt
  have xA0_3 := A3.cell 0 _ rfl; have xA1_3 := A3.cell 1 _ rfl; have xA2_3 := A3.cell 2 _ rfl
  have xB0_3 := B3.cell 0 _ rfl; have xB1_3 := B3.cell 1 _ rfl; have xB2_3 := B3.cell 2 _ rfl
  have xP0_3 := P3.cell 0 _ rfl; have xP1_3 := P3.cell 1 _ rfl; have xP2_3 := P3.cell 2 _ rfl
  have xX0_3 := X3.cell 0 _ rfl; have xX1_3 := X3.cell 1 _ rfl; have xX2_3 := X3.cell 2 _ rfl
  go_wp2_with fail
  obtain ⟨Q, hQ⟩ : ∃ M, w3.heap.size = M := ⟨_, rfl⟩
  obtain ⟨W4, hW4⟩ : ∃ W, w3.alloc (.cells #[.int .i64 c0, .int .i64 c1, .int .i64 c2] 22) = W := ⟨_, rfl⟩
  have Y4 : Blk W4 Q [.int .i64 c0, .int .i64 c1, .int .i64 c2] := by rw [← hW4]; exact Blk.new _ _ _ hQ.symm
  have A4 := A3.alloc (.cells #[.int .i64 c0, .int .i64 c1, .int .i64 c2] 22); rw [hW4] at A4
  have B4 := B3.alloc (.cells #[.int .i64 c0, .int .i64 c1, .int .i64 c2] 22); rw [hW4] at B4
  have P4 := P3.alloc (.cells #[.int .i64 c0, .int .i64 c1, .int .i64 c2] 22); rw [hW4] at P4
  have X4 := X3.alloc (.cells #[.int .i64 c0, .int .i64 c1, .int .i64 c2] 22); rw [hW4] at X4
  have G4 : Gr w.heap.size w W4 := by rw [← hW4]; exact G3.alloc (by omega) _ _
  have Z4 : W4.heap.size = Q + 1 := by rw [← hW4]; simp [hQ]
  have L4 := Z3
  rw [hW4, hQ]
  rw [hQ] at L4
  clear hW4
  refine (vbetween_any c0 c1 c2 a0 a1 a2 b0 b1 b2 rc0 rc1 rc2 ha0 ha1 ha2 hb0 hb1 hb2 _).mono ?_; rw [kc0, kc1, kc2]; rintro e w5 ⟨rfl, g5⟩
  have G5 := G4.then g5
  have Z5 := g5.size; (try rw [Z4] at Z5)
  have A5 := A4.gr g5 A4.lt; have lA5 := A5.lt
  have B5 := B4.gr g5 B4.lt; have lB5 := B5.lt
  have P5 := P4.gr g5 P4.lt; have lP5 := P5.lt
  have X5 := X4.gr g5 X4.lt; have lX5 := X5.lt
  have Y5 := Y4.gr g5 Y4.lt; have lY5 := Y5.lt
  have xA0_5 := A5.cell 0 _ rfl; have xA1_5 := A5.cell 1 _ rfl; have xA2_5 := A5.cell 2 _ rfl
  have xB0_5 := B5.cell 0 _ rfl; have xB1_5 := B5.cell 1 _ rfl; have xB2_5 := B5.cell 2 _ rfl
  have xP0_5 := P5.cell 0 _ rfl; have xP1_5 := P5.cell 1 _ rfl; have xP2_5 := P5.cell 2 _ rfl
  have xX0_5 := X5.cell 0 _ rfl; have xX1_5 := X5.cell 1 _ rfl; have xX2_5 := X5.cell 2 _ rfl
  have xY0_5 := Y5.cell 0 _ rfl; have xY1_5 := Y5.cell 1 _ rfl; have xY2_5 := Y5.cell 2 _ rfl
  go_wp2_with fail
  refine (vbetween_any c0 c1 c2 a0 a1 a2 b0 b1 b2 rc0 rc1 rc2 ha0 ha1 ha2 hb0 hb1 hb2 _).mono ?_; rw [kc0, kc1, kc2]; rintro e w6 ⟨rfl, g6⟩
  have G6 := G5.then g6
  have Z6 := g6.size; (try rw [Z5] at Z6)
  have A6 := A5.gr g6 A5.lt; have lA6 := A6.lt
  have B6 := B5.gr g6 B5.lt; have lB6 := B6.lt
  have P6 := P5.gr g6 P5.lt; have lP6 := P6.lt
  have X6 := X5.gr g6 X5.lt; have lX6 := X6.lt
  have Y6 := Y5.gr g6 Y5.lt; have lY6 := Y6.lt
  have xA0_6 := A6.cell 0 _ rfl; have xA1_6 := A6.cell 1 _ rfl; have xA2_6 := A6.cell 2 _ rfl
  have xB0_6 := B6.cell 0 _ rfl; have xB1_6 := B6.cell 1 _ rfl; have xB2_6 := B6.cell 2 _ rfl
  have xP0_6 := P6.cell 0 _ rfl; have xP1_6 := P6.cell 1 _ rfl; have xP2_6 := P6.cell 2 _ rfl
  have xX0_6 := X6.cell 0 _ rfl; have xX1_6 := X6.cell 1 _ rfl; have xX2_6 := X6.cell 2 _ rfl
  have xY0_6 := Y6.cell 0 _ rfl; have xY1_6 := Y6.cell 1 _ rfl; have xY2_6 := Y6.cell 2 _ rfl
  go_wp2_with fail
  refine (vnear_any c0 c1 c2 c0 c1 c2 1 rc0 rc1 rc2 rc0 rc1 rc2 (by unfold R64; omega) _).mono ?_; rw [HS.out]; rintro e w7 ⟨rfl, g7⟩
  have G7 := G6.then g7
  have Z7 := g7.size; (try rw [Z6] at Z7)
  have A7 := A6.gr g7 A6.lt; have lA7 := A7.lt
  have B7 := B6.gr g7 B6.lt; have lB7 := B7.lt
  have P7 := P6.gr g7 P6.lt; have lP7 := P7.lt
  have X7 := X6.gr g7 X6.lt; have lX7 := X7.lt
  have xA0_7 := A7.cell 0 _ rfl; have xA1_7 := A7.cell 1 _ rfl; have xA2_7 := A7.cell 2 _ rfl
  have xB0_7 := B7.cell 0 _ rfl; have xB1_7 := B7.cell 1 _ rfl; have xB2_7 := B7.cell 2 _ rfl
  have xP0_7 := P7.cell 0 _ rfl; have xP1_7 := P7.cell 1 _ rfl; have xP2_7 := P7.cell 2 _ rfl
  have xX0_7 := X7.cell 0 _ rfl; have xX1_7 := X7.cell 1 _ rfl; have xX2_7 := X7.cell 2 _ rfl
  go_wp2_with fail
  refine wp_loop_rounds 4 ?_
  rw [rounds_succ]
  go_wp2_with fail
  have xA0_7 := A7.cell 0 _ rfl
  have xA1_7 := A7.cell 1 _ rfl
  have xA2_7 := A7.cell 2 _ rfl
  have xB0_7 := B7.cell 0 _ rfl
  have xB1_7 := B7.cell 1 _ rfl
  have xB2_7 := B7.cell 2 _ rfl
  have xP0_7 := P7.cell 0 _ rfl
  have xP1_7 := P7.cell 1 _ rfl
  have xP2_7 := P7.cell 2 _ rfl
  have xX0_7 := X7.cell 0 _ rfl
  have xX1_7 := X7.cell 1 _ rfl
  have xX2_7 := X7.cell 2 _ rfl
  go_region_held3 (fun w' => w'.cell? ⟨H, 0, none⟩ = some (.int .i64 a0) ∧ w'.cell? ⟨H, 1, none⟩ = some (.int .i64 a1) ∧ w'.cell? ⟨H, 2, none⟩ = some (.int .i64 a2) ∧ w'.cell? ⟨H + 1, 0, none⟩ = some (.int .i64 b0) ∧ w'.cell? ⟨H + 1, 1, none⟩ = some (.int .i64 b1) ∧ w'.cell? ⟨H + 1, 2, none⟩ = some (.int .i64 b2) ∧ w'.cell? ⟨H + 1 + 1, 0, none⟩ = some (.int .i64 n0) ∧ w'.cell? ⟨H + 1 + 1, 1, none⟩ = some (.int .i64 n1) ∧ w'.cell? ⟨H + 1 + 1, 2, none⟩ = some (.int .i64 n2) ∧ w'.cell? ⟨O, 0, none⟩ = some (.int .i64 c0) ∧ w'.cell? ⟨O, 1, none⟩ = some (.int .i64 c1) ∧ w'.cell? ⟨O, 2, none⟩ = some (.int .i64 c2)) (first | with_reducible exact ⟨xA0_8, xA1_8, xA2_8, xB0_8, xB1_8, xB2_8, xP0_8, xP1_8, xP2_8, xX0_8, xX1_8, xX2_8⟩ | with_reducible exact ⟨xA0_7, xA1_7, xA2_7, xB0_7, xB1_7, xB2_7, xP0_7, xP1_7, xP2_7, xX0_7, xX1_7, xX2_7⟩ | go_keep)
    (first
      | (go_at_call 27; (with_reducible refine (lerp_any a0 b0 M D ha0 hb0 h _).mono ?_); rw [C0.out]; rintro e w8 ⟨rfl, g8⟩; have G8 := G7.drew.then g8; have Z8 := g8.size; have A8 := A7.drew.gr g8 A7.lt; have B8 := B7.drew.gr g8 B7.lt; have P8 := P7.drew.gr g8 P7.lt; have X8 := X7.drew.gr g8 X7.lt; have xA0_8 := A8.cell 0 _ rfl; have xA1_8 := A8.cell 1 _ rfl; have xA2_8 := A8.cell 2 _ rfl; have xB0_8 := B8.cell 0 _ rfl; have xB1_8 := B8.cell 1 _ rfl; have xB2_8 := B8.cell 2 _ rfl; have xP0_8 := P8.cell 0 _ rfl; have xP1_8 := P8.cell 1 _ rfl; have xP2_8 := P8.cell 2 _ rfl; have xX0_8 := X8.cell 0 _ rfl; have xX1_8 := X8.cell 1 _ rfl; have xX2_8 := X8.cell 2 _ rfl))
  go_wp2_with fail
  rw [rounds_succ]
  go_wp2_with fail
  have xA0_8 := A8.cell 0 _ rfl
  have xA1_8 := A8.cell 1 _ rfl
  have xA2_8 := A8.cell 2 _ rfl
  have xB0_8 := B8.cell 0 _ rfl
  have xB1_8 := B8.cell 1 _ rfl
  have xB2_8 := B8.cell 2 _ rfl
  have xP0_8 := P8.cell 0 _ rfl
  have xP1_8 := P8.cell 1 _ rfl
  have xP2_8 := P8.cell 2 _ rfl
  have xX0_8 := X8.cell 0 _ rfl
  have xX1_8 := X8.cell 1 _ rfl
  have xX2_8 := X8.cell 2 _ rfl
  go_region_held3 (fun w' => w'.cell? ⟨H, 0, none⟩ = some (.int .i64 a0) ∧ w'.cell? ⟨H, 1, none⟩ = some (.int .i64 a1) ∧ w'.cell? ⟨H, 2, none⟩ = some (.int .i64 a2) ∧ w'.cell? ⟨H + 1, 0, none⟩ = some (.int .i64 b0) ∧ w'.cell? ⟨H + 1, 1, none⟩ = some (.int .i64 b1) ∧ w'.cell? ⟨H + 1, 2, none⟩ = some (.int .i64 b2) ∧ w'.cell? ⟨H + 1 + 1, 0, none⟩ = some (.int .i64 n0) ∧ w'.cell? ⟨H + 1 + 1, 1, none⟩ = some (.int .i64 n1) ∧ w'.cell? ⟨H + 1 + 1, 2, none⟩ = some (.int .i64 n2) ∧ w'.cell? ⟨O, 0, none⟩ = some (.int .i64 c0) ∧ w'.cell? ⟨O, 1, none⟩ = some (.int .i64 c1) ∧ w'.cell? ⟨O, 2, none⟩ = some (.int .i64 c2)) (first | with_reducible exact ⟨xA0_9, xA1_9, xA2_9, xB0_9, xB1_9, xB2_9, xP0_9, xP1_9, xP2_9, xX0_9, xX1_9, xX2_9⟩ | with_reducible exact ⟨xA0_8, xA1_8, xA2_8, xB0_8, xB1_8, xB2_8, xP0_8, xP1_8, xP2_8, xX0_8, xX1_8, xX2_8⟩ | go_keep)
    (first
      | (go_at_call 27; (with_reducible refine (lerp_any a1 b1 M D ha1 hb1 h _).mono ?_); rw [C1.out]; rintro e w9 ⟨rfl, g9⟩; have G9 := G8.drew.then g9; have Z9 := g9.size; have A9 := A8.drew.gr g9 A8.lt; have B9 := B8.drew.gr g9 B8.lt; have P9 := P8.drew.gr g9 P8.lt; have X9 := X8.drew.gr g9 X8.lt; have xA0_9 := A9.cell 0 _ rfl; have xA1_9 := A9.cell 1 _ rfl; have xA2_9 := A9.cell 2 _ rfl; have xB0_9 := B9.cell 0 _ rfl; have xB1_9 := B9.cell 1 _ rfl; have xB2_9 := B9.cell 2 _ rfl; have xP0_9 := P9.cell 0 _ rfl; have xP1_9 := P9.cell 1 _ rfl; have xP2_9 := P9.cell 2 _ rfl; have xX0_9 := X9.cell 0 _ rfl; have xX1_9 := X9.cell 1 _ rfl; have xX2_9 := X9.cell 2 _ rfl))
  go_wp2_with fail
  rw [rounds_succ]
  go_wp2_with fail
  have xA0_9 := A9.cell 0 _ rfl
  have xA1_9 := A9.cell 1 _ rfl
  have xA2_9 := A9.cell 2 _ rfl
  have xB0_9 := B9.cell 0 _ rfl
  have xB1_9 := B9.cell 1 _ rfl
  have xB2_9 := B9.cell 2 _ rfl
  have xP0_9 := P9.cell 0 _ rfl
  have xP1_9 := P9.cell 1 _ rfl
  have xP2_9 := P9.cell 2 _ rfl
  have xX0_9 := X9.cell 0 _ rfl
  have xX1_9 := X9.cell 1 _ rfl
  have xX2_9 := X9.cell 2 _ rfl
  go_region_held3 (fun w' => w'.cell? ⟨H, 0, none⟩ = some (.int .i64 a0) ∧ w'.cell? ⟨H, 1, none⟩ = some (.int .i64 a1) ∧ w'.cell? ⟨H, 2, none⟩ = some (.int .i64 a2) ∧ w'.cell? ⟨H + 1, 0, none⟩ = some (.int .i64 b0) ∧ w'.cell? ⟨H + 1, 1, none⟩ = some (.int .i64 b1) ∧ w'.cell? ⟨H + 1, 2, none⟩ = some (.int .i64 b2) ∧ w'.cell? ⟨H + 1 + 1, 0, none⟩ = some (.int .i64 n0) ∧ w'.cell? ⟨H + 1 + 1, 1, none⟩ = some (.int .i64 n1) ∧ w'.cell? ⟨H + 1 + 1, 2, none⟩ = some (.int .i64 n2) ∧ w'.cell? ⟨O, 0, none⟩ = some (.int .i64 c0) ∧ w'.cell? ⟨O, 1, none⟩ = some (.int .i64 c1) ∧ w'.cell? ⟨O, 2, none⟩ = some (.int .i64 c2)) (first | with_reducible exact ⟨xA0_10, xA1_10, xA2_10, xB0_10, xB1_10, xB2_10, xP0_10, xP1_10, xP2_10, xX0_10, xX1_10, xX2_10⟩ | with_reducible exact ⟨xA0_9, xA1_9, xA2_9, xB0_9, xB1_9, xB2_9, xP0_9, xP1_9, xP2_9, xX0_9, xX1_9, xX2_9⟩ | go_keep)
    (first
      | (go_at_call 27; (with_reducible refine (lerp_any a2 b2 M D ha2 hb2 h _).mono ?_); rw [C2.out]; rintro e w10 ⟨rfl, g10⟩; have G10 := G9.drew.then g10; have Z10 := g10.size; have A10 := A9.drew.gr g10 A9.lt; have B10 := B9.drew.gr g10 B9.lt; have P10 := P9.drew.gr g10 P9.lt; have X10 := X9.drew.gr g10 X9.lt; have xA0_10 := A10.cell 0 _ rfl; have xA1_10 := A10.cell 1 _ rfl; have xA2_10 := A10.cell 2 _ rfl; have xB0_10 := B10.cell 0 _ rfl; have xB1_10 := B10.cell 1 _ rfl; have xB2_10 := B10.cell 2 _ rfl; have xP0_10 := P10.cell 0 _ rfl; have xP1_10 := P10.cell 1 _ rfl; have xP2_10 := P10.cell 2 _ rfl; have xX0_10 := X10.cell 0 _ rfl; have xX1_10 := X10.cell 1 _ rfl; have xX2_10 := X10.cell 2 _ rfl))
  go_wp2_with fail
  rw [rounds_succ]
  go_wp2_with fail
  obtain ⟨z, hz⟩ : ∃ z : Int, (max 0 n2) = z := ⟨_, rfl⟩
  have z0 : 0 ≤ z := by omega
  have z1 : z ≤ 9223372036854775807 := by have := hn2.2; omega
  rw [hz]
  clear hz
  refine (valive_any _).mono ?_; rintro e w11 ⟨rfl, g11⟩
  have G11 := G10.then g11
  have Z11 := g11.size; (try rw [Z10] at Z11)
  have A11 := A10.gr g11 A10.lt; have lA11 := A11.lt
  have B11 := B10.gr g11 B10.lt; have lB11 := B11.lt
  have xA0_11 := A11.cell 0 _ rfl; have xA1_11 := A11.cell 1 _ rfl; have xA2_11 := A11.cell 2 _ rfl
  have xB0_11 := B11.cell 0 _ rfl; have xB1_11 := B11.cell 1 _ rfl; have xB2_11 := B11.cell 2 _ rfl
  go_wp2_with fail
  have rz : R64 z := ⟨by omega, z1⟩
  have rz2 : R64 (z / 2) := ⟨by omega, by omega⟩
  cases hq : nearB a0 a1 a2 b0 b1 b2 (z / 2)
  · have HQ := (show Hid _ from hq); clear hq
    refine (vnear_any a0 a1 a2 b0 b1 b2 (z / 2) ha0 ha1 ha2 hb0 hb1 hb2 rz2 _).mono ?_; rw [HQ.out]; rintro e w12 ⟨rfl, g12⟩
    have G12 := G11.then g12
    have Z12 := g12.size; (try rw [Z11] at Z12)
    have A12 := A11.gr g12 A11.lt; have lA12 := A12.lt
    have B12 := B11.gr g12 B11.lt; have lB12 := B12.lt
    have xA0_12 := A12.cell 0 _ rfl; have xA1_12 := A12.cell 1 _ rfl; have xA2_12 := A12.cell 2 _ rfl
    have xB0_12 := B12.cell 0 _ rfl; have xB1_12 := B12.cell 1 _ rfl; have xB2_12 := B12.cell 2 _ rfl
    go_wp2_with fail
    go_ret
    exact ⟨rfl, G12.grown⟩
  · have hr : nearB a0 a1 a2 b0 b1 b2 z = true := by
      have hq' := of_decide_eq_true (by unfold nearB at hq; exact hq)
      unfold nearB; refine decide_eq_true ?_; omega
    have HQ := (show Hid _ from hq); clear hq
    have HR := (show Hid _ from hr); clear hr
    refine (vnear_any a0 a1 a2 b0 b1 b2 (z / 2) ha0 ha1 ha2 hb0 hb1 hb2 rz2 _).mono ?_; rw [HQ.out]; rintro e w12 ⟨rfl, g12⟩
    have G12 := G11.then g12
    have Z12 := g12.size; (try rw [Z11] at Z12)
    have A12 := A11.gr g12 A11.lt; have lA12 := A12.lt
    have B12 := B11.gr g12 B11.lt; have lB12 := B12.lt
    have xA0_12 := A12.cell 0 _ rfl; have xA1_12 := A12.cell 1 _ rfl; have xA2_12 := A12.cell 2 _ rfl
    have xB0_12 := B12.cell 0 _ rfl; have xB1_12 := B12.cell 1 _ rfl; have xB2_12 := B12.cell 2 _ rfl
    go_wp2_with fail
    refine (vnear_any a0 a1 a2 b0 b1 b2 z ha0 ha1 ha2 hb0 hb1 hb2 rz _).mono ?_; rw [HR.out]; rintro e w13 ⟨rfl, g13⟩
    have G13 := G12.then g13
    have Z13 := g13.size; (try rw [Z12] at Z13)
    have A13 := A12.gr g13 A12.lt; have lA13 := A13.lt
    have B13 := B12.gr g13 B12.lt; have lB13 := B13.lt
    go_wp2_with fail
    go_ret
    exact ⟨rfl, G13.grown⟩

set_option maxRecDepth 100000 in
theorem lifted (os : Os) (started : os.Started) (H : Type) (enc : TypeId × Value → H) :
    ReturnsInHanded {} Try.checked os 8 .any (Rows.vecLinesSpec.pre6 enc Try.prog Try.f8 Rows.vecLinesRow.domain false) (Rows.vecLinesSpec.post enc Try.prog Try.f8 false true false false) := by
  refine returnsInHanded_of_change (C := Try.checked) own started (by kernel_rfl) Try.func8
    (ChangeSpec.witness6 (enc := enc) (C := Try.checked) false ⟨#[], #[.agg #[.int .i64 0, .int .i64 0, .int .i64 0], .agg #[.int .i64 0, .int .i64 0, .int .i64 0], .agg #[.int .i64 0, .int .i64 0, .int .i64 0]], []⟩ 8 (by kernel_rfl) (by kernel_rfl) (by kernel_rfl) (by kernel_rfl)) ?_
  intro W base args ds gs before hval0 hW hcnd _
  have hval : ∀ (j : Nat) t v, Try.f8.params[j]? = some t → args[j]? = some v → Value.okWide Try.prog W .any base t v := hval0
  have hW' := hW
  obtain ⟨p, q, hA0, hV, rfl, hfz, hnd⟩ := hW
  have hA : DataW.TrodAll enc Try.prog W 0 (fun _ => true) true Try.f8.params.toList args.toList ds p := hA0
  rw [Try.params8] at hA hval
  obtain ⟨v0, vs0, d0, ds0, p0, q0, hargs, rfl, rfl, h0, r0⟩ := trodAll_cons hA
  obtain ⟨v1, vs1, d1, ds1, p1, q1, rfl, rfl, rfl, h1, r1⟩ := trodAll_cons r0
  obtain ⟨v2, vs2, d2, ds2, p2, q2, rfl, rfl, rfl, h2, r2⟩ := trodAll_cons r1
  obtain ⟨rfl, rfl, rfl⟩ := trodAll_nil r2
  obtain rfl : args = #[v0, v1, v2] := by cases args; simp_all
  obtain ⟨rfl, rfl⟩ := trodVars_none hV
  obtain ⟨a00, a01, a02, rfl, rfl, rfl, w00, w01, w02⟩ := open_arr3 Try.underlying22 Try.underlying2 cells_a3 cells_e (hval 0 22 v0 rfl rfl) h0
  obtain ⟨a10, a11, a12, rfl, rfl, rfl, w10, w11, w12⟩ := open_arr3 Try.underlying22 Try.underlying2 cells_a3 cells_e (hval 1 22 v1 rfl rfl) h1
  obtain ⟨a20, a21, a22, rfl, rfl, rfl, w20, w21, w22⟩ := open_arr3 Try.underlying22 Try.underlying2 cells_a3 cells_e (hval 2 22 v2 rfl rfl) h2
  clear hA0 hval0
  simp only [List.append_nil] at hW'
  refine (walk a00 a01 a02 a10 a11 a12 a20 a21 a22 w00 w01 w02 w10 w11 w12 w20 w21 w22 W).mono fun e W' ⟨he, hg⟩ => ?_
  subst he
  exact ⟨_, rfl, post_of_same (pa := []) (pv := []) hW' (fun _ _ _ => (trodAll_cons_mk (shut_bool Try.underlying4 _) trodAll_mk0)) (fun sp _ => (trodAll_cons_mk (shut_arr3 Try.underlying22 Try.underlying2 cells_a3 cells_e w00 w01 w02) (trodAll_cons_mk (shut_arr3 Try.underlying22 Try.underlying2 cells_a3 cells_e w10 w11 w12) (trodAll_cons_mk (shut_arr3 Try.underlying22 Try.underlying2 cells_a3 cells_e w20 w21 w22) trodAll_mk0)))) (fun _ _ => rfl) rfl
    (hg.frame _) hg.2.1 (ok_one (by kernel_rfl) rfl (okWide_bool_mk Try.underlying4 _))⟩

theorem over : Rows.vecLinesRow.holds Try.pinned (OpenSpec.ofChange Rows.vecLinesSpec) :=
  OpenClaim.holds_of_wide 8 Try.f8 rfl rfl rfl rfl rfl rfl rfl ⟨rfl, rfl, rfl, rfl, rfl⟩ rfl rfl rfl rfl rfl (by kernel_rfl) Try.func8 (by kernel_rfl)
    (of_decide_eq_true (by kernel_rfl)) (by unfold Func.isWrapper; first | (rw [if_pos (by decide +kernel)]; kernel_rfl) | (rw [if_neg (by decide +kernel)]; exact ⟨rfl, rfl⟩))
    (fun os started H enc _ => lifted os started H enc)
end VecLinesL

theorem vecLines_proved : Rows.VecLinesSaid := VecLinesL.over
#print axioms vecLines_proved
end Go.Proofs.Ytlfpgpfjdobpeaa
