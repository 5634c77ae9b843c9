/-
  Proved: of any two vectors and any part vec.Lerp answers what the document's own answer does, between both, or ErrRange (the law VecLerps answers true).
  Conditions: none.
-/
import Derived.Test.YtlfpgpfjdobpeaaRows
import Derived.Test.YtlfpgpfjdobpeaaVecAlive
import Derived.Test.YtlfpgpfjdobpeaaRefVec
import Derived.Test.YtlfpgpfjdobpeaaVec5
import Derived.WalkKit
import Derived.ProofKit
import Derived.OpenShut
import Derived.Test.YtlfpgpfjdobpeaaArr
namespace Go.Proofs.Ytlfpgpfjdobpeaa
open Go.ChangeShapes Go.WideShapes Go.ChangeAt Go.RowKit
set_option linter.unusedVariables false

namespace VecLerpsL
theorem own : ownKnob Try.prog.godebug = none := by kernel_rfl
theorem cells_a2 : Try.prog.cellsOf 28 = 2 := by kernel_rfl
theorem cells_a3 : Try.prog.cellsOf 22 = 3 := by kernel_rfl
theorem cells_e : Try.prog.cellsOf 2 = 1 := by kernel_rfl
attribute [local go_sem ↓] Go.wp_at_zero Go.wp_at_succ
attribute [local go_sem] eq3_run
set_option maxHeartbeats 4000000 in
theorem walkN (a0 a1 a2 b0 b1 b2 p q : Int) (va0 : (Lit.int .i64 a0).wf = true) (va1 : (Lit.int .i64 a1).wf = true) (va2 : (Lit.int .i64 a2).wf = true) (vb0 : (Lit.int .i64 b0).wf = true) (vb1 : (Lit.int .i64 b1).wf = true) (vb2 : (Lit.int .i64 b2).wf = true) (vp : (Lit.int .i64 p).wf = true) (vq : (Lit.int .i64 q).wf = true) (h : fineB p q = false) (w : World) :
    Calls Try.prog 4 #[.agg #[.int .i64 a0, .int .i64 a1, .int .i64 a2], .agg #[.int .i64 b0, .int .i64 b1, .int .i64 b2], .agg #[.int .i64 p, .int .i64 q]] w fun e w' => e = .returned (.bool true) ∧ Grown w w' := by
  have ha0 := wf_R64 va0
  have ha1 := wf_R64 va1
  have ha2 := wf_R64 va2
  have hb0 := wf_R64 vb0
  have hb1 := wf_R64 vb1
  have hb2 := wf_R64 vb2
  have hp := wf_R64 vp
  have hq := wf_R64 vq
  clear va0 va1 va2 vb0 vb1 vb2 vp vq
  obtain ⟨H, hH⟩ : ∃ H, w.heap.size = H := ⟨_, rfl⟩
  go_enter Try.func4, Try.ntmps4
  go_wp2_with fail
  obtain ⟨W, hW⟩ : ∃ W, (((w.alloc (.cells #[.int .i64 a0, .int .i64 a1, .int .i64 a2] 22)).alloc (.cells #[.int .i64 b0, .int .i64 b1, .int .i64 b2] 22)).alloc (.cells #[.int .i64 p, .int .i64 q] 28)) = W := ⟨_, rfl⟩
  have A0 : Blk W (H) [.int .i64 a0, .int .i64 a1, .int .i64 a2] := by rw [← hW]; exact (((Blk.new _ _ _ hH.symm)).alloc _).alloc _
  have B0 : Blk W (H + 1) [.int .i64 b0, .int .i64 b1, .int .i64 b2] := by rw [← hW]; exact ((Blk.new _ _ _ (by simp [hH]))).alloc _
  have P0 : Blk W (H + 1 + 1) [.int .i64 p, .int .i64 q] := by rw [← hW]; exact (Blk.new _ _ _ (by simp [hH]))
  have G0 : Gr w.heap.size w W := by rw [← hW]; repeat' (first | exact Gr.refl _ _ | refine Gr.alloc ?_ ?_ _ _ | (simp; done) | (simp; omega))
  have Z0 : W.heap.size = H + 1 + 1 + 1 := by rw [← hW]; simp [hH]
  rw [hW]
  clear hW
  have xP0_0 := P0.cell 0 _ rfl; have xP1_0 := P0.cell 1 _ rfl
  refine (vlerp_no a0 a1 a2 b0 b1 b2 p q ha0 ha1 ha2 hb0 hb1 hb2 h _).mono ?_; rintro e w1 ⟨rfl, g1⟩
  have G1 := G0.then g1
  have Z1 := g1.size; (try rw [Z0] at Z1)
  have A1 := A0.gr g1 A0.lt; have lA1 := A1.lt
  have B1 := B0.gr g1 B0.lt; have lB1 := B1.lt
  have P1 := P0.gr g1 P0.lt; have lP1 := P1.lt
  have xP0_1 := P1.cell 0 _ rfl; have xP1_1 := P1.cell 1 _ rfl
  go_wp2_with fail
  obtain ⟨M, hM⟩ : ∃ M, w1.heap.size = M := ⟨_, rfl⟩
  obtain ⟨W2, hW2⟩ : ∃ W, w1.alloc (.cells #[.int .i64 0, .int .i64 0, .int .i64 0] 22) = W := ⟨_, rfl⟩
  have X2 : Blk W2 M [.int .i64 0, .int .i64 0, .int .i64 0] := by rw [← hW2]; exact Blk.new _ _ _ hM.symm
  have A2 := A1.alloc (.cells #[.int .i64 0, .int .i64 0, .int .i64 0] 22); rw [hW2] at A2
  have B2 := B1.alloc (.cells #[.int .i64 0, .int .i64 0, .int .i64 0] 22); rw [hW2] at B2
  have P2 := P1.alloc (.cells #[.int .i64 0, .int .i64 0, .int .i64 0] 22); rw [hW2] at P2
  have G2 : Gr w.heap.size w W2 := by rw [← hW2]; exact G1.alloc (by omega) _ _
  have Z2 : W2.heap.size = M + 1 := by rw [← hW2]; simp [hM]
  have L2 := Z1
  rw [hW2, hM]
  rw [hM] at L2
  clear hW2
  have xX0_2 := X2.cell 0 _ rfl; have xX1_2 := X2.cell 1 _ rfl; have xX2_2 := X2.cell 2 _ rfl
  refine (refFine_any p q _).mono ?_; rw [h]; rintro e w3 ⟨rfl, g3⟩
  subst g3
  have G3 := G2; have Z3 := Z2
  have A3 := A2
  have B3 := B2
  have P3 := P2
  have X3 := X2
  go_wp2_with fail
  refine (valive_any _).mono ?_; rintro e w4 ⟨rfl, g4⟩
  have G4 := G3.then g4
  have Z4 := g4.size; (try rw [Z3] at Z4)
  have A4 := A3.gr g4 A3.lt; have lA4 := A4.lt
  have B4 := B3.gr g4 B3.lt; have lB4 := B4.lt
  have P4 := P3.gr g4 P3.lt; have lP4 := P4.lt
  have X4 := X3.gr g4 X3.lt; have lX4 := X4.lt
  have xX0_4 := X4.cell 0 _ rfl; have xX1_4 := X4.cell 1 _ rfl; have xX2_4 := X4.cell 2 _ rfl
  go_wp2_with fail
  go_ret
  exact ⟨rfl, G4.grown⟩
set_option maxHeartbeats 4000000 in
theorem walkY (a0 a1 a2 b0 b1 b2 p q : Int) (va0 : (Lit.int .i64 a0).wf = true) (va1 : (Lit.int .i64 a1).wf = true) (va2 : (Lit.int .i64 a2).wf = true) (vb0 : (Lit.int .i64 b0).wf = true) (vb1 : (Lit.int .i64 b1).wf = true) (vb2 : (Lit.int .i64 b2).wf = true) (vp : (Lit.int .i64 p).wf = true) (vq : (Lit.int .i64 q).wf = true) (h : fineB p q = true) (w : World) :
    Calls Try.prog 4 #[.agg #[.int .i64 a0, .int .i64 a1, .int .i64 a2], .agg #[.int .i64 b0, .int .i64 b1, .int .i64 b2], .agg #[.int .i64 p, .int .i64 q]] w fun e w' => e = .returned (.bool true) ∧ Grown w w' := by
  have ha0 := wf_R64 va0
  have ha1 := wf_R64 va1
  have ha2 := wf_R64 va2
  have hb0 := wf_R64 vb0
  have hb1 := wf_R64 vb1
  have hb2 := wf_R64 vb2
  have hp := wf_R64 vp
  have hq := wf_R64 vq
  clear va0 va1 va2 vb0 vb1 vb2 vp vq
  obtain ⟨H, hH⟩ : ∃ H, w.heap.size = H := ⟨_, rfl⟩
  obtain ⟨c0, hc0⟩ : ∃ c, lerpI a0 b0 p q = c := ⟨_, rfl⟩
  have rc0 : R64 c0 := by rw [← hc0]; exact lerp_R64 ha0 hb0 h
  have kc0 : btwB c0 a0 b0 = true := by have := lerp_btw a0 b0 h; rw [hc0] at this; unfold btwB clampI; simp; omega
  have C0 := (show Hid _ from hc0); clear hc0
  obtain ⟨c1, hc1⟩ : ∃ c, lerpI a1 b1 p q = c := ⟨_, rfl⟩
  have rc1 : R64 c1 := by rw [← hc1]; exact lerp_R64 ha1 hb1 h
  have kc1 : btwB c1 a1 b1 = true := by have := lerp_btw a1 b1 h; rw [hc1] at this; unfold btwB clampI; simp; omega
  have C1 := (show Hid _ from hc1); clear hc1
  obtain ⟨c2, hc2⟩ : ∃ c, lerpI a2 b2 p q = c := ⟨_, rfl⟩
  have rc2 : R64 c2 := by rw [← hc2]; exact lerp_R64 ha2 hb2 h
  have kc2 : btwB c2 a2 b2 = true := by have := lerp_btw a2 b2 h; rw [hc2] at this; unfold btwB clampI; simp; omega
  have C2 := (show Hid _ from hc2); clear hc2
  go_enter Try.func4, Try.ntmps4
  go_wp2_with fail
  obtain ⟨W, hW⟩ : ∃ W, (((w.alloc (.cells #[.int .i64 a0, .int .i64 a1, .int .i64 a2] 22)).alloc (.cells #[.int .i64 b0, .int .i64 b1, .int .i64 b2] 22)).alloc (.cells #[.int .i64 p, .int .i64 q] 28)) = W := ⟨_, rfl⟩
  have A0 : Blk W (H) [.int .i64 a0, .int .i64 a1, .int .i64 a2] := by rw [← hW]; exact (((Blk.new _ _ _ hH.symm)).alloc _).alloc _
  have B0 : Blk W (H + 1) [.int .i64 b0, .int .i64 b1, .int .i64 b2] := by rw [← hW]; exact ((Blk.new _ _ _ (by simp [hH]))).alloc _
  have P0 : Blk W (H + 1 + 1) [.int .i64 p, .int .i64 q] := by rw [← hW]; exact (Blk.new _ _ _ (by simp [hH]))
  have G0 : Gr w.heap.size w W := by rw [← hW]; repeat' (first | exact Gr.refl _ _ | refine Gr.alloc ?_ ?_ _ _ | (simp; done) | (simp; omega))
  have Z0 : W.heap.size = H + 1 + 1 + 1 := by rw [← hW]; simp [hH]
  rw [hW]
  clear hW
  have xP0_0 := P0.cell 0 _ rfl; have xP1_0 := P0.cell 1 _ rfl
  refine (vlerp_any a0 a1 a2 b0 b1 b2 p q ha0 ha1 ha2 hb0 hb1 hb2 h _).mono ?_; rw [C0.out, C1.out, C2.out]; rintro e w1 ⟨rfl, g1⟩
  have G1 := G0.then g1
  have Z1 := g1.size; (try rw [Z0] at Z1)
  have A1 := A0.gr g1 A0.lt; have lA1 := A1.lt
  have B1 := B0.gr g1 B0.lt; have lB1 := B1.lt
  have P1 := P0.gr g1 P0.lt; have lP1 := P1.lt
  have xP0_1 := P1.cell 0 _ rfl; have xP1_1 := P1.cell 1 _ rfl
  go_wp2_with fail
  obtain ⟨M, hM⟩ : ∃ M, w1.heap.size = M := ⟨_, rfl⟩
  obtain ⟨W2, hW2⟩ : ∃ W, w1.alloc (.cells #[.int .i64 c0, .int .i64 c1, .int .i64 c2] 22) = W := ⟨_, rfl⟩
  have X2 : Blk W2 M [.int .i64 c0, .int .i64 c1, .int .i64 c2] := by rw [← hW2]; exact Blk.new _ _ _ hM.symm
  have A2 := A1.alloc (.cells #[.int .i64 c0, .int .i64 c1, .int .i64 c2] 22); rw [hW2] at A2
  have B2 := B1.alloc (.cells #[.int .i64 c0, .int .i64 c1, .int .i64 c2] 22); rw [hW2] at B2
  have P2 := P1.alloc (.cells #[.int .i64 c0, .int .i64 c1, .int .i64 c2] 22); rw [hW2] at P2
  have G2 : Gr w.heap.size w W2 := by rw [← hW2]; exact G1.alloc (by omega) _ _
  have Z2 : W2.heap.size = M + 1 := by rw [← hW2]; simp [hM]
  have L2 := Z1
  rw [hW2, hM]
  rw [hM] at L2
  clear hW2
  have xX0_2 := X2.cell 0 _ rfl; have xX1_2 := X2.cell 1 _ rfl; have xX2_2 := X2.cell 2 _ rfl
  refine (refFine_any p q _).mono ?_; rw [h]; rintro e w3 ⟨rfl, g3⟩
  subst g3
  have G3 := G2; have Z3 := Z2
  have A3 := A2
  have B3 := B2
  have P3 := P2
  have X3 := X2
  go_wp2_with fail
  have xA0_3 := A3.cell 0 _ rfl
  have xA1_3 := A3.cell 1 _ rfl
  have xA2_3 := A3.cell 2 _ rfl
  have xB0_3 := B3.cell 0 _ rfl
  have xB1_3 := B3.cell 1 _ rfl
  have xB2_3 := B3.cell 2 _ rfl
  have xP0_3 := P3.cell 0 _ rfl
  have xP1_3 := P3.cell 1 _ rfl
  have xX0_3 := X3.cell 0 _ rfl
  have xX1_3 := X3.cell 1 _ rfl
  have xX2_3 := X3.cell 2 _ rfl
  go_region_held3 (fun w' => w'.cell? ⟨H, 0, none⟩ = some (.int .i64 a0) ∧ w'.cell? ⟨H, 1, none⟩ = some (.int .i64 a1) ∧ w'.cell? ⟨H, 2, none⟩ = some (.int .i64 a2) ∧ w'.cell? ⟨H + 1, 0, none⟩ = some (.int .i64 b0) ∧ w'.cell? ⟨H + 1, 1, none⟩ = some (.int .i64 b1) ∧ w'.cell? ⟨H + 1, 2, none⟩ = some (.int .i64 b2) ∧ w'.cell? ⟨H + 1 + 1, 0, none⟩ = some (.int .i64 p) ∧ w'.cell? ⟨H + 1 + 1, 1, none⟩ = some (.int .i64 q) ∧ w'.cell? ⟨M, 0, none⟩ = some (.int .i64 c0) ∧ w'.cell? ⟨M, 1, none⟩ = some (.int .i64 c1) ∧ w'.cell? ⟨M, 2, none⟩ = some (.int .i64 c2)) (first | with_reducible exact ⟨xA0_6, xA1_6, xA2_6, xB0_6, xB1_6, xB2_6, xP0_6, xP1_6, xX0_6, xX1_6, xX2_6⟩ | with_reducible exact ⟨xA0_5, xA1_5, xA2_5, xB0_5, xB1_5, xB2_5, xP0_5, xP1_5, xX0_5, xX1_5, xX2_5⟩ | with_reducible exact ⟨xA0_4, xA1_4, xA2_4, xB0_4, xB1_4, xB2_4, xP0_4, xP1_4, xX0_4, xX1_4, xX2_4⟩ | with_reducible exact ⟨xA0_3, xA1_3, xA2_3, xB0_3, xB1_3, xB2_3, xP0_3, xP1_3, xX0_3, xX1_3, xX2_3⟩ | go_keep)
    (first
      | (go_at_call 9; (with_reducible refine (valive_any _).mono ?_); rintro e w4 ⟨rfl, g4⟩; have G4 := G3.drew.then g4; have Z4 := g4.size; have A4 := A3.drew.gr g4 A3.lt; have B4 := B3.drew.gr g4 B3.lt; have P4 := P3.drew.gr g4 P3.lt; have X4 := X3.drew.gr g4 X3.lt; have xA0_4 := A4.cell 0 _ rfl; have xA1_4 := A4.cell 1 _ rfl; have xA2_4 := A4.cell 2 _ rfl; have xB0_4 := B4.cell 0 _ rfl; have xB1_4 := B4.cell 1 _ rfl; have xB2_4 := B4.cell 2 _ rfl; have xP0_4 := P4.cell 0 _ rfl; have xP1_4 := P4.cell 1 _ rfl; have xX0_4 := X4.cell 0 _ rfl; have xX1_4 := X4.cell 1 _ rfl; have xX2_4 := X4.cell 2 _ rfl)
      | (go_at_call 20; (with_reducible refine (rvlerp_any a0 a1 a2 b0 b1 b2 p q ha0 ha1 ha2 hb0 hb1 hb2 h _).mono ?_); rw [C0.out, C1.out, C2.out]; rintro e w5 ⟨rfl, g5⟩; have G5 := G4.then g5; have Z5 := g5.size; have A5 := A4.gr g5 A4.lt; have B5 := B4.gr g5 B4.lt; have P5 := P4.gr g5 P4.lt; have X5 := X4.gr g5 X4.lt; have xA0_5 := A5.cell 0 _ rfl; have xA1_5 := A5.cell 1 _ rfl; have xA2_5 := A5.cell 2 _ rfl; have xB0_5 := B5.cell 0 _ rfl; have xB1_5 := B5.cell 1 _ rfl; have xB2_5 := B5.cell 2 _ rfl; have xP0_5 := P5.cell 0 _ rfl; have xP1_5 := P5.cell 1 _ rfl; have xX0_5 := X5.cell 0 _ rfl; have xX1_5 := X5.cell 1 _ rfl; have xX2_5 := X5.cell 2 _ rfl)
      | (go_at_call 21; (with_reducible refine (vbetween_any c0 c1 c2 a0 a1 a2 b0 b1 b2 rc0 rc1 rc2 ha0 ha1 ha2 hb0 hb1 hb2 _).mono ?_); rw [kc0, kc1, kc2]; rintro e w6 ⟨rfl, g6⟩; have G6 := G5.then g6; have Z6 := g6.size; have A6 := A5.gr g6 A5.lt; have B6 := B5.gr g6 B5.lt; have P6 := P5.gr g6 P5.lt; have X6 := X5.gr g6 X5.lt; have xA0_6 := A6.cell 0 _ rfl; have xA1_6 := A6.cell 1 _ rfl; have xA2_6 := A6.cell 2 _ rfl; have xB0_6 := B6.cell 0 _ rfl; have xB1_6 := B6.cell 1 _ rfl; have xB2_6 := B6.cell 2 _ rfl; have xP0_6 := P6.cell 0 _ rfl; have xP1_6 := P6.cell 1 _ rfl; have xX0_6 := X6.cell 0 _ rfl; have xX1_6 := X6.cell 1 _ rfl; have xX2_6 := X6.cell 2 _ rfl))
  go_wp2_with fail
  go_ret
  exact ⟨rfl, G6.grown⟩
theorem walk (a0 a1 a2 b0 b1 b2 p q : Int) (va0 : (Lit.int .i64 a0).wf = true) (va1 : (Lit.int .i64 a1).wf = true) (va2 : (Lit.int .i64 a2).wf = true) (vb0 : (Lit.int .i64 b0).wf = true) (vb1 : (Lit.int .i64 b1).wf = true) (vb2 : (Lit.int .i64 b2).wf = true) (vp : (Lit.int .i64 p).wf = true) (vq : (Lit.int .i64 q).wf = true) (w : World) :
    Calls Try.prog 4 #[.agg #[.int .i64 a0, .int .i64 a1, .int .i64 a2], .agg #[.int .i64 b0, .int .i64 b1, .int .i64 b2], .agg #[.int .i64 p, .int .i64 q]] w fun e w' => e = .returned (.bool true) ∧ Grown w w' := by
  cases h : fineB p q
  · exact walkN a0 a1 a2 b0 b1 b2 p q va0 va1 va2 vb0 vb1 vb2 vp vq h w
  · exact walkY a0 a1 a2 b0 b1 b2 p q va0 va1 va2 vb0 vb1 vb2 vp vq h w

set_option maxRecDepth 100000 in
theorem lifted (os : Os) (started : os.Started) (H : Type) (enc : TypeId × Value → H) :
    ReturnsInHanded {} Try.checked os 4 .any (Rows.vecLerpsSpec.pre6 enc Try.prog Try.f4 Rows.vecLerpsRow.domain false) (Rows.vecLerpsSpec.post enc Try.prog Try.f4 false true false false) := by
  refine returnsInHanded_of_change (C := Try.checked) own started (by kernel_rfl) Try.func4
    (ChangeSpec.witness6 (enc := enc) (C := Try.checked) false ⟨#[], #[.agg #[.int .i64 0, .int .i64 0, .int .i64 0], .agg #[.int .i64 0, .int .i64 0, .int .i64 0], .agg #[.int .i64 0, .int .i64 0]], []⟩ 8 (by kernel_rfl) (by kernel_rfl) (by kernel_rfl) (by kernel_rfl)) ?_
  intro W base args ds gs before hval0 hW hcnd _
  have hval : ∀ (j : Nat) t v, Try.f4.params[j]? = some t → args[j]? = some v → Value.okWide Try.prog W .any base t v := hval0
  have hW' := hW
  obtain ⟨p, q, hA0, hV, rfl, hfz, hnd⟩ := hW
  have hA : DataW.TrodAll enc Try.prog W 0 (fun _ => true) true Try.f4.params.toList args.toList ds p := hA0
  rw [Try.params4] at hA hval
  obtain ⟨v0, vs0, d0, ds0, p0, q0, hargs, rfl, rfl, h0, r0⟩ := trodAll_cons hA
  obtain ⟨v1, vs1, d1, ds1, p1, q1, rfl, rfl, rfl, h1, r1⟩ := trodAll_cons r0
  obtain ⟨v2, vs2, d2, ds2, p2, q2, rfl, rfl, rfl, h2, r2⟩ := trodAll_cons r1
  obtain ⟨rfl, rfl, rfl⟩ := trodAll_nil r2
  obtain rfl : args = #[v0, v1, v2] := by cases args; simp_all
  obtain ⟨rfl, rfl⟩ := trodVars_none hV
  obtain ⟨a00, a01, a02, rfl, rfl, rfl, w00, w01, w02⟩ := open_arr3 Try.underlying22 Try.underlying2 cells_a3 cells_e (hval 0 22 v0 rfl rfl) h0
  obtain ⟨a10, a11, a12, rfl, rfl, rfl, w10, w11, w12⟩ := open_arr3 Try.underlying22 Try.underlying2 cells_a3 cells_e (hval 1 22 v1 rfl rfl) h1
  obtain ⟨a20, a21, rfl, rfl, rfl, w20, w21⟩ := open_arr2 Try.underlying28 Try.underlying2 cells_a2 cells_e (hval 2 28 v2 rfl rfl) h2
  clear hA0 hval0
  simp only [List.append_nil] at hW'
  refine (walk a00 a01 a02 a10 a11 a12 a20 a21 w00 w01 w02 w10 w11 w12 w20 w21 W).mono fun e W' ⟨he, hg⟩ => ?_
  subst he
  exact ⟨_, rfl, post_of_same (pa := []) (pv := []) hW' (fun _ _ _ => (trodAll_cons_mk (shut_bool Try.underlying4 _) trodAll_mk0)) (fun sp _ => (trodAll_cons_mk (shut_arr3 Try.underlying22 Try.underlying2 cells_a3 cells_e w00 w01 w02) (trodAll_cons_mk (shut_arr3 Try.underlying22 Try.underlying2 cells_a3 cells_e w10 w11 w12) (trodAll_cons_mk (shut_arr2 Try.underlying28 Try.underlying2 cells_a2 cells_e w20 w21) trodAll_mk0)))) (fun _ _ => rfl) rfl
    (hg.frame _) hg.2.1 (ok_one (by kernel_rfl) rfl (okWide_bool_mk Try.underlying4 _))⟩

theorem over : Rows.vecLerpsRow.holds Try.pinned (OpenSpec.ofChange Rows.vecLerpsSpec) :=
  OpenClaim.holds_of_wide 4 Try.f4 rfl rfl rfl rfl rfl rfl rfl ⟨rfl, rfl, rfl, rfl, rfl⟩ rfl rfl rfl rfl rfl (by kernel_rfl) Try.func4 (by kernel_rfl)
    (of_decide_eq_true (by kernel_rfl)) (by unfold Func.isWrapper; first | (rw [if_pos (by decide +kernel)]; kernel_rfl) | (rw [if_neg (by decide +kernel)]; exact ⟨rfl, rfl⟩))
    (fun os started H enc _ => lifted os started H enc)
end VecLerpsL

theorem vecLerps_proved : Rows.VecLerpsSaid := VecLerpsL.over
#print axioms vecLerps_proved
end Go.Proofs.Ytlfpgpfjdobpeaa
