/-
  Proved: of any numbers, speeds and part curve.At answers what the document's own answer does, between both, or ErrRange (the law CurveNumbers answers true).
  Conditions: none.
-/
import Derived.Test.YtajobokmddecmaaRows
import Derived.Test.YtajobokmddecmaaCurve3
import Derived.Test.YtajobokmddecmaaBlk
import Derived.Test.YtajobokmddecmaaEq3
import Derived.WalkKit
import Derived.ProofKit
import Derived.OpenShut
import Derived.Test.YtajobokmddecmaaArr
namespace Go.Proofs.Ytajobokmddecmaa
open Go.ChangeShapes Go.WideShapes Go.ChangeAt Go.RowKit
set_option linter.unusedVariables false

namespace CurveNumbersL
theorem own : ownKnob Try.prog.godebug = none := by kernel_rfl
theorem cells_a2 : Try.prog.cellsOf 29 = 2 := by kernel_rfl
theorem cells_e : Try.prog.cellsOf 2 = 1 := by kernel_rfl
attribute [local go_sem ↓] Go.wp_at_zero Go.wp_at_succ
attribute [local go_sem] eq3_run
set_option maxHeartbeats 1000000 in
theorem walkN (a b v u p q : Int) (va : (Lit.int .i64 a).wf = true) (vb : (Lit.int .i64 b).wf = true) (vv : (Lit.int .i64 v).wf = true) (vu : (Lit.int .i64 u).wf = true) (vp : (Lit.int .i64 p).wf = true) (vq : (Lit.int .i64 q).wf = true) (h : fineB p q = false) (w : World) :
    Calls Try.prog 4 #[.agg #[.int .i64 a, .int .i64 b], .agg #[.int .i64 v, .int .i64 u], .agg #[.int .i64 p, .int .i64 q]] w fun e w' => e = .returned (.bool true) ∧ Grown w w' := by
  have ha := wf_R64 va
  have hb := wf_R64 vb
  have hv := wf_R64 vv
  have hu := wf_R64 vu
  have hp := wf_R64 vp
  have hq := wf_R64 vq
  clear va vb vv vu vp vq
  obtain ⟨H, hH⟩ : ∃ H, w.heap.size = H := ⟨_, rfl⟩
  have HF := (show Hid _ from h); clear h
  go_enter Try.func4, Try.ntmps4
  go_wp2_with fail
  obtain ⟨W, hW⟩ : ∃ W, (((w.alloc (.cells #[.int .i64 a, .int .i64 b] 29)).alloc (.cells #[.int .i64 v, .int .i64 u] 29)).alloc (.cells #[.int .i64 p, .int .i64 q] 29)) = W := ⟨_, rfl⟩
  have A0 : Blk W (H) [.int .i64 a, .int .i64 b] := by rw [← hW]; exact (((Blk.new _ _ _ hH.symm)).alloc _).alloc _
  have V0 : Blk W (H + 1) [.int .i64 v, .int .i64 u] := by rw [← hW]; exact ((Blk.new _ _ _ (by simp [hH]))).alloc _
  have P0 : Blk W (H + 1 + 1) [.int .i64 p, .int .i64 q] := by rw [← hW]; exact (Blk.new _ _ _ (by simp [hH]))
  have G0 : Gr w.heap.size w W := by rw [← hW]; repeat' (first | exact Gr.refl _ _ | refine Gr.alloc ?_ ?_ _ _ | (simp; done) | (simp; omega))
  have Z0 : W.heap.size = H + 1 + 1 + 1 := by rw [← hW]; simp [hH]
  rw [hW]
  clear hW
  have xA0_0 := A0.cell 0 _ rfl; have xA1_0 := A0.cell 1 _ rfl
  have xV0_0 := V0.cell 0 _ rfl; have xV1_0 := V0.cell 1 _ rfl
  have xP0_0 := P0.cell 0 _ rfl; have xP1_0 := P0.cell 1 _ rfl
  go_wp2_with fail
  refine (at_no a v b u p q HF.out _).mono ?_; rintro e w1 ⟨rfl, g1⟩
  subst g1
  have G1 := G0
  have A1 := A0
  have V1 := V0
  have P1 := P0
  go_wp2_with fail
  refine (refFine_any p q _).mono ?_; rw [HF.out]; rintro e w2 ⟨rfl, g2⟩
  subst g2
  have G2 := G1
  have A2 := A1
  have V2 := V1
  have P2 := P1
  go_wp2_with fail
  refine (calive_any _).mono ?_; rintro e w3 ⟨rfl, g3⟩
  have G3 := G2.then g3
  have A3 := A2.gr g3 A2.lt
  have V3 := V2.gr g3 V2.lt
  have P3 := P2.gr g3 P2.lt
  go_wp2_with fail
  go_ret
  exact ⟨rfl, G3.grown⟩
set_option maxHeartbeats 1000000 in
theorem walkY (a b v u p q : Int) (va : (Lit.int .i64 a).wf = true) (vb : (Lit.int .i64 b).wf = true) (vv : (Lit.int .i64 v).wf = true) (vu : (Lit.int .i64 u).wf = true) (vp : (Lit.int .i64 p).wf = true) (vq : (Lit.int .i64 q).wf = true) (h : fineB p q = true) (w : World) :
    Calls Try.prog 4 #[.agg #[.int .i64 a, .int .i64 b], .agg #[.int .i64 v, .int .i64 u], .agg #[.int .i64 p, .int .i64 q]] w fun e w' => e = .returned (.bool true) ∧ Grown w w' := by
  have ha := wf_R64 va
  have hb := wf_R64 vb
  have hv := wf_R64 vv
  have hu := wf_R64 vu
  have hp := wf_R64 vp
  have hq := wf_R64 vq
  clear va vb vv vu vp vq
  obtain ⟨H, hH⟩ : ∃ H, w.heap.size = H := ⟨_, rfl⟩
  have HF := (show Hid _ from h); clear h
  obtain ⟨c, hc⟩ : ∃ c, curveI a v b u p q = c := ⟨_, rfl⟩
  have bt := curve_btw a v b u p q
  rw [hc] at bt
  obtain ⟨bt0, bt1⟩ := bt
  have HC := (show Hid _ from hc); clear hc
  go_enter Try.func4, Try.ntmps4
  go_wp2_with fail
  obtain ⟨W, hW⟩ : ∃ W, (((w.alloc (.cells #[.int .i64 a, .int .i64 b] 29)).alloc (.cells #[.int .i64 v, .int .i64 u] 29)).alloc (.cells #[.int .i64 p, .int .i64 q] 29)) = W := ⟨_, rfl⟩
  have A0 : Blk W (H) [.int .i64 a, .int .i64 b] := by rw [← hW]; exact (((Blk.new _ _ _ hH.symm)).alloc _).alloc _
  have V0 : Blk W (H + 1) [.int .i64 v, .int .i64 u] := by rw [← hW]; exact ((Blk.new _ _ _ (by simp [hH]))).alloc _
  have P0 : Blk W (H + 1 + 1) [.int .i64 p, .int .i64 q] := by rw [← hW]; exact (Blk.new _ _ _ (by simp [hH]))
  have G0 : Gr w.heap.size w W := by rw [← hW]; repeat' (first | exact Gr.refl _ _ | refine Gr.alloc ?_ ?_ _ _ | (simp; done) | (simp; omega))
  have Z0 : W.heap.size = H + 1 + 1 + 1 := by rw [← hW]; simp [hH]
  rw [hW]
  clear hW
  have xA0_0 := A0.cell 0 _ rfl; have xA1_0 := A0.cell 1 _ rfl
  have xV0_0 := V0.cell 0 _ rfl; have xV1_0 := V0.cell 1 _ rfl
  have xP0_0 := P0.cell 0 _ rfl; have xP1_0 := P0.cell 1 _ rfl
  go_wp2_with fail
  refine (at_any a v b u p q ha hv hb hu HF.out _).mono ?_; rw [HC.out]; rintro e w1 ⟨rfl, g1⟩
  have G1 := G0.then g1
  have A1 := A0.gr g1 A0.lt
  have V1 := V0.gr g1 V0.lt
  have P1 := P0.gr g1 P0.lt
  have xA0_1 := A1.cell 0 _ rfl; have xA1_1 := A1.cell 1 _ rfl
  have xV0_1 := V1.cell 0 _ rfl; have xV1_1 := V1.cell 1 _ rfl
  have xP0_1 := P1.cell 0 _ rfl; have xP1_1 := P1.cell 1 _ rfl
  go_wp2_with fail
  refine (refFine_any p q _).mono ?_; rw [HF.out]; rintro e w2 ⟨rfl, g2⟩
  subst g2
  have G2 := G1
  have A2 := A1
  have V2 := V1
  have P2 := P1
  go_wp2_with fail
  refine (calive_any _).mono ?_; rintro e w3 ⟨rfl, g3⟩
  have G3 := G2.then g3
  have A3 := A2.gr g3 A2.lt
  have V3 := V2.gr g3 V2.lt
  have P3 := P2.gr g3 P2.lt
  have xA0_3 := A3.cell 0 _ rfl; have xA1_3 := A3.cell 1 _ rfl
  have xV0_3 := V3.cell 0 _ rfl; have xV1_3 := V3.cell 1 _ rfl
  have xP0_3 := P3.cell 0 _ rfl; have xP1_3 := P3.cell 1 _ rfl
  go_wp2_with fail
  refine (rat_any a v b u p q ha hv hb hu HF.out _).mono ?_; rw [HC.out]; rintro e w4 ⟨rfl, g4⟩
  subst g4
  have G4 := G3
  have A4 := A3
  have V4 := V3
  have P4 := P3
  go_wp2_with fail
  go_ret
  exact ⟨rfl, G4.grown⟩
theorem walk (a b v u p q : Int) (va : (Lit.int .i64 a).wf = true) (vb : (Lit.int .i64 b).wf = true) (vv : (Lit.int .i64 v).wf = true) (vu : (Lit.int .i64 u).wf = true) (vp : (Lit.int .i64 p).wf = true) (vq : (Lit.int .i64 q).wf = true) (w : World) :
    Calls Try.prog 4 #[.agg #[.int .i64 a, .int .i64 b], .agg #[.int .i64 v, .int .i64 u], .agg #[.int .i64 p, .int .i64 q]] w fun e w' => e = .returned (.bool true) ∧ Grown w w' := by
  cases h : fineB p q
  · exact walkN a b v u p q va vb vv vu vp vq h w
  · exact walkY a b v u p q va vb vv vu vp vq h w

set_option maxRecDepth 100000 in
theorem lifted (os : Os) (started : os.Started) (H : Type) (enc : TypeId × Value → H) :
    ReturnsInHanded {} Try.checked os 4 .any (Rows.curveNumbersSpec.pre6 enc Try.prog Try.f4 Rows.curveNumbersRow.domain false) (Rows.curveNumbersSpec.post enc Try.prog Try.f4 false true false false) := by
  refine returnsInHanded_of_change (C := Try.checked) own started (by kernel_rfl) Try.func4
    (ChangeSpec.witness6 (enc := enc) (C := Try.checked) false ⟨#[], #[.agg #[.int .i64 0, .int .i64 0], .agg #[.int .i64 0, .int .i64 0], .agg #[.int .i64 0, .int .i64 0]], []⟩ 8 (by kernel_rfl) (by kernel_rfl) (by kernel_rfl) (by kernel_rfl)) ?_
  intro W base args ds gs before hval0 hW hcnd _
  have hval : ∀ (j : Nat) t v, Try.f4.params[j]? = some t → args[j]? = some v → Value.okWide Try.prog W .any base t v := hval0
  have hW' := hW
  obtain ⟨p, q, hA0, hV, rfl, hfz, hnd⟩ := hW
  have hA : DataW.TrodAll enc Try.prog W 0 (fun _ => true) true Try.f4.params.toList args.toList ds p := hA0
  rw [Try.params4] at hA hval
  obtain ⟨v0, vs0, d0, ds0, p0, q0, hargs, rfl, rfl, h0, r0⟩ := trodAll_cons hA
  obtain ⟨v1, vs1, d1, ds1, p1, q1, rfl, rfl, rfl, h1, r1⟩ := trodAll_cons r0
  obtain ⟨v2, vs2, d2, ds2, p2, q2, rfl, rfl, rfl, h2, r2⟩ := trodAll_cons r1
  obtain ⟨rfl, rfl, rfl⟩ := trodAll_nil r2
  obtain rfl : args = #[v0, v1, v2] := by cases args; simp_all
  obtain ⟨rfl, rfl⟩ := trodVars_none hV
  obtain ⟨a00, a01, rfl, rfl, rfl, w00, w01⟩ := open_arr2 Try.underlying29 Try.underlying2 cells_a2 cells_e (hval 0 29 v0 rfl rfl) h0
  obtain ⟨a10, a11, rfl, rfl, rfl, w10, w11⟩ := open_arr2 Try.underlying29 Try.underlying2 cells_a2 cells_e (hval 1 29 v1 rfl rfl) h1
  obtain ⟨a20, a21, rfl, rfl, rfl, w20, w21⟩ := open_arr2 Try.underlying29 Try.underlying2 cells_a2 cells_e (hval 2 29 v2 rfl rfl) h2
  clear hA0 hval0
  simp only [List.append_nil] at hW'
  refine (walk a00 a01 a10 a11 a20 a21 w00 w01 w10 w11 w20 w21 W).mono fun e W' ⟨he, hg⟩ => ?_
  subst he
  exact ⟨_, rfl, post_of_same (pa := []) (pv := []) hW' (fun _ _ _ => (trodAll_cons_mk (shut_bool Try.underlying4 _) trodAll_mk0)) (fun sp _ => (trodAll_cons_mk (shut_arr2 Try.underlying29 Try.underlying2 cells_a2 cells_e w00 w01) (trodAll_cons_mk (shut_arr2 Try.underlying29 Try.underlying2 cells_a2 cells_e w10 w11) (trodAll_cons_mk (shut_arr2 Try.underlying29 Try.underlying2 cells_a2 cells_e w20 w21) trodAll_mk0)))) (fun _ _ => rfl) rfl
    (hg.frame _) hg.2.1 (ok_one (by kernel_rfl) rfl (okWide_bool_mk Try.underlying4 _))⟩

theorem over : Rows.curveNumbersRow.holds Try.pinned (OpenSpec.ofChange Rows.curveNumbersSpec) :=
  OpenClaim.holds_of_wide 4 Try.f4 rfl rfl rfl rfl rfl rfl rfl ⟨rfl, rfl, rfl, rfl, rfl⟩ rfl rfl rfl rfl rfl (by kernel_rfl) Try.func4 (by kernel_rfl)
    (of_decide_eq_true (by kernel_rfl)) (by unfold Func.isWrapper; first | (rw [if_pos (by decide +kernel)]; kernel_rfl) | (rw [if_neg (by decide +kernel)]; exact ⟨rfl, rfl⟩))
    (fun os started H enc _ => lifted os started H enc)
end CurveNumbersL

theorem curveNumbers_proved : Rows.CurveNumbersSaid := CurveNumbersL.over
#print axioms curveNumbers_proved
end Go.Proofs.Ytajobokmddecmaa
