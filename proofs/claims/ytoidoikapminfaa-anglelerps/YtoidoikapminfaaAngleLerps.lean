/-
  Proved: of any two angles and any part angle.Lerp answers what the document's own answer does, an angle on the way, or ErrRange (the law AngleLerps answers true).
  Conditions: none.
-/
import Derived.Test.YtoidoikapminfaaRows
import Derived.Test.YtoidoikapminfaaAngle3
import Derived.Test.YtoidoikapminfaaBlk
import Derived.WalkKit
import Derived.ProofKit
import Derived.OpenShut
import Derived.Test.YtoidoikapminfaaArr
namespace Go.Proofs.Ytoidoikapminfaa
open Go.ChangeShapes Go.WideShapes Go.ChangeAt Go.RowKit
set_option linter.unusedVariables false

namespace AngleLerpsL
theorem own : ownKnob Try.prog.godebug = none := by kernel_rfl
theorem cells_a2 : Try.prog.cellsOf 27 = 2 := by kernel_rfl
theorem cells_e : Try.prog.cellsOf 2 = 1 := by kernel_rfl
theorem walk (a b num den : Int) (va : (Lit.int .u16 a).wf = true) (vb : (Lit.int .u16 b).wf = true) (vn : (Lit.int .i64 num).wf = true) (vd : (Lit.int .i64 den).wf = true) (w : World) :
    Calls Try.prog 4 #[.int .u16 a, .int .u16 b, .agg #[.int .i64 num, .int .i64 den]] w fun e w' => e = .returned (.bool true) ∧ Grown w w' := by
  have ha := wf_U16 va
  have hb := wf_U16 vb
  clear va vb vn vd
  obtain ⟨H, hH⟩ : ∃ H, w.heap.size = H := ⟨_, rfl⟩
  cases hf : fineB num den
  · have HF := (show Hid _ from hf); clear hf
    go_enter Try.func4, Try.ntmps4
    go_wp2_with fail
    obtain ⟨W, hW⟩ : ∃ W, (w.alloc (.cells #[.int .i64 num, .int .i64 den] 27)) = W := ⟨_, rfl⟩
    have A0 : Blk W (H) [.int .i64 num, .int .i64 den] := by rw [← hW]; exact (Blk.new _ _ _ hH.symm)
    have G0 : Gr w.heap.size w W := by rw [← hW]; repeat' (first | exact Gr.refl _ _ | refine Gr.alloc ?_ ?_ _ _ | (simp; done) | (simp; omega))
    rw [hW]
    clear hW
    have x0 := A0.cell 0 _ rfl; have x1 := A0.cell 1 _ rfl
    go_wp2_with fail
    refine (alerp_no a b num den HF.out _).mono ?_; rintro e w1 ⟨rfl, rfl⟩
    go_wp2_with fail
    refine (refFine_any num den _).mono ?_; rw [HF.out]; rintro e w2 ⟨rfl, rfl⟩
    go_wp2_with fail
    refine (aalive_any _).mono ?_; rintro e w3 ⟨rfl, g3⟩
    go_wp2_with fail
    go_ret
    exact ⟨rfl, (G0.then g3).grown⟩
  · have HF := (show Hid _ from hf); clear hf
    go_enter Try.func4, Try.ntmps4
    go_wp2_with fail
    obtain ⟨W, hW⟩ : ∃ W, (w.alloc (.cells #[.int .i64 num, .int .i64 den] 27)) = W := ⟨_, rfl⟩
    have A0 : Blk W (H) [.int .i64 num, .int .i64 den] := by rw [← hW]; exact (Blk.new _ _ _ hH.symm)
    have G0 : Gr w.heap.size w W := by rw [← hW]; repeat' (first | exact Gr.refl _ _ | refine Gr.alloc ?_ ?_ _ _ | (simp; done) | (simp; omega))
    rw [hW]
    clear hW
    have x0 := A0.cell 0 _ rfl; have x1 := A0.cell 1 _ rfl
    go_wp2_with fail
    refine (alerp_any a b num den HF.out _).mono ?_; rintro e w1 ⟨rfl, g1⟩
    have A1 := A0.gr g1 A0.lt
    have y0 := A1.cell 0 _ rfl; have y1 := A1.cell 1 _ rfl
    go_wp2_with fail
    refine (refFine_any num den _).mono ?_; rw [HF.out]; rintro e w2 ⟨rfl, rfl⟩
    go_wp2_with fail
    refine (aalive_any _).mono ?_; rintro e w3 ⟨rfl, g3⟩
    have A3 := A1.gr g3 A1.lt
    have z0 := A3.cell 0 _ rfl; have z1 := A3.cell 1 _ rfl
    go_wp2_with fail
    refine (ralerp_any a b num den ha hb HF.out _).mono ?_; rintro e w4 ⟨rfl, rfl⟩
    go_wp2_with fail
    refine (abetween_any (alerpI a b num den) a b _).mono ?_; rw [on_alerp a b HF.out]; rintro e w5 ⟨rfl, rfl⟩
    go_wp2_with fail
    go_ret
    exact ⟨rfl, ((G0.then g1).then g3).grown⟩

set_option maxRecDepth 100000 in
theorem lifted (os : Os) (started : os.Started) (H : Type) (enc : TypeId × Value → H) :
    ReturnsInHanded {} Try.checked os 4 .any (Rows.angleLerpsSpec.pre6 enc Try.prog Try.f4 Rows.angleLerpsRow.domain false) (Rows.angleLerpsSpec.post enc Try.prog Try.f4 false true false false) := by
  refine returnsInHanded_of_change (C := Try.checked) own started (by kernel_rfl) Try.func4
    (ChangeSpec.witness6 (enc := enc) (C := Try.checked) false ⟨#[], #[.int .u16 0, .int .u16 0, .agg #[.int .i64 0, .int .i64 0]], []⟩ 8 (by kernel_rfl) (by kernel_rfl) (by kernel_rfl) (by kernel_rfl)) ?_
  intro W base args ds gs before hval0 hW hcnd _
  have hval : ∀ (j : Nat) t v, Try.f4.params[j]? = some t → args[j]? = some v → Value.okWide Try.prog W .any base t v := hval0
  have hW' := hW
  obtain ⟨p, q, hA0, hV, rfl, hfz, hnd⟩ := hW
  have hA : DataW.TrodAll enc Try.prog W 0 (fun _ => true) true Try.f4.params.toList args.toList ds p := hA0
  rw [Try.params4] at hA hval
  obtain ⟨v0, vs0, d0, ds0, p0, q0, hargs, rfl, rfl, h0, r0⟩ := trodAll_cons hA
  obtain ⟨v1, vs1, d1, ds1, p1, q1, rfl, rfl, rfl, h1, r1⟩ := trodAll_cons r0
  obtain ⟨v2, vs2, d2, ds2, p2, q2, rfl, rfl, rfl, h2, r2⟩ := trodAll_cons r1
  obtain ⟨rfl, rfl, rfl⟩ := trodAll_nil r2
  obtain rfl : args = #[v0, v1, v2] := by cases args; simp_all
  obtain ⟨rfl, rfl⟩ := trodVars_none hV
  obtain ⟨a0, rfl, rfl, rfl, w0⟩ := open_int Try.underlying22 (hval 0 22 v0 rfl rfl) h0
  obtain ⟨a1, rfl, rfl, rfl, w1⟩ := open_int Try.underlying22 (hval 1 22 v1 rfl rfl) h1
  obtain ⟨a20, a21, rfl, rfl, rfl, w20, w21⟩ := open_arr2 Try.underlying27 Try.underlying2 cells_a2 cells_e (hval 2 27 v2 rfl rfl) h2
  clear hA0 hval0
  simp only [List.append_nil] at hW'
  refine (walk a0 a1 a20 a21 w0 w1 w20 w21 W).mono fun e W' ⟨he, hg⟩ => ?_
  subst he
  exact ⟨_, rfl, post_of_same (pa := []) (pv := []) hW' (fun _ _ _ => (trodAll_cons_mk (shut_bool Try.underlying4 _) trodAll_mk0)) (fun sp _ => (trodAll_cons_mk (shut_int Try.underlying22 w0) (trodAll_cons_mk (shut_int Try.underlying22 w1) (trodAll_cons_mk (shut_arr2 Try.underlying27 Try.underlying2 cells_a2 cells_e w20 w21) trodAll_mk0)))) (fun _ _ => rfl) rfl
    (hg.frame _) hg.2.1 (ok_one (by kernel_rfl) rfl (okWide_bool_mk Try.underlying4 _))⟩

theorem over : Rows.angleLerpsRow.holds Try.pinned (OpenSpec.ofChange Rows.angleLerpsSpec) :=
  OpenClaim.holds_of_wide 4 Try.f4 rfl rfl rfl rfl rfl rfl rfl ⟨rfl, rfl, rfl, rfl, rfl⟩ rfl rfl rfl rfl rfl (by kernel_rfl) Try.func4 (by kernel_rfl)
    (of_decide_eq_true (by kernel_rfl)) (by unfold Func.isWrapper; first | (rw [if_pos (by decide +kernel)]; kernel_rfl) | (rw [if_neg (by decide +kernel)]; exact ⟨rfl, rfl⟩))
    (fun os started H enc _ => lifted os started H enc)
end AngleLerpsL

theorem angleLerps_proved : Rows.AngleLerpsSaid := AngleLerpsL.over
#print axioms angleLerps_proved
end Go.Proofs.Ytoidoikapminfaa
