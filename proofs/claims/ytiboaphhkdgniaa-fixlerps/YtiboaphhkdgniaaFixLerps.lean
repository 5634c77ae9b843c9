/-
  Proved: of any two numbers of 64 bits and any part fix.Lerp and fix.Part answer what the document's own answers do, or ErrRange (the law FixLerps answers true).
  Conditions: none.
-/
import Derived.Test.YtiboaphhkdgniaaRows
import Derived.Test.YtiboaphhkdgniaaRefPart
import Derived.WalkKit
import Derived.ProofKit
import Derived.OpenShut
import Derived.Test.YtiboaphhkdgniaaArr
namespace Go.Proofs.Ytiboaphhkdgniaa
open Go.ChangeShapes Go.WideShapes Go.ChangeAt Go.RowKit
set_option linter.unusedVariables false

namespace FixLerpsL
theorem own : ownKnob Try.prog.godebug = none := by kernel_rfl
theorem cells_a2 : Try.prog.cellsOf 26 = 2 := by kernel_rfl
theorem cells_e : Try.prog.cellsOf 2 = 1 := by kernel_rfl
set_option maxHeartbeats 1000000 in
theorem walk (a b num den : Int) (wa : (Lit.int .i64 a).wf = true) (wb : (Lit.int .i64 b).wf = true) (wn : (Lit.int .i64 num).wf = true) (wd : (Lit.int .i64 den).wf = true) (w : World) :
    Calls Try.prog 5 #[.int .i64 a, .int .i64 b, .agg #[.int .i64 num, .int .i64 den]] w fun e w' => e = .returned (.bool true) ∧ Grown w w' := by
  have ha := wf_R64 wa
  have hb := wf_R64 wb
  clear wa wb wn wd
  cases h : fineB num den
  · go_enter Try.func5, Try.ntmps5
    go_wp2_with fail
    refine (lerp_no a b num den h _).mono ?_; rintro e w1 ⟨rfl, rfl⟩
    go_wp2_with fail
    refine (part_no num den h _).mono ?_; rintro e w2 ⟨rfl, rfl⟩
    go_wp2_with fail
    refine (refFine_any num den _).mono ?_; rw [h]; rintro e w3 ⟨rfl, rfl⟩
    go_wp2_with fail
    refine (alive_any _).mono ?_; rintro e w4 ⟨rfl, g4⟩
    go_wp2_with fail
    go_ret
    exact ⟨rfl, (((Gr.refl _ _).alloc (Nat.le_refl _) _ _).then g4).grown⟩
  · obtain ⟨X, hX⟩ : ∃ X, lerpI a b num den = X := ⟨_, rfl⟩
    obtain ⟨Y, hY⟩ : ∃ Y, num * 65536 / den = Y := ⟨_, rfl⟩
    have HX := (show Hid _ from hX)
    have HY := (show Hid _ from hY)
    clear hX hY
    go_enter Try.func5, Try.ntmps5
    go_wp2_with fail
    refine (lerp_any a b num den ha hb h _).mono ?_; rw [HX.out]; rintro e w1 ⟨rfl, g1⟩
    have c1 := g1.cell
    go_wp2_with fail
    refine (part_any num den h _).mono ?_; rw [HY.out]; rintro e w2 ⟨rfl, g2⟩
    have z1 : w.heap.size < w1.heap.size := by have := g1.size; simp at this; omega
    have c2 := g2.cell
    go_wp2_with fail
    refine (refFine_any num den _).mono ?_; rw [h]; rintro e w3 ⟨rfl, rfl⟩
    go_wp2_with fail
    refine (alive_any _).mono ?_; rintro e w4 ⟨rfl, g4⟩
    have z2 : w.heap.size < w3.heap.size := by have := g2.size; omega
    have c4 := g4.cell
    go_wp2_with fail
    refine (refLerp_any a b num den ha hb h _).mono ?_; rw [HX.out]; rintro e w5 ⟨rfl, rfl⟩
    go_wp2_with fail
    refine (refPart_any num den h _).mono ?_; rw [HY.out]; rintro e w6 ⟨rfl, rfl⟩
    go_wp2_with fail
    go_ret
    exact ⟨rfl, (((((Gr.refl _ _).alloc (Nat.le_refl _) _ _).then g1).then g2).then g4).grown⟩

set_option maxRecDepth 100000 in
theorem lifted (os : Os) (started : os.Started) (H : Type) (enc : TypeId × Value → H) :
    ReturnsInHanded {} Try.checked os 5 .any (Rows.fixLerpsSpec.pre6 enc Try.prog Try.f5 Rows.fixLerpsRow.domain false) (Rows.fixLerpsSpec.post enc Try.prog Try.f5 false true false false) := by
  refine returnsInHanded_of_change (C := Try.checked) own started (by kernel_rfl) Try.func5
    (ChangeSpec.witness6 (enc := enc) (C := Try.checked) false ⟨#[], #[.int .i64 0, .int .i64 0, .agg #[.int .i64 0, .int .i64 0]], []⟩ 8 (by kernel_rfl) (by kernel_rfl) (by kernel_rfl) (by kernel_rfl)) ?_
  intro W base args ds gs before hval0 hW hcnd _
  have hval : ∀ (j : Nat) t v, Try.f5.params[j]? = some t → args[j]? = some v → Value.okWide Try.prog W .any base t v := hval0
  have hW' := hW
  obtain ⟨p, q, hA0, hV, rfl, hfz, hnd⟩ := hW
  have hA : DataW.TrodAll enc Try.prog W 0 (fun _ => true) true Try.f5.params.toList args.toList ds p := hA0
  rw [Try.params5] at hA hval
  obtain ⟨v0, vs0, d0, ds0, p0, q0, hargs, rfl, rfl, h0, r0⟩ := trodAll_cons hA
  obtain ⟨v1, vs1, d1, ds1, p1, q1, rfl, rfl, rfl, h1, r1⟩ := trodAll_cons r0
  obtain ⟨v2, vs2, d2, ds2, p2, q2, rfl, rfl, rfl, h2, r2⟩ := trodAll_cons r1
  obtain ⟨rfl, rfl, rfl⟩ := trodAll_nil r2
  obtain rfl : args = #[v0, v1, v2] := by cases args; simp_all
  obtain ⟨rfl, rfl⟩ := trodVars_none hV
  obtain ⟨a0, rfl, rfl, rfl, w0⟩ := open_int Try.underlying2 (hval 0 2 v0 rfl rfl) h0
  obtain ⟨a1, rfl, rfl, rfl, w1⟩ := open_int Try.underlying2 (hval 1 2 v1 rfl rfl) h1
  obtain ⟨a20, a21, rfl, rfl, rfl, w20, w21⟩ := open_arr2 Try.underlying26 Try.underlying2 cells_a2 cells_e (hval 2 26 v2 rfl rfl) h2
  clear hA0 hval0
  simp only [List.append_nil] at hW'
  refine (walk a0 a1 a20 a21 w0 w1 w20 w21 W).mono fun e W' ⟨he, hg⟩ => ?_
  subst he
  exact ⟨_, rfl, post_of_same (pa := []) (pv := []) hW' (fun _ _ _ => (trodAll_cons_mk (shut_bool Try.underlying4 _) trodAll_mk0)) (fun sp _ => (trodAll_cons_mk (shut_int Try.underlying2 w0) (trodAll_cons_mk (shut_int Try.underlying2 w1) (trodAll_cons_mk (shut_arr2 Try.underlying26 Try.underlying2 cells_a2 cells_e w20 w21) trodAll_mk0)))) (fun _ _ => rfl) rfl
    (hg.frame _) hg.2.1 (ok_one (by kernel_rfl) rfl (okWide_bool_mk Try.underlying4 _))⟩

theorem over : Rows.fixLerpsRow.holds Try.pinned (OpenSpec.ofChange Rows.fixLerpsSpec) :=
  OpenClaim.holds_of_wide 5 Try.f5 rfl rfl rfl rfl rfl rfl rfl ⟨rfl, rfl, rfl, rfl, rfl⟩ rfl rfl rfl rfl rfl (by kernel_rfl) Try.func5 (by kernel_rfl)
    (of_decide_eq_true (by kernel_rfl)) (by unfold Func.isWrapper; first | (rw [if_pos (by decide +kernel)]; kernel_rfl) | (rw [if_neg (by decide +kernel)]; exact ⟨rfl, rfl⟩))
    (fun os started H enc _ => lifted os started H enc)
end FixLerpsL

theorem fixLerps_proved : Rows.FixLerpsSaid := FixLerpsL.over
#print axioms fixLerps_proved
end Go.Proofs.Ytiboaphhkdgniaa
