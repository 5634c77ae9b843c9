/-
  Proved: of any number curve.Weights answers what the document's own answer does, within their bounds, or ErrRange (the law CurveWeights answers true).
  Conditions: none.
-/
import Derived.Test.YtajobokmddecmaaRows
import Derived.Test.YtajobokmddecmaaCurve3
import Derived.Test.YtajobokmddecmaaEq3
import Derived.WalkKit
import Derived.ProofKit
import Derived.OpenShut
import Derived.Test.YtajobokmddecmaaArr
namespace Go.Proofs.Ytajobokmddecmaa
open Go.ChangeShapes Go.WideShapes Go.ChangeAt Go.RowKit
set_option linter.unusedVariables false

namespace CurveWeightsL
theorem own : ownKnob Try.prog.godebug = none := by kernel_rfl
set_option maxHeartbeats 1000000 in
theorem walkN (u : Int) (vu : (Lit.int .i64 u).wf = true) (h : u < 0 ∨ 65536 < u) (w : World) :
    Calls Try.prog 3 #[.int .i64 u] w fun e w' => e = .returned (.bool true) ∧ Grown w w' := by
  have hu := wf_R64 vu
  clear vu
  obtain ⟨H, hH⟩ : ∃ H, w.heap.size = H := ⟨_, rfl⟩
  have HH := (show Hid _ from h)
  go_enter Try.func3, Try.ntmps3
  go_wp2_with fail
  refine (weights_no u h _).mono ?_; rintro e w1 ⟨rfl, rfl⟩
  rcases h with h | h
  all_goals
    go_wp2_with fail
    refine (calive_any _).mono ?_; rintro e w2 ⟨rfl, g2⟩
    go_wp2_with fail
    go_ret
    exact ⟨rfl, g2.grown⟩
set_option maxHeartbeats 1000000 in
theorem walkY (u : Int) (vu : (Lit.int .i64 u).wf = true) (h0 : 0 ≤ u) (h1 : u ≤ 65536) (w : World) :
    Calls Try.prog 3 #[.int .i64 u] w fun e w' => e = .returned (.bool true) ∧ Grown w w' := by
  have hu := wf_R64 vu
  clear vu
  obtain ⟨H, hH⟩ : ∃ H, w.heap.size = H := ⟨_, rfl⟩
  obtain ⟨⟨b0, b1⟩, ⟨b2, b3⟩, b4, b5⟩ := weights_bd h0 h1
  obtain ⟨x, hx⟩ : ∃ x, wayW u = x := ⟨_, rfl⟩
  obtain ⟨y, hy⟩ : ∃ y, firstW u = y := ⟨_, rfl⟩
  obtain ⟨z, hz⟩ : ∃ z, lastW u = z := ⟨_, rfl⟩
  rw [hx] at b0 b1
  rw [hy] at b2 b3
  rw [hz] at b4 b5
  have HX := (show Hid _ from hx); have HY := (show Hid _ from hy); have HZ := (show Hid _ from hz)
  clear hx hy hz
  go_enter Try.func3, Try.ntmps3
  go_wp2_with fail
  refine (weights_any u h0 h1 _).mono ?_; rw [HX.out, HY.out, HZ.out]; rintro e w1 ⟨rfl, g1⟩
  go_wp2_with fail
  refine (rweights_any u h0 h1 _).mono ?_; rw [HX.out, HY.out, HZ.out]; rintro e w2 ⟨rfl, rfl⟩
  go_wp2_with fail
  refine (calive_any _).mono ?_; rintro e w3 ⟨rfl, g3⟩
  go_wp2_with fail
  go_ret
  exact ⟨rfl, (g1.then g3).grown⟩
theorem walk (u : Int) (vu : (Lit.int .i64 u).wf = true) (w : World) :
    Calls Try.prog 3 #[.int .i64 u] w fun e w' => e = .returned (.bool true) ∧ Grown w w' := by
  by_cases h0 : 0 ≤ u
  · by_cases h1 : u ≤ 65536
    · exact walkY u vu h0 h1 w
    · exact walkN u vu (Or.inr (by omega)) w
  · exact walkN u vu (Or.inl (by omega)) w

set_option maxRecDepth 100000 in
theorem lifted (os : Os) (started : os.Started) (H : Type) (enc : TypeId × Value → H) :
    ReturnsInHanded {} Try.checked os 3 .any (Rows.curveWeightsSpec.pre6 enc Try.prog Try.f3 Rows.curveWeightsRow.domain false) (Rows.curveWeightsSpec.post enc Try.prog Try.f3 false true false false) := by
  refine returnsInHanded_of_change (C := Try.checked) own started (by kernel_rfl) Try.func3
    (ChangeSpec.witness6 (enc := enc) (C := Try.checked) false ⟨#[], #[.int .i64 0], []⟩ 8 (by kernel_rfl) (by kernel_rfl) (by kernel_rfl) (by kernel_rfl)) ?_
  intro W base args ds gs before hval0 hW hcnd _
  have hval : ∀ (j : Nat) t v, Try.f3.params[j]? = some t → args[j]? = some v → Value.okWide Try.prog W .any base t v := hval0
  have hW' := hW
  obtain ⟨p, q, hA0, hV, rfl, hfz, hnd⟩ := hW
  have hA : DataW.TrodAll enc Try.prog W 0 (fun _ => true) true Try.f3.params.toList args.toList ds p := hA0
  rw [Try.params3] at hA hval
  obtain ⟨v0, vs0, d0, ds0, p0, q0, hargs, rfl, rfl, h0, r0⟩ := trodAll_cons hA
  obtain ⟨rfl, rfl, rfl⟩ := trodAll_nil r0
  obtain rfl : args = #[v0] := by cases args; simp_all
  obtain ⟨rfl, rfl⟩ := trodVars_none hV
  obtain ⟨a0, rfl, rfl, rfl, w0⟩ := open_int Try.underlying2 (hval 0 2 v0 rfl rfl) h0
  clear hA0 hval0
  simp only [List.append_nil] at hW'
  refine (walk a0 w0 W).mono fun e W' ⟨he, hg⟩ => ?_
  subst he
  exact ⟨_, rfl, post_of_same (pa := []) (pv := []) hW' (fun _ _ _ => (trodAll_cons_mk (shut_bool Try.underlying4 _) trodAll_mk0)) (fun sp _ => (trodAll_cons_mk (shut_int Try.underlying2 w0) trodAll_mk0)) (fun _ _ => rfl) rfl
    (hg.frame _) hg.2.1 (ok_one (by kernel_rfl) rfl (okWide_bool_mk Try.underlying4 _))⟩

theorem over : Rows.curveWeightsRow.holds Try.pinned (OpenSpec.ofChange Rows.curveWeightsSpec) :=
  OpenClaim.holds_of_wide 3 Try.f3 rfl rfl rfl rfl rfl rfl rfl ⟨rfl, rfl, rfl, rfl, rfl⟩ rfl rfl rfl rfl rfl (by kernel_rfl) Try.func3 (by kernel_rfl)
    (of_decide_eq_true (by kernel_rfl)) (by unfold Func.isWrapper; first | (rw [if_pos (by decide +kernel)]; kernel_rfl) | (rw [if_neg (by decide +kernel)]; exact ⟨rfl, rfl⟩))
    (fun os started H enc _ => lifted os started H enc)
end CurveWeightsL

theorem curveWeights_proved : Rows.CurveWeightsSaid := CurveWeightsL.over
#print axioms curveWeights_proved
end Go.Proofs.Ytajobokmddecmaa
