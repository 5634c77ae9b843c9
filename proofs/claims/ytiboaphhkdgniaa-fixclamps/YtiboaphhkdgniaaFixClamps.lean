/-
  Proved: of any three numbers of 64 bits fix.Clamp answers what the document's own answer does, between both ends (the law FixClamps answers true).
  Conditions: none.
-/
import Derived.Test.YtiboaphhkdgniaaRows
import Derived.Test.YtiboaphhkdgniaaAlive
import Derived.WalkKit
import Derived.ProofKit
import Derived.OpenShut
import Derived.Test.YtiboaphhkdgniaaArr
namespace Go.Proofs.Ytiboaphhkdgniaa
open Go.ChangeShapes Go.WideShapes Go.ChangeAt Go.RowKit
set_option linter.unusedVariables false

namespace FixClampsL
theorem own : ownKnob Try.prog.godebug = none := by kernel_rfl
theorem refClamp_le (x a b : Int) (h : a ≤ b) (w : World) :
    Calls Try.prog 30 #[.int .i64 x, .int .i64 a, .int .i64 b] w fun e w' => e = .returned (.int .i64 (clampI x a b)) ∧ w' = w := by
  go_enter Try.func30, Try.ntmps30
  go_wp2_with fail
  all_goals (go_ret; exact ⟨ret_int (by unfold clampI; omega), rfl⟩)
theorem refClamp_any (x a b : Int) (w : World) :
    Calls Try.prog 30 #[.int .i64 x, .int .i64 a, .int .i64 b] w fun e w' => e = .returned (.int .i64 (clampI x a b)) ∧ w' = w := by
  by_cases h : a ≤ b
  · exact refClamp_le x a b h w
  · have h' : b < a := by omega
    go_enter Try.func30, Try.ntmps30
    go_wp2_with fail
    refine (refClamp_le x b a (by omega) _).mono ?_; rintro e w1 ⟨rfl, rfl⟩
    go_wp2_with fail
    go_ret
    exact ⟨ret_int (by unfold clampI; omega), rfl⟩
theorem walk (x a b : Int) (wx : (Lit.int .i64 x).wf = true) (wa : (Lit.int .i64 a).wf = true) (wb : (Lit.int .i64 b).wf = true) (w : World) :
    Calls Try.prog 6 #[.int .i64 x, .int .i64 a, .int .i64 b] w fun e w' => e = .returned (.bool true) ∧ Grown w w' := by
  clear wx wa wb
  obtain ⟨Y, hY⟩ : ∃ Y, clampI x a b = Y := ⟨_, rfl⟩
  have e1 : clampI Y b a = Y := by rw [← hY]; unfold clampI; omega
  have t1 : min a b ≤ Y := by rw [← hY]; unfold clampI; omega
  have t2 : Y ≤ max a b := by rw [← hY]; unfold clampI; omega
  have HY := (show Hid _ from hY)
  have E1 := (show Hid _ from e1)
  clear hY e1
  go_enter Try.func6, Try.ntmps6
  go_wp2_with fail
  refine (clamp_any x a b _).mono ?_; rw [HY.out]; rintro e w1 ⟨rfl, rfl⟩
  go_wp2_with fail
  refine (alive_any _).mono ?_; rintro e w2 ⟨rfl, g2⟩
  go_wp2_with fail
  refine (refClamp_any x a b _).mono ?_; rw [HY.out]; rintro e w3 ⟨rfl, rfl⟩
  go_wp2_with fail
  refine (clamp_any Y b a _).mono ?_; rw [E1.out]; rintro e w4 ⟨rfl, rfl⟩
  go_wp2_with fail
  go_ret
  exact ⟨rfl, g2.grown⟩

set_option maxRecDepth 100000 in
theorem lifted (os : Os) (started : os.Started) (H : Type) (enc : TypeId × Value → H) :
    ReturnsInHanded {} Try.checked os 6 .any (Rows.fixClampsSpec.pre6 enc Try.prog Try.f6 Rows.fixClampsRow.domain false) (Rows.fixClampsSpec.post enc Try.prog Try.f6 false true false false) := by
  refine returnsInHanded_of_change (C := Try.checked) own started (by kernel_rfl) Try.func6
    (ChangeSpec.witness6 (enc := enc) (C := Try.checked) false ⟨#[], #[.int .i64 0, .int .i64 0, .int .i64 0], []⟩ 8 (by kernel_rfl) (by kernel_rfl) (by kernel_rfl) (by kernel_rfl)) ?_
  intro W base args ds gs before hval0 hW hcnd _
  have hval : ∀ (j : Nat) t v, Try.f6.params[j]? = some t → args[j]? = some v → Value.okWide Try.prog W .any base t v := hval0
  have hW' := hW
  obtain ⟨p, q, hA0, hV, rfl, hfz, hnd⟩ := hW
  have hA : DataW.TrodAll enc Try.prog W 0 (fun _ => true) true Try.f6.params.toList args.toList ds p := hA0
  rw [Try.params6] at hA hval
  obtain ⟨v0, vs0, d0, ds0, p0, q0, hargs, rfl, rfl, h0, r0⟩ := trodAll_cons hA
  obtain ⟨v1, vs1, d1, ds1, p1, q1, rfl, rfl, rfl, h1, r1⟩ := trodAll_cons r0
  obtain ⟨v2, vs2, d2, ds2, p2, q2, rfl, rfl, rfl, h2, r2⟩ := trodAll_cons r1
  obtain ⟨rfl, rfl, rfl⟩ := trodAll_nil r2
  obtain rfl : args = #[v0, v1, v2] := by cases args; simp_all
  obtain ⟨rfl, rfl⟩ := trodVars_none hV
  obtain ⟨a0, rfl, rfl, rfl, w0⟩ := open_int Try.underlying2 (hval 0 2 v0 rfl rfl) h0
  obtain ⟨a1, rfl, rfl, rfl, w1⟩ := open_int Try.underlying2 (hval 1 2 v1 rfl rfl) h1
  obtain ⟨a2, rfl, rfl, rfl, w2⟩ := open_int Try.underlying2 (hval 2 2 v2 rfl rfl) h2
  clear hA0 hval0
  simp only [List.append_nil] at hW'
  refine (walk a0 a1 a2 w0 w1 w2 W).mono fun e W' ⟨he, hg⟩ => ?_
  subst he
  exact ⟨_, rfl, post_of_same (pa := []) (pv := []) hW' (fun _ _ _ => (trodAll_cons_mk (shut_bool Try.underlying4 _) trodAll_mk0)) (fun sp _ => (trodAll_cons_mk (shut_int Try.underlying2 w0) (trodAll_cons_mk (shut_int Try.underlying2 w1) (trodAll_cons_mk (shut_int Try.underlying2 w2) trodAll_mk0)))) (fun _ _ => rfl) rfl
    (hg.frame _) hg.2.1 (ok_one (by kernel_rfl) rfl (okWide_bool_mk Try.underlying4 _))⟩

theorem over : Rows.fixClampsRow.holds Try.pinned (OpenSpec.ofChange Rows.fixClampsSpec) :=
  OpenClaim.holds_of_wide 6 Try.f6 rfl rfl rfl rfl rfl rfl rfl ⟨rfl, rfl, rfl, rfl, rfl⟩ rfl rfl rfl rfl rfl (by kernel_rfl) Try.func6 (by kernel_rfl)
    (of_decide_eq_true (by kernel_rfl)) (by unfold Func.isWrapper; first | (rw [if_pos (by decide +kernel)]; kernel_rfl) | (rw [if_neg (by decide +kernel)]; exact ⟨rfl, rfl⟩))
    (fun os started H enc _ => lifted os started H enc)
end FixClampsL

theorem fixClamps_proved : Rows.FixClampsSaid := FixClampsL.over
#print axioms fixClamps_proved
end Go.Proofs.Ytiboaphhkdgniaa
