/-
  Proved: an angle turned by the way to another one is that; there and back it is itself; all turned by the same have the same ways (the law AngleRound answers true at every input).
  Conditions: none.
-/
import Derived.Test.YtoidoikapminfaaRows
import Derived.Test.YtoidoikapminfaaAngle3
import Derived.WalkKit
import Derived.ProofKit
import Derived.OpenShut
import Derived.Test.YtoidoikapminfaaArr
namespace Go.Proofs.Ytoidoikapminfaa
open Go.ChangeShapes Go.WideShapes Go.ChangeAt Go.RowKit
set_option linter.unusedVariables false

namespace AngleRoundL
theorem own : ownKnob Try.prog.godebug = none := by kernel_rfl
theorem walk (a b d : Int) (va : (Lit.int .u16 a).wf = true) (vb : (Lit.int .u16 b).wf = true) (vd : (Lit.int .i64 d).wf = true) (w : World) :
    Calls Try.prog 6 #[.int .u16 a, .int .u16 b, .int .i64 d] w fun e w' => e = .returned (.bool true) ∧ Grown w w' := by
  have ha := wf_U16 va
  have hb := wf_U16 vb
  clear va vb vd
  obtain ⟨kq, k, hk, hq, k1, k2, hk3, hk4⟩ := tmod_ex d 1000000 (by omega)
  clear hq hk3 hk4
  have ek : wrap64 (-k) = -k := wrap64_of _ _ 0 (by omega) (by unfold R64; omega)
  obtain ⟨W, hW⟩ : ∃ W, wayI a b = W := ⟨_, rfl⟩
  have e1 : turnI a W = b := hW ▸ turn_way a b hb
  have e2 : turnI (turnI a k) (-k) = a := turn_back a k ha
  have e3 : turnI a 65536 = a := turn_round a ha
  have e4 : wayI (turnI a k) (turnI b k) = W := hW ▸ turn_both a b k
  have e5 : W ≠ -32768 → wayI b a = -W := hW ▸ way_back a b
  have w1 : -32768 ≤ W ∧ W ≤ 32767 := hW ▸ way_bd a b
  obtain ⟨w1, w2⟩ := w1
  have eW : wrap64 (-W) = -W := wrap64_of _ _ 0 (by omega) (by unfold R64; omega)
  have HW := (show Hid _ from hW); have H1 := (show Hid _ from e1); have H2 := (show Hid _ from e2); have H3 := (show Hid _ from e3); have H4 := (show Hid _ from e4); have H5 := (show Hid _ from e5)
  clear hW e1 e2 e3 e4 e5
  go_enter Try.func6, Try.ntmps6
  go_wp2_with fail
  refine (diff_any a b _).mono ?_; rw [HW.out]; rintro e w1 ⟨rfl, rfl⟩
  go_wp2_with fail
  refine (turn_any a W _).mono ?_; rw [H1.out]; rintro e w2 ⟨rfl, rfl⟩
  go_wp2_with fail
  refine (turn_any a k _).mono ?_; rintro e w3 ⟨rfl, rfl⟩
  go_wp2_with fail
  refine (turn_any (turnI a k) (-k) _).mono ?_; rw [H2.out]; rintro e w4 ⟨rfl, rfl⟩
  go_wp2_with fail
  refine (turn_any a 65536 _).mono ?_; rw [H3.out]; rintro e w5 ⟨rfl, rfl⟩
  go_wp2_with fail
  refine (aalive_any _).mono ?_; rintro e w6 ⟨rfl, g6⟩
  go_wp2_with fail
  refine (turn_any a k _).mono ?_; rintro e w7 ⟨rfl, rfl⟩
  go_wp2_with fail
  refine (turn_any b k _).mono ?_; rintro e w8 ⟨rfl, rfl⟩
  go_wp2_with fail
  refine (diff_any (turnI a k) (turnI b k) _).mono ?_; rw [H4.out]; rintro e w9 ⟨rfl, rfl⟩
  by_cases hm : W = -32768
  · subst hm
    go_wp2_with fail
    go_ret
    exact ⟨rfl, g6.grown⟩
  · have H6 := (show Hid _ from H5.out hm)
    go_wp2_with fail
    refine (diff_any b a _).mono ?_; rw [H6.out]; rintro e w10 ⟨rfl, rfl⟩
    go_wp2_with fail
    go_ret
    exact ⟨rfl, g6.grown⟩

set_option maxRecDepth 100000 in
theorem lifted (os : Os) (started : os.Started) (H : Type) (enc : TypeId × Value → H) :
    ReturnsInHanded {} Try.checked os 6 .any (Rows.angleRoundSpec.pre6 enc Try.prog Try.f6 Rows.angleRoundRow.domain false) (Rows.angleRoundSpec.post enc Try.prog Try.f6 false true false false) := by
  refine returnsInHanded_of_change (C := Try.checked) own started (by kernel_rfl) Try.func6
    (ChangeSpec.witness6 (enc := enc) (C := Try.checked) false ⟨#[], #[.int .u16 0, .int .u16 0, .int .i64 0], []⟩ 8 (by kernel_rfl) (by kernel_rfl) (by kernel_rfl) (by kernel_rfl)) ?_
  intro W base args ds gs before hval0 hW hcnd _
  have hval : ∀ (j : Nat) t v, Try.f6.params[j]? = some t → args[j]? = some v → Value.okWide Try.prog W .any base t v := hval0
  have hW' := hW
  obtain ⟨p, q, hA0, hV, rfl, hfz, hnd⟩ := hW
  have hA : DataW.TrodAll enc Try.prog W 0 (fun _ => true) true Try.f6.params.toList args.toList ds p := hA0
  rw [Try.params6] at hA hval
  obtain ⟨v0, vs0, d0, ds0, p0, q0, hargs, rfl, rfl, h0, r0⟩ := trodAll_cons hA
  obtain ⟨v1, vs1, d1, ds1, p1, q1, rfl, rfl, rfl, h1, r1⟩ := trodAll_cons r0
  obtain ⟨v2, vs2, d2, ds2, p2, q2, rfl, rfl, rfl, h2, r2⟩ := trodAll_cons r1
  obtain ⟨rfl, rfl, rfl⟩ := trodAll_nil r2
  obtain rfl : args = #[v0, v1, v2] := by cases args; simp_all
  obtain ⟨rfl, rfl⟩ := trodVars_none hV
  obtain ⟨a0, rfl, rfl, rfl, w0⟩ := open_int Try.underlying22 (hval 0 22 v0 rfl rfl) h0
  obtain ⟨a1, rfl, rfl, rfl, w1⟩ := open_int Try.underlying22 (hval 1 22 v1 rfl rfl) h1
  obtain ⟨a2, rfl, rfl, rfl, w2⟩ := open_int Try.underlying3 (hval 2 3 v2 rfl rfl) h2
  clear hA0 hval0
  simp only [List.append_nil] at hW'
  refine (walk a0 a1 a2 w0 w1 w2 W).mono fun e W' ⟨he, hg⟩ => ?_
  subst he
  exact ⟨_, rfl, post_of_same (pa := []) (pv := []) hW' (fun _ _ _ => (trodAll_cons_mk (shut_bool Try.underlying4 _) trodAll_mk0)) (fun sp _ => (trodAll_cons_mk (shut_int Try.underlying22 w0) (trodAll_cons_mk (shut_int Try.underlying22 w1) (trodAll_cons_mk (shut_int Try.underlying3 w2) trodAll_mk0)))) (fun _ _ => rfl) rfl
    (hg.frame _) hg.2.1 (ok_one (by kernel_rfl) rfl (okWide_bool_mk Try.underlying4 _))⟩

theorem over : Rows.angleRoundRow.holds Try.pinned (OpenSpec.ofChange Rows.angleRoundSpec) :=
  OpenClaim.holds_of_wide 6 Try.f6 rfl rfl rfl rfl rfl rfl rfl ⟨rfl, rfl, rfl, rfl, rfl⟩ rfl rfl rfl rfl rfl (by kernel_rfl) Try.func6 (by kernel_rfl)
    (of_decide_eq_true (by kernel_rfl)) (by unfold Func.isWrapper; first | (rw [if_pos (by decide +kernel)]; kernel_rfl) | (rw [if_neg (by decide +kernel)]; exact ⟨rfl, rfl⟩))
    (fun os started H enc _ => lifted os started H enc)
end AngleRoundL

theorem angleRound_proved : Rows.AngleRoundSaid := AngleRoundL.over
#print axioms angleRound_proved
end Go.Proofs.Ytoidoikapminfaa
