/-
  Proved: no angle on the way of two is further from the first one than the other one is (the law AngleShort answers true at every input).
  Conditions: none.
-/
import Derived.Test.YtoidoikapminfaaRows
import Derived.Test.YtoidoikapminfaaAngle3
import Derived.WalkKit
import Derived.ProofKit
import Derived.OpenShut
import Derived.Test.YtoidoikapminfaaArr
namespace Go.Proofs.Ytoidoikapminfaa
open Go.ChangeShapes Go.WideShapes Go.ChangeAt Go.RowKit
set_option linter.unusedVariables false

namespace AngleShortL
theorem own : ownKnob Try.prog.godebug = none := by kernel_rfl
theorem size_any (d : Int) (h1 : -32768 ≤ d) (h2 : d ≤ 32767) (w : World) :
    Calls Try.prog 20 #[.int .i64 d] w fun e w' => e = .returned (.int .i64 (sizeI d)) ∧ w' = w := by
  have e1 : wrap64 (-d) = -d := wrap64_of _ _ 0 (by omega) (by unfold R64; omega)
  go_enter Try.func20, Try.ntmps20
  go_wp2
  go_ret
  exact ⟨rfl, rfl⟩
theorem walk (x a b : Int) (vx : (Lit.int .u16 x).wf = true) (va : (Lit.int .u16 a).wf = true) (vb : (Lit.int .u16 b).wf = true) (w : World) :
    Calls Try.prog 7 #[.int .u16 x, .int .u16 a, .int .u16 b] w fun e w' => e = .returned (.bool true) ∧ Grown w w' := by
  have hx := wf_U16 vx
  have ha := wf_U16 va
  have hb := wf_U16 vb
  clear vx va vb
  cases ho : onB x a b
  · obtain ⟨n1, n2⟩ := off_ends x a b ho
    have HO := (show Hid _ from ho); clear ho
    go_enter Try.func7, Try.ntmps7
    go_wp2_with fail
    refine (abetween_any x a b _).mono ?_; rw [HO.out]; rintro e w1 ⟨rfl, rfl⟩
    go_wp2_with fail
    refine (aalive_any _).mono ?_; rintro e w2 ⟨rfl, g2⟩
    go_wp2_with fail
    go_ret
    exact ⟨ret_bool (by simp [n1, n2]), g2.grown⟩
  · obtain ⟨p, hp⟩ : ∃ p, wayI a x = p := ⟨_, rfl⟩
    obtain ⟨q, hq⟩ : ∃ q, wayI a b = q := ⟨_, rfl⟩
    have p1 : -32768 ≤ p ∧ p ≤ 32767 := hp ▸ way_bd a x
    have q1 : -32768 ≤ q ∧ q ≤ 32767 := hq ▸ way_bd a b
    have s1 : sizeI p ≤ sizeI q := hp ▸ hq ▸ on_size x a b ho
    have z1 : q = 0 → x = a := hq ▸ on_none x a b ha hx ho
    obtain ⟨p1, p2⟩ := p1
    obtain ⟨q1, q2⟩ := q1
    have HO := (show Hid _ from ho); have HP := (show Hid _ from hp); have HQ := (show Hid _ from hq); have HZ := (show Hid _ from z1)
    clear ho hp hq z1
    go_enter Try.func7, Try.ntmps7
    go_wp2_with fail
    refine (abetween_any x a b _).mono ?_; rw [HO.out]; rintro e w1 ⟨rfl, rfl⟩
    go_wp2_with fail
    refine (aalive_any _).mono ?_; rintro e w2 ⟨rfl, g2⟩
    go_wp2_with fail
    refine (diff_any a x _).mono ?_; rw [HP.out]; rintro e w3 ⟨rfl, rfl⟩
    go_wp2_with fail
    refine (size_any p p1 p2 _).mono ?_; rintro e w4 ⟨rfl, rfl⟩
    go_wp2_with fail
    refine (diff_any a b _).mono ?_; rw [HQ.out]; rintro e w5 ⟨rfl, rfl⟩
    go_wp2_with fail
    refine (size_any q q1 q2 _).mono ?_; rintro e w6 ⟨rfl, rfl⟩
    go_wp2_with fail
    refine (diff_any a b _).mono ?_; rw [HQ.out]; rintro e w7 ⟨rfl, rfl⟩
    by_cases hz : q = 0
    · obtain rfl := HZ.out hz
      subst hz
      go_wp2_with fail
      go_ret
      exact ⟨rfl, g2.grown⟩
    · go_wp2_with fail
      go_ret
      exact ⟨rfl, g2.grown⟩

set_option maxRecDepth 100000 in
theorem lifted (os : Os) (started : os.Started) (H : Type) (enc : TypeId × Value → H) :
    ReturnsInHanded {} Try.checked os 7 .any (Rows.angleShortSpec.pre6 enc Try.prog Try.f7 Rows.angleShortRow.domain false) (Rows.angleShortSpec.post enc Try.prog Try.f7 false true false false) := by
  refine returnsInHanded_of_change (C := Try.checked) own started (by kernel_rfl) Try.func7
    (ChangeSpec.witness6 (enc := enc) (C := Try.checked) false ⟨#[], #[.int .u16 0, .int .u16 0, .int .u16 0], []⟩ 8 (by kernel_rfl) (by kernel_rfl) (by kernel_rfl) (by kernel_rfl)) ?_
  intro W base args ds gs before hval0 hW hcnd _
  have hval : ∀ (j : Nat) t v, Try.f7.params[j]? = some t → args[j]? = some v → Value.okWide Try.prog W .any base t v := hval0
  have hW' := hW
  obtain ⟨p, q, hA0, hV, rfl, hfz, hnd⟩ := hW
  have hA : DataW.TrodAll enc Try.prog W 0 (fun _ => true) true Try.f7.params.toList args.toList ds p := hA0
  rw [Try.params7] at hA hval
  obtain ⟨v0, vs0, d0, ds0, p0, q0, hargs, rfl, rfl, h0, r0⟩ := trodAll_cons hA
  obtain ⟨v1, vs1, d1, ds1, p1, q1, rfl, rfl, rfl, h1, r1⟩ := trodAll_cons r0
  obtain ⟨v2, vs2, d2, ds2, p2, q2, rfl, rfl, rfl, h2, r2⟩ := trodAll_cons r1
  obtain ⟨rfl, rfl, rfl⟩ := trodAll_nil r2
  obtain rfl : args = #[v0, v1, v2] := by cases args; simp_all
  obtain ⟨rfl, rfl⟩ := trodVars_none hV
  obtain ⟨a0, rfl, rfl, rfl, w0⟩ := open_int Try.underlying22 (hval 0 22 v0 rfl rfl) h0
  obtain ⟨a1, rfl, rfl, rfl, w1⟩ := open_int Try.underlying22 (hval 1 22 v1 rfl rfl) h1
  obtain ⟨a2, rfl, rfl, rfl, w2⟩ := open_int Try.underlying22 (hval 2 22 v2 rfl rfl) h2
  clear hA0 hval0
  simp only [List.append_nil] at hW'
  refine (walk a0 a1 a2 w0 w1 w2 W).mono fun e W' ⟨he, hg⟩ => ?_
  subst he
  exact ⟨_, rfl, post_of_same (pa := []) (pv := []) hW' (fun _ _ _ => (trodAll_cons_mk (shut_bool Try.underlying4 _) trodAll_mk0)) (fun sp _ => (trodAll_cons_mk (shut_int Try.underlying22 w0) (trodAll_cons_mk (shut_int Try.underlying22 w1) (trodAll_cons_mk (shut_int Try.underlying22 w2) trodAll_mk0)))) (fun _ _ => rfl) rfl
    (hg.frame _) hg.2.1 (ok_one (by kernel_rfl) rfl (okWide_bool_mk Try.underlying4 _))⟩

theorem over : Rows.angleShortRow.holds Try.pinned (OpenSpec.ofChange Rows.angleShortSpec) :=
  OpenClaim.holds_of_wide 7 Try.f7 rfl rfl rfl rfl rfl rfl rfl ⟨rfl, rfl, rfl, rfl, rfl⟩ rfl rfl rfl rfl rfl (by kernel_rfl) Try.func7 (by kernel_rfl)
    (of_decide_eq_true (by kernel_rfl)) (by unfold Func.isWrapper; first | (rw [if_pos (by decide +kernel)]; kernel_rfl) | (rw [if_neg (by decide +kernel)]; exact ⟨rfl, rfl⟩))
    (fun os started H enc _ => lifted os started H enc)
end AngleShortL

theorem angleShort_proved : Rows.AngleShortSaid := AngleShortL.over
#print axioms angleShort_proved
end Go.Proofs.Ytoidoikapminfaa
