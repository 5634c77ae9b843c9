/-
  Proved: sums, differences, products and quotients rise with the number, also where they stop (the law FixRises answers true at every input).
  Conditions: none.
-/
import Derived.Test.YtiboaphhkdgniaaRows
import Derived.Test.YtiboaphhkdgniaaAlive
import Derived.Test.YtiboaphhkdgniaaDiv
import Derived.WalkKit
import Derived.ProofKit
import Derived.OpenShut
import Derived.Test.YtiboaphhkdgniaaArr
namespace Go.Proofs.Ytiboaphhkdgniaa
open Go.ChangeShapes Go.WideShapes Go.ChangeAt Go.RowKit
set_option linter.unusedVariables false

namespace FixRisesL
theorem own : ownKnob Try.prog.godebug = none := by kernel_rfl
theorem walk (a b c : Int) (wa : (Lit.int .i64 a).wf = true) (wb : (Lit.int .i64 b).wf = true) (wc : (Lit.int .i64 c).wf = true) (w : World) :
    Calls Try.prog 9 #[.int .i64 a, .int .i64 b, .int .i64 c] w fun e w' => e = .returned (.bool true) ∧ Grown w w' := by
  have ha := wf_R64 wa
  have hb := wf_R64 wb
  have hc := wf_R64 wc
  clear wa wb wc
  obtain ⟨L, hL⟩ : ∃ L, min a b = L := ⟨_, rfl⟩
  obtain ⟨U, hU⟩ : ∃ U, max a b = U := ⟨_, rfl⟩
  obtain ⟨K, hK⟩ : ∃ K, max 0 c = K := ⟨_, rfl⟩
  have rL : R64 L := by unfold R64 at *; omega
  have rU : R64 U := by unfold R64 at *; omega
  have rK : R64 K := by unfold R64 at *; omega
  have hLU : L ≤ U := by omega
  have hK0 : 0 ≤ K := by omega
  have t1 : sat (L + c) ≤ sat (U + c) := sat_mono (by omega)
  have t2 : sat (L - c) ≤ sat (U - c) := sat_mono (by omega)
  have t3 : sat (L * K / 65536) ≤ sat (U * K / 65536) := sat_mono (Int.ediv_le_ediv (by decide) (Int.mul_le_mul_of_nonneg_right hLU hK0))
  have t4 : K ≠ 0 → sat (divI L K) ≤ sat (divI U K) := by
    intro h
    apply sat_mono
    unfold divI
    rw [if_neg (by omega), if_neg (by omega)]
    exact Int.ediv_le_ediv (by omega) (by omega)
  have T4 := (show Hid _ from t4)
  clear t4
  go_enter Try.func9, Try.ntmps9
  go_wp2_with fail
  refine (alive_any _).mono ?_; rintro e w1 ⟨rfl, g1⟩
  go_wp2_with fail
  refine (add_any L c rL hc _).mono ?_; rintro e w2 ⟨rfl, g2⟩
  go_wp2_with fail
  refine (add_any U c rU hc _).mono ?_; rintro e w3 ⟨rfl, g3⟩
  go_wp2_with fail
  refine (sub_any L c rL hc _).mono ?_; rintro e w4 ⟨rfl, g4⟩
  go_wp2_with fail
  refine (sub_any U c rU hc _).mono ?_; rintro e w5 ⟨rfl, g5⟩
  go_wp2_with fail
  refine (mul_any L K rL rK _).mono ?_; rintro e w6 ⟨rfl, g6⟩
  go_wp2_with fail
  refine (mul_any U K rU rK _).mono ?_; rintro e w7 ⟨rfl, g7⟩
  have gg := (((((g1.then g2).then g3).then g4).then g5).then g6).then g7
  clear g1 g2 g3 g4 g5 g6 g7
  by_cases k0 : K = 0
  · subst k0
    go_wp2_with fail
    go_ret
    exact ⟨rfl, gg.grown⟩
  · have c1 : (K == 0) = false := by simpa using k0
    have t4 := T4.out k0
    go_wp2_with fail
    refine (div_any L K rL rK k0 _).mono ?_; rintro e w8 ⟨rfl, g8⟩
    go_wp2_with fail
    refine (div_any U K rU rK k0 _).mono ?_; rintro e w9 ⟨rfl, g9⟩
    go_wp2_with fail
    go_ret
    exact ⟨rfl, ((gg.then g8).then g9).grown⟩

set_option maxRecDepth 100000 in
theorem lifted (os : Os) (started : os.Started) (H : Type) (enc : TypeId × Value → H) :
    ReturnsInHanded {} Try.checked os 9 .any (Rows.fixRisesSpec.pre6 enc Try.prog Try.f9 Rows.fixRisesRow.domain false) (Rows.fixRisesSpec.post enc Try.prog Try.f9 false true false false) := by
  refine returnsInHanded_of_change (C := Try.checked) own started (by kernel_rfl) Try.func9
    (ChangeSpec.witness6 (enc := enc) (C := Try.checked) false ⟨#[], #[.int .i64 0, .int .i64 0, .int .i64 0], []⟩ 8 (by kernel_rfl) (by kernel_rfl) (by kernel_rfl) (by kernel_rfl)) ?_
  intro W base args ds gs before hval0 hW hcnd _
  have hval : ∀ (j : Nat) t v, Try.f9.params[j]? = some t → args[j]? = some v → Value.okWide Try.prog W .any base t v := hval0
  have hW' := hW
  obtain ⟨p, q, hA0, hV, rfl, hfz, hnd⟩ := hW
  have hA : DataW.TrodAll enc Try.prog W 0 (fun _ => true) true Try.f9.params.toList args.toList ds p := hA0
  rw [Try.params9] at hA hval
  obtain ⟨v0, vs0, d0, ds0, p0, q0, hargs, rfl, rfl, h0, r0⟩ := trodAll_cons hA
  obtain ⟨v1, vs1, d1, ds1, p1, q1, rfl, rfl, rfl, h1, r1⟩ := trodAll_cons r0
  obtain ⟨v2, vs2, d2, ds2, p2, q2, rfl, rfl, rfl, h2, r2⟩ := trodAll_cons r1
  obtain ⟨rfl, rfl, rfl⟩ := trodAll_nil r2
  obtain rfl : args = #[v0, v1, v2] := by cases args; simp_all
  obtain ⟨rfl, rfl⟩ := trodVars_none hV
  obtain ⟨a0, rfl, rfl, rfl, w0⟩ := open_int Try.underlying2 (hval 0 2 v0 rfl rfl) h0
  obtain ⟨a1, rfl, rfl, rfl, w1⟩ := open_int Try.underlying2 (hval 1 2 v1 rfl rfl) h1
  obtain ⟨a2, rfl, rfl, rfl, w2⟩ := open_int Try.underlying2 (hval 2 2 v2 rfl rfl) h2
  clear hA0 hval0
  simp only [List.append_nil] at hW'
  refine (walk a0 a1 a2 w0 w1 w2 W).mono fun e W' ⟨he, hg⟩ => ?_
  subst he
  exact ⟨_, rfl, post_of_same (pa := []) (pv := []) hW' (fun _ _ _ => (trodAll_cons_mk (shut_bool Try.underlying4 _) trodAll_mk0)) (fun sp _ => (trodAll_cons_mk (shut_int Try.underlying2 w0) (trodAll_cons_mk (shut_int Try.underlying2 w1) (trodAll_cons_mk (shut_int Try.underlying2 w2) trodAll_mk0)))) (fun _ _ => rfl) rfl
    (hg.frame _) hg.2.1 (ok_one (by kernel_rfl) rfl (okWide_bool_mk Try.underlying4 _))⟩

theorem over : Rows.fixRisesRow.holds Try.pinned (OpenSpec.ofChange Rows.fixRisesSpec) :=
  OpenClaim.holds_of_wide 9 Try.f9 rfl rfl rfl rfl rfl rfl rfl ⟨rfl, rfl, rfl, rfl, rfl⟩ rfl rfl rfl rfl rfl (by kernel_rfl) Try.func9 (by kernel_rfl)
    (of_decide_eq_true (by kernel_rfl)) (by unfold Func.isWrapper; first | (rw [if_pos (by decide +kernel)]; kernel_rfl) | (rw [if_neg (by decide +kernel)]; exact ⟨rfl, rfl⟩))
    (fun os started H enc _ => lifted os started H enc)
end FixRisesL

theorem fixRises_proved : Rows.FixRisesSaid := FixRisesL.over
#print axioms fixRises_proved
end Go.Proofs.Ytiboaphhkdgniaa
