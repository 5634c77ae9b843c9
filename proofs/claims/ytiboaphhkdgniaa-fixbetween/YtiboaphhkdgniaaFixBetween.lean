/-
  Proved: a number a part of the way is between both ends, at both ends it is these, and it goes on with the part (the law FixBetween answers true at every input).
  Conditions: none.
-/
import Derived.Test.YtiboaphhkdgniaaRows
import Derived.Test.YtiboaphhkdgniaaBetween
import Derived.WalkKit
import Derived.ProofKit
import Derived.OpenShut
import Derived.Test.YtiboaphhkdgniaaArr
namespace Go.Proofs.Ytiboaphhkdgniaa
open Go.ChangeShapes Go.WideShapes Go.ChangeAt Go.RowKit
set_option linter.unusedVariables false

namespace FixBetweenL
theorem own : ownKnob Try.prog.godebug = none := by kernel_rfl
theorem cells_a3 : Try.prog.cellsOf 35 = 3 := by kernel_rfl
theorem cells_e : Try.prog.cellsOf 2 = 1 := by kernel_rfl
set_option maxHeartbeats 1000000 in
theorem walk (a b p0 p1 p2 : Int) (wa : (Lit.int .i64 a).wf = true) (wb : (Lit.int .i64 b).wf = true) (w0 : (Lit.int .i64 p0).wf = true) (w1 : (Lit.int .i64 p1).wf = true) (w2 : (Lit.int .i64 p2).wf = true) (w : World) :
    Calls Try.prog 7 #[.int .i64 a, .int .i64 b, .agg #[.int .i64 p0, .int .i64 p1, .int .i64 p2]] w fun e w' => e = .returned (.bool true) ∧ Grown w w' := by
  have ha := wf_R64 wa
  have hb := wf_R64 wb
  clear wa wb w0 w1 w2
  obtain ⟨z, hz⟩ : ∃ z, IntKind.u64.wrap p2 = z := ⟨_, rfl⟩
  have z0 : 0 ≤ z ∧ z ≤ 18446744073709551615 := by rw [← hz, u64_eq]; omega
  obtain ⟨z0, z1⟩ := z0
  go_enter Try.func7, Try.ntmps7
  go_wp2_with fail
  refine (fine_any p0 p1 _).mono ?_; rintro e w1 ⟨⟨num, den, rfl, hf⟩, g1⟩
  have c1 := g1.cell
  obtain ⟨f1, f2, f3, f4⟩ := fineB_true hf
  obtain ⟨M, hM, M0, M1⟩ := mod_fine z den f3 f4
  have hf2 := fineB_mk M0 M1 f3 f4
  have hf3 := fineB_mk (Int.le_refl 0) (by omega : (0:Int) ≤ den) f3 f4
  have hf4 := fineB_mk (by omega : (0:Int) ≤ den) (Int.le_refl den) f3 f4
  go_wp2_with fail
  rw [hM]
  clear hM hz z0 z1
  obtain ⟨X, hX⟩ : ∃ X, lerpI a b num den = X := ⟨_, rfl⟩
  obtain ⟨Y, hY⟩ : ∃ Y, lerpI a b M den = Y := ⟨_, rfl⟩
  obtain ⟨b1, b2⟩ : min a b ≤ X ∧ X ≤ max a b := hX ▸ lerp_btw a b hf
  have mu : a ≤ b → num ≤ M → X ≤ Y := fun h1 h2 => hX ▸ hY ▸ lerp_up a b den f3 h1 h2
  have mu' : a ≤ b → M ≤ num → Y ≤ X := fun h1 h2 => hX ▸ hY ▸ lerp_up a b den f3 h1 h2
  have md : b ≤ a → num ≤ M → Y ≤ X := fun h1 h2 => hX ▸ hY ▸ lerp_down a b den f3 h1 h2
  have md' : b ≤ a → M ≤ num → X ≤ Y := fun h1 h2 => hX ▸ hY ▸ lerp_down a b den f3 h1 h2
  have e3 := lerp_zero a b den
  have e4 := lerp_den a b den f3
  refine (lerp_any a b num den ha hb hf _).mono ?_; rw [hX]; rintro e w2 ⟨rfl, g2⟩
  clear c1
  go_wp2_with fail
  refine (lerp_any a b M den ha hb hf2 _).mono ?_; rw [hY]; rintro e w3 ⟨rfl, g3⟩
  go_wp2_with fail
  refine (lerp_any a b 0 den ha hb hf3 _).mono ?_; rw [e3]; rintro e w4 ⟨rfl, g4⟩
  go_wp2_with fail
  refine (lerp_any a b den den ha hb hf4 _).mono ?_; rw [e4]; rintro e w5 ⟨rfl, g5⟩
  have gg := ((((((Gr.refl _ _).alloc (Nat.le_refl _) _ _).then g1).then g2).then g3).then g4).then g5
  clear g1 g2 g3 g4 g5 hX hY e3 e4
  by_cases hs : num ≤ M
  · have mono1 := mu
    have mono2 := md
    clear mu mu' md md'
    have s1 : num ≤ M := by omega
    by_cases hab : a ≤ b
    · have t1 : X ≤ Y := mono1 hab (by omega)
      go_wp2_with fail
      refine (alive_any _).mono ?_; rintro e w6 ⟨rfl, g6⟩
      go_wp2_with fail
      go_ret
      exact ⟨rfl, (gg.then g6).grown⟩
    · have t1 : Y ≤ X := mono2 (by omega) (by omega)
      have t0 : b ≤ a := by omega
      go_wp2_with fail
      refine (alive_any _).mono ?_; rintro e w6 ⟨rfl, g6⟩
      go_wp2_with fail
      go_ret
      exact ⟨rfl, (gg.then g6).grown⟩
  · have mono1 := mu'
    have mono2 := md'
    clear mu mu' md md'
    have s1 : M < num := by omega
    by_cases hab : a ≤ b
    · have t1 : Y ≤ X := mono1 hab (by omega)
      go_wp2_with fail
      refine (alive_any _).mono ?_; rintro e w6 ⟨rfl, g6⟩
      go_wp2_with fail
      go_ret
      exact ⟨rfl, (gg.then g6).grown⟩
    · have t1 : X ≤ Y := mono2 (by omega) (by omega)
      have t0 : b ≤ a := by omega
      go_wp2_with fail
      refine (alive_any _).mono ?_; rintro e w6 ⟨rfl, g6⟩
      go_wp2_with fail
      go_ret
      exact ⟨rfl, (gg.then g6).grown⟩

set_option maxRecDepth 100000 in
theorem lifted (os : Os) (started : os.Started) (H : Type) (enc : TypeId × Value → H) :
    ReturnsInHanded {} Try.checked os 7 .any (Rows.fixBetweenSpec.pre6 enc Try.prog Try.f7 Rows.fixBetweenRow.domain false) (Rows.fixBetweenSpec.post enc Try.prog Try.f7 false true false false) := by
  refine returnsInHanded_of_change (C := Try.checked) own started (by kernel_rfl) Try.func7
    (ChangeSpec.witness6 (enc := enc) (C := Try.checked) false ⟨#[], #[.int .i64 0, .int .i64 0, .agg #[.int .i64 0, .int .i64 0, .int .i64 0]], []⟩ 8 (by kernel_rfl) (by kernel_rfl) (by kernel_rfl) (by kernel_rfl)) ?_
  intro W base args ds gs before hval0 hW hcnd _
  have hval : ∀ (j : Nat) t v, Try.f7.params[j]? = some t → args[j]? = some v → Value.okWide Try.prog W .any base t v := hval0
  have hW' := hW
  obtain ⟨p, q, hA0, hV, rfl, hfz, hnd⟩ := hW
  have hA : DataW.TrodAll enc Try.prog W 0 (fun _ => true) true Try.f7.params.toList args.toList ds p := hA0
  rw [Try.params7] at hA hval
  obtain ⟨v0, vs0, d0, ds0, p0, q0, hargs, rfl, rfl, h0, r0⟩ := trodAll_cons hA
  obtain ⟨v1, vs1, d1, ds1, p1, q1, rfl, rfl, rfl, h1, r1⟩ := trodAll_cons r0
  obtain ⟨v2, vs2, d2, ds2, p2, q2, rfl, rfl, rfl, h2, r2⟩ := trodAll_cons r1
  obtain ⟨rfl, rfl, rfl⟩ := trodAll_nil r2
  obtain rfl : args = #[v0, v1, v2] := by cases args; simp_all
  obtain ⟨rfl, rfl⟩ := trodVars_none hV
  obtain ⟨a0, rfl, rfl, rfl, w0⟩ := open_int Try.underlying2 (hval 0 2 v0 rfl rfl) h0
  obtain ⟨a1, rfl, rfl, rfl, w1⟩ := open_int Try.underlying2 (hval 1 2 v1 rfl rfl) h1
  obtain ⟨a20, a21, a22, rfl, rfl, rfl, w20, w21, w22⟩ := open_arr3 Try.underlying35 Try.underlying2 cells_a3 cells_e (hval 2 35 v2 rfl rfl) h2
  clear hA0 hval0
  simp only [List.append_nil] at hW'
  refine (walk a0 a1 a20 a21 a22 w0 w1 w20 w21 w22 W).mono fun e W' ⟨he, hg⟩ => ?_
  subst he
  exact ⟨_, rfl, post_of_same (pa := []) (pv := []) hW' (fun _ _ _ => (trodAll_cons_mk (shut_bool Try.underlying4 _) trodAll_mk0)) (fun sp _ => (trodAll_cons_mk (shut_int Try.underlying2 w0) (trodAll_cons_mk (shut_int Try.underlying2 w1) (trodAll_cons_mk (shut_arr3 Try.underlying35 Try.underlying2 cells_a3 cells_e w20 w21 w22) trodAll_mk0)))) (fun _ _ => rfl) rfl
    (hg.frame _) hg.2.1 (ok_one (by kernel_rfl) rfl (okWide_bool_mk Try.underlying4 _))⟩

theorem over : Rows.fixBetweenRow.holds Try.pinned (OpenSpec.ofChange Rows.fixBetweenSpec) :=
  OpenClaim.holds_of_wide 7 Try.f7 rfl rfl rfl rfl rfl rfl rfl ⟨rfl, rfl, rfl, rfl, rfl⟩ rfl rfl rfl rfl rfl (by kernel_rfl) Try.func7 (by kernel_rfl)
    (of_decide_eq_true (by kernel_rfl)) (by unfold Func.isWrapper; first | (rw [if_pos (by decide +kernel)]; kernel_rfl) | (rw [if_neg (by decide +kernel)]; exact ⟨rfl, rfl⟩))
    (fun os started H enc _ => lifted os started H enc)
end FixBetweenL

theorem fixBetween_proved : Rows.FixBetweenSaid := FixBetweenL.over
#print axioms fixBetween_proved
end Go.Proofs.Ytiboaphhkdgniaa
