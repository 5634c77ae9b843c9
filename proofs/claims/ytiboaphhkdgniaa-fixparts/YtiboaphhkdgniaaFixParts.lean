/-
  Proved: a part of One is that part, the rest is the rest or one less, greater parts are not less (the law FixParts answers true at every input).
  Conditions: none.
-/
import Derived.Test.YtiboaphhkdgniaaRows
import Derived.Test.YtiboaphhkdgniaaBetween
import Derived.WalkKit
import Derived.ProofKit
import Derived.OpenShut
import Derived.Test.YtiboaphhkdgniaaArr
namespace Go.Proofs.Ytiboaphhkdgniaa
open Go.ChangeShapes Go.WideShapes Go.ChangeAt Go.RowKit
set_option linter.unusedVariables false

namespace FixPartsL
theorem own : ownKnob Try.prog.godebug = none := by kernel_rfl
theorem cells_a2 : Try.prog.cellsOf 26 = 2 := by kernel_rfl
theorem cells_e : Try.prog.cellsOf 2 = 1 := by kernel_rfl
theorem part_facts {A B D : Int} (hA : fineB A D = true) (hB : fineB B D = true) :
    lerpI 0 65536 A D = A * 65536 / D ∧ 0 ≤ A * 65536 / D ∧ A * 65536 / D ≤ 65536 ∧ (A ≤ B → A * 65536 / D ≤ B * 65536 / D) ∧ (B ≤ A → B * 65536 / D ≤ A * 65536 / D) ∧
      (A * 65536 / D + (D - A) * 65536 / D = 65536 ∨ A * 65536 / D + (D - A) * 65536 / D = 65535) ∧ 0 ≤ (D - A) * 65536 / D ∧ (D - A) * 65536 / D ≤ 65536 := by
  obtain ⟨h1, h2, h3, h4⟩ := fineB_true hA
  obtain ⟨k1, k2, k3, k4⟩ := fineB_true hB
  have e1 : (D - A) * 65536 = -(A * 65536) + 65536 * D := by omega
  have e2 : (D - A) * 65536 / D = -(A * 65536) / D + 65536 := by rw [e1, Int.add_mul_ediv_right _ _ (by omega)]
  have a1 := Int.mul_ediv_add_emod (A * 65536) D
  have a2 := Int.emod_nonneg (A * 65536) (show D ≠ 0 by omega)
  have a3 := Int.emod_lt_of_pos (A * 65536) (show 0 < D by omega)
  have b1 := Int.mul_ediv_add_emod (-(A * 65536)) D
  have b2 := Int.emod_nonneg (-(A * 65536)) (show D ≠ 0 by omega)
  have b3 := Int.emod_lt_of_pos (-(A * 65536)) (show 0 < D by omega)
  have c0 : 0 ≤ A * 65536 / D := Int.ediv_nonneg (by omega) (by omega)
  have c1 : A * 65536 / D ≤ 65536 := Int.ediv_le_of_le_mul (by omega) (by omega)
  have d0 : 0 ≤ (D - A) * 65536 / D := Int.ediv_nonneg (by omega) (by omega)
  have d1 : (D - A) * 65536 / D ≤ 65536 := Int.ediv_le_of_le_mul (by omega) (by omega)
  have key : A * 65536 / D + -(A * 65536) / D = 0 ∨ A * 65536 / D + -(A * 65536) / D = -1 := by
    have e : D * (A * 65536 / D + -(A * 65536) / D) = -(A * 65536 % D + (-(A * 65536)) % D) := by rw [Int.mul_add]; omega
    by_cases p1 : A * 65536 / D + -(A * 65536) / D ≤ -2
    · have : D * (A * 65536 / D + -(A * 65536) / D) ≤ D * (-2) := Int.mul_le_mul_of_nonneg_left p1 (by omega)
      omega
    · by_cases p2 : 1 ≤ A * 65536 / D + -(A * 65536) / D
      · have : D * 1 ≤ D * (A * 65536 / D + -(A * 65536) / D) := Int.mul_le_mul_of_nonneg_left p2 (by omega)
        omega
      · omega
  refine ⟨?_, c0, c1, fun h => Int.ediv_le_ediv (by omega) (by omega), fun h => Int.ediv_le_ediv (by omega) (by omega), by omega, d0, d1⟩
  unfold lerpI
  rw [Int.zero_add, Int.sub_zero, Int.mul_comm]
set_option maxHeartbeats 1000000 in
theorem walk (p0 p1 d : Int) (w0 : (Lit.int .i64 p0).wf = true) (w1 : (Lit.int .i64 p1).wf = true) (wd : (Lit.int .i64 d).wf = true) (w : World) :
    Calls Try.prog 10 #[.agg #[.int .i64 p0, .int .i64 p1], .int .i64 d] w fun e w' => e = .returned (.bool true) ∧ Grown w w' := by
  clear w0 w1 wd
  obtain ⟨z, hz⟩ : ∃ z, IntKind.u64.wrap d = z := ⟨_, rfl⟩
  obtain ⟨u, hu⟩ : ∃ u, IntKind.u64.wrap p0 = u := ⟨_, rfl⟩
  obtain ⟨v, hv⟩ : ∃ v, IntKind.u64.wrap p1 = v := ⟨_, rfl⟩
  have z0 : 0 ≤ z ∧ z ≤ 18446744073709551615 := by rw [← hz, u64_eq]; omega
  obtain ⟨z0, z1⟩ := z0
  have u0 : 0 ≤ u ∧ u ≤ 18446744073709551615 := by rw [← hu, u64_eq]; omega
  obtain ⟨u0, u1⟩ := u0
  have v0 : 0 ≤ v ∧ v ≤ 18446744073709551615 := by rw [← hv, u64_eq]; omega
  obtain ⟨v0, v1⟩ := v0
  obtain ⟨D, hD⟩ : ∃ D, z % 4611686018427387904 + 1 = D := ⟨_, rfl⟩
  have f3 : 1 ≤ D := by omega
  have f4 : D ≤ 4611686018427387904 := by omega
  obtain ⟨A, hA, A0, A1⟩ := mod_fine u D f3 f4
  obtain ⟨B, hB, B0, B1⟩ := mod_fine v D f3 f4
  have hf1 := fineB_mk A0 A1 f3 f4
  have hf2 := fineB_mk B0 B1 f3 f4
  have hf3 := fineB_mk (show 0 ≤ D - A by omega) (show D - A ≤ D by omega) f3 f4
  have r0 : R64 0 := by unfold R64; omega
  have r1 : R64 65536 := by unfold R64; omega
  obtain ⟨e3, c0, c1, m1, m2, x1, d0, d1⟩ := part_facts hf1 hf2
  obtain ⟨X, hX⟩ : ∃ X, A * 65536 / D = X := ⟨_, rfl⟩
  obtain ⟨Y, hY⟩ : ∃ Y, B * 65536 / D = Y := ⟨_, rfl⟩
  obtain ⟨V, hV⟩ : ∃ V, (D - A) * 65536 / D = V := ⟨_, rfl⟩
  rw [hX] at e3 c0 c1 m1 m2 x1
  rw [hY] at m1 m2
  rw [hV] at x1 d0 d1
  have HA := (show Hid _ from hA)
  have HB := (show Hid _ from hB)
  have HX := (show Hid _ from hX)
  have HY := (show Hid _ from hY)
  have HV := (show Hid _ from hV)
  have M1 := (show Hid _ from m1)
  have M2 := (show Hid _ from m2)
  have E3 := (show Hid _ from e3)
  clear hA hB hX hY hV m1 m2 e3
  go_enter Try.func10, Try.ntmps10
  go_wp2_with fail
  go_quiet (fail)
  go_wp2_with fail
  rw [HA.out, HB.out]
  clear hz hu hv hD u0 u1 v0 v1 z0 z1
  refine (part_any A D hf1 _).mono ?_; rw [HX.out]; rintro e w2 ⟨rfl, g2⟩
  go_wp2_with fail
  refine (part_any B D hf2 _).mono ?_; rw [HY.out]; rintro e w3 ⟨rfl, g3⟩
  go_wp2_with fail
  refine (lerp_any 0 65536 A D r0 r1 hf1 _).mono ?_; rw [E3.out]; rintro e w4 ⟨rfl, g4⟩
  go_wp2_with fail
  refine (part_any (D - A) D hf3 _).mono ?_; rw [HV.out]; rintro e w5 ⟨rfl, g5⟩
  have gg := (((((Gr.refl _ _).alloc (Nat.le_refl _) _ _).drewN _).then g2).then g3).then g4 |>.then g5
  clear g2 g3 g4 g5
  rcases x1 with x1 | x1
  all_goals
    by_cases hs : A ≤ B
    · have t1 := M1.out hs
      go_wp2_with fail
      refine (alive_any _).mono ?_; rintro e w6 ⟨rfl, g6⟩
      go_wp2_with fail
      go_ret
      exact ⟨rfl, (gg.then g6).grown⟩
    · have t0 : B ≤ A := by omega
      have t1 := M2.out t0
      go_wp2_with fail
      refine (alive_any _).mono ?_; rintro e w6 ⟨rfl, g6⟩
      go_wp2_with fail
      go_ret
      exact ⟨rfl, (gg.then g6).grown⟩

set_option maxRecDepth 100000 in
theorem lifted (os : Os) (started : os.Started) (H : Type) (enc : TypeId × Value → H) :
    ReturnsInHanded {} Try.checked os 10 .any (Rows.fixPartsSpec.pre6 enc Try.prog Try.f10 Rows.fixPartsRow.domain false) (Rows.fixPartsSpec.post enc Try.prog Try.f10 false true false false) := by
  refine returnsInHanded_of_change (C := Try.checked) own started (by kernel_rfl) Try.func10
    (ChangeSpec.witness6 (enc := enc) (C := Try.checked) false ⟨#[], #[.agg #[.int .i64 0, .int .i64 0], .int .i64 0], []⟩ 8 (by kernel_rfl) (by kernel_rfl) (by kernel_rfl) (by kernel_rfl)) ?_
  intro W base args ds gs before hval0 hW hcnd _
  have hval : ∀ (j : Nat) t v, Try.f10.params[j]? = some t → args[j]? = some v → Value.okWide Try.prog W .any base t v := hval0
  have hW' := hW
  obtain ⟨p, q, hA0, hV, rfl, hfz, hnd⟩ := hW
  have hA : DataW.TrodAll enc Try.prog W 0 (fun _ => true) true Try.f10.params.toList args.toList ds p := hA0
  rw [Try.params10] at hA hval
  obtain ⟨v0, vs0, d0, ds0, p0, q0, hargs, rfl, rfl, h0, r0⟩ := trodAll_cons hA
  obtain ⟨v1, vs1, d1, ds1, p1, q1, rfl, rfl, rfl, h1, r1⟩ := trodAll_cons r0
  obtain ⟨rfl, rfl, rfl⟩ := trodAll_nil r1
  obtain rfl : args = #[v0, v1] := by cases args; simp_all
  obtain ⟨rfl, rfl⟩ := trodVars_none hV
  obtain ⟨a00, a01, rfl, rfl, rfl, w00, w01⟩ := open_arr2 Try.underlying26 Try.underlying2 cells_a2 cells_e (hval 0 26 v0 rfl rfl) h0
  obtain ⟨a1, rfl, rfl, rfl, w1⟩ := open_int Try.underlying2 (hval 1 2 v1 rfl rfl) h1
  clear hA0 hval0
  simp only [List.append_nil] at hW'
  refine (walk a00 a01 a1 w00 w01 w1 W).mono fun e W' ⟨he, hg⟩ => ?_
  subst he
  exact ⟨_, rfl, post_of_same (pa := []) (pv := []) hW' (fun _ _ _ => (trodAll_cons_mk (shut_bool Try.underlying4 _) trodAll_mk0)) (fun sp _ => (trodAll_cons_mk (shut_arr2 Try.underlying26 Try.underlying2 cells_a2 cells_e w00 w01) (trodAll_cons_mk (shut_int Try.underlying2 w1) trodAll_mk0))) (fun _ _ => rfl) rfl
    (hg.frame _) hg.2.1 (ok_one (by kernel_rfl) rfl (okWide_bool_mk Try.underlying4 _))⟩

theorem over : Rows.fixPartsRow.holds Try.pinned (OpenSpec.ofChange Rows.fixPartsSpec) :=
  OpenClaim.holds_of_wide 10 Try.f10 rfl rfl rfl rfl rfl rfl rfl ⟨rfl, rfl, rfl, rfl, rfl⟩ rfl rfl rfl rfl rfl (by kernel_rfl) Try.func10 (by kernel_rfl)
    (of_decide_eq_true (by kernel_rfl)) (by unfold Func.isWrapper; first | (rw [if_pos (by decide +kernel)]; kernel_rfl) | (rw [if_neg (by decide +kernel)]; exact ⟨rfl, rfl⟩))
    (fun os started H enc _ => lifted os started H enc)
end FixPartsL

theorem fixParts_proved : Rows.FixPartsSaid := FixPartsL.over
#print axioms fixParts_proved
end Go.Proofs.Ytiboaphhkdgniaa
