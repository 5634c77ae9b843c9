/-
  Proved: an angle a part of the way is on it, nearer with a greater part; at the ends it is the ends (the law AngleHalves answers true at every input).
  Conditions: none.
-/
import Derived.Test.YtoidoikapminfaaRows
import Derived.Test.YtoidoikapminfaaAngle3
import Derived.Test.YtoidoikapminfaaBlk
import Derived.WalkKit
import Derived.ProofKit
import Derived.OpenShut
import Derived.Test.YtoidoikapminfaaArr
namespace Go.Proofs.Ytoidoikapminfaa
open Go.ChangeShapes Go.WideShapes Go.ChangeAt Go.RowKit
set_option linter.unusedVariables false

namespace AngleHalvesL
theorem own : ownKnob Try.prog.godebug = none := by kernel_rfl
theorem cells_a3 : Try.prog.cellsOf 36 = 3 := by kernel_rfl
theorem cells_e : Try.prog.cellsOf 2 = 1 := by kernel_rfl
theorem size_any (d : Int) (h1 : -32768 ≤ d) (h2 : d ≤ 32767) (w : World) :
    Calls Try.prog 21 #[.int .i64 d] w fun e w' => e = .returned (.int .i64 (sizeI d)) ∧ w' = w := by
  have e1 : wrap64 (-d) = -d := wrap64_of _ _ 0 (by omega) (by unfold R64; omega)
  go_enter Try.func21, Try.ntmps21
  go_wp2
  go_ret
  exact ⟨rfl, rfl⟩
set_option maxHeartbeats 4000000 in
theorem walk (a b n0 n1 n2 : Int) (va : (Lit.int .u16 a).wf = true) (vb : (Lit.int .u16 b).wf = true) (v0 : (Lit.int .i64 n0).wf = true) (v1 : (Lit.int .i64 n1).wf = true) (v2 : (Lit.int .i64 n2).wf = true) (w : World) :
    Calls Try.prog 8 #[.int .u16 a, .int .u16 b, .agg #[.int .i64 n0, .int .i64 n1, .int .i64 n2]] w fun e w' => e = .returned (.bool true) ∧ Grown w w' := by
  have ha := wf_U16 va
  have hb := wf_U16 vb
  clear va vb v0 v1 v2
  obtain ⟨H, hH⟩ : ∃ H, w.heap.size = H := ⟨_, rfl⟩
  obtain ⟨u, hu⟩ : ∃ u, IntKind.u64.wrap n2 = u := ⟨_, rfl⟩
  obtain ⟨v, hv⟩ : ∃ v, IntKind.u64.wrap n0 = v := ⟨_, rfl⟩
  obtain ⟨t, ht⟩ : ∃ t, IntKind.u64.wrap n1 = t := ⟨_, rfl⟩
  have u0 : 0 ≤ u ∧ u ≤ 18446744073709551615 := by rw [← hu, u64_eq]; omega
  have v0 : 0 ≤ v ∧ v ≤ 18446744073709551615 := by rw [← hv, u64_eq]; omega
  have t0 : 0 ≤ t ∧ t ≤ 18446744073709551615 := by rw [← ht, u64_eq]; omega
  obtain ⟨u0, u1⟩ := u0
  obtain ⟨v0, v1⟩ := v0
  obtain ⟨t0, t1⟩ := t0
  obtain ⟨D, hD⟩ : ∃ D, u % 4611686018427387904 + 1 = D := ⟨_, rfl⟩
  have D0 : 1 ≤ D := by omega
  have D1 : D ≤ 4611686018427387904 := by omega
  obtain ⟨M, hM, M0, M1⟩ := mod_fine v D D0 D1
  obtain ⟨N, hN, N0, N1⟩ := mod_fine t D D0 D1
  obtain ⟨P, hP⟩ : ∃ P, min M N = P := ⟨_, rfl⟩
  obtain ⟨Q, hQ⟩ : ∃ Q, max M N = Q := ⟨_, rfl⟩
  have fP : fineB P D = true := fineB_mk (by omega) (by omega) D0 D1
  have fQ : fineB Q D = true := fineB_mk (by omega) (by omega) D0 D1
  have f0 : fineB 0 D = true := fineB_mk (by omega) (by omega) D0 D1
  have fD : fineB D D = true := fineB_mk (by omega) (by omega) D0 D1
  obtain ⟨X, hX⟩ : ∃ X, alerpI a b P D = X := ⟨_, rfl⟩
  obtain ⟨Y, hY⟩ : ∃ Y, alerpI a b Q D = Y := ⟨_, rfl⟩
  obtain ⟨p, hp⟩ : ∃ p, wayI a X = p := ⟨_, rfl⟩
  obtain ⟨q, hq⟩ : ∃ q, wayI a Y = q := ⟨_, rfl⟩
  have s1 : sizeI p ≤ sizeI q := by rw [← hp, ← hq, ← hX, ← hY]; exact size_up a b fP fQ (by omega)
  have p1 : -32768 ≤ p ∧ p ≤ 32767 := hp ▸ way_bd a X
  have q1 : -32768 ≤ q ∧ q ≤ 32767 := hq ▸ way_bd a Y
  have o1 : onB X a b = true := by rw [← hX]; exact on_alerp a b fP
  have HD := (show Hid _ from hD); have HM := (show Hid _ from hM); have HN := (show Hid _ from hN); have HP := (show Hid _ from hP); have HQ := (show Hid _ from hQ)
  have HX := (show Hid _ from hX); have HY := (show Hid _ from hY); have Hp := (show Hid _ from hp); have Hq := (show Hid _ from hq); have HO := (show Hid _ from o1)
  have HF := (show Hid _ from alerp_first a b D ha); have HL := (show Hid _ from alerp_last a b D hb D0)
  have S1 := (show Hid _ from s1); have P1 := (show Hid _ from p1); have Q1 := (show Hid _ from q1)
  have FP := (show Hid _ from fP); have FQ := (show Hid _ from fQ); have F0 := (show Hid _ from f0); have FD := (show Hid _ from fD)
  clear hD hM hN hP hQ hX hY hp hq o1 s1 p1 q1 fP fQ f0 fD
  go_enter Try.func8, Try.ntmps8
  go_wp2_with fail
  obtain ⟨W, hW⟩ : ∃ W, (w.alloc (.cells #[.int .i64 n0, .int .i64 n1, .int .i64 n2] 36)) = W := ⟨_, rfl⟩
  have A0 : Blk W (H) [.int .i64 n0, .int .i64 n1, .int .i64 n2] := by rw [← hW]; exact (Blk.new _ _ _ hH.symm)
  have G0 : Gr w.heap.size w W := by rw [← hW]; repeat' (first | exact Gr.refl _ _ | refine Gr.alloc ?_ ?_ _ _ | (simp; done) | (simp; omega))
  rw [hW]
  clear hW
  have x0 := A0.cell 0 _ rfl; have x1 := A0.cell 1 _ rfl; have x2 := A0.cell 2 _ rfl
  go_wp2_with fail
  rw [HD.out]
  go_quiet (fail)
  rw [HM.out, HN.out]
  have G1 := G0.drewN nq
  clear x0 x1 x2 A0 G0
  go_wp2_with fail
  rw [HP.out, HQ.out]
  refine (alerp_any a b P D FP.out _).mono ?_; rw [HX.out]; rintro e w1 ⟨rfl, g1⟩
  go_wp2_with fail
  refine (alerp_any a b Q D FQ.out _).mono ?_; rw [HY.out]; rintro e w2 ⟨rfl, g2⟩
  go_wp2_with fail
  refine (alerp_any a b 0 D F0.out _).mono ?_; rw [HF.out]; rintro e w3 ⟨rfl, g3⟩
  go_wp2_with fail
  refine (alerp_any a b D D FD.out _).mono ?_; rw [HL.out]; rintro e w4 ⟨rfl, g4⟩
  go_wp2_with fail
  refine (aalive_any _).mono ?_; rintro e w5 ⟨rfl, g5⟩
  go_wp2_with fail
  refine (diff_any a X _).mono ?_; rw [Hp.out]; rintro e w6 ⟨rfl, rfl⟩
  go_wp2_with fail
  refine (size_any p P1.out.1 P1.out.2 _).mono ?_; rintro e w7 ⟨rfl, rfl⟩
  go_wp2_with fail
  refine (diff_any a Y _).mono ?_; rw [Hq.out]; rintro e w8 ⟨rfl, rfl⟩
  go_wp2_with fail
  refine (size_any q Q1.out.1 Q1.out.2 _).mono ?_; rintro e w9 ⟨rfl, rfl⟩
  have s1 := S1.out
  go_wp2_with fail
  refine (abetween_any X a b _).mono ?_; rw [HO.out]; rintro e w10 ⟨rfl, rfl⟩
  go_wp2_with fail
  go_ret
  exact ⟨rfl, (((((G1.then g1).then g2).then g3).then g4).then g5).grown⟩

set_option maxRecDepth 100000 in
theorem lifted (os : Os) (started : os.Started) (H : Type) (enc : TypeId × Value → H) :
    ReturnsInHanded {} Try.checked os 8 .any (Rows.angleHalvesSpec.pre6 enc Try.prog Try.f8 Rows.angleHalvesRow.domain false) (Rows.angleHalvesSpec.post enc Try.prog Try.f8 false true false false) := by
  refine returnsInHanded_of_change (C := Try.checked) own started (by kernel_rfl) Try.func8
    (ChangeSpec.witness6 (enc := enc) (C := Try.checked) false ⟨#[], #[.int .u16 0, .int .u16 0, .agg #[.int .i64 0, .int .i64 0, .int .i64 0]], []⟩ 8 (by kernel_rfl) (by kernel_rfl) (by kernel_rfl) (by kernel_rfl)) ?_
  intro W base args ds gs before hval0 hW hcnd _
  have hval : ∀ (j : Nat) t v, Try.f8.params[j]? = some t → args[j]? = some v → Value.okWide Try.prog W .any base t v := hval0
  have hW' := hW
  obtain ⟨p, q, hA0, hV, rfl, hfz, hnd⟩ := hW
  have hA : DataW.TrodAll enc Try.prog W 0 (fun _ => true) true Try.f8.params.toList args.toList ds p := hA0
  rw [Try.params8] at hA hval
  obtain ⟨v0, vs0, d0, ds0, p0, q0, hargs, rfl, rfl, h0, r0⟩ := trodAll_cons hA
  obtain ⟨v1, vs1, d1, ds1, p1, q1, rfl, rfl, rfl, h1, r1⟩ := trodAll_cons r0
  obtain ⟨v2, vs2, d2, ds2, p2, q2, rfl, rfl, rfl, h2, r2⟩ := trodAll_cons r1
  obtain ⟨rfl, rfl, rfl⟩ := trodAll_nil r2
  obtain rfl : args = #[v0, v1, v2] := by cases args; simp_all
  obtain ⟨rfl, rfl⟩ := trodVars_none hV
  obtain ⟨a0, rfl, rfl, rfl, w0⟩ := open_int Try.underlying22 (hval 0 22 v0 rfl rfl) h0
  obtain ⟨a1, rfl, rfl, rfl, w1⟩ := open_int Try.underlying22 (hval 1 22 v1 rfl rfl) h1
  obtain ⟨a20, a21, a22, rfl, rfl, rfl, w20, w21, w22⟩ := open_arr3 Try.underlying36 Try.underlying2 cells_a3 cells_e (hval 2 36 v2 rfl rfl) h2
  clear hA0 hval0
  simp only [List.append_nil] at hW'
  refine (walk a0 a1 a20 a21 a22 w0 w1 w20 w21 w22 W).mono fun e W' ⟨he, hg⟩ => ?_
  subst he
  exact ⟨_, rfl, post_of_same (pa := []) (pv := []) hW' (fun _ _ _ => (trodAll_cons_mk (shut_bool Try.underlying4 _) trodAll_mk0)) (fun sp _ => (trodAll_cons_mk (shut_int Try.underlying22 w0) (trodAll_cons_mk (shut_int Try.underlying22 w1) (trodAll_cons_mk (shut_arr3 Try.underlying36 Try.underlying2 cells_a3 cells_e w20 w21 w22) trodAll_mk0)))) (fun _ _ => rfl) rfl
    (hg.frame _) hg.2.1 (ok_one (by kernel_rfl) rfl (okWide_bool_mk Try.underlying4 _))⟩

theorem over : Rows.angleHalvesRow.holds Try.pinned (OpenSpec.ofChange Rows.angleHalvesSpec) :=
  OpenClaim.holds_of_wide 8 Try.f8 rfl rfl rfl rfl rfl rfl rfl ⟨rfl, rfl, rfl, rfl, rfl⟩ rfl rfl rfl rfl rfl (by kernel_rfl) Try.func8 (by kernel_rfl)
    (of_decide_eq_true (by kernel_rfl)) (by unfold Func.isWrapper; first | (rw [if_pos (by decide +kernel)]; kernel_rfl) | (rw [if_neg (by decide +kernel)]; exact ⟨rfl, rfl⟩))
    (fun os started H enc _ => lifted os started H enc)
end AngleHalvesL

theorem angleHalves_proved : Rows.AngleHalvesSaid := AngleHalvesL.over
#print axioms angleHalves_proved
end Go.Proofs.Ytoidoikapminfaa
