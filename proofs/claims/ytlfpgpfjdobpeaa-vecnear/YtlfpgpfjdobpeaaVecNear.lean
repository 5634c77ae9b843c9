/-
  Proved: of any two vectors and any number vec.Near answers what the document's own answer does, the same the other way about (the law VecNear answers true).
  Conditions: none.
-/
import Derived.Test.YtlfpgpfjdobpeaaRows
import Derived.Test.YtlfpgpfjdobpeaaVecAlive
import Derived.WalkKit
import Derived.ProofKit
import Derived.OpenShut
import Derived.Test.YtlfpgpfjdobpeaaArr
namespace Go.Proofs.Ytlfpgpfjdobpeaa
open Go.ChangeShapes Go.WideShapes Go.ChangeAt Go.RowKit
set_option linter.unusedVariables false

namespace VecNearL
theorem own : ownKnob Try.prog.godebug = none := by kernel_rfl
theorem cells_a3 : Try.prog.cellsOf 22 = 3 := by kernel_rfl
theorem cells_e : Try.prog.cellsOf 2 = 1 := by kernel_rfl
attribute [local go_sem ↓] Go.wp_at_zero Go.wp_at_succ
attribute [local go_sem] eq3_run
set_option maxHeartbeats 4000000 in
theorem walk (a0 a1 a2 b0 b1 b2 d : Int) (va0 : (Lit.int .i64 a0).wf = true) (va1 : (Lit.int .i64 a1).wf = true) (va2 : (Lit.int .i64 a2).wf = true) (vb0 : (Lit.int .i64 b0).wf = true) (vb1 : (Lit.int .i64 b1).wf = true) (vb2 : (Lit.int .i64 b2).wf = true) (vd : (Lit.int .i64 d).wf = true) (w : World) :
    Calls Try.prog 6 #[.agg #[.int .i64 a0, .int .i64 a1, .int .i64 a2], .agg #[.int .i64 b0, .int .i64 b1, .int .i64 b2], .int .i64 d] w fun e w' => e = .returned (.bool true) ∧ Grown w w' := by
  have ha0 := wf_R64 va0
  have ha1 := wf_R64 va1
  have ha2 := wf_R64 va2
  have hb0 := wf_R64 vb0
  have hb1 := wf_R64 vb1
  have hb2 := wf_R64 vb2
  have hd := wf_R64 vd
  clear va0 va1 va2 vb0 vb1 vb2 vd
  obtain ⟨H, hH⟩ : ∃ H, w.heap.size = H := ⟨_, rfl⟩
  obtain ⟨n, hn⟩ : ∃ n, nearB a0 a1 a2 b0 b1 b2 d = n := ⟨_, rfl⟩
  have hm : nearB b0 b1 b2 a0 a1 a2 d = n := by rw [← hn]; unfold nearB apartI; refine decide_eq_decide.2 ?_; omega
  obtain ⟨z, hz⟩ : ∃ z : Int, (max 0 d) = z := ⟨_, rfl⟩
  have rz : R64 z := by rw [← hz]; unfold R64 at *; omega
  have hs : nearB a0 a1 a2 a0 a1 a2 z = true := by unfold nearB apartI; refine decide_eq_true ?_; omega
  have HN := (show Hid _ from hn); have HM := (show Hid _ from hm); have HZ := (show Hid _ from hz); have HS := (show Hid _ from hs)
  clear hn hm hz hs
  go_enter Try.func6, Try.ntmps6
  go_wp2_with fail
  obtain ⟨W, hW⟩ : ∃ W, ((w.alloc (.cells #[.int .i64 a0, .int .i64 a1, .int .i64 a2] 22)).alloc (.cells #[.int .i64 b0, .int .i64 b1, .int .i64 b2] 22)) = W := ⟨_, rfl⟩
  have A0 : Blk W (H) [.int .i64 a0, .int .i64 a1, .int .i64 a2] := by rw [← hW]; exact ((Blk.new _ _ _ hH.symm)).alloc _
  have B0 : Blk W (H + 1) [.int .i64 b0, .int .i64 b1, .int .i64 b2] := by rw [← hW]; exact (Blk.new _ _ _ (by simp [hH]))
  have G0 : Gr w.heap.size w W := by rw [← hW]; repeat' (first | exact Gr.refl _ _ | refine Gr.alloc ?_ ?_ _ _ | (simp; done) | (simp; omega))
  have Z0 : W.heap.size = H + 1 + 1 := by rw [← hW]; simp [hH]
  rw [hW]
  clear hW
  have xA0_0 := A0.cell 0 _ rfl; have xA1_0 := A0.cell 1 _ rfl; have xA2_0 := A0.cell 2 _ rfl
  have xB0_0 := B0.cell 0 _ rfl; have xB1_0 := B0.cell 1 _ rfl; have xB2_0 := B0.cell 2 _ rfl
  refine (vnear_any a0 a1 a2 b0 b1 b2 d ha0 ha1 ha2 hb0 hb1 hb2 hd _).mono ?_; rw [HN.out]; rintro e w1 ⟨rfl, g1⟩
  have G1 := G0.then g1
  have Z1 := g1.size; (try rw [Z0] at Z1)
  have A1 := A0.gr g1 A0.lt; have lA1 := A1.lt
  have B1 := B0.gr g1 B0.lt; have lB1 := B1.lt
  have xA0_1 := A1.cell 0 _ rfl; have xA1_1 := A1.cell 1 _ rfl; have xA2_1 := A1.cell 2 _ rfl
  have xB0_1 := B1.cell 0 _ rfl; have xB1_1 := B1.cell 1 _ rfl; have xB2_1 := B1.cell 2 _ rfl
  go_wp2_with fail
  refine (valive_any _).mono ?_; rintro e w2 ⟨rfl, g2⟩
  have G2 := G1.then g2
  have Z2 := g2.size; (try rw [Z1] at Z2)
  have A2 := A1.gr g2 A1.lt; have lA2 := A2.lt
  have B2 := B1.gr g2 B1.lt; have lB2 := B2.lt
  have xA0_2 := A2.cell 0 _ rfl; have xA1_2 := A2.cell 1 _ rfl; have xA2_2 := A2.cell 2 _ rfl
  have xB0_2 := B2.cell 0 _ rfl; have xB1_2 := B2.cell 1 _ rfl; have xB2_2 := B2.cell 2 _ rfl
  go_wp2_with fail
  refine (rvnear_any a0 a1 a2 b0 b1 b2 d ha0 ha1 ha2 hb0 hb1 hb2 hd _).mono ?_; rw [HN.out]; rintro e w3 ⟨rfl, g3⟩
  have G3 := G2.then g3
  have Z3 := g3.size; (try rw [Z2] at Z3)
  have A3 := A2.gr g3 A2.lt; have lA3 := A3.lt
  have B3 := B2.gr g3 B2.lt; have lB3 := B3.lt
  have xA0_3 := A3.cell 0 _ rfl; have xA1_3 := A3.cell 1 _ rfl; have xA2_3 := A3.cell 2 _ rfl
  have xB0_3 := B3.cell 0 _ rfl; have xB1_3 := B3.cell 1 _ rfl; have xB2_3 := B3.cell 2 _ rfl
  go_wp2_with fail
  refine (vnear_any b0 b1 b2 a0 a1 a2 d hb0 hb1 hb2 ha0 ha1 ha2 hd _).mono ?_; rw [HM.out]; rintro e w4 ⟨rfl, g4⟩
  have G4 := G3.then g4
  have Z4 := g4.size; (try rw [Z3] at Z4)
  have A4 := A3.gr g4 A3.lt; have lA4 := A4.lt
  have B4 := B3.gr g4 B3.lt; have lB4 := B4.lt
  have xA0_4 := A4.cell 0 _ rfl; have xA1_4 := A4.cell 1 _ rfl; have xA2_4 := A4.cell 2 _ rfl
  have xB0_4 := B4.cell 0 _ rfl; have xB1_4 := B4.cell 1 _ rfl; have xB2_4 := B4.cell 2 _ rfl
  go_wp2_with fail
  rw [HZ.out]
  refine (vnear_any a0 a1 a2 a0 a1 a2 z ha0 ha1 ha2 ha0 ha1 ha2 rz _).mono ?_; rw [HS.out]; rintro e w5 ⟨rfl, g5⟩
  have G5 := G4.then g5
  have Z5 := g5.size; (try rw [Z4] at Z5)
  have A5 := A4.gr g5 A4.lt; have lA5 := A5.lt
  have B5 := B4.gr g5 B4.lt; have lB5 := B5.lt
  have xA0_5 := A5.cell 0 _ rfl; have xA1_5 := A5.cell 1 _ rfl; have xA2_5 := A5.cell 2 _ rfl
  have xB0_5 := B5.cell 0 _ rfl; have xB1_5 := B5.cell 1 _ rfl; have xB2_5 := B5.cell 2 _ rfl
  go_wp2_with fail
  go_ret
  exact ⟨rfl, G5.grown⟩

set_option maxRecDepth 100000 in
theorem lifted (os : Os) (started : os.Started) (H : Type) (enc : TypeId × Value → H) :
    ReturnsInHanded {} Try.checked os 6 .any (Rows.vecNearSpec.pre6 enc Try.prog Try.f6 Rows.vecNearRow.domain false) (Rows.vecNearSpec.post enc Try.prog Try.f6 false true false false) := by
  refine returnsInHanded_of_change (C := Try.checked) own started (by kernel_rfl) Try.func6
    (ChangeSpec.witness6 (enc := enc) (C := Try.checked) false ⟨#[], #[.agg #[.int .i64 0, .int .i64 0, .int .i64 0], .agg #[.int .i64 0, .int .i64 0, .int .i64 0], .int .i64 0], []⟩ 8 (by kernel_rfl) (by kernel_rfl) (by kernel_rfl) (by kernel_rfl)) ?_
  intro W base args ds gs before hval0 hW hcnd _
  have hval : ∀ (j : Nat) t v, Try.f6.params[j]? = some t → args[j]? = some v → Value.okWide Try.prog W .any base t v := hval0
  have hW' := hW
  obtain ⟨p, q, hA0, hV, rfl, hfz, hnd⟩ := hW
  have hA : DataW.TrodAll enc Try.prog W 0 (fun _ => true) true Try.f6.params.toList args.toList ds p := hA0
  rw [Try.params6] at hA hval
  obtain ⟨v0, vs0, d0, ds0, p0, q0, hargs, rfl, rfl, h0, r0⟩ := trodAll_cons hA
  obtain ⟨v1, vs1, d1, ds1, p1, q1, rfl, rfl, rfl, h1, r1⟩ := trodAll_cons r0
  obtain ⟨v2, vs2, d2, ds2, p2, q2, rfl, rfl, rfl, h2, r2⟩ := trodAll_cons r1
  obtain ⟨rfl, rfl, rfl⟩ := trodAll_nil r2
  obtain rfl : args = #[v0, v1, v2] := by cases args; simp_all
  obtain ⟨rfl, rfl⟩ := trodVars_none hV
  obtain ⟨a00, a01, a02, rfl, rfl, rfl, w00, w01, w02⟩ := open_arr3 Try.underlying22 Try.underlying2 cells_a3 cells_e (hval 0 22 v0 rfl rfl) h0
  obtain ⟨a10, a11, a12, rfl, rfl, rfl, w10, w11, w12⟩ := open_arr3 Try.underlying22 Try.underlying2 cells_a3 cells_e (hval 1 22 v1 rfl rfl) h1
  obtain ⟨a2, rfl, rfl, rfl, w2⟩ := open_int Try.underlying2 (hval 2 2 v2 rfl rfl) h2
  clear hA0 hval0
  simp only [List.append_nil] at hW'
  refine (walk a00 a01 a02 a10 a11 a12 a2 w00 w01 w02 w10 w11 w12 w2 W).mono fun e W' ⟨he, hg⟩ => ?_
  subst he
  exact ⟨_, rfl, post_of_same (pa := []) (pv := []) hW' (fun _ _ _ => (trodAll_cons_mk (shut_bool Try.underlying4 _) trodAll_mk0)) (fun sp _ => (trodAll_cons_mk (shut_arr3 Try.underlying22 Try.underlying2 cells_a3 cells_e w00 w01 w02) (trodAll_cons_mk (shut_arr3 Try.underlying22 Try.underlying2 cells_a3 cells_e w10 w11 w12) (trodAll_cons_mk (shut_int Try.underlying2 w2) trodAll_mk0)))) (fun _ _ => rfl) rfl
    (hg.frame _) hg.2.1 (ok_one (by kernel_rfl) rfl (okWide_bool_mk Try.underlying4 _))⟩

theorem over : Rows.vecNearRow.holds Try.pinned (OpenSpec.ofChange Rows.vecNearSpec) :=
  OpenClaim.holds_of_wide 6 Try.f6 rfl rfl rfl rfl rfl rfl rfl ⟨rfl, rfl, rfl, rfl, rfl⟩ rfl rfl rfl rfl rfl (by kernel_rfl) Try.func6 (by kernel_rfl)
    (of_decide_eq_true (by kernel_rfl)) (by unfold Func.isWrapper; first | (rw [if_pos (by decide +kernel)]; kernel_rfl) | (rw [if_neg (by decide +kernel)]; exact ⟨rfl, rfl⟩))
    (fun os started H enc _ => lifted os started H enc)
end VecNearL

theorem vecNear_proved : Rows.VecNearSaid := VecNearL.over
#print axioms vecNear_proved
end Go.Proofs.Ytlfpgpfjdobpeaa
