/-
  Proved: in no time, or with no speed, nothing is gone, and a number of a vector hangs not on the other ones (the law VecStays answers true at every input).
  Conditions: none.
-/
import Derived.Test.YtlfpgpfjdobpeaaRows
import Derived.Test.YtlfpgpfjdobpeaaVecAlive
import Derived.WalkKit
import Derived.ProofKit
import Derived.OpenShut
import Derived.Test.YtlfpgpfjdobpeaaArr
namespace Go.Proofs.Ytlfpgpfjdobpeaa
open Go.ChangeShapes Go.WideShapes Go.ChangeAt Go.RowKit
set_option linter.unusedVariables false

namespace VecStaysL
theorem own : ownKnob Try.prog.godebug = none := by kernel_rfl
theorem cells_a3 : Try.prog.cellsOf 22 = 3 := by kernel_rfl
theorem cells_m23 : Try.prog.cellsOf 37 = 6 := by kernel_rfl
theorem cells_e : Try.prog.cellsOf 2 = 1 := by kernel_rfl
attribute [local go_sem ↓] Go.wp_at_zero Go.wp_at_succ
attribute [local go_sem] eq3_run
set_option maxHeartbeats 4000000 in
theorem walk (a0 a1 a2 v0 v1 v2 u0 u1 u2 t : Int) (va0 : (Lit.int .i64 a0).wf = true) (va1 : (Lit.int .i64 a1).wf = true) (va2 : (Lit.int .i64 a2).wf = true) (vv0 : (Lit.int .i64 v0).wf = true) (vv1 : (Lit.int .i64 v1).wf = true) (vv2 : (Lit.int .i64 v2).wf = true) (vu0 : (Lit.int .i64 u0).wf = true) (vu1 : (Lit.int .i64 u1).wf = true) (vu2 : (Lit.int .i64 u2).wf = true) (vt : (Lit.int .i64 t).wf = true) (w : World) :
    Calls Try.prog 7 #[.agg #[.int .i64 a0, .int .i64 a1, .int .i64 a2], .agg #[.int .i64 v0, .int .i64 v1, .int .i64 v2, .int .i64 u0, .int .i64 u1, .int .i64 u2], .int .i64 t] w fun e w' => e = .returned (.bool true) ∧ Grown w w' := by
  have ha0 := wf_R64 va0
  have ha1 := wf_R64 va1
  have ha2 := wf_R64 va2
  have hv0 := wf_R64 vv0
  have hv1 := wf_R64 vv1
  have hv2 := wf_R64 vv2
  have hu0 := wf_R64 vu0
  have hu1 := wf_R64 vu1
  have hu2 := wf_R64 vu2
  have ht := wf_R64 vt
  clear va0 va1 va2 vv0 vv1 vv2 vu0 vu1 vu2 vt
  obtain ⟨H, hH⟩ : ∃ H, w.heap.size = H := ⟨_, rfl⟩
  have z0 : sat (a0 + sat (v0 * 0 / 65536)) = a0 := by rw [Int.mul_zero]; have : sat (0 / 65536) = 0 := (by decide); rw [this, Int.add_zero]; exact sat_in ha0
  have y0 : sat (a0 + sat (0 * t / 65536)) = a0 := by rw [Int.zero_mul]; have : sat (0 / 65536) = 0 := (by decide); rw [this, Int.add_zero]; exact sat_in ha0
  have HZ0 := (show Hid _ from z0); have HY0 := (show Hid _ from y0); clear z0 y0
  obtain ⟨c0, c0h⟩ : ∃ c, sat (a0 + sat (v0 * t / 65536)) = c := ⟨_, rfl⟩
  obtain ⟨d0, d0h⟩ : ∃ c, sat (a0 + sat (u0 * t / 65536)) = c := ⟨_, rfl⟩
  have C0 := (show Hid _ from c0h); have D0 := (show Hid _ from d0h); clear c0h d0h
  have z1 : sat (a1 + sat (v1 * 0 / 65536)) = a1 := by rw [Int.mul_zero]; have : sat (0 / 65536) = 0 := (by decide); rw [this, Int.add_zero]; exact sat_in ha1
  have y1 : sat (a1 + sat (0 * t / 65536)) = a1 := by rw [Int.zero_mul]; have : sat (0 / 65536) = 0 := (by decide); rw [this, Int.add_zero]; exact sat_in ha1
  have HZ1 := (show Hid _ from z1); have HY1 := (show Hid _ from y1); clear z1 y1
  obtain ⟨c1, c1h⟩ : ∃ c, sat (a1 + sat (v1 * t / 65536)) = c := ⟨_, rfl⟩
  obtain ⟨d1, d1h⟩ : ∃ c, sat (a1 + sat (u1 * t / 65536)) = c := ⟨_, rfl⟩
  have C1 := (show Hid _ from c1h); have D1 := (show Hid _ from d1h); clear c1h d1h
  have z2 : sat (a2 + sat (v2 * 0 / 65536)) = a2 := by rw [Int.mul_zero]; have : sat (0 / 65536) = 0 := (by decide); rw [this, Int.add_zero]; exact sat_in ha2
  have y2 : sat (a2 + sat (0 * t / 65536)) = a2 := by rw [Int.zero_mul]; have : sat (0 / 65536) = 0 := (by decide); rw [this, Int.add_zero]; exact sat_in ha2
  have HZ2 := (show Hid _ from z2); have HY2 := (show Hid _ from y2); clear z2 y2
  obtain ⟨c2, c2h⟩ : ∃ c, sat (a2 + sat (v2 * t / 65536)) = c := ⟨_, rfl⟩
  obtain ⟨d2, d2h⟩ : ∃ c, sat (a2 + sat (u2 * t / 65536)) = c := ⟨_, rfl⟩
  have C2 := (show Hid _ from c2h); have D2 := (show Hid _ from d2h); clear c2h d2h
  go_enter Try.func7, Try.ntmps7
  go_wp2_with fail
  obtain ⟨W, hW⟩ : ∃ W, ((w.alloc (.cells #[.int .i64 a0, .int .i64 a1, .int .i64 a2] 22)).alloc (.cells #[.int .i64 v0, .int .i64 v1, .int .i64 v2, .int .i64 u0, .int .i64 u1, .int .i64 u2] 37)) = W := ⟨_, rfl⟩
  have A0 : Blk W (H) [.int .i64 a0, .int .i64 a1, .int .i64 a2] := by rw [← hW]; exact ((Blk.new _ _ _ hH.symm)).alloc _
  have S0 : Blk W (H + 1) [.int .i64 v0, .int .i64 v1, .int .i64 v2, .int .i64 u0, .int .i64 u1, .int .i64 u2] := by rw [← hW]; exact (Blk.new _ _ _ (by simp [hH]))
  have G0 : Gr w.heap.size w W := by rw [← hW]; repeat' (first | exact Gr.refl _ _ | refine Gr.alloc ?_ ?_ _ _ | (simp; done) | (simp; omega))
  have Z0 : W.heap.size = H + 1 + 1 := by rw [← hW]; simp [hH]
  rw [hW]
  clear hW
  have xS0_0 := S0.cell 0 _ rfl; have xS1_0 := S0.cell 1 _ rfl; have xS2_0 := S0.cell 2 _ rfl; have xS3_0 := S0.cell 3 _ rfl; have xS4_0 := S0.cell 4 _ rfl; have xS5_0 := S0.cell 5 _ rfl
  go_cut [7, 8] (fun p q wx => ∃ bv bu : Nat, p = .pointer (some ⟨bv, 0, none⟩) ∧ q = .pointer (some ⟨bu, 0, none⟩) ∧ Blk wx bv [.int .i64 v0, .int .i64 v1, .int .i64 v2] ∧ Blk wx bu [.int .i64 u0, .int .i64 u1, .int .i64 u2] ∧ Blk wx H [.int .i64 a0, .int .i64 a1, .int .i64 a2] ∧ Gr w.heap.size w wx)
  case first =>
    go_region_held3 (fun w' => w'.cell? ⟨H + 1, 0, none⟩ = some (.int .i64 v0) ∧ w'.cell? ⟨H + 1, 1, none⟩ = some (.int .i64 v1) ∧ w'.cell? ⟨H + 1, 2, none⟩ = some (.int .i64 v2) ∧ w'.cell? ⟨H + 1, 3, none⟩ = some (.int .i64 u0) ∧ w'.cell? ⟨H + 1, 4, none⟩ = some (.int .i64 u1) ∧ w'.cell? ⟨H + 1, 5, none⟩ = some (.int .i64 u2)) (go_keep) (fail)
    all_goals (go_wp2_with fail; go_meet)
    · refine ⟨_, _, rfl, rfl, ((Blk.new _ _ _ (by simp [Z0])).alloc _).drew, (Blk.new _ _ _ (by simp [Z0])).drew, ((A0.alloc _).alloc _).drew, ((G0.alloc (by omega) _ _).alloc (by simp; omega) _ _).drew⟩
    · refine ⟨_, _, rfl, rfl, (Blk.new _ _ _ (by simp [Z0])).drew, ((Blk.new _ _ _ (by simp [Z0])).alloc _).drew, ((A0.alloc _).alloc _).drew, ((G0.alloc (by omega) _ _).alloc (by simp; omega) _ _).drew⟩
  case rest =>
    clear A0 S0 G0 Z0 xS0_0 xS1_0 xS2_0 xS3_0 xS4_0 xS5_0
    obtain ⟨bv, bu, rfl, rfl, V0, U0, A0, G0⟩ := hcut
    have Z0 := A0.lt
    go_wp2_with fail
    have xA0_0 := A0.cell 0 _ rfl
    have xA1_0 := A0.cell 1 _ rfl
    have xA2_0 := A0.cell 2 _ rfl
    have xV0_0 := V0.cell 0 _ rfl
    have xV1_0 := V0.cell 1 _ rfl
    have xV2_0 := V0.cell 2 _ rfl
    go_region_held3 (fun w' => w'.cell? ⟨H, 0, none⟩ = some (.int .i64 a0) ∧ w'.cell? ⟨H, 1, none⟩ = some (.int .i64 a1) ∧ w'.cell? ⟨H, 2, none⟩ = some (.int .i64 a2) ∧ w'.cell? ⟨bv, 0, none⟩ = some (.int .i64 v0) ∧ w'.cell? ⟨bv, 1, none⟩ = some (.int .i64 v1) ∧ w'.cell? ⟨bv, 2, none⟩ = some (.int .i64 v2)) (first | with_reducible exact ⟨xA0_2, xA1_2, xA2_2, xV0_2, xV1_2, xV2_2⟩ | with_reducible exact ⟨xA0_1, xA1_1, xA2_1, xV0_1, xV1_1, xV2_1⟩ | with_reducible exact ⟨xA0_0, xA1_0, xA2_0, xV0_0, xV1_0, xV2_0⟩ | go_keep)
      (first
        | (go_at_call 16; (with_reducible refine (vgo_any a0 a1 a2 v0 v1 v2 0 ha0 ha1 ha2 hv0 hv1 hv2 (by unfold R64; omega) _).mono ?_); rw [HZ0.out, HZ1.out, HZ2.out]; rintro e w1 ⟨rfl, g1⟩; have G1 := G0.drew.then g1; have Z1 := g1.size; have A1 := A0.drew.gr g1 A0.lt; have V1 := V0.drew.gr g1 V0.lt; have U1 := U0.drew.gr g1 U0.lt; have xA0_1 := A1.cell 0 _ rfl; have xA1_1 := A1.cell 1 _ rfl; have xA2_1 := A1.cell 2 _ rfl; have xV0_1 := V1.cell 0 _ rfl; have xV1_1 := V1.cell 1 _ rfl; have xV2_1 := V1.cell 2 _ rfl)
        | (go_at_call 16; (with_reducible refine (vgo_any a0 a1 a2 0 0 0 t ha0 ha1 ha2 (by unfold R64; omega) (by unfold R64; omega) (by unfold R64; omega) ht _).mono ?_); rw [HY0.out, HY1.out, HY2.out]; rintro e w2 ⟨rfl, g2⟩; have G2 := G1.then g2; have Z2 := g2.size; have A2 := A1.gr g2 A1.lt; have V2 := V1.gr g2 V1.lt; have U2 := U1.gr g2 U1.lt; have xA0_2 := A2.cell 0 _ rfl; have xA1_2 := A2.cell 1 _ rfl; have xA2_2 := A2.cell 2 _ rfl; have xV0_2 := V2.cell 0 _ rfl; have xV1_2 := V2.cell 1 _ rfl; have xV2_2 := V2.cell 2 _ rfl))
    go_wp2_with fail
    refine (vgo_any a0 a1 a2 v0 v1 v2 t ha0 ha1 ha2 hv0 hv1 hv2 ht _).mono ?_; rw [C0.out, C1.out, C2.out]; rintro e w3 ⟨rfl, g3⟩
    have G3 := G2.then g3
    have Z3 := g3.size; (try rw [Z2] at Z3)
    have A3 := A2.gr g3 A2.lt; have lA3 := A3.lt
    have V3 := V2.gr g3 V2.lt; have lV3 := V3.lt
    have U3 := U2.gr g3 U2.lt; have lU3 := U3.lt
    have xA0_3 := A3.cell 0 _ rfl; have xA1_3 := A3.cell 1 _ rfl; have xA2_3 := A3.cell 2 _ rfl
    have xV0_3 := V3.cell 0 _ rfl; have xV1_3 := V3.cell 1 _ rfl; have xV2_3 := V3.cell 2 _ rfl
    have xU0_3 := U3.cell 0 _ rfl; have xU1_3 := U3.cell 1 _ rfl; have xU2_3 := U3.cell 2 _ rfl
    go_wp2_with fail
    obtain ⟨M, hM⟩ : ∃ M, w3.heap.size = M := ⟨_, rfl⟩
    have LM := lA3
    obtain ⟨W5, hW5⟩ : ∃ W, (w3.alloc (.cells #[.int .i64 c0, .int .i64 c1, .int .i64 c2] 22)).alloc (.cells #[.int .i64 v0, .int .i64 u1, .int .i64 u2] 22) = W := ⟨_, rfl⟩
    have X5 : Blk W5 M [.int .i64 c0, .int .i64 c1, .int .i64 c2] := by rw [← hW5]; exact (Blk.new _ _ _ hM.symm).alloc _
    have N5 : Blk W5 (M + 1) [.int .i64 v0, .int .i64 u1, .int .i64 u2] := by rw [← hW5]; exact Blk.new _ _ _ (by simp [hM])
    have A5 : Blk W5 H [.int .i64 a0, .int .i64 a1, .int .i64 a2] := by rw [← hW5]; exact (A3.alloc _).alloc _
    have V5 : Blk W5 bv [.int .i64 v0, .int .i64 v1, .int .i64 v2] := by rw [← hW5]; exact (V3.alloc _).alloc _
    have U5 : Blk W5 bu [.int .i64 u0, .int .i64 u1, .int .i64 u2] := by rw [← hW5]; exact (U3.alloc _).alloc _
    have G5 : Gr w.heap.size w W5 := by rw [← hW5]; exact (G3.alloc (by omega) _ _).alloc (by simp; omega) _ _
    have Z5 : W5.heap.size = M + 1 + 1 := by rw [← hW5]; simp [hM]
    rw [hM] at LM
    rw [hW5, hM]
    clear hW5 hM
    refine (vgo_any a0 a1 a2 v0 u1 u2 t ha0 ha1 ha2 hv0 hu1 hu2 ht _).mono ?_; rw [C0.out, D1.out, D2.out]; rintro e w6 ⟨rfl, g6⟩
    have G6 := G5.then g6
    have Z6 := g6.size; (try rw [Z5] at Z6)
    have A6 := A5.gr g6 A5.lt; have lA6 := A6.lt
    have V6 := V5.gr g6 V5.lt; have lV6 := V6.lt
    have U6 := U5.gr g6 U5.lt; have lU6 := U6.lt
    have X6 := X5.gr g6 X5.lt; have lX6 := X6.lt
    have N6 := N5.gr g6 N5.lt; have lN6 := N6.lt
    go_wp2_with fail
    obtain ⟨O, hO⟩ : ∃ M, w6.heap.size = M := ⟨_, rfl⟩
    obtain ⟨W7, hW7⟩ : ∃ W, w6.alloc (.cells #[.int .i64 c0, .int .i64 d1, .int .i64 d2] 22) = W := ⟨_, rfl⟩
    have Y7 : Blk W7 O [.int .i64 c0, .int .i64 d1, .int .i64 d2] := by rw [← hW7]; exact Blk.new _ _ _ hO.symm
    have V7 := V6.alloc (.cells #[.int .i64 c0, .int .i64 d1, .int .i64 d2] 22); rw [hW7] at V7
    have U7 := U6.alloc (.cells #[.int .i64 c0, .int .i64 d1, .int .i64 d2] 22); rw [hW7] at U7
    have X7 := X6.alloc (.cells #[.int .i64 c0, .int .i64 d1, .int .i64 d2] 22); rw [hW7] at X7
    have G7 : Gr w.heap.size w W7 := by rw [← hW7]; exact G6.alloc (by omega) _ _
    have Z7 : W7.heap.size = O + 1 := by rw [← hW7]; simp [hO]
    have L7 := Z6
    rw [hW7, hO]
    rw [hO] at L7
    clear hW7
    refine (valive_any _).mono ?_; rintro e w8 ⟨rfl, g8⟩
    have G8 := G7.then g8
    have Z8 := g8.size; (try rw [Z7] at Z8)
    have V8 := V7.gr g8 V7.lt; have lV8 := V8.lt
    have U8 := U7.gr g8 U7.lt; have lU8 := U8.lt
    have X8 := X7.gr g8 X7.lt; have lX8 := X8.lt
    have Y8 := Y7.gr g8 Y7.lt; have lY8 := Y8.lt
    have xV0_8 := V8.cell 0 _ rfl; have xV1_8 := V8.cell 1 _ rfl; have xV2_8 := V8.cell 2 _ rfl
    have xU0_8 := U8.cell 0 _ rfl; have xU1_8 := U8.cell 1 _ rfl; have xU2_8 := U8.cell 2 _ rfl
    have xX0_8 := X8.cell 0 _ rfl; have xX1_8 := X8.cell 1 _ rfl; have xX2_8 := X8.cell 2 _ rfl
    have xY0_8 := Y8.cell 0 _ rfl; have xY1_8 := Y8.cell 1 _ rfl; have xY2_8 := Y8.cell 2 _ rfl
    by_cases e1 : v1 = u1
    · have k1 : d1 = c1 := by rw [← D1.out, ← C1.out, e1]
      by_cases e2 : v2 = u2
      · have k2 : d2 = c2 := by rw [← D2.out, ← C2.out, e2]
        subst k1 k2 e1 e2
        go_wp2_with fail
        go_ret
        exact ⟨rfl, G8.grown⟩
      · have k2 : (v2 == u2) = false := by simpa using e2
        subst k1 e1
        go_wp2_with fail
        go_ret
        exact ⟨rfl, G8.grown⟩
    · have k1 : (v1 == u1) = false := by simpa using e1
      by_cases e2 : v2 = u2
      · have k2 : d2 = c2 := by rw [← D2.out, ← C2.out, e2]
        subst k2 e2
        go_wp2_with fail
        go_ret
        exact ⟨rfl, G8.grown⟩
      · have k2 : (v2 == u2) = false := by simpa using e2
        go_wp2_with fail
        go_ret
        exact ⟨rfl, G8.grown⟩

set_option maxRecDepth 100000 in
theorem lifted (os : Os) (started : os.Started) (H : Type) (enc : TypeId × Value → H) :
    ReturnsInHanded {} Try.checked os 7 .any (Rows.vecStaysSpec.pre6 enc Try.prog Try.f7 Rows.vecStaysRow.domain false) (Rows.vecStaysSpec.post enc Try.prog Try.f7 false true false false) := by
  refine returnsInHanded_of_change (C := Try.checked) own started (by kernel_rfl) Try.func7
    (ChangeSpec.witness6 (enc := enc) (C := Try.checked) false ⟨#[], #[.agg #[.int .i64 0, .int .i64 0, .int .i64 0], .agg #[.int .i64 0, .int .i64 0, .int .i64 0, .int .i64 0, .int .i64 0, .int .i64 0], .int .i64 0], []⟩ 8 (by kernel_rfl) (by kernel_rfl) (by kernel_rfl) (by kernel_rfl)) ?_
  intro W base args ds gs before hval0 hW hcnd _
  have hval : ∀ (j : Nat) t v, Try.f7.params[j]? = some t → args[j]? = some v → Value.okWide Try.prog W .any base t v := hval0
  have hW' := hW
  obtain ⟨p, q, hA0, hV, rfl, hfz, hnd⟩ := hW
  have hA : DataW.TrodAll enc Try.prog W 0 (fun _ => true) true Try.f7.params.toList args.toList ds p := hA0
  rw [Try.params7] at hA hval
  obtain ⟨v0, vs0, d0, ds0, p0, q0, hargs, rfl, rfl, h0, r0⟩ := trodAll_cons hA
  obtain ⟨v1, vs1, d1, ds1, p1, q1, rfl, rfl, rfl, h1, r1⟩ := trodAll_cons r0
  obtain ⟨v2, vs2, d2, ds2, p2, q2, rfl, rfl, rfl, h2, r2⟩ := trodAll_cons r1
  obtain ⟨rfl, rfl, rfl⟩ := trodAll_nil r2
  obtain rfl : args = #[v0, v1, v2] := by cases args; simp_all
  obtain ⟨rfl, rfl⟩ := trodVars_none hV
  obtain ⟨a00, a01, a02, rfl, rfl, rfl, w00, w01, w02⟩ := open_arr3 Try.underlying22 Try.underlying2 cells_a3 cells_e (hval 0 22 v0 rfl rfl) h0
  obtain ⟨a10, a11, a12, a13, a14, a15, rfl, rfl, rfl, w10, w11, w12, w13, w14, w15⟩ := open_arr23 Try.underlying37 Try.underlying22 Try.underlying2 cells_m23 cells_a3 cells_e (hval 1 37 v1 rfl rfl) h1
  obtain ⟨a2, rfl, rfl, rfl, w2⟩ := open_int Try.underlying2 (hval 2 2 v2 rfl rfl) h2
  clear hA0 hval0
  simp only [List.append_nil] at hW'
  refine (walk a00 a01 a02 a10 a11 a12 a13 a14 a15 a2 w00 w01 w02 w10 w11 w12 w13 w14 w15 w2 W).mono fun e W' ⟨he, hg⟩ => ?_
  subst he
  exact ⟨_, rfl, post_of_same (pa := []) (pv := []) hW' (fun _ _ _ => (trodAll_cons_mk (shut_bool Try.underlying4 _) trodAll_mk0)) (fun sp _ => (trodAll_cons_mk (shut_arr3 Try.underlying22 Try.underlying2 cells_a3 cells_e w00 w01 w02) (trodAll_cons_mk (shut_arr23 Try.underlying37 Try.underlying22 Try.underlying2 cells_m23 cells_a3 cells_e w10 w11 w12 w13 w14 w15) (trodAll_cons_mk (shut_int Try.underlying2 w2) trodAll_mk0)))) (fun _ _ => rfl) rfl
    (hg.frame _) hg.2.1 (ok_one (by kernel_rfl) rfl (okWide_bool_mk Try.underlying4 _))⟩

theorem over : Rows.vecStaysRow.holds Try.pinned (OpenSpec.ofChange Rows.vecStaysSpec) :=
  OpenClaim.holds_of_wide 7 Try.f7 rfl rfl rfl rfl rfl rfl rfl ⟨rfl, rfl, rfl, rfl, rfl⟩ rfl rfl rfl rfl rfl (by kernel_rfl) Try.func7 (by kernel_rfl)
    (of_decide_eq_true (by kernel_rfl)) (by unfold Func.isWrapper; first | (rw [if_pos (by decide +kernel)]; kernel_rfl) | (rw [if_neg (by decide +kernel)]; exact ⟨rfl, rfl⟩))
    (fun os started H enc _ => lifted os started H enc)
end VecStaysL

theorem vecStays_proved : Rows.VecStaysSaid := VecStaysL.over
#print axioms vecStays_proved
end Go.Proofs.Ytlfpgpfjdobpeaa
