/-
  Proved: of any config and any estimate what it asks for is the document's, and what is wrong with the config (the law DelayTargets answers true at every input).
  Conditions: none.
-/
import Derived.Test.YtmclcoaicngodaaRows
import Derived.Test.YtmclcoaicngodaaFr15
import Derived.Test.YtmclcoaicngodaaDy4
namespace Go.Proofs.Ytmclcoaicngodaa
open Go.ChangeShapes Go.WideShapes Go.ChangeAt Go.RowKit
set_option linter.unusedVariables false

namespace DelayTargetsL
theorem own : ownKnob Try.prog.godebug = none := by kernel_rfl

set_option maxRecDepth 20000 in
set_option maxHeartbeats 8000000 in
theorem walk (w : World) (c : Cfg) (hok : c.ok) (j : Int) (hw : (Lit.int .i64 j).wf = true) :
    Calls Try.prog 3 #[cfgV c, .int .i64 j] w fun e w' => e = .returned (.bool true) ∧ Below w.heap.size w w' := by
  have hj : R64 j := wf_i64 hw
  clear hw
  by_cases hc : cfE c.cf = 0
  · have HC : Hid (cfE c.cf = 0) := hc
    obtain ⟨t, hT⟩ : ∃ t, askI c.cf j = t := ⟨_, rfl⟩
    have HT : Hid (askI c.cf j = t) := hT
    obtain ⟨s, hS⟩ : ∃ s, askI c.cf 0 = s := ⟨_, rfl⟩
    have HS : Hid (askI c.cf 0 = s) := hS
    clear hc hT hS
    go_enter Try.func3, Try.ntmps3
    go_wp2_with fail
    generalize hW : w.alloc (.cells (cfgA c) 23) = W
    obtain ⟨A0, B0, Z0⟩ := boxed hW
    clear hW
    obtain ⟨H, hH⟩ : ∃ H, w.heap.size = H := ⟨_, rfl⟩
    rw [hH] at A0 B0
    rw [hH]
    have HH : Hid (w.heap.size = H) := hH
    clear hH Z0
    have l0 := A0.lt
    have x0_0 := A0.cell 0 _ rfl
    have x1_0 := A0.cell 1 _ rfl
    have x2_0 := A0.cell 2 _ rfl
    have x3_0 := A0.cell 3 _ rfl
    have x4_0 := A0.cell 4 _ rfl
    have x5_0 := A0.cell 5 _ rfl
    have x6_0 := A0.cell 6 _ rfl
    have x7_0 := A0.cell 7 _ rfl
    have x8_0 := A0.cell 8 _ rfl
    have x9_0 := A0.cell 9 _ rfl
    have x10_0 := A0.cell 10 _ rfl
    refine (dy_target _ c j hj).mono ?_; rw [if_pos HC.out, HT.out]; rintro e w1 ⟨rfl, b1⟩
    have A1 := A0.below b1 A0.lt
    have B1 := B0.trans (b1.mono (Nat.le_of_lt A0.lt))
    have l1 := A1.lt
    clear x0_0 x1_0 x2_0 x3_0 x4_0 x5_0 x6_0 x7_0 x8_0 x9_0 x10_0 A0 B0 l0
    have x0_1 := A1.cell 0 _ rfl
    have x1_1 := A1.cell 1 _ rfl
    have x2_1 := A1.cell 2 _ rfl
    have x3_1 := A1.cell 3 _ rfl
    have x4_1 := A1.cell 4 _ rfl
    have x5_1 := A1.cell 5 _ rfl
    have x6_1 := A1.cell 6 _ rfl
    have x7_1 := A1.cell 7 _ rfl
    have x8_1 := A1.cell 8 _ rfl
    have x9_1 := A1.cell 9 _ rfl
    have x10_1 := A1.cell 10 _ rfl
    clear b1
    go_wp2_with fail
    refine (dd_check _ c).mono ?_; rw [HC.out]; rintro e w2 ⟨rfl, b2⟩
    have A2 := A1.below b2 A1.lt
    have B2 := B1.trans (b2.mono (Nat.le_of_lt A1.lt))
    have l2 := A2.lt
    clear x0_1 x1_1 x2_1 x3_1 x4_1 x5_1 x6_1 x7_1 x8_1 x9_1 x10_1 A1 B1 l1
    have x0_2 := A2.cell 0 _ rfl
    have x1_2 := A2.cell 1 _ rfl
    have x2_2 := A2.cell 2 _ rfl
    have x3_2 := A2.cell 3 _ rfl
    have x4_2 := A2.cell 4 _ rfl
    have x5_2 := A2.cell 5 _ rfl
    have x6_2 := A2.cell 6 _ rfl
    have x7_2 := A2.cell 7 _ rfl
    have x8_2 := A2.cell 8 _ rfl
    have x9_2 := A2.cell 9 _ rfl
    have x10_2 := A2.cell 10 _ rfl
    clear b2
    go_wp2_with fail
    refine (dy_new _ c HC.out).mono ?_; rintro e w3 ⟨D, hD, rfl, D3, b3⟩
    have hHD : H < D := Nat.lt_of_lt_of_le A2.lt hD
    clear hD
    have d3 := D3.lt
    have A3 := A2.below b3 A2.lt
    have B3 := B2.trans (b3.mono (Nat.le_of_lt A2.lt))
    have l3 := A3.lt
    clear x0_2 x1_2 x2_2 x3_2 x4_2 x5_2 x6_2 x7_2 x8_2 x9_2 x10_2 A2 B2 l2
    have x0_3 := A3.cell 0 _ rfl
    have x1_3 := A3.cell 1 _ rfl
    have x2_3 := A3.cell 2 _ rfl
    have x3_3 := A3.cell 3 _ rfl
    have x4_3 := A3.cell 4 _ rfl
    have x5_3 := A3.cell 5 _ rfl
    have x6_3 := A3.cell 6 _ rfl
    have x7_3 := A3.cell 7 _ rfl
    have x8_3 := A3.cell 8 _ rfl
    have x9_3 := A3.cell 9 _ rfl
    have x10_3 := A3.cell 10 _ rfl
    clear b3
    rw [HS.out] at D3
    go_wp2_with fail
    refine (dy_check _ c).mono ?_; rw [HC.out]; rintro e w4 ⟨rfl, b4⟩
    have A4 := A3.below b4 A3.lt
    have B4 := B3.trans (b4.mono (Nat.le_of_lt A3.lt))
    have l4 := A4.lt
    have D4 := D3.below b4 D3.lt
    have d4 := D4.lt
    clear x0_3 x1_3 x2_3 x3_3 x4_3 x5_3 x6_3 x7_3 x8_3 x9_3 x10_3 A3 B3 l3
    clear D3 d3
    have x0_4 := A4.cell 0 _ rfl
    have x1_4 := A4.cell 1 _ rfl
    have x2_4 := A4.cell 2 _ rfl
    have x3_4 := A4.cell 3 _ rfl
    have x4_4 := A4.cell 4 _ rfl
    have x5_4 := A4.cell 5 _ rfl
    have x6_4 := A4.cell 6 _ rfl
    have x7_4 := A4.cell 7 _ rfl
    have x8_4 := A4.cell 8 _ rfl
    have x9_4 := A4.cell 9 _ rfl
    have x10_4 := A4.cell 10 _ rfl
    clear b4
    go_upto_region 8 with fail
    go_region_held3 (fun w' => w'.cell? ⟨H, 0, none⟩ = some (.int .i64 c.ring) ∧ w'.cell? ⟨H, 1, none⟩ = some (.int .i64 c.win) ∧ w'.cell? ⟨H, 2, none⟩ = some (.int .i64 c.base) ∧ w'.cell? ⟨H, 3, none⟩ = some (.int .i64 c.gain) ∧ w'.cell? ⟨H, 4, none⟩ = some (.int .i64 c.least) ∧ w'.cell? ⟨H, 5, none⟩ = some (.int .i64 c.most) ∧ w'.cell? ⟨H, 6, none⟩ = some (.int .i64 c.slack) ∧ w'.cell? ⟨H, 7, none⟩ = some (.int .i64 c.num) ∧ w'.cell? ⟨H, 8, none⟩ = some (.int .i64 c.den) ∧ w'.cell? ⟨H, 9, none⟩ = some (.int .i64 c.ext) ∧ w'.cell? ⟨H, 10, none⟩ = some (.bool c.curved)) (first | with_reducible exact ⟨x0_7, x1_7, x2_7, x3_7, x4_7, x5_7, x6_7, x7_7, x8_7, x9_7, x10_7⟩ | with_reducible exact ⟨x0_6, x1_6, x2_6, x3_6, x4_6, x5_6, x6_6, x7_6, x8_6, x9_6, x10_6⟩ | with_reducible exact ⟨x0_5, x1_5, x2_5, x3_5, x4_5, x5_5, x6_5, x7_5, x8_5, x9_5, x10_5⟩ | with_reducible exact ⟨x0_4, x1_4, x2_4, x3_4, x4_4, x5_4, x6_4, x7_4, x8_4, x9_4, x10_4⟩ | go_keep)
      (first
        | (go_at_call 12; (with_reducible refine (dy_alive _).mono ?_); rintro e w5 ⟨rfl, b5⟩; have A5 := A4.drew.below b5 A4.drew.lt; have B5 := B4.drew.trans (b5.mono (Nat.le_of_lt A4.drew.lt)); have l5 := A5.lt; have D5 := D4.drew.below b5 D4.drew.lt; have d5 := D5.lt; have x0_5 := A5.cell 0 _ rfl; have x1_5 := A5.cell 1 _ rfl; have x2_5 := A5.cell 2 _ rfl; have x3_5 := A5.cell 3 _ rfl; have x4_5 := A5.cell 4 _ rfl; have x5_5 := A5.cell 5 _ rfl; have x6_5 := A5.cell 6 _ rfl; have x7_5 := A5.cell 7 _ rfl; have x8_5 := A5.cell 8 _ rfl; have x9_5 := A5.cell 9 _ rfl; have x10_5 := A5.cell 10 _ rfl)
        | (go_at_call 13; (with_reducible refine (dd_target _ c (cfg_R HC.out) j hj).mono ?_); rw [HT.out]; rintro e w6 ⟨rfl, b6⟩; have A6 := A5.below b6 A5.lt; have B6 := B5.trans (b6.mono (Nat.le_of_lt A5.lt)); have l6 := A6.lt; have D6 := D5.below b6 D5.lt; have d6 := D6.lt; have x0_6 := A6.cell 0 _ rfl; have x1_6 := A6.cell 1 _ rfl; have x2_6 := A6.cell 2 _ rfl; have x3_6 := A6.cell 3 _ rfl; have x4_6 := A6.cell 4 _ rfl; have x5_6 := A6.cell 5 _ rfl; have x6_6 := A6.cell 6 _ rfl; have x7_6 := A6.cell 7 _ rfl; have x8_6 := A6.cell 8 _ rfl; have x9_6 := A6.cell 9 _ rfl; have x10_6 := A6.cell 10 _ rfl)
        | (go_at_call 14; (with_reducible refine (dy_now _ D c s 0 (by assumption)).mono ?_); rintro e w6s ⟨rfl, rfl⟩)
        | (go_at_call 13; (with_reducible refine (dd_target _ c (cfg_R HC.out) 0 R64_zero).mono ?_); rw [HS.out]; rintro e w7 ⟨rfl, b7⟩; have A7 := A6.below b7 A6.lt; have B7 := B6.trans (b7.mono (Nat.le_of_lt A6.lt)); have l7 := A7.lt; have D7 := D6.below b7 D6.lt; have d7 := D7.lt; have x0_7 := A7.cell 0 _ rfl; have x1_7 := A7.cell 1 _ rfl; have x2_7 := A7.cell 2 _ rfl; have x3_7 := A7.cell 3 _ rfl; have x4_7 := A7.cell 4 _ rfl; have x5_7 := A7.cell 5 _ rfl; have x6_7 := A7.cell 6 _ rfl; have x7_7 := A7.cell 7 _ rfl; have x8_7 := A7.cell 8 _ rfl; have x9_7 := A7.cell 9 _ rfl; have x10_7 := A7.cell 10 _ rfl)
        | (go_at_call 15; (with_reducible refine (dy_changes _ D c s 0 (by assumption)).mono ?_); rintro e w7s ⟨rfl, rfl⟩))
    go_wp2_with fail
    go_ret
    exact ⟨rfl, by rw [HH.out]; exact B7⟩
  · have HN : Hid (cfE c.cf ≠ 0) := hc
    obtain ⟨q, hq⟩ : ∃ q, cfE c.cf = q := ⟨_, rfl⟩
    have HQ : Hid (cfE c.cf = q) := hq
    have hq0 : q ≠ 0 := hq ▸ hc
    have hq1 : (q != 0) = true := by simpa using hq0
    clear hc hq
    go_enter Try.func3, Try.ntmps3
    go_wp2_with fail
    generalize hW : w.alloc (.cells (cfgA c) 23) = W
    obtain ⟨A0, B0, Z0⟩ := boxed hW
    clear hW
    obtain ⟨H, hH⟩ : ∃ H, w.heap.size = H := ⟨_, rfl⟩
    rw [hH] at A0 B0
    rw [hH]
    have HH : Hid (w.heap.size = H) := hH
    clear hH Z0
    have l0 := A0.lt
    have x0_0 := A0.cell 0 _ rfl
    have x1_0 := A0.cell 1 _ rfl
    have x2_0 := A0.cell 2 _ rfl
    have x3_0 := A0.cell 3 _ rfl
    have x4_0 := A0.cell 4 _ rfl
    have x5_0 := A0.cell 5 _ rfl
    have x6_0 := A0.cell 6 _ rfl
    have x7_0 := A0.cell 7 _ rfl
    have x8_0 := A0.cell 8 _ rfl
    have x9_0 := A0.cell 9 _ rfl
    have x10_0 := A0.cell 10 _ rfl
    refine (dy_target _ c j hj).mono ?_; rw [if_neg HN.out]; rintro e w1 ⟨rfl, b1⟩
    have A1 := A0.below b1 A0.lt
    have B1 := B0.trans (b1.mono (Nat.le_of_lt A0.lt))
    have l1 := A1.lt
    clear x0_0 x1_0 x2_0 x3_0 x4_0 x5_0 x6_0 x7_0 x8_0 x9_0 x10_0 A0 B0 l0
    have x0_1 := A1.cell 0 _ rfl
    have x1_1 := A1.cell 1 _ rfl
    have x2_1 := A1.cell 2 _ rfl
    have x3_1 := A1.cell 3 _ rfl
    have x4_1 := A1.cell 4 _ rfl
    have x5_1 := A1.cell 5 _ rfl
    have x6_1 := A1.cell 6 _ rfl
    have x7_1 := A1.cell 7 _ rfl
    have x8_1 := A1.cell 8 _ rfl
    have x9_1 := A1.cell 9 _ rfl
    have x10_1 := A1.cell 10 _ rfl
    clear b1
    go_wp2_with fail
    refine (dd_check _ c).mono ?_; rw [HQ.out]; rintro e w2 ⟨rfl, b2⟩
    have A2 := A1.below b2 A1.lt
    have B2 := B1.trans (b2.mono (Nat.le_of_lt A1.lt))
    have l2 := A2.lt
    clear x0_1 x1_1 x2_1 x3_1 x4_1 x5_1 x6_1 x7_1 x8_1 x9_1 x10_1 A1 B1 l1
    have x0_2 := A2.cell 0 _ rfl
    have x1_2 := A2.cell 1 _ rfl
    have x2_2 := A2.cell 2 _ rfl
    have x3_2 := A2.cell 3 _ rfl
    have x4_2 := A2.cell 4 _ rfl
    have x5_2 := A2.cell 5 _ rfl
    have x6_2 := A2.cell 6 _ rfl
    have x7_2 := A2.cell 7 _ rfl
    have x8_2 := A2.cell 8 _ rfl
    have x9_2 := A2.cell 9 _ rfl
    have x10_2 := A2.cell 10 _ rfl
    clear b2
    go_wp2_with fail
    refine (dy_new_no _ c HN.out).mono ?_; rw [HQ.out]; rintro e w3 ⟨rfl, b3⟩
    have A3 := A2.below b3 A2.lt
    have B3 := B2.trans (b3.mono (Nat.le_of_lt A2.lt))
    have l3 := A3.lt
    clear x0_2 x1_2 x2_2 x3_2 x4_2 x5_2 x6_2 x7_2 x8_2 x9_2 x10_2 A2 B2 l2
    have x0_3 := A3.cell 0 _ rfl
    have x1_3 := A3.cell 1 _ rfl
    have x2_3 := A3.cell 2 _ rfl
    have x3_3 := A3.cell 3 _ rfl
    have x4_3 := A3.cell 4 _ rfl
    have x5_3 := A3.cell 5 _ rfl
    have x6_3 := A3.cell 6 _ rfl
    have x7_3 := A3.cell 7 _ rfl
    have x8_3 := A3.cell 8 _ rfl
    have x9_3 := A3.cell 9 _ rfl
    have x10_3 := A3.cell 10 _ rfl
    clear b3
    go_wp2_with fail
    refine (dy_check _ c).mono ?_; rw [HQ.out]; rintro e w4 ⟨rfl, b4⟩
    have A4 := A3.below b4 A3.lt
    have B4 := B3.trans (b4.mono (Nat.le_of_lt A3.lt))
    have l4 := A4.lt
    clear x0_3 x1_3 x2_3 x3_3 x4_3 x5_3 x6_3 x7_3 x8_3 x9_3 x10_3 A3 B3 l3
    have x0_4 := A4.cell 0 _ rfl
    have x1_4 := A4.cell 1 _ rfl
    have x2_4 := A4.cell 2 _ rfl
    have x3_4 := A4.cell 3 _ rfl
    have x4_4 := A4.cell 4 _ rfl
    have x5_4 := A4.cell 5 _ rfl
    have x6_4 := A4.cell 6 _ rfl
    have x7_4 := A4.cell 7 _ rfl
    have x8_4 := A4.cell 8 _ rfl
    have x9_4 := A4.cell 9 _ rfl
    have x10_4 := A4.cell 10 _ rfl
    clear b4
    go_wp2_with fail
    refine (dy_alive _).mono ?_; rintro e w5 ⟨rfl, b5⟩
    have A5 := A4.below b5 A4.lt
    have B5 := B4.trans (b5.mono (Nat.le_of_lt A4.lt))
    have l5 := A5.lt
    clear x0_4 x1_4 x2_4 x3_4 x4_4 x5_4 x6_4 x7_4 x8_4 x9_4 x10_4 A4 B4 l4
    have x0_5 := A5.cell 0 _ rfl
    have x1_5 := A5.cell 1 _ rfl
    have x2_5 := A5.cell 2 _ rfl
    have x3_5 := A5.cell 3 _ rfl
    have x4_5 := A5.cell 4 _ rfl
    have x5_5 := A5.cell 5 _ rfl
    have x6_5 := A5.cell 6 _ rfl
    have x7_5 := A5.cell 7 _ rfl
    have x8_5 := A5.cell 8 _ rfl
    have x9_5 := A5.cell 9 _ rfl
    have x10_5 := A5.cell 10 _ rfl
    clear b5
    go_wp2_with fail
    go_ret
    exact ⟨rfl, by rw [HH.out]; exact B5⟩

set_option maxRecDepth 100000 in
theorem lifted (os : Os) (started : os.Started) (H : Type) (enc : TypeId × Value → H) :
    ReturnsInHanded {} Try.checked os 3 .any (Rows.delayTargetsSpec.pre6 enc Try.prog Try.f3 Rows.delayTargetsRow.domain false) (Rows.delayTargetsSpec.post enc Try.prog Try.f3 false true false false) := by
  refine returnsInHanded_of_change (C := Try.checked) own started (by kernel_rfl) Try.func3
    (ChangeSpec.witness6 (enc := enc) (C := Try.checked) false ⟨#[], #[.agg #[.int .i64 0, .int .i64 0, .int .i64 0, .int .i64 0, .int .i64 0, .int .i64 0, .int .i64 0, .int .i64 0, .int .i64 0, .int .i64 0, .bool false], .int .i64 0], []⟩ 8 (by kernel_rfl) (by kernel_rfl) (by kernel_rfl) (by kernel_rfl)) ?_
  intro W base args ds gs before hval0 hW hcnd _
  have hval : ∀ (j : Nat) t v, Try.f3.params[j]? = some t → args[j]? = some v → Value.okWide Try.prog W .any base t v := hval0
  have hW' := hW
  obtain ⟨p, q, hA0, hV, rfl, hfz, hnd⟩ := hW
  have hA : DataW.TrodAll enc Try.prog W 0 (fun _ => true) true Try.f3.params.toList args.toList ds p := hA0
  rw [Try.params3] at hA hval
  obtain ⟨v0, vs0, d0, ds0, p0, q0, hargs, rfl, rfl, h0, r0⟩ := trodAll_cons hA
  obtain ⟨v1, vs1, d1, ds1, p1, q1, rfl, rfl, rfl, h1, r1⟩ := trodAll_cons r0
  obtain ⟨rfl, rfl, rfl⟩ := trodAll_nil r1
  obtain rfl : args = #[v0, v1] := by cases args; simp_all
  obtain ⟨rfl, rfl⟩ := trodVars_none hV
  have hlt := hW'.lt
  have k0 := h0
  obtain ⟨rc0, e0, b0⟩ := open_cfg (hval 0 23 v0 rfl rfl) h0
  subst e0
  have k1 := h1
  obtain ⟨a1, rfl, rfl, rfl, w1⟩ := open_int Try.underlying2 (hval 1 2 v1 rfl rfl) h1
  clear hA0 hval0
  refine (walk W rc0 b0 a1 w1).mono fun e W' ⟨he, hg⟩ => ?_
  subst he
  exact ⟨_, rfl, post_of_below hW' (fun _ _ _ => (trodAll_cons_mk (shut_bool Try.underlying4 _) trodAll_mk0)) (trodAll_cons_mk (Below.trod laidOut (by kernel_rfl) (of_decide_eq_true (by kernel_rfl)) k0 hg (fun x hx => by first | exact absurd hx (by simp) | exact hlt x (by simp [hx]))) (trodAll_cons_mk (Below.trod laidOut (by kernel_rfl) (of_decide_eq_true (by kernel_rfl)) k1 hg (fun x hx => by first | exact absurd hx (by simp) | exact hlt x (by simp [hx]))) trodAll_mk0)) rfl hg⟩

theorem over : Rows.delayTargetsRow.holds Try.pinned (OpenSpec.ofChange Rows.delayTargetsSpec) :=
  OpenClaim.holds_of_wide 3 Try.f3 rfl rfl rfl rfl rfl rfl rfl ⟨rfl, rfl, rfl, rfl, rfl⟩ rfl rfl rfl rfl rfl (by kernel_rfl) Try.func3 (by kernel_rfl)
    (of_decide_eq_true (by kernel_rfl)) (by unfold Func.isWrapper; first | (rw [if_pos (by decide +kernel)]; kernel_rfl) | (rw [if_neg (by decide +kernel)]; exact ⟨rfl, rfl⟩))
    (fun os started H enc _ => lifted os started H enc)
end DelayTargetsL

theorem delayTargets_proved : Rows.DelayTargetsSaid := DelayTargetsL.over
#print axioms delayTargets_proved
end Go.Proofs.Ytmclcoaicngodaa
