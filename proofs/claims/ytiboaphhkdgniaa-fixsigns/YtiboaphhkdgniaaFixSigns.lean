/-
  Proved: sums and products are the same the other way about, with 0 and with 1 a number is itself, a difference and back is the number (the law FixSigns answers true at every input).
  Conditions: none.
-/
import Derived.Test.YtiboaphhkdgniaaRows
import Derived.Test.YtiboaphhkdgniaaAlive
import Derived.Test.YtiboaphhkdgniaaDiv
import Derived.WalkKit
import Derived.ProofKit
import Derived.OpenShut
import Derived.Test.YtiboaphhkdgniaaArr
namespace Go.Proofs.Ytiboaphhkdgniaa
open Go.ChangeShapes Go.WideShapes Go.ChangeAt Go.RowKit
set_option linter.unusedVariables false

namespace FixSignsL
theorem own : ownKnob Try.prog.godebug = none := by kernel_rfl
theorem neg_neg_in {a : Int} (ha : R64 a) (h : a ≠ -9223372036854775808) : sat (-a) = -a ∧ R64 (-a) ∧ sat (-(-a)) = a := by
  have h2 : R64 (-a) := by unfold R64 at *; omega
  exact ⟨sat_in h2, h2, by rw [Int.neg_neg]; exact sat_in ha⟩
theorem walk (a b : Int) (wa : (Lit.int .i64 a).wf = true) (wb : (Lit.int .i64 b).wf = true) (w : World) :
    Calls Try.prog 8 #[.int .i64 a, .int .i64 b] w fun e w' => e = .returned (.bool true) ∧ Grown w w' := by
  have ha := wf_R64 wa
  have hb := wf_R64 wb
  clear wa wb
  have r0 : R64 0 := by unfold R64; omega
  have r1 : R64 65536 := by unfold R64; omega
  have e1 : sat (b + a) = sat (a + b) := by rw [Int.add_comm]
  have e2 : sat (b * a / 65536) = sat (a * b / 65536) := by rw [Int.mul_comm]
  have e3 : sat (a + 0) = a := by rw [Int.add_zero]; exact sat_in ha
  have e4 : sat (a * 65536 / 65536) = a := by rw [Int.mul_ediv_cancel _ (by decide)]; exact sat_in ha
  have e5 : sat (divI a 65536) = a := by unfold divI; rw [if_neg (by decide)]; exact e4
  have e6 : sat (a - a) = 0 := by rw [Int.sub_self]; rfl
  have e7 : sat (a * 0 / 65536) = 0 := by rw [Int.mul_zero]; rfl
  obtain ⟨D, hD⟩ : ∃ D, sat (a - b) = D := ⟨_, rfl⟩
  have rD : R64 D := hD ▸ sat_bd _
  go_enter Try.func8, Try.ntmps8
  go_wp2_with fail
  refine (add_any a b ha hb _).mono ?_; rintro e w1 ⟨rfl, g1⟩
  go_wp2_with fail
  refine (add_any b a hb ha _).mono ?_; rw [e1]; rintro e w2 ⟨rfl, g2⟩
  go_wp2_with fail
  refine (mul_any a b ha hb _).mono ?_; rintro e w3 ⟨rfl, g3⟩
  go_wp2_with fail
  refine (mul_any b a hb ha _).mono ?_; rw [e2]; rintro e w4 ⟨rfl, g4⟩
  go_wp2_with fail
  refine (add_any a 0 ha r0 _).mono ?_; rw [e3]; rintro e w5 ⟨rfl, g5⟩
  go_wp2_with fail
  refine (mul_any a 65536 ha r1 _).mono ?_; rw [e4]; rintro e w6 ⟨rfl, g6⟩
  go_wp2_with fail
  refine (div_any a 65536 ha r1 (by decide) _).mono ?_; rw [e5]; rintro e w7 ⟨rfl, g7⟩
  go_wp2_with fail
  refine (sub_any a a ha ha _).mono ?_; rw [e6]; rintro e w8 ⟨rfl, g8⟩
  go_wp2_with fail
  refine (mul_any a 0 ha r0 _).mono ?_; rw [e7]; rintro e w9 ⟨rfl, g9⟩
  go_wp2_with fail
  refine (sub_any a b ha hb _).mono ?_; rw [hD]; rintro e w10 ⟨rfl, g10⟩
  have gg := ((((((((g1.then g2).then g3).then g4).then g5).then g6).then g7).then g8).then g9).then g10
  clear g1 g2 g3 g4 g5 g6 g7 g8 g9 g10 e1 e2 e3 e4 e5 e6 e7
  have hback : D ≠ 9223372036854775807 → D ≠ -9223372036854775808 → sat (D + b) = a := by
    intro h1 h2
    have hs : D = a - b := by
      revert hD; unfold sat; split <;> (try split) <;> omega
    rw [hs, Int.sub_add_cancel]; exact sat_in ha
  clear hD
  have HB := (show Hid _ from hback)
  clear hback
  by_cases d1 : D = 9223372036854775807
  · subst d1
    by_cases a0 : a = -9223372036854775808
    · subst a0
      go_wp2_with fail
      refine (alive_any _).mono ?_; rintro e w11 ⟨rfl, g11⟩
      go_wp2_with fail
      go_ret
      exact ⟨rfl, (gg.then g11).grown⟩
    · have c1 : (a == -9223372036854775808) = false := by simpa using a0
      obtain ⟨n1, n2, n3⟩ := neg_neg_in ha a0
      go_wp2_with fail
      refine (alive_any _).mono ?_; rintro e w11 ⟨rfl, g11⟩
      go_wp2_with fail
      refine (neg_any a ha _).mono ?_; rw [n1]; rintro e w12 ⟨rfl, g12⟩
      go_wp2_with fail
      refine (neg_any (-a) n2 _).mono ?_; rw [n3]; rintro e w13 ⟨rfl, g13⟩
      go_wp2_with fail
      go_ret
      exact ⟨rfl, (((gg.then g11).then g12).then g13).grown⟩
  · have d1' : (D != 9223372036854775807) = true := by simpa using d1
    by_cases d2 : D = -9223372036854775808
    · subst d2
      by_cases a0 : a = -9223372036854775808
      · subst a0
        go_wp2_with fail
        refine (alive_any _).mono ?_; rintro e w11 ⟨rfl, g11⟩
        go_wp2_with fail
        go_ret
        exact ⟨rfl, (gg.then g11).grown⟩
      · have c1 : (a == -9223372036854775808) = false := by simpa using a0
        obtain ⟨n1, n2, n3⟩ := neg_neg_in ha a0
        go_wp2_with fail
        refine (alive_any _).mono ?_; rintro e w11 ⟨rfl, g11⟩
        go_wp2_with fail
        refine (neg_any a ha _).mono ?_; rw [n1]; rintro e w12 ⟨rfl, g12⟩
        go_wp2_with fail
        refine (neg_any (-a) n2 _).mono ?_; rw [n3]; rintro e w13 ⟨rfl, g13⟩
        go_wp2_with fail
        go_ret
        exact ⟨rfl, (((gg.then g11).then g12).then g13).grown⟩
    · have d2' : (D != -9223372036854775808) = true := by simpa using d2
      have e8 := HB.out d1 d2
      by_cases a0 : a = -9223372036854775808
      · subst a0
        go_wp2_with fail
        refine (add_any D b rD hb _).mono ?_; rw [e8]; rintro e w11 ⟨rfl, g11⟩
        go_wp2_with fail
        refine (alive_any _).mono ?_; rintro e w12 ⟨rfl, g12⟩
        go_wp2_with fail
        go_ret
        exact ⟨rfl, ((gg.then g11).then g12).grown⟩
      · have c1 : (a == -9223372036854775808) = false := by simpa using a0
        obtain ⟨n1, n2, n3⟩ := neg_neg_in ha a0
        go_wp2_with fail
        refine (add_any D b rD hb _).mono ?_; rw [e8]; rintro e w10 ⟨rfl, g10⟩
        go_wp2_with fail
        refine (alive_any _).mono ?_; rintro e w11 ⟨rfl, g11⟩
        go_wp2_with fail
        refine (neg_any a ha _).mono ?_; rw [n1]; rintro e w12 ⟨rfl, g12⟩
        go_wp2_with fail
        refine (neg_any (-a) n2 _).mono ?_; rw [n3]; rintro e w13 ⟨rfl, g13⟩
        go_wp2_with fail
        go_ret
        exact ⟨rfl, ((((gg.then g10).then g11).then g12).then g13).grown⟩

set_option maxRecDepth 100000 in
theorem lifted (os : Os) (started : os.Started) (H : Type) (enc : TypeId × Value → H) :
    ReturnsInHanded {} Try.checked os 8 .any (Rows.fixSignsSpec.pre6 enc Try.prog Try.f8 Rows.fixSignsRow.domain false) (Rows.fixSignsSpec.post enc Try.prog Try.f8 false true false false) := by
  refine returnsInHanded_of_change (C := Try.checked) own started (by kernel_rfl) Try.func8
    (ChangeSpec.witness6 (enc := enc) (C := Try.checked) false ⟨#[], #[.int .i64 0, .int .i64 0], []⟩ 8 (by kernel_rfl) (by kernel_rfl) (by kernel_rfl) (by kernel_rfl)) ?_
  intro W base args ds gs before hval0 hW hcnd _
  have hval : ∀ (j : Nat) t v, Try.f8.params[j]? = some t → args[j]? = some v → Value.okWide Try.prog W .any base t v := hval0
  have hW' := hW
  obtain ⟨p, q, hA0, hV, rfl, hfz, hnd⟩ := hW
  have hA : DataW.TrodAll enc Try.prog W 0 (fun _ => true) true Try.f8.params.toList args.toList ds p := hA0
  rw [Try.params8] at hA hval
  obtain ⟨v0, vs0, d0, ds0, p0, q0, hargs, rfl, rfl, h0, r0⟩ := trodAll_cons hA
  obtain ⟨v1, vs1, d1, ds1, p1, q1, rfl, rfl, rfl, h1, r1⟩ := trodAll_cons r0
  obtain ⟨rfl, rfl, rfl⟩ := trodAll_nil r1
  obtain rfl : args = #[v0, v1] := by cases args; simp_all
  obtain ⟨rfl, rfl⟩ := trodVars_none hV
  obtain ⟨a0, rfl, rfl, rfl, w0⟩ := open_int Try.underlying2 (hval 0 2 v0 rfl rfl) h0
  obtain ⟨a1, rfl, rfl, rfl, w1⟩ := open_int Try.underlying2 (hval 1 2 v1 rfl rfl) h1
  clear hA0 hval0
  simp only [List.append_nil] at hW'
  refine (walk a0 a1 w0 w1 W).mono fun e W' ⟨he, hg⟩ => ?_
  subst he
  exact ⟨_, rfl, post_of_same (pa := []) (pv := []) hW' (fun _ _ _ => (trodAll_cons_mk (shut_bool Try.underlying4 _) trodAll_mk0)) (fun sp _ => (trodAll_cons_mk (shut_int Try.underlying2 w0) (trodAll_cons_mk (shut_int Try.underlying2 w1) trodAll_mk0))) (fun _ _ => rfl) rfl
    (hg.frame _) hg.2.1 (ok_one (by kernel_rfl) rfl (okWide_bool_mk Try.underlying4 _))⟩

theorem over : Rows.fixSignsRow.holds Try.pinned (OpenSpec.ofChange Rows.fixSignsSpec) :=
  OpenClaim.holds_of_wide 8 Try.f8 rfl rfl rfl rfl rfl rfl rfl ⟨rfl, rfl, rfl, rfl, rfl⟩ rfl rfl rfl rfl rfl (by kernel_rfl) Try.func8 (by kernel_rfl)
    (of_decide_eq_true (by kernel_rfl)) (by unfold Func.isWrapper; first | (rw [if_pos (by decide +kernel)]; kernel_rfl) | (rw [if_neg (by decide +kernel)]; exact ⟨rfl, rfl⟩))
    (fun os started H enc _ => lifted os started H enc)
end FixSignsL

theorem fixSigns_proved : Rows.FixSignsSaid := FixSignsL.over
#print axioms fixSigns_proved
end Go.Proofs.Ytiboaphhkdgniaa
