/-
  Proved: a quotient times its divisor is the number, or a little less (the law FixDivs answers true at every input).
  Conditions: none.
-/
import Derived.Test.YtiboaphhkdgniaaRows
import Derived.Test.YtiboaphhkdgniaaAlive
import Derived.Test.YtiboaphhkdgniaaDiv
import Derived.WalkKit
import Derived.ProofKit
import Derived.OpenShut
import Derived.Test.YtiboaphhkdgniaaArr
namespace Go.Proofs.Ytiboaphhkdgniaa
open Go.ChangeShapes Go.WideShapes Go.ChangeAt Go.RowKit
set_option linter.unusedVariables false

namespace FixDivsL
theorem own : ownKnob Try.prog.godebug = none := by kernel_rfl
theorem div_back {x y : Int} (hx : -2147483648 ≤ x ∧ x ≤ 2147483647) (hy : 1 ≤ y ∧ y ≤ 4294967295) :
    R64 (divI x y) ∧ R64 (divI x y * y / 65536) ∧ divI x y * y / 65536 ≤ x ∧ x - divI x y * y / 65536 ≤ y / 65536 + 1 := by
  unfold divI
  rw [if_neg (by omega)]
  have a1 := Int.mul_ediv_add_emod (x * 65536) y
  have a2 := Int.emod_nonneg (x * 65536) (show y ≠ 0 by omega)
  have a3 := Int.emod_lt_of_pos (x * 65536) (show 0 < y by omega)
  have c1 : (x * 65536 / y).natAbs ≤ (x * 65536).natAbs := Int.natAbs_ediv_le_natAbs (x * 65536) y
  rw [Int.mul_comm] at a1
  unfold R64
  refine ⟨by omega, ?_⟩
  generalize x * 65536 / y * y = p at *
  generalize x * 65536 % y = r at *
  omega
theorem walkS (a b d p : Int) (ba : -2147483648 ≤ a ∧ a ≤ 2147483647) (bb : 1 ≤ b ∧ b ≤ 4294967295) (e1 : sat (divI a b) = d) (e2 : sat (d * b / 65536) = p) (t1 : p ≤ a) (t2 : a - p ≤ b / 65536 + 1) (t3 : R64 d) (t4 : R64 p) (w : World) :
    Calls Try.prog 12 #[.int .i32 a, .int .u32 b] w fun e w' => e = .returned (.bool true) ∧ Grown w w' := by
  have ha : R64 a := by unfold R64; omega
  have hb : R64 b := by unfold R64; omega
  have c0 : (b == 0) = false := by simp; omega
  have b0 : b ≠ 0 := by omega
  obtain ⟨a1, a2⟩ := ba
  obtain ⟨b1, b2⟩ := bb
  have t3' := t3
  obtain ⟨p1, p2⟩ := t4
  have E1 := (show Hid _ from e1)
  have E2 := (show Hid _ from e2)
  clear e1 e2
  go_enter Try.func12, Try.ntmps12
  go_wp2_with fail
  refine (div_any a b ha hb b0 _).mono ?_; rw [E1.out]; rintro e w1 ⟨rfl, g1⟩
  go_wp2_with fail
  refine (mul_any d b t3 hb _).mono ?_; rw [E2.out]; rintro e w2 ⟨rfl, g2⟩
  go_wp2_with fail
  refine (alive_any _).mono ?_; rintro e w3 ⟨rfl, g3⟩
  go_wp2_with fail
  go_ret
  exact ⟨rfl, ((g1.then g2).then g3).grown⟩
theorem walk (a b : Int) (wa : (Lit.int .i32 a).wf = true) (wb : (Lit.int .u32 b).wf = true) (w : World) :
    Calls Try.prog 12 #[.int .i32 a, .int .u32 b] w fun e w' => e = .returned (.bool true) ∧ Grown w w' := by
  have ba := bounds_i32 wa
  have bb := bounds_u32 wb
  by_cases b0 : b = 0
  · subst b0
    clear wa wb bb
    go_enter Try.func12, Try.ntmps12
    go_wp2_with fail
    refine (alive_any _).mono ?_; rintro e w1 ⟨rfl, g1⟩
    go_wp2_with fail
    go_ret
    exact ⟨rfl, g1.grown⟩
  · obtain ⟨m1, m2, m3, m4⟩ := div_back ba (y := b) (by omega)
    exact walkS a b _ _ ba (by omega) (sat_in m1) (sat_in m2) m3 m4 m1 m2 w

set_option maxRecDepth 100000 in
theorem lifted (os : Os) (started : os.Started) (H : Type) (enc : TypeId × Value → H) :
    ReturnsInHanded {} Try.checked os 12 .any (Rows.fixDivsSpec.pre6 enc Try.prog Try.f12 Rows.fixDivsRow.domain false) (Rows.fixDivsSpec.post enc Try.prog Try.f12 false true false false) := by
  refine returnsInHanded_of_change (C := Try.checked) own started (by kernel_rfl) Try.func12
    (ChangeSpec.witness6 (enc := enc) (C := Try.checked) false ⟨#[], #[.int .i32 0, .int .u32 0], []⟩ 8 (by kernel_rfl) (by kernel_rfl) (by kernel_rfl) (by kernel_rfl)) ?_
  intro W base args ds gs before hval0 hW hcnd _
  have hval : ∀ (j : Nat) t v, Try.f12.params[j]? = some t → args[j]? = some v → Value.okWide Try.prog W .any base t v := hval0
  have hW' := hW
  obtain ⟨p, q, hA0, hV, rfl, hfz, hnd⟩ := hW
  have hA : DataW.TrodAll enc Try.prog W 0 (fun _ => true) true Try.f12.params.toList args.toList ds p := hA0
  rw [Try.params12] at hA hval
  obtain ⟨v0, vs0, d0, ds0, p0, q0, hargs, rfl, rfl, h0, r0⟩ := trodAll_cons hA
  obtain ⟨v1, vs1, d1, ds1, p1, q1, rfl, rfl, rfl, h1, r1⟩ := trodAll_cons r0
  obtain ⟨rfl, rfl, rfl⟩ := trodAll_nil r1
  obtain rfl : args = #[v0, v1] := by cases args; simp_all
  obtain ⟨rfl, rfl⟩ := trodVars_none hV
  obtain ⟨a0, rfl, rfl, rfl, w0⟩ := open_int Try.underlying21 (hval 0 21 v0 rfl rfl) h0
  obtain ⟨a1, rfl, rfl, rfl, w1⟩ := open_int Try.underlying42 (hval 1 42 v1 rfl rfl) h1
  clear hA0 hval0
  simp only [List.append_nil] at hW'
  refine (walk a0 a1 w0 w1 W).mono fun e W' ⟨he, hg⟩ => ?_
  subst he
  exact ⟨_, rfl, post_of_same (pa := []) (pv := []) hW' (fun _ _ _ => (trodAll_cons_mk (shut_bool Try.underlying4 _) trodAll_mk0)) (fun sp _ => (trodAll_cons_mk (shut_int Try.underlying21 w0) (trodAll_cons_mk (shut_int Try.underlying42 w1) trodAll_mk0))) (fun _ _ => rfl) rfl
    (hg.frame _) hg.2.1 (ok_one (by kernel_rfl) rfl (okWide_bool_mk Try.underlying4 _))⟩

theorem over : Rows.fixDivsRow.holds Try.pinned (OpenSpec.ofChange Rows.fixDivsSpec) :=
  OpenClaim.holds_of_wide 12 Try.f12 rfl rfl rfl rfl rfl rfl rfl ⟨rfl, rfl, rfl, rfl, rfl⟩ rfl rfl rfl rfl rfl (by kernel_rfl) Try.func12 (by kernel_rfl)
    (of_decide_eq_true (by kernel_rfl)) (by unfold Func.isWrapper; first | (rw [if_pos (by decide +kernel)]; kernel_rfl) | (rw [if_neg (by decide +kernel)]; exact ⟨rfl, rfl⟩))
    (fun os started H enc _ => lifted os started H enc)
end FixDivsL

theorem fixDivs_proved : Rows.FixDivsSaid := FixDivsL.over
#print axioms fixDivs_proved
end Go.Proofs.Ytiboaphhkdgniaa
