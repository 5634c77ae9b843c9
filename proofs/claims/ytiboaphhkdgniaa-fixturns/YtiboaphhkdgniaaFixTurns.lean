/-
  Proved: products and quotients with a number of the other sign are the other sign, or one less (the law FixTurns answers true at every input).
  Conditions: none.
-/
import Derived.Test.YtiboaphhkdgniaaRows
import Derived.Test.YtiboaphhkdgniaaAlive
import Derived.Test.YtiboaphhkdgniaaDiv
import Derived.WalkKit
import Derived.ProofKit
import Derived.OpenShut
import Derived.Test.YtiboaphhkdgniaaArr
namespace Go.Proofs.Ytiboaphhkdgniaa
open Go.ChangeShapes Go.WideShapes Go.ChangeAt Go.RowKit
set_option linter.unusedVariables false

namespace FixTurnsL
theorem own : ownKnob Try.prog.godebug = none := by kernel_rfl
theorem mul_turn {x y : Int} (hx : -2147483648 ≤ x ∧ x ≤ 2147483647) (hy : -2147483648 ≤ y ∧ y ≤ 2147483647) :
    R64 (x * y / 65536) ∧ R64 (-x * y / 65536) ∧ (x * y / 65536 + -x * y / 65536 = 0 ∨ x * y / 65536 + -x * y / 65536 = -1) ∧ -9223372036854775808 ≤ x * y / 65536 + -x * y / 65536 := by
  have h1 : (x * y).natAbs ≤ 2147483648 * 2147483648 := by rw [Int.natAbs_mul]; exact Nat.mul_le_mul (by omega) (by omega)
  rw [Int.neg_mul]
  unfold R64
  generalize x * y = p at *
  omega
theorem div_turn {x y : Int} (hx : -2147483648 ≤ x ∧ x ≤ 2147483647) (hy : -2147483648 ≤ y ∧ y ≤ 2147483647) (h0 : y ≠ 0) :
    R64 (divI x y) ∧ R64 (divI x (-y)) ∧ (divI x y + divI x (-y) = 0 ∨ divI x y + divI x (-y) = -1) ∧ -9223372036854775808 ≤ divI x y + divI x (-y) ∧ divI x y + divI x (-y) ≤ 0 := by
  have key : ∀ (n d : Int), -140737488355328 ≤ n → n ≤ 140737488355328 → 1 ≤ d → R64 (n / d) ∧ R64 (-n / d) ∧ (n / d + -n / d = 0 ∨ n / d + -n / d = -1) := by
    intro n d h1 h2 hd
    have a1 := Int.mul_ediv_add_emod n d
    have a2 := Int.emod_nonneg n (show d ≠ 0 by omega)
    have a3 := Int.emod_lt_of_pos n (show 0 < d by omega)
    have b1 := Int.mul_ediv_add_emod (-n) d
    have b2 := Int.emod_nonneg (-n) (show d ≠ 0 by omega)
    have b3 := Int.emod_lt_of_pos (-n) (show 0 < d by omega)
    have c1 : (n / d).natAbs ≤ n.natAbs := Int.natAbs_ediv_le_natAbs n d
    have c2 : (-n / d).natAbs ≤ (-n).natAbs := Int.natAbs_ediv_le_natAbs (-n) d
    refine ⟨by unfold R64; omega, by unfold R64; omega, ?_⟩
    have e : d * (n / d + -n / d) = -(n % d + (-n) % d) := by rw [Int.mul_add]; omega
    by_cases p1 : n / d + -n / d ≤ -2
    · have : d * (n / d + -n / d) ≤ d * (-2) := Int.mul_le_mul_of_nonneg_left p1 (by omega)
      omega
    · by_cases p2 : 1 ≤ n / d + -n / d
      · have : d * 1 ≤ d * (n / d + -n / d) := Int.mul_le_mul_of_nonneg_left p2 (by omega)
        omega
      · omega
  unfold divI
  by_cases hs : y < 0
  · have h := key (-(x * 65536)) (-y) (by omega) (by omega) (by omega)
    rw [if_pos hs, if_neg (by omega)]
    rw [Int.neg_neg] at h
    obtain ⟨h1, h2, h3⟩ := h
    refine ⟨h1, h2, h3, by omega, by omega⟩
  · have h := key (x * 65536) y (by omega) (by omega) (by omega)
    rw [if_neg hs, if_pos (by omega), Int.neg_neg]
    obtain ⟨h1, h2, h3⟩ := h
    refine ⟨h1, h2, h3, by omega, by omega⟩
set_option maxHeartbeats 1000000 in
theorem walkS (a b p q k : Int) (ba : -2147483648 ≤ a ∧ a ≤ 2147483647) (bb : -2147483648 ≤ b ∧ b ≤ 2147483647) (e1 : sat (a * b / 65536) = p) (e2 : sat (-a * b / 65536) = q) (hpq : p + q = k) (hk : k = 0 ∨ k = -1) (w : World) :
    Calls Try.prog 11 #[.int .i32 a, .int .i32 b] w fun e w' => e = .returned (.bool true) ∧ Grown w w' := by
  have ha : R64 a := by unfold R64; omega
  have hb : R64 b := by unfold R64; omega
  have ha' : R64 (-a) := by unfold R64; omega
  have hb' : R64 (-b) := by unfold R64; omega
  have e3 : sat (-a * -b / 65536) = p := by rw [Int.neg_mul_neg, e1]
  have hw : wrap64 (p + q) = k := by rw [hpq, wrap64_eq]; omega
  have t1 : ((k != 0) && (k != -1)) = false := by rcases hk with rfl | rfl <;> rfl
  have hdiv : b ≠ 0 → ∃ r s l : Int, sat (divI a b) = r ∧ sat (divI a (-b)) = s ∧ r + s = l ∧ wrap64 (r + s) = l ∧ (l = 0 ∨ l = -1) := by
    intro h0
    obtain ⟨d1, d2, d3, d4, d5⟩ := div_turn ba bb h0
    refine ⟨_, _, _, sat_in d1, sat_in d2, rfl, wrap64_of _ _ 0 (by omega) (by unfold R64; omega), d3⟩
  have HD := (show Hid _ from hdiv)
  have hz : b = 0 → p = 0 ∧ q = 0 := by rintro rfl; rw [← e1, ← e2, Int.mul_zero, Int.mul_zero]; exact ⟨rfl, rfl⟩
  have HZ := (show Hid _ from hz)
  obtain ⟨a1, a2⟩ := ba
  obtain ⟨b1, b2⟩ := bb
  clear hdiv hz
  have E1 := (show Hid _ from e1)
  have E2 := (show Hid _ from e2)
  have E3 := (show Hid _ from e3)
  clear e1 e2 e3
  go_enter Try.func11, Try.ntmps11
  go_wp2_with fail
  refine (mul_any a b ha hb _).mono ?_; rw [E1.out]; rintro e w1 ⟨rfl, g1⟩
  go_wp2_with fail
  refine (mul_any (-a) b ha' hb _).mono ?_; rw [E2.out]; rintro e w2 ⟨rfl, g2⟩
  have gg := g1.then g2
  clear g1 g2
  by_cases b0 : b = 0
  · obtain ⟨p0, q0⟩ := HZ.out b0
    subst p0 q0
    have c0 : (b == 0) = true := by simpa using b0
    have HB := (show Hid _ from b0)
    clear b0 hpq hw hk t1
    go_wp2_with fail
    refine (alive_any _).mono ?_; rintro e w3 ⟨rfl, g3⟩
    go_wp2_with fail
    go_ret
    exact ⟨rfl, (gg.then g3).grown⟩
  · have c0 : (b == 0) = false := by simpa using b0
    obtain ⟨r, s, l, f1, f2, f3, f4, f5⟩ := HD.out b0
    have F1 := (show Hid _ from f1)
    have F2 := (show Hid _ from f2)
    clear f1 f2
    have hb0' : -b ≠ 0 := by omega
    rcases hk with k0 | k0 <;> rcases f5 with l0 | l0
    all_goals
      go_wp2_with fail
      refine (div_any a b ha hb b0 _).mono ?_; rw [F1.out]; rintro e w3 ⟨rfl, g3⟩
      go_wp2_with fail
      refine (div_any a (-b) ha hb' hb0' _).mono ?_; rw [F2.out]; rintro e w4 ⟨rfl, g4⟩
      go_wp2_with fail
      refine (alive_any _).mono ?_; rintro e w5 ⟨rfl, g5⟩
      go_wp2_with fail
      refine (mul_any a b ha hb _).mono ?_; rw [E1.out]; rintro e w6 ⟨rfl, g6⟩
      go_wp2_with fail
      refine (mul_any (-a) (-b) ha' hb' _).mono ?_; rw [E3.out]; rintro e w7 ⟨rfl, g7⟩
      go_wp2_with fail
      go_ret
      exact ⟨rfl, (((((gg.then g3).then g4).then g5).then g6).then g7).grown⟩
theorem walk (a b : Int) (wa : (Lit.int .i32 a).wf = true) (wb : (Lit.int .i32 b).wf = true) (w : World) :
    Calls Try.prog 11 #[.int .i32 a, .int .i32 b] w fun e w' => e = .returned (.bool true) ∧ Grown w w' := by
  have ba := bounds_i32 wa
  have bb := bounds_i32 wb
  obtain ⟨m1, m2, m3, m4⟩ := mul_turn ba bb
  exact walkS a b _ _ _ ba bb (sat_in m1) (sat_in m2) rfl m3 w

set_option maxRecDepth 100000 in
theorem lifted (os : Os) (started : os.Started) (H : Type) (enc : TypeId × Value → H) :
    ReturnsInHanded {} Try.checked os 11 .any (Rows.fixTurnsSpec.pre6 enc Try.prog Try.f11 Rows.fixTurnsRow.domain false) (Rows.fixTurnsSpec.post enc Try.prog Try.f11 false true false false) := by
  refine returnsInHanded_of_change (C := Try.checked) own started (by kernel_rfl) Try.func11
    (ChangeSpec.witness6 (enc := enc) (C := Try.checked) false ⟨#[], #[.int .i32 0, .int .i32 0], []⟩ 8 (by kernel_rfl) (by kernel_rfl) (by kernel_rfl) (by kernel_rfl)) ?_
  intro W base args ds gs before hval0 hW hcnd _
  have hval : ∀ (j : Nat) t v, Try.f11.params[j]? = some t → args[j]? = some v → Value.okWide Try.prog W .any base t v := hval0
  have hW' := hW
  obtain ⟨p, q, hA0, hV, rfl, hfz, hnd⟩ := hW
  have hA : DataW.TrodAll enc Try.prog W 0 (fun _ => true) true Try.f11.params.toList args.toList ds p := hA0
  rw [Try.params11] at hA hval
  obtain ⟨v0, vs0, d0, ds0, p0, q0, hargs, rfl, rfl, h0, r0⟩ := trodAll_cons hA
  obtain ⟨v1, vs1, d1, ds1, p1, q1, rfl, rfl, rfl, h1, r1⟩ := trodAll_cons r0
  obtain ⟨rfl, rfl, rfl⟩ := trodAll_nil r1
  obtain rfl : args = #[v0, v1] := by cases args; simp_all
  obtain ⟨rfl, rfl⟩ := trodVars_none hV
  obtain ⟨a0, rfl, rfl, rfl, w0⟩ := open_int Try.underlying21 (hval 0 21 v0 rfl rfl) h0
  obtain ⟨a1, rfl, rfl, rfl, w1⟩ := open_int Try.underlying21 (hval 1 21 v1 rfl rfl) h1
  clear hA0 hval0
  simp only [List.append_nil] at hW'
  refine (walk a0 a1 w0 w1 W).mono fun e W' ⟨he, hg⟩ => ?_
  subst he
  exact ⟨_, rfl, post_of_same (pa := []) (pv := []) hW' (fun _ _ _ => (trodAll_cons_mk (shut_bool Try.underlying4 _) trodAll_mk0)) (fun sp _ => (trodAll_cons_mk (shut_int Try.underlying21 w0) (trodAll_cons_mk (shut_int Try.underlying21 w1) trodAll_mk0))) (fun _ _ => rfl) rfl
    (hg.frame _) hg.2.1 (ok_one (by kernel_rfl) rfl (okWide_bool_mk Try.underlying4 _))⟩

theorem over : Rows.fixTurnsRow.holds Try.pinned (OpenSpec.ofChange Rows.fixTurnsSpec) :=
  OpenClaim.holds_of_wide 11 Try.f11 rfl rfl rfl rfl rfl rfl rfl ⟨rfl, rfl, rfl, rfl, rfl⟩ rfl rfl rfl rfl rfl (by kernel_rfl) Try.func11 (by kernel_rfl)
    (of_decide_eq_true (by kernel_rfl)) (by unfold Func.isWrapper; first | (rw [if_pos (by decide +kernel)]; kernel_rfl) | (rw [if_neg (by decide +kernel)]; exact ⟨rfl, rfl⟩))
    (fun os started H enc _ => lifted os started H enc)
end FixTurnsL

theorem fixTurns_proved : Rows.FixTurnsSaid := FixTurnsL.over
#print axioms fixTurns_proved
end Go.Proofs.Ytiboaphhkdgniaa
