/-
  Proved: a number that isn't less has no fewer bytes, and stands for a number that is no nearer to 0 (the law VarintOrder answers true at every input).
  Conditions: none.
-/
import Derived.Test.YtplfibgciaokoaaRows
import Derived.Test.YtplfibgciaokoaaFr
import Derived.Test.YtplfibgciaokoaaVint6
namespace Go.Proofs.Ytplfibgciaokoaa
open Go.ChangeShapes Go.WideShapes Go.ChangeAt Go.RowKit
set_option linter.unusedVariables false

namespace VarintOrderL
theorem own : ownKnob Try.prog.godebug = none := by kernel_rfl

def absI (n : Int) : Int := if n < 0 then -n else n
theorem abs_zag {x : Int} (h : 0 ≤ x) : absI (zag x) = (x + 1) / 2 := by unfold absI zag; split <;> split <;> omega
theorem size_run (n : Int) (hn : -9223372036854775808 ≤ n ∧ n ≤ 9223372036854775807) (w : World) :
    Calls Try.prog 19 #[.int .i64 n] w fun e w' => e = .returned (.int .u64 (absI n)) ∧ w' = w := by
  obtain ⟨h0, h1⟩ := hn
  go_enter Try.func19, Try.ntmps19
  go_wp2
  · go_ret
    refine ⟨ret_int ?_, rfl⟩
    simp only [IntKind.wrap_u64]; unfold absI; rw [if_pos (by omega)]; omega
  · go_ret
    refine ⟨ret_int ?_, rfl⟩
    unfold absI; rw [if_neg (by omega)]
set_option maxHeartbeats 1000000 in
theorem walkC (w : World) (a b lo hi : Int) (hlo : min a b = lo) (hhi : max a b = hi) (l0 : 0 ≤ lo) (l1 : lo ≤ hi) (l2 : hi ≤ 18446744073709551615) :
    Calls Try.prog 7 #[.int .u64 a, .int .u64 b] w fun e w' => e = .returned (.bool true) ∧ Below w.heap.size w w' := by
  obtain ⟨x, hx⟩ : ∃ x, zag lo = x := ⟨_, rfl⟩
  obtain ⟨y, hy⟩ : ∃ y, zag hi = y := ⟨_, rfl⟩
  have bx := zag_bd (x := lo) ⟨l0, by omega⟩; rw [hx] at bx
  have bY := zag_bd (x := hi) ⟨by omega, l2⟩; rw [hy] at bY
  have ax := abs_zag (x := lo) l0; rw [hx] at ax
  have ay := abs_zag (x := hi) (by omega); rw [hy] at ay
  obtain ⟨p, hp⟩ : ∃ p, absI x = p := ⟨_, rfl⟩
  obtain ⟨q, hq⟩ : ∃ q, absI y = q := ⟨_, rfl⟩
  rw [hp] at ax; rw [hq] at ay
  have pq : p ≤ q := by omega
  obtain ⟨t, ht1, ht2⟩ : ∃ t : Bool, (lo == hi) = t ∧ (x == y) = t := by
    by_cases h : lo = hi
    · refine ⟨true, by simp [h], ?_⟩
      rw [← hx, ← hy, h]; simp
    · refine ⟨false, by simpa using h, ?_⟩
      have : x ≠ y := by
        intro e
        apply h
        rw [← zig_zag l0, ← zig_zag (x := hi) (by omega), hx, hy, e]
      simpa using this
  have sz := put_up lo.toNat lo hi (Nat.le_refl _) l0 l1
  obtain ⟨m, hm⟩ : ∃ m, (put lo).length = m := ⟨_, rfl⟩
  obtain ⟨n, hn⟩ : ∃ n, (put hi).length = n := ⟨_, rfl⟩
  rw [hm, hn] at sz
  have HX := (show Hid _ from hx); have HY := (show Hid _ from hy); have HP := (show Hid _ from hp); have HQ := (show Hid _ from hq)
  have HM := (show Hid _ from hm); have HN := (show Hid _ from hn)
  clear hx hy hp hq hm hn ax ay
  go_enter Try.func7, Try.ntmps7
  go_wp2_with fail
  refine (zag_any lo l0 (by omega) _).mono ?_; rw [HX.out]; rintro e w1 ⟨rfl, rfl⟩
  go_wp2_with fail
  refine (zag_any hi (by omega) l2 _).mono ?_; rw [HY.out]; rintro e w1 ⟨rfl, rfl⟩
  go_wp2_with fail
  refine (valive_any _).mono ?_; rintro e w1 ⟨rfl, b1⟩
  go_wp2_with fail
  refine (size_any lo l0 (by omega) _).mono ?_; rw [HM.out]; rintro e w2 ⟨rfl, rfl⟩
  go_wp2_with fail
  refine (size_any hi (by omega) l2 _).mono ?_; rw [HN.out]; rintro e w2 ⟨rfl, rfl⟩
  go_wp2_with fail
  refine (size_run x bx _).mono ?_; rw [HP.out]; rintro e w2 ⟨rfl, rfl⟩
  go_wp2_with fail
  refine (size_run y bY _).mono ?_; rw [HQ.out]; rintro e w2 ⟨rfl, rfl⟩
  go_wp2_with fail
  go_ret
  exact ⟨by simp, b1⟩
theorem walk (w : World) (a : Int) (va : (Lit.int .u64 a).wf = true) (b : Int) (vb : (Lit.int .u64 b).wf = true) :
    Calls Try.prog 7 #[.int .u64 a, .int .u64 b] w fun e w' => e = .returned (.bool true) ∧ Below w.heap.size w w' := by
  obtain ⟨a0, a1⟩ := wf_u64 va
  obtain ⟨b0, b1⟩ := wf_u64 vb
  by_cases h : a ≤ b
  · exact walkC w a b a b (by omega) (by omega) a0 h b1
  · exact walkC w a b b a (by omega) (by omega) b0 (by omega) a1

set_option maxRecDepth 100000 in
theorem lifted (os : Os) (started : os.Started) (H : Type) (enc : TypeId × Value → H) :
    ReturnsInHanded {} Try.checked os 7 .any (Rows.varintOrderSpec.pre6 enc Try.prog Try.f7 Rows.varintOrderRow.domain false) (Rows.varintOrderSpec.post enc Try.prog Try.f7 false true false false) := by
  refine returnsInHanded_of_change (C := Try.checked) own started (by kernel_rfl) Try.func7
    (ChangeSpec.witness6 (enc := enc) (C := Try.checked) false ⟨#[], #[.int .u64 0, .int .u64 0], []⟩ 8 (by kernel_rfl) (by kernel_rfl) (by kernel_rfl) (by kernel_rfl)) ?_
  intro W base args ds gs before hval0 hW hcnd _
  have hval : ∀ (j : Nat) t v, Try.f7.params[j]? = some t → args[j]? = some v → Value.okWide Try.prog W .any base t v := hval0
  have hW' := hW
  obtain ⟨p, q, hA0, hV, rfl, hfz, hnd⟩ := hW
  have hA : DataW.TrodAll enc Try.prog W 0 (fun _ => true) true Try.f7.params.toList args.toList ds p := hA0
  rw [Try.params7] at hA hval
  obtain ⟨v0, vs0, d0, ds0, p0, q0, hargs, rfl, rfl, h0, r0⟩ := trodAll_cons hA
  obtain ⟨v1, vs1, d1, ds1, p1, q1, rfl, rfl, rfl, h1, r1⟩ := trodAll_cons r0
  obtain ⟨rfl, rfl, rfl⟩ := trodAll_nil r1
  obtain rfl : args = #[v0, v1] := by cases args; simp_all
  obtain ⟨rfl, rfl⟩ := trodVars_none hV
  have hlt := hW'.lt
  have k0 := h0
  obtain ⟨a0, rfl, rfl, rfl, w0⟩ := open_int Try.underlying22 (hval 0 22 v0 rfl rfl) h0
  have k1 := h1
  obtain ⟨a1, rfl, rfl, rfl, w1⟩ := open_int Try.underlying22 (hval 1 22 v1 rfl rfl) h1
  clear hA0 hval0
  refine (walk W a0 w0 a1 w1).mono fun e W' ⟨he, hg⟩ => ?_
  subst he
  exact ⟨_, rfl, post_of_below hW' (fun _ _ _ => (trodAll_cons_mk (shut_bool Try.underlying4 _) trodAll_mk0)) (trodAll_cons_mk (Below.trod laidOut (by kernel_rfl) (of_decide_eq_true (by kernel_rfl)) k0 hg (fun x hx => by first | exact absurd hx (by simp) | exact hlt x (by simp [hx]))) (trodAll_cons_mk (Below.trod laidOut (by kernel_rfl) (of_decide_eq_true (by kernel_rfl)) k1 hg (fun x hx => by first | exact absurd hx (by simp) | exact hlt x (by simp [hx]))) trodAll_mk0)) rfl hg⟩

theorem over : Rows.varintOrderRow.holds Try.pinned (OpenSpec.ofChange Rows.varintOrderSpec) :=
  OpenClaim.holds_of_wide 7 Try.f7 rfl rfl rfl rfl rfl rfl rfl ⟨rfl, rfl, rfl, rfl, rfl⟩ rfl rfl rfl rfl rfl (by kernel_rfl) Try.func7 (by kernel_rfl)
    (of_decide_eq_true (by kernel_rfl)) (by unfold Func.isWrapper; first | (rw [if_pos (by decide +kernel)]; kernel_rfl) | (rw [if_neg (by decide +kernel)]; exact ⟨rfl, rfl⟩))
    (fun os started H enc _ => lifted os started H enc)
end VarintOrderL

theorem varintOrder_proved : Rows.VarintOrderSaid := VarintOrderL.over
#print axioms varintOrder_proved
end Go.Proofs.Ytplfibgciaokoaa
