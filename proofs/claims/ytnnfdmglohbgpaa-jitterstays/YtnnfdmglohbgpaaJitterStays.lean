/-
  Proved: a sample that is the estimate leaves it; by seven hundred samples that are the same it comes to one from 15 below these up to them (the law JitterStays answers true at every input).
  Conditions: none.
-/
import Derived.Test.YtnnfdmglohbgpaaRows
import Derived.Test.YtnnfdmglohbgpaaFr7
import Derived.Test.YtnnfdmglohbgpaaJi2
namespace Go.Proofs.Ytnnfdmglohbgpaa
open Go.ChangeShapes Go.WideShapes Go.ChangeAt Go.RowKit
set_option linter.unusedVariables false

namespace JitterStaysL
theorem own : ownKnob Try.prog.godebug = none := by kernel_rfl

set_option maxRecDepth 20000 in
theorem walk (w : World) (n : Int) (hn : (Lit.int .u32 n).wf = true) (s : Int) (hs : (Lit.int .u32 s).wf = true) :
    Calls Try.prog 6 #[.int .u32 n, .int .u32 s] w fun e w' => e = .returned (.bool true) ∧ Below w.heap.size w w' := by
  have bn := bounds_u32 hn
  have bs := bounds_u32 hs
  clear hn hs
  have hsame := stepI_same (x := n) (by omega)
  go_enter Try.func6, Try.ntmps6
  go_wp2_with fail
  refine (jstep n n (by omega) (by omega) _).mono ?_; rw [hsame]; rintro e w1 ⟨rfl, rfl⟩
  go_wp2_with fail
  go_loopg [5, 16] 700 (fun g x i wr => ∃ (k : Nat), k + g = 700 ∧ i = .int .i64 k ∧ x = .int .i64 (manyI s k n) ∧ wr = w1)
  case atStart => exact ⟨0, by omega, rfl, rfl, rfl⟩
  case round =>
    obtain ⟨k, hk, rfl, rfl, rfl⟩ := hrel
    have hb := many_bd (s := s) (x := n) (by omega) (by omega) (by omega) (by omega) k
    by_cases hlt : k < 700
    · go_wp2_with fail
      refine (jstep _ s (by omega) (by omega) _).mono ?_; rw [← manyI_succ]; rintro e w2 ⟨rfl, rfl⟩
      go_wp2_with fail
      go_roundg (700 - (k + 1))
      case measure => omega
      case rel => exact ⟨k + 1, by omega, by go_num, rfl, rfl⟩
    · obtain rfl : k = 700 := by omega
      have he := many_end (s := s) (x := n) (by omega) (by omega) (by omega) (by omega)
      obtain ⟨y, hy⟩ : ∃ y, manyI s 700 n = y := ⟨_, rfl⟩
      rw [hy] at he ⊢
      clear hy hb
      have d1 := decide_eq_true he.1
      have d2 := decide_eq_true he.2
      go_wp2_with fail
      refine (ji_alive _).mono ?_; rintro e w3 ⟨rfl, rfl⟩
      go_wp2_with fail
      go_ret
      exact ⟨rfl, Below.refl _ _⟩

set_option maxRecDepth 100000 in
theorem lifted (os : Os) (started : os.Started) (H : Type) (enc : TypeId × Value → H) :
    ReturnsInHanded {} Try.checked os 6 .any (Rows.jitterStaysSpec.pre6 enc Try.prog Try.f6 Rows.jitterStaysRow.domain false) (Rows.jitterStaysSpec.post enc Try.prog Try.f6 false true false false) := by
  refine returnsInHanded_of_change (C := Try.checked) own started (by kernel_rfl) Try.func6
    (ChangeSpec.witness6 (enc := enc) (C := Try.checked) false ⟨#[], #[.int .u32 0, .int .u32 0], []⟩ 8 (by kernel_rfl) (by kernel_rfl) (by kernel_rfl) (by kernel_rfl)) ?_
  intro W base args ds gs before hval0 hW hcnd _
  have hval : ∀ (j : Nat) t v, Try.f6.params[j]? = some t → args[j]? = some v → Value.okWide Try.prog W .any base t v := hval0
  have hW' := hW
  obtain ⟨p, q, hA0, hV, rfl, hfz, hnd⟩ := hW
  have hA : DataW.TrodAll enc Try.prog W 0 (fun _ => true) true Try.f6.params.toList args.toList ds p := hA0
  rw [Try.params6] at hA hval
  obtain ⟨v0, vs0, d0, ds0, p0, q0, hargs, rfl, rfl, h0, r0⟩ := trodAll_cons hA
  obtain ⟨v1, vs1, d1, ds1, p1, q1, rfl, rfl, rfl, h1, r1⟩ := trodAll_cons r0
  obtain ⟨rfl, rfl, rfl⟩ := trodAll_nil r1
  obtain rfl : args = #[v0, v1] := by cases args; simp_all
  obtain ⟨rfl, rfl⟩ := trodVars_none hV
  have hlt := hW'.lt
  have k0 := h0
  obtain ⟨a0, rfl, rfl, rfl, w0⟩ := open_int Try.underlying33 (hval 0 33 v0 rfl rfl) h0
  have k1 := h1
  obtain ⟨a1, rfl, rfl, rfl, w1⟩ := open_int Try.underlying33 (hval 1 33 v1 rfl rfl) h1
  clear hA0 hval0
  refine (walk W a0 w0 a1 w1).mono fun e W' ⟨he, hg⟩ => ?_
  subst he
  exact ⟨_, rfl, post_of_below hW' (fun _ _ _ => (trodAll_cons_mk (shut_bool Try.underlying4 _) trodAll_mk0)) (trodAll_cons_mk (Below.trod laidOut (by kernel_rfl) (of_decide_eq_true (by kernel_rfl)) k0 hg (fun x hx => by first | exact absurd hx (by simp) | exact hlt x (by simp [hx]))) (trodAll_cons_mk (Below.trod laidOut (by kernel_rfl) (of_decide_eq_true (by kernel_rfl)) k1 hg (fun x hx => by first | exact absurd hx (by simp) | exact hlt x (by simp [hx]))) trodAll_mk0)) rfl hg⟩

theorem over : Rows.jitterStaysRow.holds Try.pinned (OpenSpec.ofChange Rows.jitterStaysSpec) :=
  OpenClaim.holds_of_wide 6 Try.f6 rfl rfl rfl rfl rfl rfl rfl ⟨rfl, rfl, rfl, rfl, rfl⟩ rfl rfl rfl rfl rfl (by kernel_rfl) Try.func6 (by kernel_rfl)
    (of_decide_eq_true (by kernel_rfl)) (by unfold Func.isWrapper; first | (rw [if_pos (by decide +kernel)]; kernel_rfl) | (rw [if_neg (by decide +kernel)]; exact ⟨rfl, rfl⟩))
    (fun os started H enc _ => lifted os started H enc)
end JitterStaysL

theorem jitterStays_proved : Rows.JitterStaysSaid := JitterStaysL.over
#print axioms jitterStays_proved
end Go.Proofs.Ytnnfdmglohbgpaa
