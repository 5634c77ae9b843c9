/-
  Proved: of any bytes varint.Get answers what the document's own answer does: the number that they begin with, how many bytes it has, or why there is none (the law VarintGets answers true at every input).
  Conditions: none.
-/
import Derived.Test.YtplfibgciaokoaaRows
import Derived.Test.YtplfibgciaokoaaFr
import Derived.Test.YtplfibgciaokoaaVint6
namespace Go.Proofs.Ytplfibgciaokoaa
open Go.ChangeShapes Go.WideShapes Go.ChangeAt Go.RowKit
set_option linter.unusedVariables false

namespace VarintGetsL
theorem own : ownKnob Try.prog.godebug = none := by kernel_rfl

set_option maxHeartbeats 1000000 in
theorem walk (w : World) (v : Value) (l : List Int) (hb : Bytes l) (h : Rd w v l) :
    Calls Try.prog 4 #[v] w fun e w' => e = .returned (.bool true) ∧ Below w.heap.size w w' := by
  obtain ⟨r, hr⟩ : ∃ r, got l = r := ⟨_, rfl⟩
  have HR := (show Hid _ from hr)
  have HB := (show Hid _ from hb)
  have H := (show Hid _ from h)
  clear hr hb h
  obtain ⟨r1, r2, r3⟩ := r
  go_enter Try.func4, Try.ntmps4
  go_wp2_with fail
  refine (get_any v l HB.out _ H.out).mono ?_; rw [HR.out]; rintro e w1 ⟨rfl, rfl⟩
  go_wp2_with fail
  refine (rget_any v l HB.out _ H.out).mono ?_; rw [HR.out]; rintro e w1 ⟨rfl, rfl⟩
  go_wp2_with fail
  refine (valive_any _).mono ?_; rintro e w1 ⟨rfl, b1⟩
  go_wp2_with fail
  go_ret
  exact ⟨rfl, b1⟩

set_option maxRecDepth 100000 in
theorem lifted (os : Os) (started : os.Started) (H : Type) (enc : TypeId × Value → H) :
    ReturnsInHanded {} Try.checked os 4 .any (Rows.varintGetsSpec.pre6 enc Try.prog Try.f4 Rows.varintGetsRow.domain false) (Rows.varintGetsSpec.post enc Try.prog Try.f4 false true false false) := by
  refine returnsInHanded_of_change (C := Try.checked) own started (by kernel_rfl) Try.func4
    (ChangeSpec.witness6 (enc := enc) (C := Try.checked) false ⟨#[], #[.slice none 0 0], []⟩ 8 (by kernel_rfl) (by kernel_rfl) (by kernel_rfl) (by kernel_rfl)) ?_
  intro W base args ds gs before hval0 hW hcnd _
  have hval : ∀ (j : Nat) t v, Try.f4.params[j]? = some t → args[j]? = some v → Value.okWide Try.prog W .any base t v := hval0
  have hW' := hW
  obtain ⟨p, q, hA0, hV, rfl, hfz, hnd⟩ := hW
  have hA : DataW.TrodAll enc Try.prog W 0 (fun _ => true) true Try.f4.params.toList args.toList ds p := hA0
  rw [Try.params4] at hA hval
  obtain ⟨v0, vs0, d0, ds0, p0, q0, hargs, rfl, rfl, h0, r0⟩ := trodAll_cons hA
  obtain ⟨rfl, rfl, rfl⟩ := trodAll_nil r0
  obtain rfl : args = #[v0] := by cases args; simp_all
  obtain ⟨rfl, rfl⟩ := trodVars_none hV
  have hlt := hW'.lt
  have k0 := h0
  obtain ⟨l0, b0, e0⟩ := open_u8s (hval 0 23 v0 rfl rfl) h0
  clear hA0 hval0
  refine (walk W v0 l0 b0 e0).mono fun e W' ⟨he, hg⟩ => ?_
  subst he
  exact ⟨_, rfl, post_of_below hW' (fun _ _ _ => (trodAll_cons_mk (shut_bool Try.underlying4 _) trodAll_mk0)) (trodAll_cons_mk (Below.trod laidOut (by kernel_rfl) (of_decide_eq_true (by kernel_rfl)) k0 hg (fun x hx => by first | exact absurd hx (by simp) | exact hlt x (by simp [hx]))) trodAll_mk0) rfl hg⟩

theorem over : Rows.varintGetsRow.holds Try.pinned (OpenSpec.ofChange Rows.varintGetsSpec) :=
  OpenClaim.holds_of_wide 4 Try.f4 rfl rfl rfl rfl rfl rfl rfl ⟨rfl, rfl, rfl, rfl, rfl⟩ rfl rfl rfl rfl rfl (by kernel_rfl) Try.func4 (by kernel_rfl)
    (of_decide_eq_true (by kernel_rfl)) (by unfold Func.isWrapper; first | (rw [if_pos (by decide +kernel)]; kernel_rfl) | (rw [if_neg (by decide +kernel)]; exact ⟨rfl, rfl⟩))
    (fun os started H enc _ => lifted os started H enc)
end VarintGetsL

theorem varintGets_proved : Rows.VarintGetsSaid := VarintGetsL.over
#print axioms varintGets_proved
end Go.Proofs.Ytplfibgciaokoaa
