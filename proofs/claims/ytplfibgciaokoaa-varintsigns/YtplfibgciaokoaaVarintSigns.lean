/-
  Proved: of any number of either sign varint.Zig answers what the document's own answer does, of any number of none varint.Zag does, and each undoes the other (the law VarintSigns answers true at every input).
  Conditions: none.
-/
import Derived.Test.YtplfibgciaokoaaRows
import Derived.Test.YtplfibgciaokoaaFr
import Derived.Test.YtplfibgciaokoaaVint6
namespace Go.Proofs.Ytplfibgciaokoaa
open Go.ChangeShapes Go.WideShapes Go.ChangeAt Go.RowKit
set_option linter.unusedVariables false

namespace VarintSignsL
theorem own : ownKnob Try.prog.godebug = none := by kernel_rfl

set_option maxHeartbeats 1000000 in
theorem walk (w : World) (x : Int) (vx : (Lit.int .i64 x).wf = true) (y : Int) (vy : (Lit.int .u64 y).wf = true) :
    Calls Try.prog 5 #[.int .i64 x, .int .u64 y] w fun e w' => e = .returned (.bool true) ∧ Below w.heap.size w w' := by
  have hx := wf_i64 vx
  have hy := wf_u64 vy
  clear vx vy
  obtain ⟨z, hz⟩ : ∃ z, zig x = z := ⟨_, rfl⟩
  obtain ⟨g, hg⟩ : ∃ g, zag y = g := ⟨_, rfl⟩
  have bz := zig_bd hx; rw [hz] at bz
  have bg := zag_bd hy; rw [hg] at bg
  have Z := (show Hid _ from hz); have G := (show Hid _ from hg)
  have Z2 : Hid (zag z = x) := by rw [← hz]; exact zag_zig x
  have G2 : Hid (zig g = y) := by rw [← hg]; exact zig_zag hy.1
  clear hz hg
  obtain ⟨hy0, hy1⟩ := hy
  obtain ⟨bz0, bz1⟩ := bz
  go_enter Try.func5, Try.ntmps5
  go_wp2_with fail
  refine (valive_any _).mono ?_; rintro e w1 ⟨rfl, b1⟩
  go_wp2_with fail
  refine (zig_any x hx _).mono ?_; rw [Z.out]; rintro e w2 ⟨rfl, rfl⟩
  go_wp2_with fail
  refine (rzig_any x hx _).mono ?_; rw [Z.out]; rintro e w2 ⟨rfl, rfl⟩
  go_wp2_with fail
  refine (zag_any y hy0 hy1 _).mono ?_; rw [G.out]; rintro e w2 ⟨rfl, rfl⟩
  go_wp2_with fail
  refine (rzag_any y hy0 hy1 _).mono ?_; rw [G.out]; rintro e w2 ⟨rfl, rfl⟩
  go_wp2_with fail
  refine (zig_any x hx _).mono ?_; rw [Z.out]; rintro e w2 ⟨rfl, rfl⟩
  go_wp2_with fail
  refine (zag_any z bz0 bz1 _).mono ?_; rw [Z2.out]; rintro e w2 ⟨rfl, rfl⟩
  go_wp2_with fail
  refine (zag_any y hy0 hy1 _).mono ?_; rw [G.out]; rintro e w2 ⟨rfl, rfl⟩
  go_wp2_with fail
  refine (zig_any g bg _).mono ?_; rw [G2.out]; rintro e w2 ⟨rfl, rfl⟩
  go_wp2_with fail
  go_ret
  exact ⟨rfl, b1⟩

set_option maxRecDepth 100000 in
theorem lifted (os : Os) (started : os.Started) (H : Type) (enc : TypeId × Value → H) :
    ReturnsInHanded {} Try.checked os 5 .any (Rows.varintSignsSpec.pre6 enc Try.prog Try.f5 Rows.varintSignsRow.domain false) (Rows.varintSignsSpec.post enc Try.prog Try.f5 false true false false) := by
  refine returnsInHanded_of_change (C := Try.checked) own started (by kernel_rfl) Try.func5
    (ChangeSpec.witness6 (enc := enc) (C := Try.checked) false ⟨#[], #[.int .i64 0, .int .u64 0], []⟩ 8 (by kernel_rfl) (by kernel_rfl) (by kernel_rfl) (by kernel_rfl)) ?_
  intro W base args ds gs before hval0 hW hcnd _
  have hval : ∀ (j : Nat) t v, Try.f5.params[j]? = some t → args[j]? = some v → Value.okWide Try.prog W .any base t v := hval0
  have hW' := hW
  obtain ⟨p, q, hA0, hV, rfl, hfz, hnd⟩ := hW
  have hA : DataW.TrodAll enc Try.prog W 0 (fun _ => true) true Try.f5.params.toList args.toList ds p := hA0
  rw [Try.params5] at hA hval
  obtain ⟨v0, vs0, d0, ds0, p0, q0, hargs, rfl, rfl, h0, r0⟩ := trodAll_cons hA
  obtain ⟨v1, vs1, d1, ds1, p1, q1, rfl, rfl, rfl, h1, r1⟩ := trodAll_cons r0
  obtain ⟨rfl, rfl, rfl⟩ := trodAll_nil r1
  obtain rfl : args = #[v0, v1] := by cases args; simp_all
  obtain ⟨rfl, rfl⟩ := trodVars_none hV
  have hlt := hW'.lt
  have k0 := h0
  obtain ⟨a0, rfl, rfl, rfl, w0⟩ := open_int Try.underlying2 (hval 0 2 v0 rfl rfl) h0
  have k1 := h1
  obtain ⟨a1, rfl, rfl, rfl, w1⟩ := open_int Try.underlying22 (hval 1 22 v1 rfl rfl) h1
  clear hA0 hval0
  refine (walk W a0 w0 a1 w1).mono fun e W' ⟨he, hg⟩ => ?_
  subst he
  exact ⟨_, rfl, post_of_below hW' (fun _ _ _ => (trodAll_cons_mk (shut_bool Try.underlying4 _) trodAll_mk0)) (trodAll_cons_mk (Below.trod laidOut (by kernel_rfl) (of_decide_eq_true (by kernel_rfl)) k0 hg (fun x hx => by first | exact absurd hx (by simp) | exact hlt x (by simp [hx]))) (trodAll_cons_mk (Below.trod laidOut (by kernel_rfl) (of_decide_eq_true (by kernel_rfl)) k1 hg (fun x hx => by first | exact absurd hx (by simp) | exact hlt x (by simp [hx]))) trodAll_mk0)) rfl hg⟩

theorem over : Rows.varintSignsRow.holds Try.pinned (OpenSpec.ofChange Rows.varintSignsSpec) :=
  OpenClaim.holds_of_wide 5 Try.f5 rfl rfl rfl rfl rfl rfl rfl ⟨rfl, rfl, rfl, rfl, rfl⟩ rfl rfl rfl rfl rfl (by kernel_rfl) Try.func5 (by kernel_rfl)
    (of_decide_eq_true (by kernel_rfl)) (by unfold Func.isWrapper; first | (rw [if_pos (by decide +kernel)]; kernel_rfl) | (rw [if_neg (by decide +kernel)]; exact ⟨rfl, rfl⟩))
    (fun os started H enc _ => lifted os started H enc)
end VarintSignsL

theorem varintSigns_proved : Rows.VarintSignsSaid := VarintSignsL.over
#print axioms varintSigns_proved
end Go.Proofs.Ytplfibgciaokoaa
