/-
  Proved: of any number varint.Put answers the document's own bytes, and varint.Size how many these are (the law VarintPuts answers true at every input).
  Conditions: none.
-/
import Derived.Test.YtplfibgciaokoaaRows
import Derived.Test.YtplfibgciaokoaaFr
import Derived.Test.YtplfibgciaokoaaVint6
namespace Go.Proofs.Ytplfibgciaokoaa
open Go.ChangeShapes Go.WideShapes Go.ChangeAt Go.RowKit
set_option linter.unusedVariables false

namespace VarintPutsL
theorem own : ownKnob Try.prog.godebug = none := by kernel_rfl

attribute [local go_sem ↓] Go.wp_at_zero Go.wp_at_succ
set_option maxHeartbeats 1000000 in
theorem walk (w : World) (x : Int) (vx : (Lit.int .u64 x).wf = true) :
    Calls Try.prog 3 #[.int .u64 x] w fun e w' => e = .returned (.bool true) ∧ Below w.heap.size w w' := by
  obtain ⟨h0, h1⟩ := wf_u64 vx
  clear vx
  obtain ⟨s, hs⟩ : ∃ s, strOfNums (put x) = s := ⟨_, rfl⟩
  have HS := (show Hid _ from hs)
  clear hs
  go_enter Try.func3, Try.ntmps3
  go_wp2_with fail
  refine (put_any x h0 h1 _).mono ?_; rintro e w1 ⟨v, rfl, hown, b1⟩
  obtain ⟨g, cap, rfl, _, _, _, _, _⟩ := hown.form (put_ne x)
  have R1 : Rd w1.drew _ (put x) := hown.rd
  have s1 := str_run R1
  have e1 : w1.drew.heap.size = w1.heap.size := rfl
  have b1' : Below w.heap.size w w1.drew := b1.drew
  rw [HS.out] at s1
  clear hown b1
  obtain ⟨n, hn⟩ : ∃ n, (put x).length = n := ⟨_, rfl⟩
  have HN := (show Hid _ from hn)
  rw [hn] at R1 s1 ⊢
  clear hn
  have R1h := (show Hid _ from R1); clear R1
  go_wp2_with fail
  go_region_with
    (first
      | (go_at_call 10; (with_reducible refine (valive_any _).mono ?_); rintro e w2 ⟨rfl, b2⟩; have R2 := Rd.below R1h.out b2; have s2 := str_run R2; rw [HS.out] at s2; have B2 := bthen b1' b2; clear b2)
      | (go_at_call 11; (with_reducible refine (rput_any x h0 h1 _).mono ?_); rintro e w3 ⟨u, rfl, own3, b3⟩; have R3 := R2.below b3; have s3 := str_run R3; have t3 := str_run own3.rd; rw [HS.out] at s3 t3; have B3 := bthen B2 b3; clear own3 b3)
      | (go_at_call 12; (with_reducible refine (size_any x h0 h1 _).mono ?_); rw [HN.out]; rintro e w4 ⟨rfl, rfl⟩))
  all_goals
    go_wp2_with fail
    go_ret
    exact ⟨rfl, B3⟩

set_option maxRecDepth 100000 in
theorem lifted (os : Os) (started : os.Started) (H : Type) (enc : TypeId × Value → H) :
    ReturnsInHanded {} Try.checked os 3 .any (Rows.varintPutsSpec.pre6 enc Try.prog Try.f3 Rows.varintPutsRow.domain false) (Rows.varintPutsSpec.post enc Try.prog Try.f3 false true false false) := by
  refine returnsInHanded_of_change (C := Try.checked) own started (by kernel_rfl) Try.func3
    (ChangeSpec.witness6 (enc := enc) (C := Try.checked) false ⟨#[], #[.int .u64 0], []⟩ 8 (by kernel_rfl) (by kernel_rfl) (by kernel_rfl) (by kernel_rfl)) ?_
  intro W base args ds gs before hval0 hW hcnd _
  have hval : ∀ (j : Nat) t v, Try.f3.params[j]? = some t → args[j]? = some v → Value.okWide Try.prog W .any base t v := hval0
  have hW' := hW
  obtain ⟨p, q, hA0, hV, rfl, hfz, hnd⟩ := hW
  have hA : DataW.TrodAll enc Try.prog W 0 (fun _ => true) true Try.f3.params.toList args.toList ds p := hA0
  rw [Try.params3] at hA hval
  obtain ⟨v0, vs0, d0, ds0, p0, q0, hargs, rfl, rfl, h0, r0⟩ := trodAll_cons hA
  obtain ⟨rfl, rfl, rfl⟩ := trodAll_nil r0
  obtain rfl : args = #[v0] := by cases args; simp_all
  obtain ⟨rfl, rfl⟩ := trodVars_none hV
  have hlt := hW'.lt
  have k0 := h0
  obtain ⟨a0, rfl, rfl, rfl, w0⟩ := open_int Try.underlying22 (hval 0 22 v0 rfl rfl) h0
  clear hA0 hval0
  refine (walk W a0 w0).mono fun e W' ⟨he, hg⟩ => ?_
  subst he
  exact ⟨_, rfl, post_of_below hW' (fun _ _ _ => (trodAll_cons_mk (shut_bool Try.underlying4 _) trodAll_mk0)) (trodAll_cons_mk (Below.trod laidOut (by kernel_rfl) (of_decide_eq_true (by kernel_rfl)) k0 hg (fun x hx => by first | exact absurd hx (by simp) | exact hlt x (by simp [hx]))) trodAll_mk0) rfl hg⟩

theorem over : Rows.varintPutsRow.holds Try.pinned (OpenSpec.ofChange Rows.varintPutsSpec) :=
  OpenClaim.holds_of_wide 3 Try.f3 rfl rfl rfl rfl rfl rfl rfl ⟨rfl, rfl, rfl, rfl, rfl⟩ rfl rfl rfl rfl rfl (by kernel_rfl) Try.func3 (by kernel_rfl)
    (of_decide_eq_true (by kernel_rfl)) (by unfold Func.isWrapper; first | (rw [if_pos (by decide +kernel)]; kernel_rfl) | (rw [if_neg (by decide +kernel)]; exact ⟨rfl, rfl⟩))
    (fun os started H enc _ => lifted os started H enc)
end VarintPutsL

theorem varintPuts_proved : Rows.VarintPutsSaid := VarintPutsL.over
#print axioms varintPuts_proved
end Go.Proofs.Ytplfibgciaokoaa
