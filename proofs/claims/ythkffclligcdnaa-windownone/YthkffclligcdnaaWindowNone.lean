/-
  Proved: how many may be looked at; of no window nothing is told (the law WindowNone answers true at every input).
  Conditions: none.
-/
import Derived.Test.YthkffclligcdnaaRows
import Derived.Test.YthkffclligcdnaaFr13
import Derived.Test.YthkffclligcdnaaWn4
namespace Go.Proofs.Ythkffclligcdnaa
open Go.ChangeShapes Go.WideShapes Go.ChangeAt Go.RowKit
set_option linter.unusedVariables false

namespace WindowNoneL
theorem own : ownKnob Try.prog.godebug = none := by kernel_rfl

set_option maxRecDepth 20000 in
set_option maxHeartbeats 4000000 in
theorem walk (w : World) (n : Int) (hn : (Lit.int .i64 n).wf = true) (x : ByteArray) :
    Calls Try.prog 4 #[.int .i64 n, .string x] w fun e w' => e = .returned (.bool true) ∧ Below w.heap.size w w' := by
  obtain ⟨H, hH⟩ : ∃ H, w.heap.size = H := ⟨_, rfl⟩
  have HH : Hid (w.heap.size = H) := hH
  clear hn
  go_enter Try.func4, Try.ntmps4
  go_wp2_with fail
  refine (least_nilS w).mono ?_; rintro e w1 ⟨rfl, rfl⟩
  go_wp2_with fail
  refine (greatest_nilS w1).mono ?_; rintro e w2 ⟨rfl, rfl⟩
  go_wp2_with fail
  refine (wadd_nilS w2 x).mono ?_; rintro e w3 ⟨rfl, rfl⟩
  go_wp2_with fail
  refine (wlen_nilS w3).mono ?_; rintro e w4 ⟨rfl, rfl⟩
  go_wp2_with fail
  refine (wlast_nilS w4).mono ?_; rintro e w5 ⟨rfl, rfl⟩
  by_cases h1 : n < 1
  · go_wp2_with fail
    refine (wnew_noS w5 n (Or.inl h1)).mono ?_; rintro e w6 ⟨rfl, rfl⟩
    go_wp2_with fail
    refine (wn_alive w6).mono ?_; rintro e w7 ⟨rfl, b7⟩
    go_wp2_with fail
    go_ret
    exact ⟨rfl, b7⟩
  have d1 : decide (n < 1) = false := by simpa using h1
  by_cases h2 : 64 < n
  · go_wp2_with fail
    refine (wnew_noS w5 n (Or.inr h2)).mono ?_; rintro e w6 ⟨rfl, rfl⟩
    go_wp2_with fail
    refine (wn_alive w6).mono ?_; rintro e w7 ⟨rfl, b7⟩
    go_wp2_with fail
    go_ret
    exact ⟨rfl, b7⟩
  have d2 : decide (64 < n) = false := by simpa using h2
  obtain ⟨M, rfl⟩ : ∃ M : Nat, n = (M : Int) := ⟨n.toNat, by omega⟩
  go_wp2_with fail
  refine (wnew_anyS w5 M (by omega) (by omega)).mono ?_; rintro e w6 ⟨rfl, r6, b6, z6⟩
  rw [hH] at r6 b6
  rw [hH]
  have R6 : Hid (WinV 9 w6 H H (.slice none 0 0) ⟨M, []⟩) := r6
  have B6 : Hid (Below H w5 w6) := b6
  clear r6 b6 z6 hH
  go_wp2_with fail
  refine (wadd_anyS w6 H H _ _ R6.out (fun u hu => by cases hu) x).mono ?_; rintro e w7 ⟨v7, rfl, r7, c7⟩
  have hM : ¬ (0 : Nat) = M := by omega
  have e7 : addW ⟨M, []⟩ (.string x) = ⟨M, [.string x]⟩ := by
    unfold addW; simp only [List.length_nil]; rw [if_neg hM]; rfl
  rw [e7] at r7
  have R7 : Hid (WinV 9 w7 H H v7 ⟨M, [.string x]⟩) := r7
  have B7 : Hid (Below H w5 w7) := B6.out.trans c7.below
  clear r7 c7 R6 B6 e7
  go_wp2_with fail
  refine (least_anyS w7 H H _ _ R7.out (StrsV.enc [x]) (by simp)).mono ?_; rintro e w8 ⟨rfl, q, rfl⟩
  have R8 : Hid (WinV 9 (w7.drewN q) H H v7 ⟨M, [.string x]⟩) := R7.out.drewN q
  have B8 : Hid (Below H w5 (w7.drewN q)) := below_drewN B7.out q
  have HB : best ltS (⟨M, [.string x]⟩ : Wd).L = .string x := rfl
  rw [HB]
  clear R7 B7 HB
  generalize w7.drewN q = w8 at R8 B8 ⊢
  go_wp2_with fail
  refine (wn_alive w8).mono ?_; rintro e w9 ⟨rfl, b9⟩
  have R9 : Hid (WinV 9 w9 H H v7 ⟨M, [.string x]⟩) := R8.out.below b9
  have B9 : Hid (Below H w5 w9) := B8.out.trans (b9.mono (by have := B8.out.size; have := HH.out; omega))
  clear R8 B8 b9
  go_wp2_with fail
  refine (wlen_anyS w9 H H v7 _ R9.out).mono ?_; rintro e w10 ⟨rfl, rfl⟩
  go_wp2_with fail
  go_ret
  exact ⟨rfl, by rw [HH.out]; exact B9.out⟩

set_option maxRecDepth 100000 in
theorem lifted (os : Os) (started : os.Started) (H : Type) (enc : TypeId × Value → H) :
    ReturnsInHanded {} Try.checked os 4 .any (Rows.windowNoneSpec.pre6 enc Try.prog Try.f4 Rows.windowNoneRow.domain false) (Rows.windowNoneSpec.post enc Try.prog Try.f4 false true false false) := by
  refine returnsInHanded_of_change (C := Try.checked) own started (by kernel_rfl) Try.func4
    (ChangeSpec.witness6 (enc := enc) (C := Try.checked) false ⟨#[], #[.int .i64 0, .string ⟨#[]⟩], []⟩ 8 (by kernel_rfl) (by kernel_rfl) (by kernel_rfl) (by kernel_rfl)) ?_
  intro W base args ds gs before hval0 hW hcnd _
  have hval : ∀ (j : Nat) t v, Try.f4.params[j]? = some t → args[j]? = some v → Value.okWide Try.prog W .any base t v := hval0
  have hW' := hW
  obtain ⟨p, q, hA0, hV, rfl, hfz, hnd⟩ := hW
  have hA : DataW.TrodAll enc Try.prog W 0 (fun _ => true) true Try.f4.params.toList args.toList ds p := hA0
  rw [Try.params4] at hA hval
  obtain ⟨v0, vs0, d0, ds0, p0, q0, hargs, rfl, rfl, h0, r0⟩ := trodAll_cons hA
  obtain ⟨v1, vs1, d1, ds1, p1, q1, rfl, rfl, rfl, h1, r1⟩ := trodAll_cons r0
  obtain ⟨rfl, rfl, rfl⟩ := trodAll_nil r1
  obtain rfl : args = #[v0, v1] := by cases args; simp_all
  obtain ⟨rfl, rfl⟩ := trodVars_none hV
  have hlt := hW'.lt
  have k0 := h0
  obtain ⟨a0, rfl, rfl, rfl, w0⟩ := open_int Try.underlying3 (hval 0 3 v0 rfl rfl) h0
  have k1 := h1
  obtain ⟨a1, rfl, rfl, rfl, w1⟩ := Go.ChangeMaps.open_string Try.underlying9 (hval 1 9 v1 rfl rfl) h1
  clear hA0 hval0
  refine (walk W a0 w0 a1).mono fun e W' ⟨he, hg⟩ => ?_
  subst he
  exact ⟨_, rfl, post_of_below hW' (fun _ _ _ => (trodAll_cons_mk (shut_bool Try.underlying4 _) trodAll_mk0)) (trodAll_cons_mk (Below.trod laidOut (by kernel_rfl) (of_decide_eq_true (by kernel_rfl)) k0 hg (fun x hx => by first | exact absurd hx (by simp) | exact hlt x (by simp [hx]))) (trodAll_cons_mk (Below.trod laidOut (by kernel_rfl) (of_decide_eq_true (by kernel_rfl)) k1 hg (fun x hx => by first | exact absurd hx (by simp) | exact hlt x (by simp [hx]))) trodAll_mk0)) rfl hg⟩

theorem over : Rows.windowNoneRow.holds Try.pinned (OpenSpec.ofChange Rows.windowNoneSpec) :=
  OpenClaim.holds_of_wide 4 Try.f4 rfl rfl rfl rfl rfl rfl rfl ⟨rfl, rfl, rfl, rfl, rfl⟩ rfl rfl rfl rfl rfl (by kernel_rfl) Try.func4 (by kernel_rfl)
    (of_decide_eq_true (by kernel_rfl)) (by unfold Func.isWrapper; first | (rw [if_pos (by decide +kernel)]; kernel_rfl) | (rw [if_neg (by decide +kernel)]; exact ⟨rfl, rfl⟩))
    (fun os started H enc _ => lifted os started H enc)
end WindowNoneL

theorem windowNone_proved : Rows.WindowNoneSaid := WindowNoneL.over
#print axioms windowNone_proved
end Go.Proofs.Ythkffclligcdnaa
