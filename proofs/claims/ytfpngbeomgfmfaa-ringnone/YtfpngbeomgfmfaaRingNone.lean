/-
  Proved: how many numbers there may be; of no ring nothing is told; there is nothing at places that there aren't (the law RingNone answers true at every input).
  Conditions: none.
-/
import Derived.Test.YtfpngbeomgfmfaaRows
import Derived.Test.YtfpngbeomgfmfaaFr11
import Derived.Test.YtfpngbeomgfmfaaRg8
namespace Go.Proofs.Ytfpngbeomgfmfaa
open Go.ChangeShapes Go.WideShapes Go.ChangeAt Go.RowKit
set_option linter.unusedVariables false

namespace RingNoneL
theorem own : ownKnob Try.prog.godebug = none := by kernel_rfl

set_option maxRecDepth 20000 in
set_option maxHeartbeats 8000000 in
theorem walk (w : World) (n : Int) (hn : (Lit.int .i64 n).wf = true) (i : Int) (hi : (Lit.int .i64 i).wf = true) (key : Int) (hk : (Lit.int .i64 key).wf = true) :
    Calls Try.prog 4 #[.int .i64 n, .int .i64 i, .int .i64 key] w fun e w' => e = .returned (.bool true) ∧ Below w.heap.size w w' := by
  have hk' := wf_i64 hk
  clear hn hi hk
  go_enter Try.func4, Try.ntmps4
  go_wp2_with fail
  refine (lay_nilS _ _ _).mono ?_; rintro e w1 ⟨rfl, rfl⟩
  go_wp2_with fail
  refine (get_nilS _ _).mono ?_; rintro e w2 ⟨rfl, b2⟩
  have B2 : Hid (Below w1.heap.size w1 w2) := b2
  clear b2
  go_wp2_with fail
  refine (at_nilS _ _).mono ?_; rintro e w3 ⟨rfl, rfl⟩
  go_wp2_with fail
  refine (floor_nilS _).mono ?_; rintro e w4 ⟨rfl, rfl⟩
  go_wp2_with fail
  refine (until_nilS _ _).mono ?_; rintro e w5 ⟨rfl, b5⟩
  have B5 : Hid (Below w1.heap.size w1 w5) := B2.out.trans (b5.mono B2.out.size)
  clear b5 B2
  go_wp2_with fail
  refine (len_nilS _).mono ?_; rintro e w6 ⟨rfl, rfl⟩
  go_wp2_with fail
  by_cases hm : n < 1 ∨ 64 < n
  · refine (new_noI _ n hm).mono ?_; rintro e w7 ⟨rfl, rfl⟩
    by_cases h0 : n < 1
    · have d0 : decide (n < 1) = true := by simpa using h0
      clear hm
      go_wp2_with fail
      refine (rg_alive _).mono ?_; rintro e w8 ⟨rfl, b8⟩
      have B8 : Hid (Below w1.heap.size w1 w8) := B5.out.trans (b8.mono B5.out.size)
      clear b8 B5
      go_wp2_with fail
      go_ret
      exact ⟨rfl, B8.out⟩
    · have d0 : decide (n < 1) = false := by simpa using h0
      have d1 : decide (64 < n) = true := by simp; omega
      clear hm h0
      go_wp2_with fail
      refine (rg_alive _).mono ?_; rintro e w8 ⟨rfl, b8⟩
      have B8 : Hid (Below w1.heap.size w1 w8) := B5.out.trans (b8.mono B5.out.size)
      clear b8 B5
      go_wp2_with fail
      go_ret
      exact ⟨rfl, B8.out⟩
  · obtain ⟨m, rfl⟩ : ∃ m : Nat, n = (m : Int) := ⟨n.toNat, by omega⟩
    refine (new_anyI _ m (by omega) (by omega)).mono ?_; rintro e w7 ⟨rfl, r7, b7, z7⟩
    have B7 : Hid (Below w1.heap.size w1 w7) := B5.out.trans (b7.mono B5.out.size)
    obtain ⟨H, hH⟩ : ∃ H, w6.heap.size = H := ⟨_, rfl⟩
    have HH : Hid (w6.heap.size = H) := hH
    have hH1 : w1.heap.size ≤ H := by have := B5.out.size; omega
    have R7 : Hid (RngV 86 w7 H H (.slice none 0 0) (emptyR m)) := by rw [← hH]; exact r7
    rw [hH]
    clear r7 b7 z7 hH
    have d0 : decide ((m : Int) < 1) = false := by simp; omega
    have d1 : decide ((64 : Int) < (m : Int)) = false := by simp; omega
    clear hm
    go_wp2_with fail
    refine (lay_anyI w7 H H _ _ R7.out key hk' _).mono ?_; rintro e w8 ⟨rfl, v8, r8, c8⟩
    have ea : layA (emptyR m) key = (0, false, 0) := by
      have h1 : isAt (emptyR m).L key = false := by simp [isAt, emptyR, untl]
      exact (lay_fit (x := noPr.2) h1 (by show (emptyR m).L.length < (emptyR m).M; simp [emptyR]; have := R7.out.ok.most; simp [emptyR] at this; omega)).1
    have es : layS (emptyR m) key (.int .i64 77) = ⟨m, [(key, .int .i64 77)], 0, false⟩ := by
      have h1 : isAt (emptyR m).L key = false := by simp [isAt, emptyR, untl]
      rw [(lay_fit (x := .int .i64 77) h1 (by show (emptyR m).L.length < (emptyR m).M; simp [emptyR]; have := R7.out.ok.most; simp [emptyR] at this; omega)).2]
      rfl
    rw [es] at r8
    rw [ea]
    have R8 : Hid (RngV 86 w8 H H v8 ⟨m, [(key, .int .i64 77)], 0, false⟩) := r8
    have B8 : Hid (Below w1.heap.size w1 w8) := B7.out.trans (c8.below.mono hH1)
    clear ea es r8 c8 B7 R7 B5 d0 d1
    go_wp2_with fail
    by_cases hi0 : i = 0
    · subst hi0
      refine (at_inI w8 H H _ _ R8.out 0 (by simp)).mono ?_; rintro e w9 ⟨rfl, q, rfl⟩
      have B9 : Hid (Below w1.heap.size w1 (w8.drewN q)) := below_drewN B8.out q
      have e1 : keyAt [(key, Value.int .i64 77)] 0 = key := rfl
      have e2 : thing [(key, Value.int .i64 77)] 0 = .int .i64 77 := rfl
      simp only [e1, e2]
      clear B8 R8 e1 e2
      generalize w8.drewN q = w9 at B9 ⊢
      go_wp2_with fail
      refine (rg_alive _).mono ?_; rintro e w10 ⟨rfl, b10⟩
      have B10 : Hid (Below w1.heap.size w1 w10) := B9.out.trans (b10.mono B9.out.size)
      clear b10 B9
      go_wp2_with fail
      go_ret
      exact ⟨rfl, B10.out⟩
    · refine (at_outI w8 H H _ _ R8.out i (by simp; omega)).mono ?_; rintro e w9 ⟨rfl, q, rfl⟩
      have B9 : Hid (Below w1.heap.size w1 (w8.drewN q)) := below_drewN B8.out q
      have d3 : (i != 0) = true := by simpa using hi0
      clear B8 R8
      generalize w8.drewN q = w9 at B9 ⊢
      go_wp2_with fail
      refine (rg_alive _).mono ?_; rintro e w10 ⟨rfl, b10⟩
      have B10 : Hid (Below w1.heap.size w1 w10) := B9.out.trans (b10.mono B9.out.size)
      clear b10 B9
      go_wp2_with fail
      go_ret
      exact ⟨rfl, B10.out⟩

set_option maxRecDepth 100000 in
theorem lifted (os : Os) (started : os.Started) (H : Type) (enc : TypeId × Value → H) :
    ReturnsInHanded {} Try.checked os 4 .any (Rows.ringNoneSpec.pre6 enc Try.prog Try.f4 Rows.ringNoneRow.domain false) (Rows.ringNoneSpec.post enc Try.prog Try.f4 false true false false) := by
  refine returnsInHanded_of_change (C := Try.checked) own started (by kernel_rfl) Try.func4
    (ChangeSpec.witness6 (enc := enc) (C := Try.checked) false ⟨#[], #[.int .i64 0, .int .i64 0, .int .i64 0], []⟩ 8 (by kernel_rfl) (by kernel_rfl) (by kernel_rfl) (by kernel_rfl)) ?_
  intro W base args ds gs before hval0 hW hcnd _
  have hval : ∀ (j : Nat) t v, Try.f4.params[j]? = some t → args[j]? = some v → Value.okWide Try.prog W .any base t v := hval0
  have hW' := hW
  obtain ⟨p, q, hA0, hV, rfl, hfz, hnd⟩ := hW
  have hA : DataW.TrodAll enc Try.prog W 0 (fun _ => true) true Try.f4.params.toList args.toList ds p := hA0
  rw [Try.params4] at hA hval
  obtain ⟨v0, vs0, d0, ds0, p0, q0, hargs, rfl, rfl, h0, r0⟩ := trodAll_cons hA
  obtain ⟨v1, vs1, d1, ds1, p1, q1, rfl, rfl, rfl, h1, r1⟩ := trodAll_cons r0
  obtain ⟨v2, vs2, d2, ds2, p2, q2, rfl, rfl, rfl, h2, r2⟩ := trodAll_cons r1
  obtain ⟨rfl, rfl, rfl⟩ := trodAll_nil r2
  obtain rfl : args = #[v0, v1, v2] := by cases args; simp_all
  obtain ⟨rfl, rfl⟩ := trodVars_none hV
  have hlt := hW'.lt
  have k0 := h0
  obtain ⟨a0, rfl, rfl, rfl, w0⟩ := open_int Try.underlying3 (hval 0 3 v0 rfl rfl) h0
  have k1 := h1
  obtain ⟨a1, rfl, rfl, rfl, w1⟩ := open_int Try.underlying3 (hval 1 3 v1 rfl rfl) h1
  have k2 := h2
  obtain ⟨a2, rfl, rfl, rfl, w2⟩ := open_int Try.underlying2 (hval 2 2 v2 rfl rfl) h2
  clear hA0 hval0
  refine (walk W a0 w0 a1 w1 a2 w2).mono fun e W' ⟨he, hg⟩ => ?_
  subst he
  exact ⟨_, rfl, post_of_below hW' (fun _ _ _ => (trodAll_cons_mk (shut_bool Try.underlying4 _) trodAll_mk0)) (trodAll_cons_mk (Below.trod laidOut (by kernel_rfl) (of_decide_eq_true (by kernel_rfl)) k0 hg (fun x hx => by first | exact absurd hx (by simp) | exact hlt x (by simp [hx]))) (trodAll_cons_mk (Below.trod laidOut (by kernel_rfl) (of_decide_eq_true (by kernel_rfl)) k1 hg (fun x hx => by first | exact absurd hx (by simp) | exact hlt x (by simp [hx]))) (trodAll_cons_mk (Below.trod laidOut (by kernel_rfl) (of_decide_eq_true (by kernel_rfl)) k2 hg (fun x hx => by first | exact absurd hx (by simp) | exact hlt x (by simp [hx]))) trodAll_mk0))) rfl hg⟩

theorem over : Rows.ringNoneRow.holds Try.pinned (OpenSpec.ofChange Rows.ringNoneSpec) :=
  OpenClaim.holds_of_wide 4 Try.f4 rfl rfl rfl rfl rfl rfl rfl ⟨rfl, rfl, rfl, rfl, rfl⟩ rfl rfl rfl rfl rfl (by kernel_rfl) Try.func4 (by kernel_rfl)
    (of_decide_eq_true (by kernel_rfl)) (by unfold Func.isWrapper; first | (rw [if_pos (by decide +kernel)]; kernel_rfl) | (rw [if_neg (by decide +kernel)]; exact ⟨rfl, rfl⟩))
    (fun os started H enc _ => lifted os started H enc)
end RingNoneL

theorem ringNone_proved : Rows.RingNoneSaid := RingNoneL.over
#print axioms ringNone_proved
end Go.Proofs.Ytfpngbeomgfmfaa
