/-
  Proved: how many snapshots may be kept; of no store nothing is told; there is nothing at places and ticks that there aren't (the law StoreNone answers true at every input).
  Conditions: none.
-/
import Derived.Test.YtggninahglfcpaaGreatRows
import Derived.Test.YtggninahglfcpaaGreatP39
namespace Go.Proofs.YtggninahglfcpaaGreat
open Go.ChangeShapes Go.WideShapes Go.ChangeAt Go.RowKit
set_option linter.unusedVariables false

namespace StoreNoneL
theorem own : ownKnob Tryz.prog.godebug = none := by kernel_rfl

set_option maxRecDepth 20000 in
set_option maxHeartbeats 8000000 in
theorem walk (w : World) (n : Int) (hn : (Lit.int .i64 n).wf = true) (i : Int) (hi : (Lit.int .i64 i).wf = true) (k : Int) (hk : (Lit.int .i64 k).wf = true) :
    Calls Tryz.prog 4 #[.int .i64 n, .int .i64 i, .int .i64 k] w fun e w' => e = .returned (.bool true) ∧ Below w.heap.size w w' := by
  go_enter Tryz.func4, Tryz.ntmps4
  go_wp2_with fail
  refine (st_accept_nil w _).mono ?_; rintro e w1 ⟨rfl, rfl⟩
  go_wp2_with fail
  refine (st_at_nil w1 i).mono ?_; rintro e w2 ⟨rfl, b2⟩
  obtain ⟨H, hH⟩ : ∃ H, w1.heap.size = H := ⟨_, rfl⟩
  have HH : Hid (w1.heap.size = H) := hH
  rw [hH] at b2
  clear hH
  go_upto_region 4 with fail
  generalize hV : w2.alloc (.cells #[.int .i64 0, .int .i64 0, .slice none 0 0] 45) = W3
  obtain ⟨X3, bn, -⟩ := boxed hV
  have B3 := bup b2 (Nat.le_of_eq HH.out.symm) bn
  obtain ⟨P, hP⟩ : ∃ x, w2.heap.size = x := ⟨_, rfl⟩
  rw [hP] at X3
  rw [hP]
  clear hV hP bn b2
  go_wp2_with fail
  refine (st_get_nil W3 k).mono ?_; rintro e w4 ⟨rfl, b4⟩
  have X4 := X3.below b4 X3.lt
  have B4 := bup B3 (Nat.le_of_eq HH.out.symm) b4
  clear X3 B3 b4
  go_upto_region 5 with fail
  generalize hV : w4.alloc (.cells #[.int .i64 0, .int .i64 0, .slice none 0 0] 45) = W5
  obtain ⟨Y5, bn, -⟩ := boxed hV
  have X5 := X4.below bn X4.lt
  have B5 := bup B4 (Nat.le_of_eq HH.out.symm) bn
  obtain ⟨Q, hQ⟩ : ∃ x, w4.heap.size = x := ⟨_, rfl⟩
  rw [hQ] at Y5
  rw [hQ]
  clear hV hQ bn X4 B4
  have x2 := X5.cell 2 _ rfl
  have lx := X5.lt
  have y2 := Y5.cell 2 _ rfl
  have ly := Y5.lt
  go_wp2_with fail
  refine (st_len_nil W5).mono ?_; rintro e w6 ⟨rfl, rfl⟩
  go_wp2_with fail
  refine (st_taken_nil w6).mono ?_; rintro e w7 ⟨rfl, rfl⟩
  go_wp2_with fail
  refine (st_refused_nil w7 9).mono ?_; rintro e w8 ⟨rfl, rfl⟩
  clear X5 Y5 x2 lx y2 ly
  by_cases hr : 1 ≤ n ∧ n ≤ 64
  · obtain ⟨m, rfl⟩ : ∃ m : Nat, n = m := ⟨n.toNat, by omega⟩
    have d0 : decide ((m : Int) < 1) = false := by simp; omega
    have d1 : decide ((64 : Int) < (m : Int)) = false := by simp; omega
    go_wp2_with fail
    refine (st_new w8 m (by omega) (by omega)).mono ?_; rintro e w9 ⟨rfl, S9, b9⟩
    have SS9 : Hid (StoV w9 w8.heap.size (w8.heap.size + 1) w8.heap.size (.slice none 0 0) (emptyR m) (emptyS m)) := S9
    have B9 := bup B5 (Nat.le_of_eq HH.out.symm) b9
    obtain ⟨C, hC⟩ : ∃ x, w8.heap.size = x := ⟨_, rfl⟩
    rw [hC] at SS9
    rw [hC]
    clear S9 b9 B5 hC
    go_wp2_with fail
    refine (st_at_out w9 C (C + 1) C _ _ _ SS9.out i (by show i < 0 ∨ ((0 : Nat) : Int) ≤ i; omega)).mono ?_; rintro e w10 ⟨u, rfl, o10, b10⟩
    have SS10 : Hid (StoV w10 C (C + 1) C (.slice none 0 0) (emptyR m) (emptyS m)) := SS9.out.below b10
    have B10 := bup B9 (Nat.le_of_eq HH.out.symm) b10
    obtain ⟨au, ku, e10⟩ := o10.form
    subst e10
    clear SS9 B9 b10 o10
    obtain ⟨nu, hnu⟩ : ∃ x, (preE (atE noSn.E) noSn.E.length).length = x := ⟨_, rfl⟩
    rw [hnu]
    clear hnu
    go_upto_region 13 with fail
    generalize hV : w10.alloc (.cells #[.int .i64 0, .int .i64 0, .slice au nu ku] 45) = W11
    obtain ⟨-, bn, -⟩ := boxed hV
    have SS11 : Hid (StoV W11 C (C + 1) C (.slice none 0 0) (emptyR m) (emptyS m)) := SS10.out.below bn
    have B11 := bup B10 (Nat.le_of_eq HH.out.symm) bn
    clear hV bn SS10 B10
    go_wp2_with fail
    refine (st_get W11 C (C + 1) C _ _ _ SS11.out k (by show (getS [] k).E.length ≤ _; simp [getS, isS, untS, noSn])).mono ?_; rintro e w12 ⟨u2, rfl, o12, b12⟩
    have SS12 : Hid (StoV w12 C (C + 1) C (.slice none 0 0) (emptyR m) (emptyS m)) := SS11.out.below b12
    have B12 := bup B11 (Nat.le_of_eq HH.out.symm) b12
    obtain ⟨a2, k2, e12⟩ := o12.form
    subst e12
    have hf : isS (emptyS m).L k = false := by simp [emptyS, isS, untS]
    have hg : getS (emptyS m).L k = noSn := by simp [emptyS, getS, isS, untS]
    rw [hf, hg]
    clear SS11 B11 b12 o12 hf hg
    obtain ⟨nu2, hnu2⟩ : ∃ x, (preE (atE noSn.E) noSn.E.length).length = x := ⟨_, rfl⟩
    rw [hnu2]
    have ht : noSn.t = 0 := rfl
    have hm : noSn.m = 0 := rfl
    rw [ht, hm]
    clear hnu2 ht hm
    go_upto_region 14 with fail
    generalize hV : w12.alloc (.cells #[.int .i64 0, .int .i64 0, .slice a2 nu2 k2] 45) = W13
    obtain ⟨-, bn, -⟩ := boxed hV
    have SS13 : Hid (StoV W13 C (C + 1) C (.slice none 0 0) (emptyR m) (emptyS m)) := SS12.out.below bn
    have B13 := bup B12 (Nat.le_of_eq HH.out.symm) bn
    clear hV bn SS12 B12
    go_wp2_with fail
    refine (st_alive W13).mono ?_; rintro e w14 ⟨rfl, b14⟩
    have SS14 : Hid (StoV w14 C (C + 1) C (.slice none 0 0) (emptyR m) (emptyS m)) := SS13.out.below b14
    have B14 := bup B13 (Nat.le_of_eq HH.out.symm) b14
    clear SS13 B13 b14
    go_wp2_with fail
    refine (st_refused_zero w14 C (C + 1) C _ _ m SS14.out _).mono ?_; rintro e w15 ⟨rfl, rfl⟩
    go_wp2_with fail
    refine (st_refused_zero w15 C (C + 1) C _ _ m SS14.out _).mono ?_; rintro e w16 ⟨rfl, rfl⟩
    go_wp2_with fail
    go_ret
    exact ⟨rfl, by rw [HH.out]; exact B14⟩
  · have hr' : n < 1 ∨ 64 < n := by omega
    go_wp2_with fail
    refine (st_new_no w8 n hr').mono ?_; rintro e w9 ⟨rfl, rfl⟩
    by_cases h1 : n < 1
    · have d0 : decide (n < 1) = true := by simpa using h1
      go_wp2_with fail
      refine (st_alive w9).mono ?_; rintro e w10 ⟨rfl, b10⟩
      go_wp2_with fail
      go_ret
      exact ⟨rfl, by rw [HH.out]; exact bup B5 (Nat.le_of_eq HH.out.symm) b10⟩
    · have h2 : 64 < n := by omega
      have d0 : decide (n < 1) = false := by simpa using h1
      have d1 : decide ((64 : Int) < n) = true := by simpa using h2
      go_wp2_with fail
      refine (st_alive w9).mono ?_; rintro e w10 ⟨rfl, b10⟩
      go_wp2_with fail
      go_ret
      exact ⟨rfl, by rw [HH.out]; exact bup B5 (Nat.le_of_eq HH.out.symm) b10⟩

set_option maxRecDepth 100000 in
theorem lifted (os : Os) (started : os.Started) (H : Type) (enc : TypeId × Value → H) :
    ReturnsInHanded {} Tryz.checked os 4 .any (Rows.storeNoneSpec.pre6 enc Tryz.prog Tryz.f4 Rows.storeNoneRow.domain false) (Rows.storeNoneSpec.post enc Tryz.prog Tryz.f4 false true false false) := by
  refine returnsInHanded_of_change (C := Tryz.checked) own started (by kernel_rfl) Tryz.func4
    (ChangeSpec.witness6 (enc := enc) (C := Tryz.checked) false ⟨#[], #[.int .i64 0, .int .i64 0, .int .i64 0], []⟩ 8 (by kernel_rfl) (by kernel_rfl) (by kernel_rfl) (by kernel_rfl)) ?_
  intro W base args ds gs before hval0 hW hcnd _
  have hval : ∀ (j : Nat) t v, Tryz.f4.params[j]? = some t → args[j]? = some v → Value.okWide Tryz.prog W .any base t v := hval0
  have hW' := hW
  obtain ⟨p, q, hA0, hV, rfl, hfz, hnd⟩ := hW
  have hA : DataW.TrodAll enc Tryz.prog W 0 (fun _ => true) true Tryz.f4.params.toList args.toList ds p := hA0
  rw [Tryz.params4] at hA hval
  obtain ⟨v0, vs0, d0, ds0, p0, q0, hargs, rfl, rfl, h0, r0⟩ := trodAll_cons hA
  obtain ⟨v1, vs1, d1, ds1, p1, q1, rfl, rfl, rfl, h1, r1⟩ := trodAll_cons r0
  obtain ⟨v2, vs2, d2, ds2, p2, q2, rfl, rfl, rfl, h2, r2⟩ := trodAll_cons r1
  obtain ⟨rfl, rfl, rfl⟩ := trodAll_nil r2
  obtain rfl : args = #[v0, v1, v2] := by cases args; simp_all
  obtain ⟨rfl, rfl⟩ := trodVars_none hV
  have hlt := hW'.lt
  have k0 := h0
  obtain ⟨a0, rfl, rfl, rfl, w0⟩ := open_int Tryz.underlying3 (hval 0 3 v0 rfl rfl) h0
  have k1 := h1
  obtain ⟨a1, rfl, rfl, rfl, w1⟩ := open_int Tryz.underlying3 (hval 1 3 v1 rfl rfl) h1
  have k2 := h2
  obtain ⟨a2, rfl, rfl, rfl, w2⟩ := open_int Tryz.underlying2 (hval 2 2 v2 rfl rfl) h2
  clear hA0 hval0
  refine (walk W a0 w0 a1 w1 a2 w2).mono fun e W' ⟨he, hg⟩ => ?_
  subst he
  exact ⟨_, rfl, post_of_below hW' (fun _ _ _ => (trodAll_cons_mk (shut_bool Tryz.underlying4 _) trodAll_mk0)) (trodAll_cons_mk (Below.trod laidOut (by kernel_rfl) (of_decide_eq_true (by kernel_rfl)) k0 hg (fun x hx => by first | exact absurd hx (by simp) | exact hlt x (by simp [hx]))) (trodAll_cons_mk (Below.trod laidOut (by kernel_rfl) (of_decide_eq_true (by kernel_rfl)) k1 hg (fun x hx => by first | exact absurd hx (by simp) | exact hlt x (by simp [hx]))) (trodAll_cons_mk (Below.trod laidOut (by kernel_rfl) (of_decide_eq_true (by kernel_rfl)) k2 hg (fun x hx => by first | exact absurd hx (by simp) | exact hlt x (by simp [hx]))) trodAll_mk0))) rfl hg⟩

theorem over : Rows.storeNoneRow.holds Tryz.pinned (OpenSpec.ofChange Rows.storeNoneSpec) :=
  OpenClaim.holds_of_wide 4 Tryz.f4 rfl rfl rfl rfl rfl rfl rfl ⟨rfl, rfl, rfl, rfl, rfl⟩ rfl rfl rfl rfl rfl (by kernel_rfl) Tryz.func4 (by kernel_rfl)
    (of_decide_eq_true (by kernel_rfl)) (by unfold Func.isWrapper; first | (rw [if_pos (by decide +kernel)]; kernel_rfl) | (rw [if_neg (by decide +kernel)]; exact ⟨rfl, rfl⟩))
    (fun os started H enc _ => lifted os started H enc)
end StoreNoneL

theorem storeNone_proved : Rows.StoreNoneSaid := StoreNoneL.over
#print axioms storeNone_proved
end Go.Proofs.YtggninahglfcpaaGreat
