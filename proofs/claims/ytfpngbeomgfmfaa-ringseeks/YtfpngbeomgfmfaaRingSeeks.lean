/-
  Proved: numbers ahead of a place that is sought are no greater, those from it on are (the law RingSeeks answers true at every input).
  Conditions: none.
-/
import Derived.Test.YtfpngbeomgfmfaaRows
import Derived.Test.YtfpngbeomgfmfaaFr11
import Derived.Test.YtfpngbeomgfmfaaRg8
namespace Go.Proofs.Ytfpngbeomgfmfaa
open Go.ChangeShapes Go.WideShapes Go.ChangeAt Go.RowKit
set_option linter.unusedVariables false

namespace RingSeeksL
theorem own : ownKnob Try.prog.godebug = none := by kernel_rfl

set_option maxRecDepth 20000 in
set_option maxHeartbeats 8000000 in
theorem walk (w : World) (n : Int) (hn : (Lit.int .i64 n).wf = true) (va : Value) (l : List Int) (hb : ∀ n ∈ l, -9223372036854775808 ≤ n ∧ n ≤ 9223372036854775807) (hl : RdI w va l) (key : Int) (hk : (Lit.int .i64 key).wf = true) :
    Calls Try.prog 6 #[.int .i64 n, va, .int .i64 key] w fun e w' => e = .returned (.bool true) ∧ Below w.heap.size w w' := by
  obtain ⟨ao, cap, rfl, h1, h2, h3⟩ := hl
  have P3 : Hid _ := h3
  have HB : Hid (∀ n ∈ l, -9223372036854775808 ≤ n ∧ n ≤ 9223372036854775807) := hb
  obtain ⟨m, hm⟩ : ∃ m, l.length = m := ⟨_, rfl⟩
  have HM : Hid (l.length = m) := hm
  rw [hm] at h1 P3
  rw [hm]
  clear hn hk hb h3 hm
  obtain ⟨H, hH⟩ : ∃ H, w.heap.size = H := ⟨_, rfl⟩
  have HH : Hid (w.heap.size = H) := hH
  have hmo := most_bd n
  go_enter Try.func6, Try.ntmps6
  go_wp2_with fail
  refine (most_any _ _).mono ?_; rintro e w1 ⟨rfl, rfl⟩
  go_wp2_with fail
  refine (new_anyS _ _ hmo.1 hmo.2).mono ?_; rintro e w2 ⟨rfl, r2, b2, z2⟩
  rw [hH] at r2 b2
  rw [hH]
  have R2 : Hid (RngV 77 w2 H H (.slice none 0 0) (emptyR (mostN n))) := r2
  have B2 : Hid (Below H w1 w2) := b2
  have hz2 : H ≤ w2.heap.size := by omega
  clear r2 b2 z2 hH hmo
  go_wp2_with fail
  refine (rg_alive _).mono ?_; rintro e w3 ⟨rfl, b3⟩
  have R3 : Hid (RngV 77 w3 H H (.slice none 0 0) (emptyR (mostN n))) := R2.out.below b3
  have B3 : Hid (Below H w1 w3) := B2.out.trans (b3.mono hz2)
  have hz3 : H ≤ w3.heap.size := Nat.le_trans hz2 b3.size
  clear R2 B2 hz2 b3
  by_cases hbig : 200 < m
  · have d1 : decide ((200 : Int) < (m : Int)) = true := by simp; omega
    go_wp2_with fail
    refine (rg_alive _).mono ?_; rintro e w4 ⟨rfl, b4⟩
    have B4 : Hid (Below H w1 w4) := B3.out.trans (b4.mono hz3)
    clear b4
    go_wp2_with fail
    go_ret
    exact ⟨rfl, by rw [HH.out]; exact B4.out⟩
  have d1 : decide ((200 : Int) < (m : Int)) = false := by simp; omega
  go_wp2_with fail
  go_loopg [45] m (fun g i wr => ∃ (k : Nat) (v : Value) (s : Rs), k + g = m ∧ i = .int .i64 k ∧ RngV 77 wr H H v s ∧ Below H w1 wr)
  case atStart => exact ⟨0, _, _, by omega, rfl, R3.out, B3.out⟩
  case round =>
    clear R3 B3 hz3
    obtain ⟨k, v, s, hk, rfl, hr, hbl⟩ := hrel
    have RR : Hid (RngV 77 wr H H v s) := hr
    have BB : Hid (Below H w1 wr) := hbl
    clear hr hbl
    by_cases hlt : k < m
    · obtain ⟨b, o, rfl, hat⟩ := P3.out.resolve_left (by intro h; have := HM.out; rw [h] at this; simp at this; omega)
      have c0 := hat k hlt
      have hb0 : b < H := by have := World.block_lt_of_cell? w1 _ c0; have := HH.out; simp only at *; omega
      have e0 := (BB.out.cell (p := ⟨b, o + k, none⟩) hb0).trans c0
      have hx := HB.out (l.getD k 0) (by
        have e : l.getD k 0 = l[k]'(by rw [HM.out]; exact hlt) := by simp [List.getD, HM.out, hlt]
        rw [e]; exact List.getElem_mem _)
      obtain ⟨x, hxe⟩ : ∃ x, l.getD k 0 = x := ⟨_, rfl⟩
      rw [hxe] at e0 hx
      clear c0 hat hxe
      go_wp2_with fail
      refine (lay_anyS wr H H v s RR.out x hx _).mono ?_; rintro e w4 ⟨rfl, v4, r4, c4⟩
      have R4 : Hid (RngV 77 w4 H H v4 _) := r4
      have B4 : Hid (Below H w1 w4) := BB.out.trans c4.below
      clear r4 c4
      go_wp2_with fail
      go_roundg (gk - 1)
      case measure => omega
      case rel => exact ⟨k + 1, _, _, by omega, by go_num, R4.out, B4.out⟩
    · obtain rfl : k = m := by omega
      clear P3 HB HM hk hlt
      have hz0 : H ≤ wr.heap.size := by have := BB.out.size; have := HH.out; omega
      go_wp2_with fail
      refine (until_anyS wr H H v s RR.out key).mono ?_; rintro e w4 ⟨rfl, b4⟩
      have R4 : Hid (RngV 77 w4 H H v s) := RR.out.below b4
      have B4 : Hid (Below H w1 w4) := BB.out.trans (b4.mono hz0)
      have hz4 : H ≤ w4.heap.size := Nat.le_trans hz0 b4.size
      clear b4 RR BB hz0
      obtain ⟨u, hu⟩ : ∃ u, untl s.L key = u := ⟨_, rfl⟩
      have HU : Hid (untl s.L key = u) := hu
      have hun := untl_le s.L key
      obtain ⟨N, hN⟩ : ∃ N, s.L.length = N := ⟨_, rfl⟩
      have HN : Hid (s.L.length = N) := hN
      rw [hu, hN] at hun
      rw [hu]
      have hN64 : N ≤ 64 := by have := R4.out.ok.len; have := R4.out.ok.most; omega
      clear hu hN
      have d2 : decide ((N : Int) < (u : Int)) = false := by simp; omega
      have d3 : decide ((u : Int) < 0) = false := by simp
      go_wp2_with fail
      refine (len_anyS w4 H H v s R4.out).mono ?_; rintro e w5 ⟨rfl, rfl⟩
      rw [HN.out]
      go_wp2_with fail
      refine (len_anyS w5 H H v s R4.out).mono ?_; rintro e w6 ⟨rfl, rfl⟩
      rw [HN.out]
      go_wp2_with fail
      go_loopg [66] N (fun g i wr => ∃ (k : Nat), k + g = N ∧ i = .int .i64 k ∧ RngV 77 wr H H v s ∧ Below H w1 wr)
      case atStart => exact ⟨0, by omega, rfl, R4.out, B4.out⟩
      case round =>
        clear R4 B4 hz4
        obtain ⟨q, hq, rfl, hr, hbl⟩ := hrel
        have RR : Hid (RngV 77 wr H H v s) := hr
        have BB : Hid (Below H w1 wr) := hbl
        clear hr hbl
        by_cases hlt : q < N
        · have hiff := untl_iff RR.out.ok.rise key q (by rw [HN.out]; exact hlt)
          rw [HU.out] at hiff
          go_wp2_with fail
          refine (at_inS wr H H v s RR.out q (by rw [HN.out]; exact hlt)).mono ?_; rintro e w7 ⟨rfl, qd, rfl⟩
          have R7 : Hid (RngV 77 (wr.drewN qd) H H v s) := RR.out.drewN qd
          have B7 : Hid (Below H w1 (wr.drewN qd)) := below_drewN BB.out qd
          clear RR BB
          generalize wr.drewN qd = w8 at R7 B7 ⊢
          obtain ⟨y, hy⟩ : ∃ y, keyAt s.L q = y := ⟨_, rfl⟩
          obtain ⟨xx, hxx⟩ : ∃ x, thing s.L q = x := ⟨_, rfl⟩
          rw [hy] at hiff
          rw [hy, hxx]
          clear hy hxx
          by_cases hqu : q < u
          · have e1 : decide (y ≤ key) = true := by simpa using hiff.1 hqu
            have e2 : decide ((q : Int) < (u : Int)) = true := by simpa using hqu
            have e3 : decide (q < u) = true := by simpa using hqu
            clear hiff
            go_wp2_with fail
            go_roundg (gk - 1)
            case measure => omega
            case rel => exact ⟨q + 1, by omega, by go_num, R7.out, B7.out⟩
          · have e1 : decide (y ≤ key) = false := by simp; have := mt hiff.2 hqu; omega
            have e2 : decide ((q : Int) < (u : Int)) = false := by simp; omega
            have e3 : decide (q < u) = false := by simp; omega
            clear hiff
            go_wp2_with fail
            go_roundg (gk - 1)
            case measure => omega
            case rel => exact ⟨q + 1, by omega, by go_num, R7.out, B7.out⟩
        · obtain rfl : q = N := by omega
          have hz0 : H ≤ wr.heap.size := by have := BB.out.size; have := HH.out; omega
          go_wp2_with fail
          refine (get_anyS wr H H v s RR.out key).mono ?_; rintro e w7 ⟨rfl, b7⟩
          have R7 : Hid (RngV 77 w7 H H v s) := RR.out.below b7
          have B7 : Hid (Below H w1 w7) := BB.out.trans (b7.mono hz0)
          clear RR BB b7 hz0
          obtain ⟨gx, hgx⟩ : ∃ x, getX s.L key (.string ⟨#[]⟩) = x := ⟨_, rfl⟩
          rw [hgx]
          clear hgx
          rcases u with _ | j
          · have e1 : isAt s.L key = false := by simp [isAt, HU.out]
            rw [e1]
            go_wp2_with fail
            go_ret
            exact ⟨rfl, by rw [HH.out]; exact B7.out⟩
          · obtain ⟨y, hy⟩ : ∃ y, keyAt s.L j = y := ⟨_, rfl⟩
            have HY : Hid (keyAt s.L j = y) := hy
            clear hy
            have hju : ¬ ((j : Int) + 1 = 0) := by omega
            by_cases hyk : y = key
            · subst hyk
              have e1 : isAt s.L y = true := by simp [isAt, HU.out, HY.out]
              rw [e1]
              clear e1
              go_wp2_with fail
              refine (at_inS w7 H H v s R7.out j (by rw [HN.out]; omega)).mono ?_; rintro e w8 ⟨rfl, qd, rfl⟩
              have B8 : Hid (Below H w1 (w7.drewN qd)) := below_drewN B7.out qd
              clear R7 B7
              generalize w7.drewN qd = w9 at B8 ⊢
              obtain ⟨xx, hxx⟩ : ∃ x, thing s.L j = x := ⟨_, rfl⟩
              rw [HY.out, hxx]
              clear hxx
              go_wp2_with fail
              go_ret
              exact ⟨rfl, by rw [HH.out]; exact B8.out⟩
            · have e1 : isAt s.L key = false := by simp [isAt, HU.out, HY.out, hyk]
              rw [e1]
              clear e1
              have e3 : (y == key) = false := by simpa using hyk
              have e2 : decide (y = key) = false := by simpa using hyk
              go_wp2_with fail
              refine (at_inS w7 H H v s R7.out j (by rw [HN.out]; omega)).mono ?_; rintro e w8 ⟨rfl, qd, rfl⟩
              have B8 : Hid (Below H w1 (w7.drewN qd)) := below_drewN B7.out qd
              clear R7 B7
              generalize w7.drewN qd = w9 at B8 ⊢
              obtain ⟨xx, hxx⟩ : ∃ x, thing s.L j = x := ⟨_, rfl⟩
              rw [HY.out, hxx]
              clear hxx
              go_wp2_with fail
              go_ret
              exact ⟨rfl, by rw [HH.out]; exact B8.out⟩

set_option maxRecDepth 100000 in
theorem lifted (os : Os) (started : os.Started) (H : Type) (enc : TypeId × Value → H) :
    ReturnsInHanded {} Try.checked os 6 .any (Rows.ringSeeksSpec.pre6 enc Try.prog Try.f6 Rows.ringSeeksRow.domain false) (Rows.ringSeeksSpec.post enc Try.prog Try.f6 false true false false) := by
  refine returnsInHanded_of_change (C := Try.checked) own started (by kernel_rfl) Try.func6
    (ChangeSpec.witness6 (enc := enc) (C := Try.checked) false ⟨#[], #[.int .i64 0, .slice none 0 0, .int .i64 0], []⟩ 8 (by kernel_rfl) (by kernel_rfl) (by kernel_rfl) (by kernel_rfl)) ?_
  intro W base args ds gs before hval0 hW hcnd _
  have hval : ∀ (j : Nat) t v, Try.f6.params[j]? = some t → args[j]? = some v → Value.okWide Try.prog W .any base t v := hval0
  have hW' := hW
  obtain ⟨p, q, hA0, hV, rfl, hfz, hnd⟩ := hW
  have hA : DataW.TrodAll enc Try.prog W 0 (fun _ => true) true Try.f6.params.toList args.toList ds p := hA0
  rw [Try.params6] at hA hval
  obtain ⟨v0, vs0, d0, ds0, p0, q0, hargs, rfl, rfl, h0, r0⟩ := trodAll_cons hA
  obtain ⟨v1, vs1, d1, ds1, p1, q1, rfl, rfl, rfl, h1, r1⟩ := trodAll_cons r0
  obtain ⟨v2, vs2, d2, ds2, p2, q2, rfl, rfl, rfl, h2, r2⟩ := trodAll_cons r1
  obtain ⟨rfl, rfl, rfl⟩ := trodAll_nil r2
  obtain rfl : args = #[v0, v1, v2] := by cases args; simp_all
  obtain ⟨rfl, rfl⟩ := trodVars_none hV
  have hlt := hW'.lt
  have k0 := h0
  obtain ⟨a0, rfl, rfl, rfl, w0⟩ := open_int Try.underlying3 (hval 0 3 v0 rfl rfl) h0
  have k1 := h1
  obtain ⟨l1, b1, e1⟩ := open_i64s (hval 1 60 v1 rfl rfl) h1
  have k2 := h2
  obtain ⟨a2, rfl, rfl, rfl, w2⟩ := open_int Try.underlying2 (hval 2 2 v2 rfl rfl) h2
  clear hA0 hval0
  refine (walk W a0 w0 v1 l1 b1 e1 a2 w2).mono fun e W' ⟨he, hg⟩ => ?_
  subst he
  exact ⟨_, rfl, post_of_below hW' (fun _ _ _ => (trodAll_cons_mk (shut_bool Try.underlying4 _) trodAll_mk0)) (trodAll_cons_mk (Below.trod laidOut (by kernel_rfl) (of_decide_eq_true (by kernel_rfl)) k0 hg (fun x hx => by first | exact absurd hx (by simp) | exact hlt x (by simp [hx]))) (trodAll_cons_mk (Below.trod laidOut (by kernel_rfl) (of_decide_eq_true (by kernel_rfl)) k1 hg (fun x hx => by first | exact absurd hx (by simp) | exact hlt x (by simp [hx]))) (trodAll_cons_mk (Below.trod laidOut (by kernel_rfl) (of_decide_eq_true (by kernel_rfl)) k2 hg (fun x hx => by first | exact absurd hx (by simp) | exact hlt x (by simp [hx]))) trodAll_mk0))) rfl hg⟩

theorem over : Rows.ringSeeksRow.holds Try.pinned (OpenSpec.ofChange Rows.ringSeeksSpec) :=
  OpenClaim.holds_of_wide 6 Try.f6 rfl rfl rfl rfl rfl rfl rfl ⟨rfl, rfl, rfl, rfl, rfl⟩ rfl rfl rfl rfl rfl (by kernel_rfl) Try.func6 (by kernel_rfl)
    (of_decide_eq_true (by kernel_rfl)) (by unfold Func.isWrapper; first | (rw [if_pos (by decide +kernel)]; kernel_rfl) | (rw [if_neg (by decide +kernel)]; exact ⟨rfl, rfl⟩))
    (fun os started H enc _ => lifted os started H enc)
end RingSeeksL

theorem ringSeeks_proved : Rows.RingSeeksSaid := RingSeeksL.over
#print axioms ringSeeks_proved
end Go.Proofs.Ytfpngbeomgfmfaa
