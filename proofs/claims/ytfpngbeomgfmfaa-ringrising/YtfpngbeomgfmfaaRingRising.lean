/-
  Proved: of numbers that rise none is refused, and the last so many are kept (the law RingRising answers true at every input).
  Conditions: none.
-/
import Derived.Test.YtfpngbeomgfmfaaRows
import Derived.Test.YtfpngbeomgfmfaaFr11
import Derived.Test.YtfpngbeomgfmfaaRg10
namespace Go.Proofs.Ytfpngbeomgfmfaa
open Go.ChangeShapes Go.WideShapes Go.ChangeAt Go.RowKit
set_option linter.unusedVariables false

namespace RingRisingL
theorem own : ownKnob Try.prog.godebug = none := by kernel_rfl

set_option maxRecDepth 20000 in
set_option maxHeartbeats 8000000 in
theorem walk (w : World) (n : Int) (hn : (Lit.int .i64 n).wf = true) (va : Value) (l : List Int) (hb : ∀ n ∈ l, 0 ≤ n ∧ n ≤ 65535) (hl : RdH w va l) :
    Calls Try.prog 8 #[.int .i64 n, va] w fun e w' => e = .returned (.bool true) ∧ Below w.heap.size w w' := by
  obtain ⟨ao, cap, rfl, h1, h2, h3⟩ := hl
  have P3 : Hid _ := h3
  have HB : Hid (∀ n ∈ l, 0 ≤ n ∧ n ≤ 65535) := hb
  obtain ⟨m, hm⟩ : ∃ m, l.length = m := ⟨_, rfl⟩
  have HM : Hid (l.length = m) := hm
  rw [hm] at h1 P3
  rw [hm]
  clear hn hb h3 hm
  obtain ⟨H, hH⟩ : ∃ H, w.heap.size = H := ⟨_, rfl⟩
  have HH : Hid (w.heap.size = H) := hH
  obtain ⟨hmo1, hmo2⟩ := most_bd n
  obtain ⟨M, hMe⟩ : ∃ M, mostN n = M := ⟨_, rfl⟩
  have HMO : Hid (∀ w', Calls Try.prog 10 #[.int .i64 n] w' fun e w'' => e = .returned (.int .i64 (M : Nat)) ∧ w'' = w') := fun w' => by have := most_any w' n; rw [hMe] at this; exact this
  rw [hMe] at hmo1 hmo2
  clear hMe
  go_enter Try.func8, Try.ntmps8
  go_wp2_with fail
  refine (HMO.out _).mono ?_; rintro e w1 ⟨rfl, rfl⟩
  go_wp2_with fail
  refine (new_anyI _ _ hmo1 hmo2).mono ?_; rintro e w2 ⟨rfl, r2, b2, z2⟩
  rw [hH] at r2 b2
  rw [hH]
  have R2 : Hid (RngV 86 w2 H H (.slice none 0 0) (emptyR M)) := r2
  have B2 : Hid (Below H w1 w2) := b2
  have hz2 : H ≤ w2.heap.size := by omega
  clear r2 b2 z2 hH
  go_wp2_with fail
  refine (rg_alive _).mono ?_; rintro e w3 ⟨rfl, b3⟩
  have R3 : Hid (RngV 86 w3 H H (.slice none 0 0) (emptyR M)) := R2.out.below b3
  have B3 : Hid (Below H w1 w3) := B2.out.trans (b3.mono hz2)
  have hz3 : H ≤ w3.heap.size := Nat.le_trans hz2 b3.size
  clear R2 B2 hz2 b3
  by_cases hbig : 200 < m
  · have d1 : decide ((200 : Int) < (m : Int)) = true := by simp; omega
    go_wp2_with fail
    refine (rg_alive _).mono ?_; rintro e w4 ⟨rfl, b4⟩
    have B4 : Hid (Below H w1 w4) := B3.out.trans (b4.mono hz3)
    clear b4
    go_wp2_with fail
    go_ret
    exact ⟨rfl, by rw [HH.out]; exact B4.out⟩
  have d1 : decide ((200 : Int) < (m : Int)) = false := by simp; omega
  have ALL0 : Hid (OwnI w3 H (.slice none 0 0) (allK l 0)) := OwnI.nil _ _
  go_wp2_with fail
  go_loopg [7, 8, 43] m (fun g sa ky i wr => ∃ (k : Nat) (va v : Value) (s : Rs), k + g = m ∧ i = .int .i64 k ∧ ky = .int .i64 (kS l k) ∧ va = sa ∧ OwnI wr H va (allK l k) ∧ RngV 86 wr H H v s ∧ SepI H v va ∧ Rising l M k s ∧ Below H w1 wr)
  case atStart => exact ⟨0, _, _, _, by omega, rfl, rfl, rfl, ALL0.out, R3.out, ⟨by simp [Value.ownBlock], Or.inl rfl⟩, rising_none l M, B3.out⟩
  case round =>
    clear R3 B3 hz3 ALL0
    obtain ⟨k, va, v, s, hk, rfl, rfl, rfl, hal, hr, hse, hri, hbl⟩ := hrel
    have AL : Hid (OwnI wr H va (allK l k)) := hal
    have RR : Hid (RngV 86 wr H H v s) := hr
    have SE : Hid (SepI H v va) := hse
    have RI : Hid (Rising l M k s) := hri
    have BB : Hid (Below H w1 wr) := hbl
    have hz0 : H ≤ wr.heap.size := by have := BB.out.size; have := HH.out; omega
    clear hal hr hse hri hbl
    by_cases hlt : k < m
    · obtain ⟨b, o, rfl, hat⟩ := P3.out.resolve_left (by intro h; have := HM.out; rw [h] at this; simp at this; omega)
      have c0 := hat k hlt
      have hb0 : b < H := by have := World.block_lt_of_cell? w1 _ c0; have := HH.out; simp only at *; omega
      have e0 := (BB.out.cell (p := ⟨b, o + k, none⟩) hb0).trans c0
      have hx := getD_bd HB.out k
      have hkb := kS_bd HB.out k
      have hks : Hid (kS l (k + 1) = kS l k + (1 + l.getD k 0)) := rfl
      obtain ⟨st1, st2⟩ := rising_step HB.out hmo1 RI.out
      have ST1 : Hid _ := st1
      have ST2 : Hid _ := st2
      obtain ⟨x, hxe⟩ : ∃ x, l.getD k 0 = x := ⟨_, rfl⟩
      rw [hxe] at e0 hx hks
      obtain ⟨ky, hky⟩ : ∃ x, kS l k = x := ⟨_, rfl⟩
      rw [hky] at hkb hks
      rw [hky]
      have hA := AL.out.form
      clear c0 hat hxe hky st1 st2 RI
      have hw1 : IntKind.i64.wrap (1 + x) = 1 + x := by rw [IntKind.wrap_i64]; omega
      have hw2 : IntKind.i64.wrap (ky + (1 + x)) = ky + (1 + x) := by rw [IntKind.wrap_i64]; omega
      obtain ⟨nb, hnb⟩ : ∃ x, wr.heap.size = x := ⟨_, rfl⟩
      obtain ⟨W1, hW1⟩ : ∃ W1, wr.alloc (.cells #[.int .i64 (ky + (1 + x))] 2) = W1 := ⟨_, rfl⟩
      obtain ⟨y1, y2, y3, _⟩ := boxA hW1
      have RW : Hid (RngV 86 W1 H H v s) := RR.out.below y2
      have AW : Hid (OwnI W1 H va (allK l k)) := AL.out.below y2
      have BW : Hid (Below H w1 W1) := BB.out.trans (y2.mono hz0)
      have hzW : H ≤ W1.heap.size := by omega
      rw [hnb] at y1
      have cz := y1.cell 0 _ rfl
      clear y1 y2 y3 RR AL BB hA
      have d64 : IntKind.i64.wrap x = x := by rw [IntKind.wrap_i64]; omega
      go_wp2_with (at_builtin; refine growI_wp rfl _ _ rfl H va (allK l k) rfl (by exact AW.out) nb (ky + (1 + x)) rfl cz (by rw [allK_len]; omega) hzW ?_; intro v4 w4 o4 g4)
      obtain ⟨r4, se4⟩ := RW.out.growI g4 SE.out
      have R4 : Hid (RngV 86 w4 H H v s) := r4
      have S4 : Hid (SepI H v v4) := se4
      have B4 : Hid (Below H w1 w4) := BW.out.trans g4.below
      have A4 : Hid (OwnI w4 H v4 (allK l (k + 1))) := by show OwnI w4 H v4 (allK l (k + 1)); rw [allK_succ, hks.out]; exact o4
      clear r4 se4 g4 o4 RW SE AW BW hzW cz hW1
      rw [hks.out] at ST1 ST2
      go_wp2_with fail
      refine (lay_anyI w4 H H v s R4.out (ky + (1 + x)) (by omega) _).mono ?_; rintro e w5 ⟨rfl, v5, r5, c5⟩
      obtain ⟨a5, se5⟩ := A4.out.chg c5 S4.out
      have R5 : Hid (RngV 86 w5 H H v5 _) := r5
      have S5 : Hid (SepI H v5 v4) := se5
      have A5 : Hid (OwnI w5 H v4 (allK l (k + 1))) := a5
      have B5 : Hid (Below H w1 w5) := B4.out.trans c5.below
      clear r5 a5 se5 c5 R4 S4 B4 A4
      rw [ST1.out]
      by_cases hkM : k < M
      · rw [if_pos hkM]
        have d2 : decide ((M : Int) ≤ (k : Int)) = false := by simp; omega
        have d3 : decide (M ≤ k) = false := by simp; omega
        go_wp2_with fail
        refine (HMO.out _).mono ?_; rintro e w6 ⟨rfl, rfl⟩
        go_wp2_with fail
        go_roundg (gk - 1)
        case measure => omega
        case rel => exact ⟨k + 1, _, _, _, by omega, by go_num, by rw [hks.out], rfl, A5.out, R5.out, S5.out, ST2.out, B5.out⟩
      · rw [if_neg hkM]
        obtain ⟨d, hd⟩ : ∃ d, k = M + d := ⟨k - M, by omega⟩
        rw [show k - M + 1 = d + 1 by omega]
        have hat5 := allK_at l (k + 1) d (by omega)
        obtain ⟨z, hz⟩ : ∃ z, kS l (d + 1) = z := ⟨_, rfl⟩
        rw [hz] at hat5 ⊢
        clear hz
        obtain ⟨ao5, cap5, rfl, f1, f2, f3, f4⟩ := A5.out.form
        obtain ⟨a5, ha5⟩ : ∃ a, ao5 = some a := by
          cases ao5 with
          | none => have := f3 rfl; rw [allK_len] at f1; omega
          | some a => exact ⟨a, rfl⟩
        subst ha5
        obtain ⟨g5, rfl, f5⟩ := f4 _ rfl
        have c5 := f5 d (by rw [allK_len]; omega)
        rw [hat5] at c5
        rw [allK_len] at f1
        have hdk : d < k + 1 := by omega
        have hsub : (k : Int) - (M : Int) = (d : Int) := by omega
        have d2 : decide ((M : Int) ≤ (k : Int)) = true := by simp; omega
        have d3 : decide (M ≤ k) = true := by simp; omega
        clear f3 f4 f5 hat5 hd
        simp only [allK_len] at *
        go_wp2_with fail
        refine (HMO.out _).mono ?_; rintro e w6 ⟨rfl, rfl⟩
        go_wp2_with fail
        refine (HMO.out _).mono ?_; rintro e w7 ⟨rfl, rfl⟩
        go_wp2_with fail
        go_roundg (gk - 1)
        case measure => omega
        case rel => exact ⟨k + 1, _, _, _, by omega, by go_num, by rw [hks.out], rfl, A5.out, R5.out, S5.out, ST2.out, B5.out⟩
    · obtain rfl : k = m := by omega
      clear P3 hk hlt
      obtain ⟨ao5, cap5, rfl, f1, f2, f3, f4⟩ := AL.out.form
      rw [allK_len] at f1 f4
      simp only [allK_len] at *
      have hlen := RI.out.len
      obtain ⟨D, hD⟩ : ∃ D, k - M = D := ⟨_, rfl⟩
      have hmx : max 0 ((k : Int) - (M : Int)) = (D : Int) := by omega
      obtain ⟨N, hN⟩ : ∃ N, s.L.length = N := ⟨_, rfl⟩
      have HN : Hid (s.L.length = N) := hN
      have hkD : k - D = N := by omega
      have hkN : (k : Int) - (N : Int) = (D : Int) := by omega
      have hDk : D ≤ k := by omega
      have hDc : D ≤ cap5 := by omega
      have hNk : N ≤ k := by omega
      have HAT : Hid (∀ i, i < N → keyAt s.L i = kS l (D + i + 1) ∧ thing s.L i = .int .i64 ((D + i : Nat) : Int)) := fun i hi => by
        have := RI.out.at_ i (by rw [hN]; exact hi)
        rw [hN, show k - N = D by omega] at this
        exact this
      clear hlen hN SE
      by_cases hk0 : k = 0
      · have hN0 : N = 0 := by omega
        have hD0 : D = 0 := by omega
        subst hN0
        subst hD0
        by_cases hc0 : cap5 = 0
        · go_wp2_with fail
          refine (HMO.out _).mono ?_; rintro e w6 ⟨rfl, rfl⟩
          go_wp2_with fail
          go_loopg [100] 0 (fun g i wr => i = .int .i64 0 ∧ RngV 86 wr H H v s ∧ Below H w1 wr)
          case atStart => exact ⟨rfl, RR.out, BB.out⟩
          case round =>
            obtain ⟨rfl, hr, hbl⟩ := hrel
            have R7 : Hid (RngV 86 wr H H v s) := hr
            have B7 : Hid (Below H w1 wr) := hbl
            clear hr hbl RR BB f4 AL
            go_wp2_with fail
            refine (len_anyI wr H H v s R7.out).mono ?_; rintro e w8 ⟨rfl, rfl⟩
            rw [HN.out]
            go_wp2_with fail
            go_ret
            exact ⟨rfl, by rw [HH.out]; exact B7.out⟩
        · go_wp2_with fail
          refine (HMO.out _).mono ?_; rintro e w6 ⟨rfl, rfl⟩
          go_wp2_with fail
          go_loopg [100] 0 (fun g i wr => i = .int .i64 0 ∧ RngV 86 wr H H v s ∧ Below H w1 wr)
          case atStart => exact ⟨rfl, RR.out, BB.out⟩
          case round =>
            obtain ⟨rfl, hr, hbl⟩ := hrel
            have R7 : Hid (RngV 86 wr H H v s) := hr
            have B7 : Hid (Below H w1 wr) := hbl
            clear hr hbl RR BB f4 AL
            go_wp2_with fail
            refine (len_anyI wr H H v s R7.out).mono ?_; rintro e w8 ⟨rfl, rfl⟩
            rw [HN.out]
            go_wp2_with fail
            go_ret
            exact ⟨rfl, by rw [HH.out]; exact B7.out⟩
      · obtain ⟨a5, ha5⟩ : ∃ a, ao5 = some a := by
          cases ao5 with
          | none => have := f3 rfl; omega
          | some a => exact ⟨a, rfl⟩
        subst ha5
        obtain ⟨g5, rfl, f5⟩ := f4 _ rfl
        have hcD : ¬ (cap5 = D) := by omega
        have hg5 : H ≤ g5 ∧ g5 < wr.heap.size := AL.out.lt g5 rfl
        have F5 : Hid (∀ i, i < N → wr.cell? ⟨g5, D + i, none⟩ = some (.int .i64 (kS l (D + i + 1)))) := fun i hi => by
          rw [f5 (D + i) (by omega), allK_at l k (D + i) (by omega)]
        clear f3 f4 f5
        go_wp2_with fail
        refine (HMO.out _).mono ?_; rintro e w6 ⟨rfl, rfl⟩
        go_wp2_with fail
        go_loopg [100] N (fun g i wr => ∃ (q : Nat), q + g = N ∧ i = .int .i64 q ∧ RngV 86 wr H H v s ∧ Below H w1 wr ∧ Hid (∀ i, i < N → wr.cell? ⟨g5, D + i, none⟩ = some (.int .i64 (kS l (D + i + 1)))))
        case atStart => exact ⟨0, by omega, rfl, RR.out, BB.out, F5⟩
        case round =>
          clear RR BB F5 AL hg5 hz0
          obtain ⟨q, hq, rfl, hr, hbl, F7⟩ := hrel
          have R7 : Hid (RngV 86 wr H H v s) := hr
          have B7 : Hid (Below H w1 wr) := hbl
          clear hr hbl
          by_cases hqN : q < N
          · have c7 := F7.out q hqN
            obtain ⟨z1, z2⟩ := HAT.out q hqN
            have Z1 : Hid _ := z1
            have Z2 : Hid _ := z2
            obtain ⟨z, hz⟩ : ∃ z, kS l (D + q + 1) = z := ⟨_, rfl⟩
            rw [hz] at c7 Z1
            clear z1 z2 hz
            have hqq : D + q < cap5 := by omega
            go_wp2_with fail
            refine (at_inI wr H H v s R7.out q (by rw [HN.out]; exact hqN)).mono ?_; rintro e w8 ⟨rfl, qd, rfl⟩
            rw [Z1.out, Z2.out]
            have R8 : Hid (RngV 86 (wr.drewN qd) H H v s) := R7.out.drewN qd
            have B8 : Hid (Below H w1 (wr.drewN qd)) := below_drewN B7.out qd
            have F8 : Hid (∀ i, i < N → (wr.drewN qd).cell? ⟨g5, D + i, none⟩ = some (.int .i64 (kS l (D + i + 1)))) := F7
            clear R7 B7 F7 c7 Z1 Z2
            generalize wr.drewN qd = w9 at R8 B8 F8 ⊢
            go_wp2_with fail
            go_roundg (gk - 1)
            case measure => omega
            case rel => exact ⟨q + 1, by omega, by go_num, R8.out, B8.out, F8⟩
          · obtain rfl : q = N := by omega
            go_wp2_with fail
            refine (len_anyI wr H H v s R7.out).mono ?_; rintro e w8 ⟨rfl, rfl⟩
            rw [HN.out]
            go_wp2_with fail
            go_ret
            exact ⟨rfl, by rw [HH.out]; exact B7.out⟩

set_option maxRecDepth 100000 in
theorem lifted (os : Os) (started : os.Started) (H : Type) (enc : TypeId × Value → H) :
    ReturnsInHanded {} Try.checked os 8 .any (Rows.ringRisingSpec.pre6 enc Try.prog Try.f8 Rows.ringRisingRow.domain false) (Rows.ringRisingSpec.post enc Try.prog Try.f8 false true false false) := by
  refine returnsInHanded_of_change (C := Try.checked) own started (by kernel_rfl) Try.func8
    (ChangeSpec.witness6 (enc := enc) (C := Try.checked) false ⟨#[], #[.int .i64 0, .slice none 0 0], []⟩ 8 (by kernel_rfl) (by kernel_rfl) (by kernel_rfl) (by kernel_rfl)) ?_
  intro W base args ds gs before hval0 hW hcnd _
  have hval : ∀ (j : Nat) t v, Try.f8.params[j]? = some t → args[j]? = some v → Value.okWide Try.prog W .any base t v := hval0
  have hW' := hW
  obtain ⟨p, q, hA0, hV, rfl, hfz, hnd⟩ := hW
  have hA : DataW.TrodAll enc Try.prog W 0 (fun _ => true) true Try.f8.params.toList args.toList ds p := hA0
  rw [Try.params8] at hA hval
  obtain ⟨v0, vs0, d0, ds0, p0, q0, hargs, rfl, rfl, h0, r0⟩ := trodAll_cons hA
  obtain ⟨v1, vs1, d1, ds1, p1, q1, rfl, rfl, rfl, h1, r1⟩ := trodAll_cons r0
  obtain ⟨rfl, rfl, rfl⟩ := trodAll_nil r1
  obtain rfl : args = #[v0, v1] := by cases args; simp_all
  obtain ⟨rfl, rfl⟩ := trodVars_none hV
  have hlt := hW'.lt
  have k0 := h0
  obtain ⟨a0, rfl, rfl, rfl, w0⟩ := open_int Try.underlying3 (hval 0 3 v0 rfl rfl) h0
  have k1 := h1
  obtain ⟨l1, b1, e1⟩ := open_u16s (hval 1 69 v1 rfl rfl) h1
  clear hA0 hval0
  refine (walk W a0 w0 v1 l1 b1 e1).mono fun e W' ⟨he, hg⟩ => ?_
  subst he
  exact ⟨_, rfl, post_of_below hW' (fun _ _ _ => (trodAll_cons_mk (shut_bool Try.underlying4 _) trodAll_mk0)) (trodAll_cons_mk (Below.trod laidOut (by kernel_rfl) (of_decide_eq_true (by kernel_rfl)) k0 hg (fun x hx => by first | exact absurd hx (by simp) | exact hlt x (by simp [hx]))) (trodAll_cons_mk (Below.trod laidOut (by kernel_rfl) (of_decide_eq_true (by kernel_rfl)) k1 hg (fun x hx => by first | exact absurd hx (by simp) | exact hlt x (by simp [hx]))) trodAll_mk0)) rfl hg⟩

theorem over : Rows.ringRisingRow.holds Try.pinned (OpenSpec.ofChange Rows.ringRisingSpec) :=
  OpenClaim.holds_of_wide 8 Try.f8 rfl rfl rfl rfl rfl rfl rfl ⟨rfl, rfl, rfl, rfl, rfl⟩ rfl rfl rfl rfl rfl (by kernel_rfl) Try.func8 (by kernel_rfl)
    (of_decide_eq_true (by kernel_rfl)) (by unfold Func.isWrapper; first | (rw [if_pos (by decide +kernel)]; kernel_rfl) | (rw [if_neg (by decide +kernel)]; exact ⟨rfl, rfl⟩))
    (fun os started H enc _ => lifted os started H enc)
end RingRisingL

theorem ringRising_proved : Rows.RingRisingSaid := RingRisingL.over
#print axioms ringRising_proved
end Go.Proofs.Ytfpngbeomgfmfaa
