/-
  Proved: of any bytes, and any calls, each answer of a reader is the document's own, and so are its error, its place, what is left, and Done (the law ReaderActs answers true at every input).
  Conditions: none.
-/
import Derived.Test.YtnoogdegpkgpdaaRows
import Derived.Test.YtnoogdegpkgpdaaFr7
import Derived.Test.YtnoogdegpkgpdaaRdr6
import Derived.Test.YtnoogdegpkgpdaaEq3
namespace Go.Proofs.Ytnoogdegpkgpdaa
open Go.ChangeShapes Go.WideShapes Go.ChangeAt Go.RowKit
set_option linter.unusedVariables false

namespace ReaderActsL
theorem own : ownKnob Try.prog.godebug = none := by kernel_rfl

attribute [local go_sem] eq3_run
set_option maxRecDepth 4000 in
set_option maxHeartbeats 2000000 in
theorem walk (w : World) (v : Value) (l : List Int) (hb : Bytes l) (h : Rd w v l) (va : Value) (n : Nat) (A : Nat → Int × Int × Int) (hA : ∀ i, i < n → (0 ≤ (A i).2.1 ∧ (A i).2.1 ≤ 18446744073709551615) ∧ (0 ≤ (A i).2.2 ∧ (A i).2.2 ≤ 255)) (ha : RdA w va n A) :
    Calls Try.prog 3 #[v, va] w fun e w' => e = .returned (.bool true) ∧ Below w.heap.size w w' := by
  have HR : Hid (Rd w v l) := h
  have HB : Hid (Bytes l) := hb
  have HA : Hid (∀ i, i < n → (0 ≤ (A i).2.1 ∧ (A i).2.1 ≤ 18446744073709551615) ∧ (0 ≤ (A i).2.2 ∧ (A i).2.2 ≤ 255)) := hA
  clear hb hA
  obtain ⟨ao, cap, rfl, q1, q2, q3, q4⟩ := h
  obtain ⟨ao2, cap2, rfl, p1, p2, p3⟩ := ha
  have P3 : Hid _ := p3
  obtain ⟨m, hm⟩ : ∃ m, l.length = m := ⟨_, rfl⟩
  rw [hm] at q1 HR ⊢
  clear hm q3 q4 p3
  obtain ⟨K, hK⟩ : ∃ K, w.heap.size = K := ⟨_, rfl⟩
  by_cases hbig : 2000 < m ∨ 300 < n
  · go_enter Try.func3, Try.ntmps3
    go_wp2_with fail
    refine (new_any _ _ l HB.out HR.out).mono ?_; rw [hK]; rintro e w1 ⟨rfl, r1, b1, s1⟩
    go_wp2_with fail
    refine (ralive_any _).mono ?_; rintro e w2 ⟨rfl, b2⟩
    have b3 : Below K w w2 := b1.trans (b2.mono (by omega))
    clear b1 b2 r1
    by_cases hbig2 : 2000 < m
    · have d1 : decide ((2000 : Int) < (m : Int)) = true := by simp; omega
      go_wp2_with fail
      refine (ralive_any _).mono ?_; rintro e w3 ⟨rfl, b4⟩
      have b5 : Below K w w3 := b3.trans (b4.mono (by have := b3.size; omega))
      go_wp2_with fail
      go_ret
      exact ⟨rfl, by rw [hK]; exact b5⟩
    · have d1 : decide ((2000 : Int) < (m : Int)) = false := by simp; omega
      have d2 : decide ((300 : Int) < (n : Int)) = true := by simp; omega
      go_wp2_with fail
      refine (ralive_any _).mono ?_; rintro e w3 ⟨rfl, b4⟩
      have b5 : Below K w w3 := b3.trans (b4.mono (by have := b3.size; omega))
      go_wp2_with fail
      go_ret
      exact ⟨rfl, by rw [hK]; exact b5⟩
  · have d1 : decide ((2000 : Int) < (m : Int)) = false := by simp; omega
    have d2 : decide ((300 : Int) < (n : Int)) = false := by simp; omega
    go_enter Try.func3, Try.ntmps3
    go_wp2_with fail
    refine (new_any _ _ l HB.out HR.out).mono ?_; rw [hK]; rintro e w1 ⟨rfl, r1, b1, s1⟩
    go_wp2_with fail
    refine (ralive_any _).mono ?_; rintro e w2 ⟨rfl, b2⟩
    have b3 : Below K w w2 := b1.trans (b2.mono (by omega))
    have r2 := r1.below b2 (by omega)
    have s2 := b2.size
    have L2 : Hid (Low w2 K (.slice ao m cap) l) := by
      have := HR.out.low; rw [hK] at this; exact this.below b3 (Nat.le_refl _)
    clear b1 b2 r1
    obtain ⟨M, hM⟩ : ∃ M, w2.heap.size = M := ⟨_, rfl⟩
    go_wp2_with fail
    have m0 := Rdr.newL L2.out (by have := b3.size; omega) HB.out 29
    have r3 := r2.below ((Below.refl M w2).alloc (by omega) (.cells #[.slice ao m cap, .int .i64 0, .int .i64 0] 29)) (by omega)
    have b4 := b3.alloc (by omega) (.cells #[.slice ao m cap, .int .i64 0, .int .i64 0] 29)
    rw [hM] at m0
    obtain ⟨w3, hw3⟩ : ∃ w3, (w2.alloc (.cells #[.slice ao m cap, .int .i64 0, .int .i64 0] 29)) = w3 := ⟨_, rfl⟩
    rw [hw3] at m0 r3 b4
    rw [hw3]
    have R3 : Hid (Rdr w3 K K ⟨l, 0, 0⟩) := r3
    have M3 : Hid (Rdr w3 K M ⟨l, 0, 0⟩) := m0
    have hKM : K < M := by omega
    clear m0 r3 r2 hw3 b3 L2 hM s1 s2 hbig d1 d2
    go_loopg [33] n (fun g i wr => ∃ (k : Nat) (s : St), k + g = n ∧ i = .int .i64 k ∧ Rdr wr K K s ∧ Rdr wr K M s ∧ Below K w wr)
    case atStart => exact ⟨0, _, by omega, rfl, R3.out, M3.out, b4⟩
    case round =>
      clear b4 R3 M3
      obtain ⟨k, s, hk, rfl, hr, hm, hbl⟩ := hrel
      have R0 : Hid (Rdr wr K K s) := hr
      have M0 : Hid (Rdr wr K M s) := hm
      clear hr hm
      by_cases hlt : k < n
      · obtain ⟨b, o, rfl, hat⟩ := P3.out.resolve_left (by omega)
        obtain ⟨c0, c1, c2⟩ := hat k hlt
        obtain ⟨⟨y0, y1⟩, x0, x1⟩ := HA.out k hlt
        obtain ⟨⟨kd, mo, er⟩, hq⟩ : ∃ q, A k = q := ⟨_, rfl⟩
        rw [hq] at c0 c1 c2 y0 y1 x0 x1
        simp only at c0 c1 c2 y0 y1 x0 x1
        have hblt : b < K := by have := World.block_lt_of_cell? w _ c0; simp only at this; omega
        have e0 := (hbl.cell (p := ⟨b, o + k * 3, none⟩) hblt).trans c0
        have e1 := (hbl.cell (p := ⟨b, o + k * 3 + 1, none⟩) hblt).trans c1
        have e2 := (hbl.cell (p := ⟨b, o + k * 3 + 2, none⟩) hblt).trans c2
        clear c0 c1 c2 hat hq
        obtain ⟨H, hH⟩ : ∃ H, wr.heap.size = H := ⟨_, rfl⟩
        have hMH : M < H := by have := M0.out.lt; omega
        have X0 := Blk.new wr #[.int .i64 kd, .int .u64 mo, .int .u8 er] 32 hH.symm
        have bb : Below H wr (wr.alloc (.cells #[.int .i64 kd, .int .u64 mo, .int .u8 er] 32)) := (Below.refl _ _).alloc (by omega) _
        have hbl2 := hbl.trans (bb.mono (show K ≤ H by omega))
        have r1 := R0.out.below bb (by omega)
        have m1 := M0.out.below bb (by omega)
        clear bb R0 M0
        go_upto_block 2 with fail
        obtain ⟨W, hW⟩ : ∃ W, (wr.alloc (.cells #[.int .i64 kd, .int .u64 mo, .int .u8 er] 32)) = W := ⟨_, rfl⟩
        rw [hW] at X0 hbl2 r1 m1
        rw [hW]
        have R1 : Hid (Rdr W K K s) := r1
        have M1 : Hid (Rdr W K M s) := m1
        clear r1 m1 hW e0 e1 e2 hbl
        have z0 := X0.cell 0 _ rfl
        have z1 := X0.cell 1 _ rfl
        have z2 := X0.cell 2 _ rfl
        have zl := X0.lt
        go_cut [33] from 33 to 118 (fun i wx => i = .int .i64 k ∧ ∃ s', Rdr wx K K s' ∧ Rdr wx K M s' ∧ Below K w wx)
        case first =>
          by_cases k0 : kd = 0
          · subst k0
            go_wp2_with fail
            refine (byte_any _ _ _ _ R1.out).mono ?_; rintro e w4 ⟨rfl, r4, g4⟩
            have M4 : Hid (Rdr w4 K M s) := M1.out.ch g4 (by omega) (by omega)
            go_wp2_with fail
            refine (rbyte_any _ _ _ _ M4.out).mono ?_; rintro e w5 ⟨rfl, m5, g5⟩
            have r5 := r4.ch g5 (by omega) (by omega)
            have b5 := Ch.up (Ch.up hbl2 g4 (by omega)) g5 (by omega)
            clear r4 g4 M4 g5
            go_wp2_with fail
            go_meet
            exact ⟨rfl, _, r5, m5, b5⟩
          by_cases k1 : kd = 1
          · subst k1
            have R2 : Hid (Rdr W.drew K K s) := R1.out.drew
            have M2 : Hid (Rdr W.drew K M s) := M1.out.drew
            have hb2 := hbl2.drew
            have X2 := X0.drew
            go_wp2_with fail
            go_region_held3 (fun w' => w'.cell? ⟨H, 1, none⟩ = some (.int .u64 mo)) (first | with_reducible exact z1 | with_reducible exact z4 | with_reducible exact z5 | go_keep)
              (first | (go_at_call 12; (with_reducible refine (uint_any _ _ _ _ mo R2.out).mono ?_); rintro e w4 ⟨rfl, r4, g4⟩; have M4 : Hid (Rdr w4 K M s) := M2.out.ch g4 (by omega) (by omega); have X4 := X2.ch g4 (by omega); have z4 := X4.cell 1 _ rfl) | (go_at_call 13; (with_reducible refine (ruint_any _ _ _ _ mo M4.out).mono ?_); rintro e w5 ⟨rfl, m5, g5⟩; have r5 := r4.ch g5 (by omega) (by omega); have b5 := Ch.up (Ch.up hb2 g4 (by omega)) g5 (by omega); have X5 := X4.ch g5 (by omega); have z5 := X5.cell 1 _ rfl))
            go_wp2_with fail
            go_meet
            exact ⟨rfl, _, r5, m5, b5⟩
          by_cases k2 : kd = 2
          · subst k2
            go_wp2_with fail
            refine (int_any _ _ _ _ R1.out).mono ?_; rintro e w4 ⟨rfl, r4, g4⟩
            have M4 : Hid (Rdr w4 K M s) := M1.out.ch g4 (by omega) (by omega)
            go_wp2_with fail
            refine (rint_any _ _ _ _ M4.out).mono ?_; rintro e w5 ⟨rfl, m5, g5⟩
            have r5 := r4.ch g5 (by omega) (by omega)
            have b5 := Ch.up (Ch.up hbl2 g4 (by omega)) g5 (by omega)
            clear r4 g4 M4 g5
            go_wp2_with fail
            go_meet
            exact ⟨rfl, _, r5, m5, b5⟩
          by_cases k3 : kd = 3
          · subst k3
            go_wp2_with fail
            refine (vec_any _ _ _ _ R1.out).mono ?_; rintro e w4 ⟨rfl, r4, g4⟩
            have M4 : Hid (Rdr w4 K M s) := M1.out.ch g4 (by omega) (by omega)
            go_wp2_with fail
            refine (rvec_any _ _ _ _ M4.out).mono ?_; rintro e w5 ⟨rfl, m5, g5⟩
            have r5 := r4.ch g5 (by omega) (by omega)
            have b5 := Ch.up (Ch.up hbl2 g4 (by omega)) g5 (by omega)
            clear r4 g4 M4 g5
            go_wp2_with fail
            go_meet
            exact ⟨rfl, _, r5, m5, b5⟩
          by_cases k4 : kd = 4
          · subst k4
            go_wp2_with fail
            refine (fail_any _ _ _ _ _ R1.out).mono ?_; rintro e w4 ⟨rfl, r4, g4⟩
            have M4 : Hid (Rdr w4 K M s) := M1.out.ch g4 (by omega) (by omega)
            have X4 := X0.ch g4 (by omega)
            have y2 := X4.cell 2 _ rfl
            go_wp2_with fail
            refine (rfail_any _ _ _ _ _ M4.out).mono ?_; rintro e w5 ⟨rfl, m5, g5⟩
            have r5 := r4.ch g5 (by omega) (by omega)
            have b5 := Ch.up (Ch.up hbl2 g4 (by omega)) g5 (by omega)
            clear r4 g4 M4 g5
            go_wp2_with fail
            go_meet
            exact ⟨rfl, _, r5, m5, b5⟩
          have j0 : (kd == 0) = false := by simpa using k0
          have j1 : (kd == 1) = false := by simpa using k1
          have j2 : (kd == 2) = false := by simpa using k2
          have j3 : (kd == 3) = false := by simpa using k3
          have j4 : (kd == 4) = false := by simpa using k4
          go_wp2_with fail
          go_meet
          exact ⟨rfl, _, R1.out, M1.out, hbl2⟩
        case rest =>
          clear R1 M1 z0 z1 z2 zl X0 hbl2
          obtain ⟨rfl, s', r5, m5, b5⟩ := hcut
          obtain ⟨l', n', e'⟩ := s'
          have R5 : Hid (Rdr wc K K ⟨l', n', e'⟩) := r5
          have M5 : Hid (Rdr wc K M ⟨l', n', e'⟩) := m5
          obtain ⟨v', V5⟩ := m5
          have c0 := V5.c0
          have c1 := V5.c1
          have c2 := V5.c2
          obtain ⟨ao', cap', rfl, _, _, _, _⟩ := V5.low
          simp only at c0 c1 c2
          clear V5 r5
          go_wp2_with fail
          go_quiet (first | (go_at_call 20; exact Calls.quiet_of_same (err_any _ K K _ (R5.out.drewN _))) | (go_at_call 21; exact Calls.quiet_of_same (at_any _ K K _ (R5.out.drewN _))) | (go_at_call 22; exact Calls.quiet_of_same (left_any _ K K _ (R5.out.drewN _))) | (go_at_call 23; exact Calls.quiet_of_same (done_any _ K K _ (R5.out.drewN _))) | (go_at_call 24; exact Calls.quiet_of_same (rdone_any _ K M _ (M5.out.drewN _))))
          go_wp2_with fail
          go_roundg (gk - 1)
          case measure => omega
          case rel => exact ⟨k + 1, _, by omega, by go_num, R5.out.drewN _, M5.out.drewN _, below_drewN b5 _⟩
      · obtain rfl : k = n := by omega
        go_wp2_with fail
        go_ret
        exact ⟨rfl, by rw [hK]; exact hbl⟩

set_option maxRecDepth 100000 in
theorem lifted (os : Os) (started : os.Started) (H : Type) (enc : TypeId × Value → H) :
    ReturnsInHanded {} Try.checked os 3 .any (Rows.readerActsSpec.pre6 enc Try.prog Try.f3 Rows.readerActsRow.domain false) (Rows.readerActsSpec.post enc Try.prog Try.f3 false true false false) := by
  refine returnsInHanded_of_change (C := Try.checked) own started (by kernel_rfl) Try.func3
    (ChangeSpec.witness6 (enc := enc) (C := Try.checked) false ⟨#[], #[.slice none 0 0, .slice none 0 0], []⟩ 8 (by kernel_rfl) (by kernel_rfl) (by kernel_rfl) (by kernel_rfl)) ?_
  intro W base args ds gs before hval0 hW hcnd _
  have hval : ∀ (j : Nat) t v, Try.f3.params[j]? = some t → args[j]? = some v → Value.okWide Try.prog W .any base t v := hval0
  have hW' := hW
  obtain ⟨p, q, hA0, hV, rfl, hfz, hnd⟩ := hW
  have hA : DataW.TrodAll enc Try.prog W 0 (fun _ => true) true Try.f3.params.toList args.toList ds p := hA0
  rw [Try.params3] at hA hval
  obtain ⟨v0, vs0, d0, ds0, p0, q0, hargs, rfl, rfl, h0, r0⟩ := trodAll_cons hA
  obtain ⟨v1, vs1, d1, ds1, p1, q1, rfl, rfl, rfl, h1, r1⟩ := trodAll_cons r0
  obtain ⟨rfl, rfl, rfl⟩ := trodAll_nil r1
  obtain rfl : args = #[v0, v1] := by cases args; simp_all
  obtain ⟨rfl, rfl⟩ := trodVars_none hV
  have hlt := hW'.lt
  have k0 := h0
  obtain ⟨l0, b0, e0⟩ := open_u8s (hval 0 22 v0 rfl rfl) h0
  have k1 := h1
  obtain ⟨n1, A1, b1, e1⟩ := open_acts (hval 1 23 v1 rfl rfl) h1
  clear hA0 hval0
  refine (walk W v0 l0 b0 e0 v1 n1 A1 b1 e1).mono fun e W' ⟨he, hg⟩ => ?_
  subst he
  exact ⟨_, rfl, post_of_below hW' (fun _ _ _ => (trodAll_cons_mk (shut_bool Try.underlying4 _) trodAll_mk0)) (trodAll_cons_mk (Below.trod laidOut (by kernel_rfl) (of_decide_eq_true (by kernel_rfl)) k0 hg (fun x hx => by first | exact absurd hx (by simp) | exact hlt x (by simp [hx]))) (trodAll_cons_mk (Below.trod laidOut (by kernel_rfl) (of_decide_eq_true (by kernel_rfl)) k1 hg (fun x hx => by first | exact absurd hx (by simp) | exact hlt x (by simp [hx]))) trodAll_mk0)) rfl hg⟩

theorem over : Rows.readerActsRow.holds Try.pinned (OpenSpec.ofChange Rows.readerActsSpec) :=
  OpenClaim.holds_of_wide 3 Try.f3 rfl rfl rfl rfl rfl rfl rfl ⟨rfl, rfl, rfl, rfl, rfl⟩ rfl rfl rfl rfl rfl (by kernel_rfl) Try.func3 (by kernel_rfl)
    (of_decide_eq_true (by kernel_rfl)) (by unfold Func.isWrapper; first | (rw [if_pos (by decide +kernel)]; kernel_rfl) | (rw [if_neg (by decide +kernel)]; exact ⟨rfl, rfl⟩))
    (fun os started H enc _ => lifted os started H enc)
end ReaderActsL

theorem readerActs_proved : Rows.ReaderActsSaid := ReaderActsL.over
#print axioms readerActs_proved
end Go.Proofs.Ytnoogdegpkgpdaa
