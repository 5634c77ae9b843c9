/-
  Proved: behind the first error of a reader nothing is taken, and it stays (the law ReaderSticks answers true at every input).
  Conditions: none.
-/
import Derived.Test.YtnoogdegpkgpdaaRows
import Derived.Test.YtnoogdegpkgpdaaFr7
import Derived.Test.YtnoogdegpkgpdaaRdr6
import Derived.Test.YtnoogdegpkgpdaaEq3
namespace Go.Proofs.Ytnoogdegpkgpdaa
open Go.ChangeShapes Go.WideShapes Go.ChangeAt Go.RowKit
set_option linter.unusedVariables false

namespace ReaderSticksL
theorem own : ownKnob Try.prog.godebug = none := by kernel_rfl

attribute [local go_sem] eq3_run
theorem stuckB {s : St} (h : s.e ≠ 0) : byteA s = 0 ∧ byteS s = s := by simp [byteA, byteS, h]
theorem stuckU {s : St} (m : Int) (h : s.e ≠ 0) : uintA m s = 0 ∧ uintS m s = s := by simp [uintA, uintS, h]
theorem stuckI {s : St} (h : s.e ≠ 0) : intA s = 0 ∧ intS s = s := by
  have := stuckU top64 h
  exact ⟨by unfold intA; rw [this.1]; rfl, this.2⟩
theorem stuckV {s : St} (h : s.e ≠ 0) : vecS s = s := by
  have := (stuckI h).2
  unfold vecS; rw [this, this, this]
theorem stuckF {s : St} (x : Int) (h : s.e ≠ 0) : failS s x = s := by simp [failS, h]
set_option maxRecDepth 4000 in
set_option maxHeartbeats 2000000 in
theorem walk (w : World) (v : Value) (l : List Int) (hb : Bytes l) (h : Rd w v l) (er0 : Int) (her : (Lit.int .u8 er0).wf = true) (va : Value) (n : Nat) (A : Nat → Int × Int × Int) (hA : ∀ i, i < n → (0 ≤ (A i).2.1 ∧ (A i).2.1 ≤ 18446744073709551615) ∧ (0 ≤ (A i).2.2 ∧ (A i).2.2 ≤ 255)) (ha : RdA w va n A) :
    Calls Try.prog 6 #[v, .int .u8 er0, va] w fun e w' => e = .returned (.bool true) ∧ Below w.heap.size w w' := by
  obtain ⟨er1, er2⟩ := wf_u8 her
  clear her
  have HR : Hid (Rd w v l) := h
  have HB : Hid (Bytes l) := hb
  have HA : Hid (∀ i, i < n → (0 ≤ (A i).2.1 ∧ (A i).2.1 ≤ 18446744073709551615) ∧ (0 ≤ (A i).2.2 ∧ (A i).2.2 ≤ 255)) := hA
  clear hb hA
  obtain ⟨ao, cap, rfl, q1, q2, q3, q4⟩ := h
  obtain ⟨ao2, cap2, rfl, p1, p2, p3⟩ := ha
  have P3 : Hid _ := p3
  obtain ⟨m, hm⟩ : ∃ m, l.length = m := ⟨_, rfl⟩
  rw [hm] at q1 HR ⊢
  have HM : Hid (l.length = m) := hm
  clear hm q3 q4 p3
  obtain ⟨K, hK⟩ : ∃ K, w.heap.size = K := ⟨_, rfl⟩
  by_cases hbig : 1000 < m ∨ 100 < n
  · go_enter Try.func6, Try.ntmps6
    go_wp2_with fail
    refine (new_any _ _ l HB.out HR.out).mono ?_; rw [hK]; rintro e w1 ⟨rfl, r1, b1, s1⟩
    go_wp2_with fail
    refine (ralive_any _).mono ?_; rintro e w2 ⟨rfl, b2⟩
    have b3 : Below K w w2 := b1.trans (b2.mono (by omega))
    clear b1 b2 r1
    by_cases hbig2 : 1000 < m
    · have d1 : decide ((1000 : Int) < (m : Int)) = true := by simp; omega
      go_wp2_with fail
      refine (ralive_any _).mono ?_; rintro e w3 ⟨rfl, b4⟩
      have b5 : Below K w w3 := b3.trans (b4.mono (by have := b3.size; omega))
      go_wp2_with fail
      go_ret
      exact ⟨rfl, by rw [hK]; exact b5⟩
    · have d1 : decide ((1000 : Int) < (m : Int)) = false := by simp; omega
      have d2 : decide ((100 : Int) < (n : Int)) = true := by simp; omega
      go_wp2_with fail
      refine (ralive_any _).mono ?_; rintro e w3 ⟨rfl, b4⟩
      have b5 : Below K w w3 := b3.trans (b4.mono (by have := b3.size; omega))
      go_wp2_with fail
      go_ret
      exact ⟨rfl, by rw [hK]; exact b5⟩
  · have d1 : decide ((1000 : Int) < (m : Int)) = false := by simp; omega
    have d2 : decide ((100 : Int) < (n : Int)) = false := by simp; omega
    go_enter Try.func6, Try.ntmps6
    go_wp2_with fail
    refine (new_any _ _ l HB.out HR.out).mono ?_; rw [hK]; rintro e w1 ⟨rfl, r1, b1, s1⟩
    go_wp2_with fail
    refine (ralive_any _).mono ?_; rintro e w2 ⟨rfl, b2⟩
    have b3 : Below K w w2 := b1.trans (b2.mono (by omega))
    have r2 := r1.below b2 (by omega)
    have s2 := b2.size
    have R2 : Hid (Rdr w2 K K ⟨l, 0, 0⟩) := r2
    clear r2 hbig
    go_wp2_with fail
    clear d1 d2
    obtain ⟨x, hx⟩ : ∃ x, er0 % 18 = x := ⟨_, rfl⟩
    have x0 : 0 ≤ x := by omega
    have x1 : x ≤ 17 := by omega
    by_cases hl : l = []
    · subst hl
      have m0 : m = 0 := by have := HM.out; simpa using this.symm
      subst m0
      refine (byte_any _ _ _ _ R2.out).mono ?_; rintro e w3 ⟨rfl, r3, g3⟩
      have e3 : byteS ⟨[], 0, 0⟩ = ⟨[], 0, 6⟩ := by simp [byteS]
      rw [e3] at r3
      have R3 : Hid (Rdr w3 K K ⟨[], 0, 6⟩) := r3
      have b5 := Ch.up b3 g3 (Nat.le_refl _)
      clear r3 g3 e3 b3
      go_wp2_with fail
      refine (at_any _ _ _ _ R3.out).mono ?_; simp only; rintro e w4 ⟨rfl, rfl⟩
      go_wp2_with fail
      refine (err_any _ _ _ _ R3.out).mono ?_; simp only; rintro e w4 ⟨rfl, rfl⟩
      go_wp2_with fail
      refine (fail_any _ _ _ _ _ R3.out).mono ?_; rintro e w5 ⟨rfl, r5, g5⟩
      have R5 : Hid (Rdr w5 K K ⟨[], 0, 6⟩) := by show Rdr w5 K K ⟨[], 0, 6⟩; simpa [failS] using r5
      have b6 := Ch.up b5 g5 (Nat.le_refl _)
      clear r5 g5 R3 b5
      obtain ⟨t, ht⟩ : ∃ t : St, ⟨[], 0, 6⟩ = t := ⟨_, rfl⟩
      rw [ht] at R5
      have te : t.e = 6 := by rw [← ht]
      have HT : Hid (t.e ≠ 0) := by show t.e ≠ 0; rw [te]; decide
      have SB := stuckB HT.out
      have SI := stuckI HT.out
      have SV := stuckV HT.out
      have HB2 : Hid _ := SB
      have HI2 : Hid _ := SI
      have HV2 : Hid _ := SV
      clear SB SI SV
      have HTT : Hid _ := ht
      have TE : Hid _ := te
      clear ht te
      go_wp2_with fail
      try rw [hx]
      go_loopg [54] n (fun g i wr => ∃ k : Nat, k + g = n ∧ i = .int .i64 k ∧ Rdr wr K K t ∧ Below K w wr)
      case atStart => exact ⟨0, by omega, rfl, R5.out, b6⟩
      case round =>
        clear b6 R5
        obtain ⟨k, hk, rfl, hr, hbl⟩ := hrel
        have R0 : Hid (Rdr wr K K t) := hr
        clear hr
        by_cases hlt : k < n
        · obtain ⟨b, o, rfl, hat⟩ := P3.out.resolve_left (by omega)
          obtain ⟨c0, c1, c2⟩ := hat k hlt
          obtain ⟨⟨y0, y1⟩, z0, z1⟩ := HA.out k hlt
          obtain ⟨⟨kd, mo, er⟩, hq⟩ : ∃ q, A k = q := ⟨_, rfl⟩
          rw [hq] at c0 c1 c2 y0 y1 z0 z1
          simp only at c0 c1 c2 y0 y1 z0 z1
          have hblt : b < K := by have := World.block_lt_of_cell? w _ c0; simp only at this; omega
          have e0 := (hbl.cell (p := ⟨b, o + k * 3, none⟩) hblt).trans c0
          have e1 := (hbl.cell (p := ⟨b, o + k * 3 + 1, none⟩) hblt).trans c1
          have e2 := (hbl.cell (p := ⟨b, o + k * 3 + 2, none⟩) hblt).trans c2
          clear c0 c1 c2 hat hq
          obtain ⟨H, hH⟩ : ∃ H, wr.heap.size = H := ⟨_, rfl⟩
          have hMH : K < H := by have := R0.out.lt; omega
          have X0 := Blk.new wr #[.int .i64 kd, .int .u64 mo, .int .u8 er] 32 hH.symm
          have bb : Below H wr (wr.alloc (.cells #[.int .i64 kd, .int .u64 mo, .int .u8 er] 32)) := (Below.refl _ _).alloc (by omega) _
          have hbl2 := hbl.trans (bb.mono (show K ≤ H by omega))
          have r1 := R0.out.below bb (by omega)
          clear bb R0 hbl
          go_wp2_with fail
          refine (byte_any _ _ _ _ r1).mono ?_; rw [HB2.out.1, HB2.out.2]; rintro e w7 ⟨rfl, r7, g7⟩
          have X7 := X0.ch g7 (by omega)
          have b7 := Ch.up hbl2 g7 (Nat.le_refl _)
          have d1 := X7.cell 1 _ rfl
          clear r1 X0 g7 hbl2
          go_wp2_with fail
          refine (uint_any _ _ _ _ mo r7).mono ?_; rw [(stuckU mo HT.out).1, (stuckU mo HT.out).2]; rintro e w8 ⟨rfl, r8, g8⟩
          have X8 := X7.ch g8 (by omega)
          have b8 := Ch.up b7 g8 (Nat.le_refl _)
          clear r7 X7 g8 b7 d1
          go_wp2_with fail
          refine (int_any _ _ _ _ r8).mono ?_; rw [HI2.out.1, HI2.out.2]; rintro e w9 ⟨rfl, r9, g9⟩
          have X9 := X8.ch g9 (by omega)
          have b9 := Ch.up b8 g9 (Nat.le_refl _)
          clear r8 X8 g9 b8
          go_wp2_with fail
          refine (vec_any _ _ _ _ r9).mono ?_; rw [HV2.out, HI2.out.2, HI2.out.1, HI2.out.2, HI2.out.1]; rintro e w10 ⟨rfl, r10, g10⟩
          have X10 := X9.ch g10 (by omega)
          have b10 := Ch.up b9 g10 (Nat.le_refl _)
          have d2 := X10.cell 2 _ rfl
          clear r9 X9 g10 b9
          go_wp2_with fail
          refine (fail_any _ _ _ _ _ r10).mono ?_; rw [stuckF _ HT.out]; rintro e w11 ⟨rfl, r11, g11⟩
          have b11 := Ch.up b10 g11 (Nat.le_refl _)
          clear r10 X10 g11 b10 d2
          go_wp2_with fail
          go_roundg (gk - 1)
          case measure => omega
          case rel => exact ⟨k + 1, by omega, by go_num, r11, b11⟩
        · obtain rfl : k = n := by omega
          have R6 : Hid (Rdr wr K K ⟨[], 0, 6⟩) := by rw [HTT.out]; exact R0.out
          clear R0 HTT HT HB2 HI2 HV2 TE
          go_wp2_with fail
          refine (err_any _ _ _ _ R6.out).mono ?_; simp only; rintro e w7 ⟨rfl, rfl⟩
          go_wp2_with fail
          refine (done_any _ _ _ _ R6.out).mono ?_; rw [show doneA ⟨[], 0, 6⟩ = 6 by rfl]; rintro e w7 ⟨rfl, rfl⟩
          go_wp2_with fail
          refine (at_any _ _ _ _ R6.out).mono ?_; simp only; rintro e w7 ⟨rfl, rfl⟩
          go_wp2_with fail
          refine (left_any _ _ _ _ R6.out).mono ?_; simp only; rintro e w7 ⟨rfl, rfl⟩
          go_wp2_with fail
          go_ret
          exact ⟨rfl, by rw [hK]; exact hbl⟩
    · have hp := List.length_pos_iff.2 hl
      refine (byte_any _ _ _ _ R2.out).mono ?_; rintro e w3 ⟨rfl, r3, g3⟩
      have e3 : byteS ⟨l, 0, 0⟩ = ⟨l.drop 1, 1, 0⟩ := by simp [byteS, hl]
      rw [e3] at r3
      have R3 : Hid (Rdr w3 K K ⟨l.drop 1, 1, 0⟩) := r3
      have b5 := Ch.up b3 g3 (Nat.le_refl _)
      have HQ : Hid (((l.drop 1).length : Int) = (m : Int) - 1) := by have := HM.out; show ((l.drop 1).length : Int) = (m : Int) - 1; rw [List.length_drop]; omega
      clear r3 g3 e3 b3
      by_cases hx0 : x = 0
      · subst hx0
        go_wp2_with fail
        refine (at_any _ _ _ _ R3.out).mono ?_; simp only; rintro e w4 ⟨rfl, rfl⟩
        go_wp2_with fail
        refine (err_any _ _ _ _ R3.out).mono ?_; simp only; rintro e w4 ⟨rfl, rfl⟩
        go_wp2_with fail
        refine (fail_any _ _ _ _ _ R3.out).mono ?_; rintro e w5 ⟨rfl, r5, g5⟩
        have R5 : Hid (Rdr w5 K K ⟨l.drop 1, 1, 0⟩) := by show Rdr w5 K K ⟨l.drop 1, 1, 0⟩; simpa [failS] using r5
        have b6 := Ch.up b5 g5 (Nat.le_refl _)
        clear r5 g5 R3 b5
        go_wp2_with fail
        refine (err_any _ _ _ _ R5.out).mono ?_; simp only; rintro e w6 ⟨rfl, rfl⟩
        go_wp2_with fail
        go_ret
        exact ⟨rfl, by rw [hK]; exact b6⟩
      · have hx00 : (x == 0) = false := by simpa using hx0
        go_wp2_with fail
        refine (at_any _ _ _ _ R3.out).mono ?_; simp only; rintro e w4 ⟨rfl, rfl⟩
        go_wp2_with fail
        refine (err_any _ _ _ _ R3.out).mono ?_; simp only; rintro e w4 ⟨rfl, rfl⟩
        go_wp2_with fail
        refine (fail_any _ _ _ _ _ R3.out).mono ?_; rintro e w5 ⟨rfl, r5, g5⟩
        have R5 : Hid (Rdr w5 K K ⟨l.drop 1, 1, x⟩) := by show Rdr w5 K K ⟨l.drop 1, 1, x⟩; simpa [failS] using r5
        have b6 := Ch.up b5 g5 (Nat.le_refl _)
        clear r5 g5 R3 b5
        obtain ⟨t, ht⟩ : ∃ t : St, ⟨l.drop 1, 1, x⟩ = t := ⟨_, rfl⟩
        rw [ht] at R5
        have te : t.e = x := by rw [← ht]
        have HT : Hid (t.e ≠ 0) := by show t.e ≠ 0; rw [te]; exact hx0
        have SB := stuckB HT.out
        have SI := stuckI HT.out
        have SV := stuckV HT.out
        have HB2 : Hid _ := SB
        have HI2 : Hid _ := SI
        have HV2 : Hid _ := SV
        clear SB SI SV
        have HTT : Hid _ := ht
        have TE : Hid _ := te
        clear ht te
        go_wp2_with fail
        try rw [hx]
        go_loopg [54] n (fun g i wr => ∃ k : Nat, k + g = n ∧ i = .int .i64 k ∧ Rdr wr K K t ∧ Below K w wr)
        case atStart => exact ⟨0, by omega, rfl, R5.out, b6⟩
        case round =>
          clear b6 R5
          obtain ⟨k, hk, rfl, hr, hbl⟩ := hrel
          have R0 : Hid (Rdr wr K K t) := hr
          clear hr
          by_cases hlt : k < n
          · obtain ⟨b, o, rfl, hat⟩ := P3.out.resolve_left (by omega)
            obtain ⟨c0, c1, c2⟩ := hat k hlt
            obtain ⟨⟨y0, y1⟩, z0, z1⟩ := HA.out k hlt
            obtain ⟨⟨kd, mo, er⟩, hq⟩ : ∃ q, A k = q := ⟨_, rfl⟩
            rw [hq] at c0 c1 c2 y0 y1 z0 z1
            simp only at c0 c1 c2 y0 y1 z0 z1
            have hblt : b < K := by have := World.block_lt_of_cell? w _ c0; simp only at this; omega
            have e0 := (hbl.cell (p := ⟨b, o + k * 3, none⟩) hblt).trans c0
            have e1 := (hbl.cell (p := ⟨b, o + k * 3 + 1, none⟩) hblt).trans c1
            have e2 := (hbl.cell (p := ⟨b, o + k * 3 + 2, none⟩) hblt).trans c2
            clear c0 c1 c2 hat hq
            obtain ⟨H, hH⟩ : ∃ H, wr.heap.size = H := ⟨_, rfl⟩
            have hMH : K < H := by have := R0.out.lt; omega
            have X0 := Blk.new wr #[.int .i64 kd, .int .u64 mo, .int .u8 er] 32 hH.symm
            have bb : Below H wr (wr.alloc (.cells #[.int .i64 kd, .int .u64 mo, .int .u8 er] 32)) := (Below.refl _ _).alloc (by omega) _
            have hbl2 := hbl.trans (bb.mono (show K ≤ H by omega))
            have r1 := R0.out.below bb (by omega)
            clear bb R0 hbl
            go_wp2_with fail
            refine (byte_any _ _ _ _ r1).mono ?_; rw [HB2.out.1, HB2.out.2]; rintro e w7 ⟨rfl, r7, g7⟩
            have X7 := X0.ch g7 (by omega)
            have b7 := Ch.up hbl2 g7 (Nat.le_refl _)
            have d1 := X7.cell 1 _ rfl
            clear r1 X0 g7 hbl2
            go_wp2_with fail
            refine (uint_any _ _ _ _ mo r7).mono ?_; rw [(stuckU mo HT.out).1, (stuckU mo HT.out).2]; rintro e w8 ⟨rfl, r8, g8⟩
            have X8 := X7.ch g8 (by omega)
            have b8 := Ch.up b7 g8 (Nat.le_refl _)
            clear r7 X7 g8 b7 d1
            go_wp2_with fail
            refine (int_any _ _ _ _ r8).mono ?_; rw [HI2.out.1, HI2.out.2]; rintro e w9 ⟨rfl, r9, g9⟩
            have X9 := X8.ch g9 (by omega)
            have b9 := Ch.up b8 g9 (Nat.le_refl _)
            clear r8 X8 g9 b8
            go_wp2_with fail
            refine (vec_any _ _ _ _ r9).mono ?_; rw [HV2.out, HI2.out.2, HI2.out.1, HI2.out.2, HI2.out.1]; rintro e w10 ⟨rfl, r10, g10⟩
            have X10 := X9.ch g10 (by omega)
            have b10 := Ch.up b9 g10 (Nat.le_refl _)
            have d2 := X10.cell 2 _ rfl
            clear r9 X9 g10 b9
            go_wp2_with fail
            refine (fail_any _ _ _ _ _ r10).mono ?_; rw [stuckF _ HT.out]; rintro e w11 ⟨rfl, r11, g11⟩
            have b11 := Ch.up b10 g11 (Nat.le_refl _)
            clear r10 X10 g11 b10 d2
            go_wp2_with fail
            go_roundg (gk - 1)
            case measure => omega
            case rel => exact ⟨k + 1, by omega, by go_num, r11, b11⟩
          · obtain rfl : k = n := by omega
            have R6 : Hid (Rdr wr K K ⟨l.drop 1, 1, x⟩) := by rw [HTT.out]; exact R0.out
            clear R0 HTT HT HB2 HI2 HV2 TE
            go_wp2_with fail
            refine (err_any _ _ _ _ R6.out).mono ?_; simp only; rintro e w7 ⟨rfl, rfl⟩
            go_wp2_with fail
            refine (done_any _ _ _ _ R6.out).mono ?_; rw [show doneA ⟨l.drop 1, 1, x⟩ = x by simp [doneA, hx0]]; rintro e w7 ⟨rfl, rfl⟩
            go_wp2_with fail
            refine (at_any _ _ _ _ R6.out).mono ?_; simp only; rintro e w7 ⟨rfl, rfl⟩
            go_wp2_with fail
            refine (left_any _ _ _ _ R6.out).mono ?_; simp only; rw [HQ.out]; rintro e w7 ⟨rfl, rfl⟩
            go_wp2_with fail
            go_ret
            exact ⟨rfl, by rw [hK]; exact hbl⟩

set_option maxRecDepth 100000 in
theorem lifted (os : Os) (started : os.Started) (H : Type) (enc : TypeId × Value → H) :
    ReturnsInHanded {} Try.checked os 6 .any (Rows.readerSticksSpec.pre6 enc Try.prog Try.f6 Rows.readerSticksRow.domain false) (Rows.readerSticksSpec.post enc Try.prog Try.f6 false true false false) := by
  refine returnsInHanded_of_change (C := Try.checked) own started (by kernel_rfl) Try.func6
    (ChangeSpec.witness6 (enc := enc) (C := Try.checked) false ⟨#[], #[.slice none 0 0, .int .u8 0, .slice none 0 0], []⟩ 8 (by kernel_rfl) (by kernel_rfl) (by kernel_rfl) (by kernel_rfl)) ?_
  intro W base args ds gs before hval0 hW hcnd _
  have hval : ∀ (j : Nat) t v, Try.f6.params[j]? = some t → args[j]? = some v → Value.okWide Try.prog W .any base t v := hval0
  have hW' := hW
  obtain ⟨p, q, hA0, hV, rfl, hfz, hnd⟩ := hW
  have hA : DataW.TrodAll enc Try.prog W 0 (fun _ => true) true Try.f6.params.toList args.toList ds p := hA0
  rw [Try.params6] at hA hval
  obtain ⟨v0, vs0, d0, ds0, p0, q0, hargs, rfl, rfl, h0, r0⟩ := trodAll_cons hA
  obtain ⟨v1, vs1, d1, ds1, p1, q1, rfl, rfl, rfl, h1, r1⟩ := trodAll_cons r0
  obtain ⟨v2, vs2, d2, ds2, p2, q2, rfl, rfl, rfl, h2, r2⟩ := trodAll_cons r1
  obtain ⟨rfl, rfl, rfl⟩ := trodAll_nil r2
  obtain rfl : args = #[v0, v1, v2] := by cases args; simp_all
  obtain ⟨rfl, rfl⟩ := trodVars_none hV
  have hlt := hW'.lt
  have k0 := h0
  obtain ⟨l0, b0, e0⟩ := open_u8s (hval 0 22 v0 rfl rfl) h0
  have k1 := h1
  obtain ⟨a1, rfl, rfl, rfl, w1⟩ := open_int Try.underlying5 (hval 1 5 v1 rfl rfl) h1
  have k2 := h2
  obtain ⟨n2, A2, b2, e2⟩ := open_acts (hval 2 23 v2 rfl rfl) h2
  clear hA0 hval0
  refine (walk W v0 l0 b0 e0 a1 w1 v2 n2 A2 b2 e2).mono fun e W' ⟨he, hg⟩ => ?_
  subst he
  exact ⟨_, rfl, post_of_below hW' (fun _ _ _ => (trodAll_cons_mk (shut_bool Try.underlying4 _) trodAll_mk0)) (trodAll_cons_mk (Below.trod laidOut (by kernel_rfl) (of_decide_eq_true (by kernel_rfl)) k0 hg (fun x hx => by first | exact absurd hx (by simp) | exact hlt x (by simp [hx]))) (trodAll_cons_mk (Below.trod laidOut (by kernel_rfl) (of_decide_eq_true (by kernel_rfl)) k1 hg (fun x hx => by first | exact absurd hx (by simp) | exact hlt x (by simp [hx]))) (trodAll_cons_mk (Below.trod laidOut (by kernel_rfl) (of_decide_eq_true (by kernel_rfl)) k2 hg (fun x hx => by first | exact absurd hx (by simp) | exact hlt x (by simp [hx]))) trodAll_mk0))) rfl hg⟩

theorem over : Rows.readerSticksRow.holds Try.pinned (OpenSpec.ofChange Rows.readerSticksSpec) :=
  OpenClaim.holds_of_wide 6 Try.f6 rfl rfl rfl rfl rfl rfl rfl ⟨rfl, rfl, rfl, rfl, rfl⟩ rfl rfl rfl rfl rfl (by kernel_rfl) Try.func6 (by kernel_rfl)
    (of_decide_eq_true (by kernel_rfl)) (by unfold Func.isWrapper; first | (rw [if_pos (by decide +kernel)]; kernel_rfl) | (rw [if_neg (by decide +kernel)]; exact ⟨rfl, rfl⟩))
    (fun os started H enc _ => lifted os started H enc)
end ReaderSticksL

theorem readerSticks_proved : Rows.ReaderSticksSaid := ReaderSticksL.over
#print axioms readerSticks_proved
end Go.Proofs.Ytnoogdegpkgpdaa
