/-
  Texts Rec17 in one.
-/
import Derived.Test.YtlpdhglibgnkoaaGreatP13
namespace Go.Proofs.YtlpdhglibgnkoaaGreat
open Go.RowKit
set_option linter.unusedVariables false

theorem half_up (m : Int) (k : Nat) : m / 2 ^ (k + 1) = m / 2 ^ k / 2 := by
  rw [Int.pow_succ, Int.ediv_ediv_of_nonneg (Int.pow_nonneg (by omega))]
set_option maxRecDepth 8000 in
set_option maxHeartbeats 20000000 in
theorem doc_update (w : World) (K R M : Nat) (s : St) (rk ri : Int) (h : Rdr w K R s) (hX : Blk w M (recC ⟨rk, ri, 0, 0, 0, 0, 0, 0, 0⟩)) (hM : R < M) : Calls Tryz.prog 96 #[.pointer (some ⟨R, 0, none⟩), .pointer (some ⟨M, 0, none⟩)] w fun e w' =>
    e = .returned (.tuple #[]) ∧ Rdr w' K R (updS s) ∧ Blk w' M (recC (updT s ⟨rk, ri, 0, 0, 0, 0, 0, 0, 0⟩)) ∧ Ch2 R M w w' := by
  have HR : Hid (Rdr w K R s) := h
  have hK := h.hK
  have mb := byteA_bd h.bytes
  clear h
  have X0 := hX
  clear hX
  obtain ⟨m, hm⟩ : ∃ m, byteA s = m := ⟨_, rfl⟩
  have HM : Hid (byteA s = m) := hm
  have BAD : Hid (badM m = true → updT s ⟨rk, ri, 0, 0, 0, 0, 0, 0, 0⟩ = ⟨rk, ri, 0, 0, 0, 0, 0, 0, 0⟩ ∧ updS s = failS (byteS s) 7) := fun hb => upd_bad (by rw [hm]; exact hb) (by rw [emptyB_iff]; exact ⟨⟨rfl, rfl, rfl, rfl, rfl, rfl⟩, rfl⟩)
  have GOOD : Hid (badM m = false → mskS s = byteS s) := fun hb => by unfold mskS; rw [hm, hb]; rfl
  have UT : Hid (updT s ⟨rk, ri, 0, 0, 0, 0, 0, 0, 0⟩ = ⟨rk, ri, difA m (mskS s) 0, difA m (mskS s) 1, difA m (mskS s) 2, difA m (mskS s) 3, difA m (mskS s) 4, difA m (mskS s) 5, angA (bitB m 6) (difS m (mskS s) 6)⟩) := by unfold updT; rw [hm]; rfl
  have US : Hid (updS s = angS (bitB m 6) (difS m (mskS s) 6)) := by unfold updS; rw [hm]; rfl
  rw [hm] at mb
  clear hm
  obtain ⟨m0, m1⟩ := mb
  go_enter Tryz.func96, Tryz.ntmps96
  go_wp2_with fail
  refine (rbyte_any _ K R _ HR.out).mono ?_; rw [HM.out]; rintro e w1 ⟨rfl, r1, g1⟩
  have X1 := X0.ch g1 (by omega)
  have G1 : Ch2 R M w w1 := g1.two
  have R1 : Hid (Rdr w1 K R (byteS s)) := r1
  clear X0 g1 r1 HR HM
  by_cases b0 : m = 0
  · have BD := BAD.out (by unfold badM; simp [b0])
    have b0q : (m == 0) = true := by simp [b0]
    clear b0
    go_wp2_with fail
    refine (rfail_any _ K R _ 7 R1.out).mono ?_; rintro e w2 ⟨rfl, r2, g2⟩
    have X2 := X1.ch g2 (by omega)
    have G2 : Ch2 R M w w2 := G1.trans g2.two
    go_wp2_with fail
    refine bodyPost_ret (v := .tuple #[]) (by simp [results, Tryz.results96]) rfl ?_
    exact ⟨rfl, by rw [BD.2]; exact r2, by rw [BD.1]; exact X2, G2⟩
  have b0q : (m == 0) = false := by simp [b0]
  by_cases b1 : 127 < m
  · have BD := BAD.out (by unfold badM; simp [b1])
    go_wp2_with fail
    refine (rfail_any _ K R _ 7 R1.out).mono ?_; rintro e w2 ⟨rfl, r2, g2⟩
    have X2 := X1.ch g2 (by omega)
    have G2 : Ch2 R M w w2 := G1.trans g2.two
    go_wp2_with fail
    refine bodyPost_ret (v := .tuple #[]) (by simp [results, Tryz.results96]) rfl ?_
    exact ⟨rfl, by rw [BD.2]; exact r2, by rw [BD.1]; exact X2, G2⟩
  have EM := GOOD.out (by unfold badM; simp; omega)
  rw [EM] at UT US
  obtain ⟨t, ht⟩ : ∃ t, byteS s = t := ⟨_, rfl⟩
  rw [ht] at R1 UT US
  clear BAD GOOD EM ht
  obtain ⟨d0, e0⟩ : ∃ x, difA m t 0 = x := ⟨_, rfl⟩
  obtain ⟨d1, e1⟩ : ∃ x, difA m t 1 = x := ⟨_, rfl⟩
  obtain ⟨d2, e2⟩ : ∃ x, difA m t 2 = x := ⟨_, rfl⟩
  obtain ⟨d3, e3⟩ : ∃ x, difA m t 3 = x := ⟨_, rfl⟩
  obtain ⟨d4, e4⟩ : ∃ x, difA m t 4 = x := ⟨_, rfl⟩
  obtain ⟨d5, e5⟩ : ∃ x, difA m t 5 = x := ⟨_, rfl⟩
  obtain ⟨d6, e6⟩ : ∃ x, angA (bitB m 6) (difS m t 6) = x := ⟨_, rfl⟩
  have ET : Hid (updT s ⟨rk, ri, 0, 0, 0, 0, 0, 0, 0⟩ = ⟨rk, ri, d0, d1, d2, d3, d4, d5, d6⟩) := by have h := UT.out; rw [e0, e1, e2, e3, e4, e5, e6] at h; exact h
  have E0 : Hid (difA m t 0 = d0) := e0
  have E1 : Hid (difA m t 1 = d1) := e1
  have E2 : Hid (difA m t 2 = d2) := e2
  have E3 : Hid (difA m t 3 = d3) := e3
  have E4 : Hid (difA m t 4 = d4) := e4
  have E5 : Hid (difA m t 5 = d5) := e5
  have E6 : Hid (angA (bitB m 6) (difS m t 6) = d6) := e6
  clear e0 e1 e2 e3 e4 e5 e6 UT
  obtain ⟨f, f0, f1, f2, f3, f4, f5, f6, f7⟩ : ∃ f : Nat → List Value, f 0 = [.int .i64 rk, .int .i64 ri, .int .i64 0, .int .i64 0, .int .i64 0, .int .i64 0, .int .i64 0, .int .i64 0, .int .u16 0] ∧ f 1 = [.int .i64 rk, .int .i64 ri, .int .i64 d0, .int .i64 0, .int .i64 0, .int .i64 0, .int .i64 0, .int .i64 0, .int .u16 0] ∧ f 2 = [.int .i64 rk, .int .i64 ri, .int .i64 d0, .int .i64 d1, .int .i64 0, .int .i64 0, .int .i64 0, .int .i64 0, .int .u16 0] ∧ f 3 = [.int .i64 rk, .int .i64 ri, .int .i64 d0, .int .i64 d1, .int .i64 d2, .int .i64 0, .int .i64 0, .int .i64 0, .int .u16 0] ∧ f 4 = [.int .i64 rk, .int .i64 ri, .int .i64 d0, .int .i64 d1, .int .i64 d2, .int .i64 d3, .int .i64 0, .int .i64 0, .int .u16 0] ∧ f 5 = [.int .i64 rk, .int .i64 ri, .int .i64 d0, .int .i64 d1, .int .i64 d2, .int .i64 d3, .int .i64 d4, .int .i64 0, .int .u16 0] ∧ f 6 = [.int .i64 rk, .int .i64 ri, .int .i64 d0, .int .i64 d1, .int .i64 d2, .int .i64 d3, .int .i64 d4, .int .i64 d5, .int .u16 0] ∧ f 7 = [.int .i64 rk, .int .i64 ri, .int .i64 d0, .int .i64 d1, .int .i64 d2, .int .i64 d3, .int .i64 d4, .int .i64 d5, .int .u16 d6] :=
    ⟨fun n => if n = 0 then [.int .i64 rk, .int .i64 ri, .int .i64 0, .int .i64 0, .int .i64 0, .int .i64 0, .int .i64 0, .int .i64 0, .int .u16 0] else if n = 1 then [.int .i64 rk, .int .i64 ri, .int .i64 d0, .int .i64 0, .int .i64 0, .int .i64 0, .int .i64 0, .int .i64 0, .int .u16 0] else if n = 2 then [.int .i64 rk, .int .i64 ri, .int .i64 d0, .int .i64 d1, .int .i64 0, .int .i64 0, .int .i64 0, .int .i64 0, .int .u16 0] else if n = 3 then [.int .i64 rk, .int .i64 ri, .int .i64 d0, .int .i64 d1, .int .i64 d2, .int .i64 0, .int .i64 0, .int .i64 0, .int .u16 0] else if n = 4 then [.int .i64 rk, .int .i64 ri, .int .i64 d0, .int .i64 d1, .int .i64 d2, .int .i64 d3, .int .i64 0, .int .i64 0, .int .u16 0] else if n = 5 then [.int .i64 rk, .int .i64 ri, .int .i64 d0, .int .i64 d1, .int .i64 d2, .int .i64 d3, .int .i64 d4, .int .i64 0, .int .u16 0] else if n = 6 then [.int .i64 rk, .int .i64 ri, .int .i64 d0, .int .i64 d1, .int .i64 d2, .int .i64 d3, .int .i64 d4, .int .i64 d5, .int .u16 0] else [.int .i64 rk, .int .i64 ri, .int .i64 d0, .int .i64 d1, .int .i64 d2, .int .i64 d3, .int .i64 d4, .int .i64 d5, .int .u16 d6], rfl, rfl, rfl, rfl, rfl, rfl, rfl, rfl⟩
  obtain ⟨g, hg6, hg7⟩ : ∃ g : Nat → St, (∀ k, k ≤ 6 → g k = difS m t k) ∧ g 7 = angS (bitB m 6) (difS m t 6) := ⟨fun k => if k ≤ 6 then difS m t k else angS (bitB m 6) (difS m t 6), fun k hk => if_pos hk, rfl⟩
  have F0 : Hid (f 0 = [.int .i64 rk, .int .i64 ri, .int .i64 0, .int .i64 0, .int .i64 0, .int .i64 0, .int .i64 0, .int .i64 0, .int .u16 0]) := f0
  have F1 : Hid (f 1 = [.int .i64 rk, .int .i64 ri, .int .i64 d0, .int .i64 0, .int .i64 0, .int .i64 0, .int .i64 0, .int .i64 0, .int .u16 0]) := f1
  have F2 : Hid (f 2 = [.int .i64 rk, .int .i64 ri, .int .i64 d0, .int .i64 d1, .int .i64 0, .int .i64 0, .int .i64 0, .int .i64 0, .int .u16 0]) := f2
  have F3 : Hid (f 3 = [.int .i64 rk, .int .i64 ri, .int .i64 d0, .int .i64 d1, .int .i64 d2, .int .i64 0, .int .i64 0, .int .i64 0, .int .u16 0]) := f3
  have F4 : Hid (f 4 = [.int .i64 rk, .int .i64 ri, .int .i64 d0, .int .i64 d1, .int .i64 d2, .int .i64 d3, .int .i64 0, .int .i64 0, .int .u16 0]) := f4
  have F5 : Hid (f 5 = [.int .i64 rk, .int .i64 ri, .int .i64 d0, .int .i64 d1, .int .i64 d2, .int .i64 d3, .int .i64 d4, .int .i64 0, .int .u16 0]) := f5
  have F6 : Hid (f 6 = [.int .i64 rk, .int .i64 ri, .int .i64 d0, .int .i64 d1, .int .i64 d2, .int .i64 d3, .int .i64 d4, .int .i64 d5, .int .u16 0]) := f6
  have F7 : Hid (f 7 = [.int .i64 rk, .int .i64 ri, .int .i64 d0, .int .i64 d1, .int .i64 d2, .int .i64 d3, .int .i64 d4, .int .i64 d5, .int .u16 d6]) := f7
  have HG6 : Hid (∀ k, k ≤ 6 → g k = difS m t k) := hg6
  have HG7 : Hid (g 7 = angS (bitB m 6) (difS m t 6)) := hg7
  clear f0 f1 f2 f3 f4 f5 f6 f7 hg6 hg7
  have RR : Hid (Rdr w1 K R (g 0)) := by rw [HG6.out 0 (by omega)]; exact R1.out
  have XX : Hid (Blk w1 M (f 0)) := by rw [F0.out]; exact X1
  have GG : Hid (Ch2 R M w w1) := G1
  have MM : Hid (m / 2 ^ 0 = m) := (by simp : m / 2 ^ 0 = m)
  clear R1 X1 G1
  go_wp2_with fail
  go_loopw [4, 5] (fun mv i wr => ∃ k : Nat, k ≤ 7 ∧ i = .int .i64 k ∧ mv = .int .u8 (m / 2 ^ k) ∧ Rdr wr K R (g k) ∧ Blk wr M (f k) ∧ Ch2 R M w wr) (fun _ i _ => 7 - (intOf i).toNat)
  case atStart => exact ⟨0, by omega, rfl, by rw [MM.out], RR.out, XX.out, GG.out⟩
  case round =>
    obtain ⟨k, hk, rfl, rfl, r0, X0, G0⟩ := hrel
    clear RR XX GG MM
    have R0 : Hid (Rdr wr K R (g k)) := r0
    clear r0
    have hb : ∀ j, j = k → bitB m j = decide (m / 2 ^ k % 2 = 1) := fun j hj => by rw [hj]; rfl
    have HH : Hid (m / 2 ^ (k + 1) = m / 2 ^ k / 2) := half_up m k
    have p0 : 0 ≤ m / 2 ^ k := Int.ediv_nonneg m0 (Int.pow_nonneg (by omega))
    have p1 : m / 2 ^ k ≤ m := Int.ediv_le_self _ m0
    obtain ⟨c, hc⟩ : ∃ c, m / 2 ^ k = c := ⟨_, rfl⟩
    rw [hc] at hb HH p0 p1
    rw [hc]
    have HBt : Hid (∀ j, j = k → bitB m j = decide (c % 2 = 1)) := hb
    clear hc hb
    have tm : c.tmod 2 = c % 2 := Int.tmod_eq_emod_of_nonneg p0
    have td : c.tdiv 2 = c / 2 := Int.tdiv_eq_ediv_of_nonneg p0
    by_cases g0 : k = 0
    · subst g0
      rw [F0.out] at X0
      rw [HG6.out 0 (by omega)] at R0
      by_cases hc : c % 2 = 1
      · have hb : bitB m 0 = true := by rw [HBt.out 0 rfl, decide_eq_true hc]
        have hcq : (c % 2 == 1) = true := by simp [hc]
        obtain ⟨s', hs'⟩ : ∃ s', difS m t 0 = s' := ⟨_, rfl⟩
        rw [hs'] at R0
        have HD : Hid (g 1 = othS d0 (intS s')) := by
          rw [HG6.out 1 (by omega)]
          show stepS _ _ = _
          have e := E0.out
          unfold difA at e; rw [hb, hs'] at e; rw [hb, hs']
          rw [← e]; rfl
        have HZ : Hid (intA s' = d0) := by
          have e := E0.out
          unfold difA at e; rw [hb, hs'] at e; exact e
        skip
        clear hs' hc
        go_wp2_with fail
        refine (rint_any _ K R _ R0.out).mono ?_; rw [HZ.out]; rintro e w2 ⟨rfl, r2, g2⟩
        have X2 := X0.ch g2 (by omega)
        have G2 : Ch2 R M w w2 := G0.trans g2.two
        have R2 : Hid (Rdr w2 K R (intS s')) := r2
        clear r2 g2 X0 G0 R0
        skip
        by_cases hz : d0 = 0
        · have hzq : (d0 == 0) = true := by simp [hz]
          have HD2 : Hid (g 1 = failS (intS s') 7) := by rw [HD.out]; unfold othS; rw [if_pos hz]; rfl
          clear hz HD
          go_wp2_with fail
          refine (rfail_any _ K R _ 7 R2.out).mono ?_; rintro e w3 ⟨rfl, r3, g3⟩
          have X3 := X2.ch g3 (by omega)
          have G3 : Ch2 R M w w3 := G2.trans g3.two
          have R3 : Hid (Rdr w3 K R (failS (intS s') 7)) := r3
          clear r3 g3 X2 G2 R2
          have HD := HD2
          clear HD2
          have c8 := X3.cell 2 _ rfl
          have f8 := X3.froz 2
          have xl := X3.lt
          go_wp2_with fail
          have X9 := X3.set 2 (.int .i64 d0) (by simp)
          simp only [List.set] at X9
          have R9 := R3.out.ch ((Ch.refl M _).set 2 (.int .i64 d0)) (by omega) (by omega)
          have G9 := G3.set (by omega) 2 (.int .i64 d0)
          go_roundw
          case rel => exact ⟨1, by omega, by go_num, by rw [HH.out], by rw [HD.out]; exact R9, by rw [F1.out]; exact X9, G9⟩
          case measure => simp [intOf]
        · have hzq : (d0 == 0) = false := by simp [hz]
          have HD2 : Hid (g 1 = intS s') := by rw [HD.out]; unfold othS; rw [if_neg hz]; rfl
          clear hz HD
          have HD := HD2
          clear HD2
          have c8 := X2.cell 2 _ rfl
          have f8 := X2.froz 2
          have xl := X2.lt
          go_wp2_with fail
          have X9 := X2.set 2 (.int .i64 d0) (by simp)
          simp only [List.set] at X9
          have R9 := R2.out.ch ((Ch.refl M _).set 2 (.int .i64 d0)) (by omega) (by omega)
          have G9 := G2.set (by omega) 2 (.int .i64 d0)
          go_roundw
          case rel => exact ⟨1, by omega, by go_num, by rw [HH.out], by rw [HD.out]; exact R9, by rw [F1.out]; exact X9, G9⟩
          case measure => simp [intOf]
      · have hb : bitB m 0 = false := by rw [HBt.out 0 rfl, decide_eq_false hc]
        have hcq : (c % 2 == 1) = false := by simp [hc]
        have HD : Hid (g 1 = difS m t 0) := by rw [HG6.out 1 (by omega)]; show stepS _ _ = _; rw [hb]; rfl
        have HZ : d0 = 0 := by have e := E0.out; unfold difA at e; rw [hb] at e; rw [← e]; rfl
        clear hc
        go_wp2_with fail
        go_roundw
        case rel => exact ⟨1, by omega, by go_num, by rw [HH.out], by rw [HD.out]; exact R0.out, by rw [F1.out, HZ]; exact X0, G0⟩
        case measure => simp [intOf]
    by_cases g1 : k = 1
    · subst g1
      rw [F1.out] at X0
      rw [HG6.out 1 (by omega)] at R0
      by_cases hc : c % 2 = 1
      · have hb : bitB m 1 = true := by rw [HBt.out 1 rfl, decide_eq_true hc]
        have hcq : (c % 2 == 1) = true := by simp [hc]
        obtain ⟨s', hs'⟩ : ∃ s', difS m t 1 = s' := ⟨_, rfl⟩
        rw [hs'] at R0
        have HD : Hid (g 2 = othS d1 (intS s')) := by
          rw [HG6.out 2 (by omega)]
          show stepS _ _ = _
          have e := E1.out
          unfold difA at e; rw [hb, hs'] at e; rw [hb, hs']
          rw [← e]; rfl
        have HZ : Hid (intA s' = d1) := by
          have e := E1.out
          unfold difA at e; rw [hb, hs'] at e; exact e
        skip
        clear hs' hc
        go_wp2_with fail
        refine (rint_any _ K R _ R0.out).mono ?_; rw [HZ.out]; rintro e w2 ⟨rfl, r2, g2⟩
        have X2 := X0.ch g2 (by omega)
        have G2 : Ch2 R M w w2 := G0.trans g2.two
        have R2 : Hid (Rdr w2 K R (intS s')) := r2
        clear r2 g2 X0 G0 R0
        skip
        by_cases hz : d1 = 0
        · have hzq : (d1 == 0) = true := by simp [hz]
          have HD2 : Hid (g 2 = failS (intS s') 7) := by rw [HD.out]; unfold othS; rw [if_pos hz]; rfl
          clear hz HD
          go_wp2_with fail
          refine (rfail_any _ K R _ 7 R2.out).mono ?_; rintro e w3 ⟨rfl, r3, g3⟩
          have X3 := X2.ch g3 (by omega)
          have G3 : Ch2 R M w w3 := G2.trans g3.two
          have R3 : Hid (Rdr w3 K R (failS (intS s') 7)) := r3
          clear r3 g3 X2 G2 R2
          have HD := HD2
          clear HD2
          have c8 := X3.cell 3 _ rfl
          have f8 := X3.froz 3
          have xl := X3.lt
          go_wp2_with fail
          have X9 := X3.set 3 (.int .i64 d1) (by simp)
          simp only [List.set] at X9
          have R9 := R3.out.ch ((Ch.refl M _).set 3 (.int .i64 d1)) (by omega) (by omega)
          have G9 := G3.set (by omega) 3 (.int .i64 d1)
          go_roundw
          case rel => exact ⟨2, by omega, by go_num, by rw [HH.out], by rw [HD.out]; exact R9, by rw [F2.out]; exact X9, G9⟩
          case measure => simp [intOf]
        · have hzq : (d1 == 0) = false := by simp [hz]
          have HD2 : Hid (g 2 = intS s') := by rw [HD.out]; unfold othS; rw [if_neg hz]; rfl
          clear hz HD
          have HD := HD2
          clear HD2
          have c8 := X2.cell 3 _ rfl
          have f8 := X2.froz 3
          have xl := X2.lt
          go_wp2_with fail
          have X9 := X2.set 3 (.int .i64 d1) (by simp)
          simp only [List.set] at X9
          have R9 := R2.out.ch ((Ch.refl M _).set 3 (.int .i64 d1)) (by omega) (by omega)
          have G9 := G2.set (by omega) 3 (.int .i64 d1)
          go_roundw
          case rel => exact ⟨2, by omega, by go_num, by rw [HH.out], by rw [HD.out]; exact R9, by rw [F2.out]; exact X9, G9⟩
          case measure => simp [intOf]
      · have hb : bitB m 1 = false := by rw [HBt.out 1 rfl, decide_eq_false hc]
        have hcq : (c % 2 == 1) = false := by simp [hc]
        have HD : Hid (g 2 = difS m t 1) := by rw [HG6.out 2 (by omega)]; show stepS _ _ = _; rw [hb]; rfl
        have HZ : d1 = 0 := by have e := E1.out; unfold difA at e; rw [hb] at e; rw [← e]; rfl
        clear hc
        go_wp2_with fail
        go_roundw
        case rel => exact ⟨2, by omega, by go_num, by rw [HH.out], by rw [HD.out]; exact R0.out, by rw [F2.out, HZ]; exact X0, G0⟩
        case measure => simp [intOf]
    by_cases g2 : k = 2
    · subst g2
      rw [F2.out] at X0
      rw [HG6.out 2 (by omega)] at R0
      by_cases hc : c % 2 = 1
      · have hb : bitB m 2 = true := by rw [HBt.out 2 rfl, decide_eq_true hc]
        have hcq : (c % 2 == 1) = true := by simp [hc]
        obtain ⟨s', hs'⟩ : ∃ s', difS m t 2 = s' := ⟨_, rfl⟩
        rw [hs'] at R0
        have HD : Hid (g 3 = othS d2 (intS s')) := by
          rw [HG6.out 3 (by omega)]
          show stepS _ _ = _
          have e := E2.out
          unfold difA at e; rw [hb, hs'] at e; rw [hb, hs']
          rw [← e]; rfl
        have HZ : Hid (intA s' = d2) := by
          have e := E2.out
          unfold difA at e; rw [hb, hs'] at e; exact e
        skip
        clear hs' hc
        go_wp2_with fail
        refine (rint_any _ K R _ R0.out).mono ?_; rw [HZ.out]; rintro e w2 ⟨rfl, r2, g2⟩
        have X2 := X0.ch g2 (by omega)
        have G2 : Ch2 R M w w2 := G0.trans g2.two
        have R2 : Hid (Rdr w2 K R (intS s')) := r2
        clear r2 g2 X0 G0 R0
        skip
        by_cases hz : d2 = 0
        · have hzq : (d2 == 0) = true := by simp [hz]
          have HD2 : Hid (g 3 = failS (intS s') 7) := by rw [HD.out]; unfold othS; rw [if_pos hz]; rfl
          clear hz HD
          go_wp2_with fail
          refine (rfail_any _ K R _ 7 R2.out).mono ?_; rintro e w3 ⟨rfl, r3, g3⟩
          have X3 := X2.ch g3 (by omega)
          have G3 : Ch2 R M w w3 := G2.trans g3.two
          have R3 : Hid (Rdr w3 K R (failS (intS s') 7)) := r3
          clear r3 g3 X2 G2 R2
          have HD := HD2
          clear HD2
          have c8 := X3.cell 4 _ rfl
          have f8 := X3.froz 4
          have xl := X3.lt
          go_wp2_with fail
          have X9 := X3.set 4 (.int .i64 d2) (by simp)
          simp only [List.set] at X9
          have R9 := R3.out.ch ((Ch.refl M _).set 4 (.int .i64 d2)) (by omega) (by omega)
          have G9 := G3.set (by omega) 4 (.int .i64 d2)
          go_roundw
          case rel => exact ⟨3, by omega, by go_num, by rw [HH.out], by rw [HD.out]; exact R9, by rw [F3.out]; exact X9, G9⟩
          case measure => simp [intOf]
        · have hzq : (d2 == 0) = false := by simp [hz]
          have HD2 : Hid (g 3 = intS s') := by rw [HD.out]; unfold othS; rw [if_neg hz]; rfl
          clear hz HD
          have HD := HD2
          clear HD2
          have c8 := X2.cell 4 _ rfl
          have f8 := X2.froz 4
          have xl := X2.lt
          go_wp2_with fail
          have X9 := X2.set 4 (.int .i64 d2) (by simp)
          simp only [List.set] at X9
          have R9 := R2.out.ch ((Ch.refl M _).set 4 (.int .i64 d2)) (by omega) (by omega)
          have G9 := G2.set (by omega) 4 (.int .i64 d2)
          go_roundw
          case rel => exact ⟨3, by omega, by go_num, by rw [HH.out], by rw [HD.out]; exact R9, by rw [F3.out]; exact X9, G9⟩
          case measure => simp [intOf]
      · have hb : bitB m 2 = false := by rw [HBt.out 2 rfl, decide_eq_false hc]
        have hcq : (c % 2 == 1) = false := by simp [hc]
        have HD : Hid (g 3 = difS m t 2) := by rw [HG6.out 3 (by omega)]; show stepS _ _ = _; rw [hb]; rfl
        have HZ : d2 = 0 := by have e := E2.out; unfold difA at e; rw [hb] at e; rw [← e]; rfl
        clear hc
        go_wp2_with fail
        go_roundw
        case rel => exact ⟨3, by omega, by go_num, by rw [HH.out], by rw [HD.out]; exact R0.out, by rw [F3.out, HZ]; exact X0, G0⟩
        case measure => simp [intOf]
    by_cases g3 : k = 3
    · subst g3
      rw [F3.out] at X0
      rw [HG6.out 3 (by omega)] at R0
      by_cases hc : c % 2 = 1
      · have hb : bitB m 3 = true := by rw [HBt.out 3 rfl, decide_eq_true hc]
        have hcq : (c % 2 == 1) = true := by simp [hc]
        obtain ⟨s', hs'⟩ : ∃ s', difS m t 3 = s' := ⟨_, rfl⟩
        rw [hs'] at R0
        have HD : Hid (g 4 = othS d3 (intS s')) := by
          rw [HG6.out 4 (by omega)]
          show stepS _ _ = _
          have e := E3.out
          unfold difA at e; rw [hb, hs'] at e; rw [hb, hs']
          rw [← e]; rfl
        have HZ : Hid (intA s' = d3) := by
          have e := E3.out
          unfold difA at e; rw [hb, hs'] at e; exact e
        skip
        clear hs' hc
        go_wp2_with fail
        refine (rint_any _ K R _ R0.out).mono ?_; rw [HZ.out]; rintro e w2 ⟨rfl, r2, g2⟩
        have X2 := X0.ch g2 (by omega)
        have G2 : Ch2 R M w w2 := G0.trans g2.two
        have R2 : Hid (Rdr w2 K R (intS s')) := r2
        clear r2 g2 X0 G0 R0
        skip
        by_cases hz : d3 = 0
        · have hzq : (d3 == 0) = true := by simp [hz]
          have HD2 : Hid (g 4 = failS (intS s') 7) := by rw [HD.out]; unfold othS; rw [if_pos hz]; rfl
          clear hz HD
          go_wp2_with fail
          refine (rfail_any _ K R _ 7 R2.out).mono ?_; rintro e w3 ⟨rfl, r3, g3⟩
          have X3 := X2.ch g3 (by omega)
          have G3 : Ch2 R M w w3 := G2.trans g3.two
          have R3 : Hid (Rdr w3 K R (failS (intS s') 7)) := r3
          clear r3 g3 X2 G2 R2
          have HD := HD2
          clear HD2
          have c8 := X3.cell 5 _ rfl
          have f8 := X3.froz 5
          have xl := X3.lt
          go_wp2_with fail
          have X9 := X3.set 5 (.int .i64 d3) (by simp)
          simp only [List.set] at X9
          have R9 := R3.out.ch ((Ch.refl M _).set 5 (.int .i64 d3)) (by omega) (by omega)
          have G9 := G3.set (by omega) 5 (.int .i64 d3)
          go_roundw
          case rel => exact ⟨4, by omega, by go_num, by rw [HH.out], by rw [HD.out]; exact R9, by rw [F4.out]; exact X9, G9⟩
          case measure => simp [intOf]
        · have hzq : (d3 == 0) = false := by simp [hz]
          have HD2 : Hid (g 4 = intS s') := by rw [HD.out]; unfold othS; rw [if_neg hz]; rfl
          clear hz HD
          have HD := HD2
          clear HD2
          have c8 := X2.cell 5 _ rfl
          have f8 := X2.froz 5
          have xl := X2.lt
          go_wp2_with fail
          have X9 := X2.set 5 (.int .i64 d3) (by simp)
          simp only [List.set] at X9
          have R9 := R2.out.ch ((Ch.refl M _).set 5 (.int .i64 d3)) (by omega) (by omega)
          have G9 := G2.set (by omega) 5 (.int .i64 d3)
          go_roundw
          case rel => exact ⟨4, by omega, by go_num, by rw [HH.out], by rw [HD.out]; exact R9, by rw [F4.out]; exact X9, G9⟩
          case measure => simp [intOf]
      · have hb : bitB m 3 = false := by rw [HBt.out 3 rfl, decide_eq_false hc]
        have hcq : (c % 2 == 1) = false := by simp [hc]
        have HD : Hid (g 4 = difS m t 3) := by rw [HG6.out 4 (by omega)]; show stepS _ _ = _; rw [hb]; rfl
        have HZ : d3 = 0 := by have e := E3.out; unfold difA at e; rw [hb] at e; rw [← e]; rfl
        clear hc
        go_wp2_with fail
        go_roundw
        case rel => exact ⟨4, by omega, by go_num, by rw [HH.out], by rw [HD.out]; exact R0.out, by rw [F4.out, HZ]; exact X0, G0⟩
        case measure => simp [intOf]
    by_cases g4 : k = 4
    · subst g4
      rw [F4.out] at X0
      rw [HG6.out 4 (by omega)] at R0
      by_cases hc : c % 2 = 1
      · have hb : bitB m 4 = true := by rw [HBt.out 4 rfl, decide_eq_true hc]
        have hcq : (c % 2 == 1) = true := by simp [hc]
        obtain ⟨s', hs'⟩ : ∃ s', difS m t 4 = s' := ⟨_, rfl⟩
        rw [hs'] at R0
        have HD : Hid (g 5 = othS d4 (intS s')) := by
          rw [HG6.out 5 (by omega)]
          show stepS _ _ = _
          have e := E4.out
          unfold difA at e; rw [hb, hs'] at e; rw [hb, hs']
          rw [← e]; rfl
        have HZ : Hid (intA s' = d4) := by
          have e := E4.out
          unfold difA at e; rw [hb, hs'] at e; exact e
        skip
        clear hs' hc
        go_wp2_with fail
        refine (rint_any _ K R _ R0.out).mono ?_; rw [HZ.out]; rintro e w2 ⟨rfl, r2, g2⟩
        have X2 := X0.ch g2 (by omega)
        have G2 : Ch2 R M w w2 := G0.trans g2.two
        have R2 : Hid (Rdr w2 K R (intS s')) := r2
        clear r2 g2 X0 G0 R0
        skip
        by_cases hz : d4 = 0
        · have hzq : (d4 == 0) = true := by simp [hz]
          have HD2 : Hid (g 5 = failS (intS s') 7) := by rw [HD.out]; unfold othS; rw [if_pos hz]; rfl
          clear hz HD
          go_wp2_with fail
          refine (rfail_any _ K R _ 7 R2.out).mono ?_; rintro e w3 ⟨rfl, r3, g3⟩
          have X3 := X2.ch g3 (by omega)
          have G3 : Ch2 R M w w3 := G2.trans g3.two
          have R3 : Hid (Rdr w3 K R (failS (intS s') 7)) := r3
          clear r3 g3 X2 G2 R2
          have HD := HD2
          clear HD2
          have c8 := X3.cell 6 _ rfl
          have f8 := X3.froz 6
          have xl := X3.lt
          go_wp2_with fail
          have X9 := X3.set 6 (.int .i64 d4) (by simp)
          simp only [List.set] at X9
          have R9 := R3.out.ch ((Ch.refl M _).set 6 (.int .i64 d4)) (by omega) (by omega)
          have G9 := G3.set (by omega) 6 (.int .i64 d4)
          go_roundw
          case rel => exact ⟨5, by omega, by go_num, by rw [HH.out], by rw [HD.out]; exact R9, by rw [F5.out]; exact X9, G9⟩
          case measure => simp [intOf]
        · have hzq : (d4 == 0) = false := by simp [hz]
          have HD2 : Hid (g 5 = intS s') := by rw [HD.out]; unfold othS; rw [if_neg hz]; rfl
          clear hz HD
          have HD := HD2
          clear HD2
          have c8 := X2.cell 6 _ rfl
          have f8 := X2.froz 6
          have xl := X2.lt
          go_wp2_with fail
          have X9 := X2.set 6 (.int .i64 d4) (by simp)
          simp only [List.set] at X9
          have R9 := R2.out.ch ((Ch.refl M _).set 6 (.int .i64 d4)) (by omega) (by omega)
          have G9 := G2.set (by omega) 6 (.int .i64 d4)
          go_roundw
          case rel => exact ⟨5, by omega, by go_num, by rw [HH.out], by rw [HD.out]; exact R9, by rw [F5.out]; exact X9, G9⟩
          case measure => simp [intOf]
      · have hb : bitB m 4 = false := by rw [HBt.out 4 rfl, decide_eq_false hc]
        have hcq : (c % 2 == 1) = false := by simp [hc]
        have HD : Hid (g 5 = difS m t 4) := by rw [HG6.out 5 (by omega)]; show stepS _ _ = _; rw [hb]; rfl
        have HZ : d4 = 0 := by have e := E4.out; unfold difA at e; rw [hb] at e; rw [← e]; rfl
        clear hc
        go_wp2_with fail
        go_roundw
        case rel => exact ⟨5, by omega, by go_num, by rw [HH.out], by rw [HD.out]; exact R0.out, by rw [F5.out, HZ]; exact X0, G0⟩
        case measure => simp [intOf]
    by_cases g5 : k = 5
    · subst g5
      rw [F5.out] at X0
      rw [HG6.out 5 (by omega)] at R0
      by_cases hc : c % 2 = 1
      · have hb : bitB m 5 = true := by rw [HBt.out 5 rfl, decide_eq_true hc]
        have hcq : (c % 2 == 1) = true := by simp [hc]
        obtain ⟨s', hs'⟩ : ∃ s', difS m t 5 = s' := ⟨_, rfl⟩
        rw [hs'] at R0
        have HD : Hid (g 6 = othS d5 (intS s')) := by
          rw [HG6.out 6 (by omega)]
          show stepS _ _ = _
          have e := E5.out
          unfold difA at e; rw [hb, hs'] at e; rw [hb, hs']
          rw [← e]; rfl
        have HZ : Hid (intA s' = d5) := by
          have e := E5.out
          unfold difA at e; rw [hb, hs'] at e; exact e
        skip
        clear hs' hc
        go_wp2_with fail
        refine (rint_any _ K R _ R0.out).mono ?_; rw [HZ.out]; rintro e w2 ⟨rfl, r2, g2⟩
        have X2 := X0.ch g2 (by omega)
        have G2 : Ch2 R M w w2 := G0.trans g2.two
        have R2 : Hid (Rdr w2 K R (intS s')) := r2
        clear r2 g2 X0 G0 R0
        skip
        by_cases hz : d5 = 0
        · have hzq : (d5 == 0) = true := by simp [hz]
          have HD2 : Hid (g 6 = failS (intS s') 7) := by rw [HD.out]; unfold othS; rw [if_pos hz]; rfl
          clear hz HD
          go_wp2_with fail
          refine (rfail_any _ K R _ 7 R2.out).mono ?_; rintro e w3 ⟨rfl, r3, g3⟩
          have X3 := X2.ch g3 (by omega)
          have G3 : Ch2 R M w w3 := G2.trans g3.two
          have R3 : Hid (Rdr w3 K R (failS (intS s') 7)) := r3
          clear r3 g3 X2 G2 R2
          have HD := HD2
          clear HD2
          have c8 := X3.cell 7 _ rfl
          have f8 := X3.froz 7
          have xl := X3.lt
          go_wp2_with fail
          have X9 := X3.set 7 (.int .i64 d5) (by simp)
          simp only [List.set] at X9
          have R9 := R3.out.ch ((Ch.refl M _).set 7 (.int .i64 d5)) (by omega) (by omega)
          have G9 := G3.set (by omega) 7 (.int .i64 d5)
          go_roundw
          case rel => exact ⟨6, by omega, by go_num, by rw [HH.out], by rw [HD.out]; exact R9, by rw [F6.out]; exact X9, G9⟩
          case measure => simp [intOf]
        · have hzq : (d5 == 0) = false := by simp [hz]
          have HD2 : Hid (g 6 = intS s') := by rw [HD.out]; unfold othS; rw [if_neg hz]; rfl
          clear hz HD
          have HD := HD2
          clear HD2
          have c8 := X2.cell 7 _ rfl
          have f8 := X2.froz 7
          have xl := X2.lt
          go_wp2_with fail
          have X9 := X2.set 7 (.int .i64 d5) (by simp)
          simp only [List.set] at X9
          have R9 := R2.out.ch ((Ch.refl M _).set 7 (.int .i64 d5)) (by omega) (by omega)
          have G9 := G2.set (by omega) 7 (.int .i64 d5)
          go_roundw
          case rel => exact ⟨6, by omega, by go_num, by rw [HH.out], by rw [HD.out]; exact R9, by rw [F6.out]; exact X9, G9⟩
          case measure => simp [intOf]
      · have hb : bitB m 5 = false := by rw [HBt.out 5 rfl, decide_eq_false hc]
        have hcq : (c % 2 == 1) = false := by simp [hc]
        have HD : Hid (g 6 = difS m t 5) := by rw [HG6.out 6 (by omega)]; show stepS _ _ = _; rw [hb]; rfl
        have HZ : d5 = 0 := by have e := E5.out; unfold difA at e; rw [hb] at e; rw [← e]; rfl
        clear hc
        go_wp2_with fail
        go_roundw
        case rel => exact ⟨6, by omega, by go_num, by rw [HH.out], by rw [HD.out]; exact R0.out, by rw [F6.out, HZ]; exact X0, G0⟩
        case measure => simp [intOf]
    by_cases g6 : k = 6
    · subst g6
      rw [F6.out] at X0
      rw [HG6.out 6 (by omega)] at R0
      by_cases hc : c % 2 = 1
      · have hb : bitB m 6 = true := by rw [HBt.out 6 rfl, decide_eq_true hc]
        have hcq : (c % 2 == 1) = true := by simp [hc]
        obtain ⟨s', hs'⟩ : ∃ s', difS m t 6 = s' := ⟨_, rfl⟩
        rw [hs'] at R0
        have HD : Hid (g 7 = othS d6 (uintS 65535 s')) := by
          rw [HG7.out]
          show angS _ _ = _
          have e := E6.out
          rw [hb, hs'] at e ⊢
          rw [← e]; rfl
        have HZ : Hid (uintA 65535 s' = d6) := by
          have e := E6.out
          rw [hb, hs'] at e; exact e
        have dbd := uintA_max (m := 65535) (by omega) s'; have dbm := (uintA_bd 65535 s').1; rw [HZ.out] at dbd dbm
        clear hs' hc
        go_wp2_with fail
        refine (ruint_any _ K R _ 65535 R0.out).mono ?_; rw [HZ.out]; rintro e w2 ⟨rfl, r2, g2⟩
        have X2 := X0.ch g2 (by omega)
        have G2 : Ch2 R M w w2 := G0.trans g2.two
        have R2 : Hid (Rdr w2 K R (uintS 65535 s')) := r2
        clear r2 g2 X0 G0 R0
        have w16 : IntKind.u16.wrap d6 = d6 := by rw [IntKind.wrap_u16]; omega
        by_cases hz : d6 = 0
        · have hzq : (d6 == 0) = true := by simp [hz]
          have HD2 : Hid (g 7 = failS (uintS 65535 s') 7) := by rw [HD.out]; unfold othS; rw [if_pos hz]; rfl
          clear hz HD
          go_wp2_with fail
          refine (rfail_any _ K R _ 7 R2.out).mono ?_; rintro e w3 ⟨rfl, r3, g3⟩
          have X3 := X2.ch g3 (by omega)
          have G3 : Ch2 R M w w3 := G2.trans g3.two
          have R3 : Hid (Rdr w3 K R (failS (uintS 65535 s') 7)) := r3
          clear r3 g3 X2 G2 R2
          have HD := HD2
          clear HD2
          have c8 := X3.cell 8 _ rfl
          have f8 := X3.froz 8
          have xl := X3.lt
          go_wp2_with fail
          have X9 := X3.set 8 (.int .u16 d6) (by simp)
          simp only [List.set] at X9
          have R9 := R3.out.ch ((Ch.refl M _).set 8 (.int .u16 d6)) (by omega) (by omega)
          have G9 := G3.set (by omega) 8 (.int .u16 d6)
          go_roundw
          case rel => exact ⟨7, by omega, by go_num, by rw [HH.out], by rw [HD.out]; exact R9, by rw [F7.out]; exact X9, G9⟩
          case measure => simp [intOf]
        · have hzq : (d6 == 0) = false := by simp [hz]
          have HD2 : Hid (g 7 = uintS 65535 s') := by rw [HD.out]; unfold othS; rw [if_neg hz]; rfl
          clear hz HD
          have HD := HD2
          clear HD2
          have c8 := X2.cell 8 _ rfl
          have f8 := X2.froz 8
          have xl := X2.lt
          go_wp2_with fail
          have X9 := X2.set 8 (.int .u16 d6) (by simp)
          simp only [List.set] at X9
          have R9 := R2.out.ch ((Ch.refl M _).set 8 (.int .u16 d6)) (by omega) (by omega)
          have G9 := G2.set (by omega) 8 (.int .u16 d6)
          go_roundw
          case rel => exact ⟨7, by omega, by go_num, by rw [HH.out], by rw [HD.out]; exact R9, by rw [F7.out]; exact X9, G9⟩
          case measure => simp [intOf]
      · have hb : bitB m 6 = false := by rw [HBt.out 6 rfl, decide_eq_false hc]
        have hcq : (c % 2 == 1) = false := by simp [hc]
        have HD : Hid (g 7 = difS m t 6) := by rw [HG7.out]; show angS _ _ = _; rw [hb]; rfl
        have HZ : d6 = 0 := by have e := E6.out; rw [hb] at e; rw [← e]; rfl
        clear hc
        go_wp2_with fail
        go_roundw
        case rel => exact ⟨7, by omega, by go_num, by rw [HH.out], by rw [HD.out]; exact R0.out, by rw [F7.out, HZ]; exact X0, G0⟩
        case measure => simp [intOf]
    · obtain rfl : k = 7 := by omega
      rw [F7.out] at X0
      rw [HG7.out] at R0
      go_wp2_with fail
      go_end0
      exact ⟨rfl, by rw [US.out]; exact R0.out, by rw [ET.out]; exact X0, G0⟩
end Go.Proofs.YtlpdhglibgnkoaaGreat
