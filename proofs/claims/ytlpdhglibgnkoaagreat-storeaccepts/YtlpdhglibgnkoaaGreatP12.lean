/-
  Texts Rec14 in one.
-/
import Derived.Test.YtlpdhglibgnkoaaGreatP11
namespace Go.Proofs.YtlpdhglibgnkoaaGreat
open Go.RowKit
set_option linter.unusedVariables false

theorem bit_shift (m : Int) (k : Nat) : bitB (m / 8) k = bitB m (k + 3) := by
  unfold bitB
  have e : m / 8 / 2 ^ k = m / 2 ^ (k + 3) := by
    have h : (2 : Int) ^ (k + 3) = 8 * 2 ^ k := by rw [Int.pow_add]; omega
    rw [h, Int.ediv_ediv_of_nonneg (by omega)]
  rw [e]
theorem dif_shift (m : Int) (s : St) : ∀ k, difS (m / 8) (difS m s 3) k = difS m s (k + 3)
  | 0 => rfl
  | k + 1 => by
    show stepS _ _ = stepS _ (difS m s (k + 3))
    rw [dif_shift m s k, bit_shift]
theorem difA_shift (m : Int) (s : St) (k : Nat) : difA (m / 8) (difS m s 3) k = difA m s (k + 3) := by
  unfold difA
  rw [dif_shift, bit_shift]
theorem uintA_max {m : Int} (hm : 0 ≤ m) (s : St) : uintA m s ≤ m := by
  unfold uintA
  split
  · split
    · rename_i h1 h2
      unfold uintE at h2
      split at h2
      · omega
      · split at h2
        · split at h2
          · omega
          · omega
        · omega
    · exact hm
  · exact hm
theorem byteA_bd {s : St} (h : Bytes s.l) : 0 ≤ byteA s ∧ byteA s ≤ 255 := by
  unfold byteA
  split
  · exact h.at 0
  · omega
theorem rec_readNothing (w : World) (R M : Nat) : Calls Tryz.prog 132 #[.pointer (some ⟨R, 0, none⟩), .pointer (some ⟨M, 0, none⟩)] w fun e w' => e = .returned (.tuple #[]) ∧ w' = w := by
  go_enter Tryz.func132, Tryz.ntmps132
  go_wp2_with fail
  go_end0
  exact ⟨rfl, rfl⟩
/-- A vector is stored into a record. -/
theorem Blk.three {w : World} {b o : Nat} {cs : List Value} (h : Blk w b cs) (x0 x1 x2 : Value) (ho : o + 2 < cs.length) :
    Blk (((w.setCell ⟨b, o, none⟩ x0).setCell ⟨b, o + 1, none⟩ x1).setCell ⟨b, o + 2, none⟩ x2) b (((cs.set o x0).set (o + 1) x1).set (o + 2) x2) :=
  ((h.set o x0 (by omega)).set (o + 1) x1 (by rw [List.length_set]; omega)).set (o + 2) x2 (by rw [List.length_set, List.length_set]; omega)
set_option maxRecDepth 8000 in
set_option maxHeartbeats 2000000 in
theorem rec_readWhole (w : World) (K R M : Nat) (s : St) (r : Rc) (h : Rdr w K R s) (hX : Blk w M (recC r)) (hM : R < M) : Calls Tryz.prog 126 #[.pointer (some ⟨R, 0, none⟩), .pointer (some ⟨M, 0, none⟩)] w fun e w' =>
    e = .returned (.tuple #[]) ∧ Rdr w' K R (whoS s) ∧ Blk w' M (recC (whoT s r)) ∧ Ch2 R M w w' := by
  have HR : Hid (Rdr w K R s) := h
  have hK := h.hK
  clear h
  obtain ⟨rk, ri, rp0, rp1, rp2, rv0, rv1, rv2, ra⟩ := r
  have X0 := hX
  clear hX
  have AB := uintA_bd 65535 (vecS (vecS s))
  have A16 : uintA 65535 (vecS (vecS s)) ≤ 65535 := uintA_max (by omega) _
  obtain ⟨x0, e0⟩ : ∃ x, intA s = x := ⟨_, rfl⟩
  obtain ⟨x1, e1⟩ : ∃ x, intA (intS s) = x := ⟨_, rfl⟩
  obtain ⟨x2, e2⟩ : ∃ x, intA (intS (intS s)) = x := ⟨_, rfl⟩
  obtain ⟨x3, e3⟩ : ∃ x, intA (vecS s) = x := ⟨_, rfl⟩
  obtain ⟨x4, e4⟩ : ∃ x, intA (intS (vecS s)) = x := ⟨_, rfl⟩
  obtain ⟨x5, e5⟩ : ∃ x, intA (intS (intS (vecS s))) = x := ⟨_, rfl⟩
  obtain ⟨x6, e6⟩ : ∃ x, uintA 65535 (vecS (vecS s)) = x := ⟨_, rfl⟩
  have EW : Hid (whoT s ⟨rk, ri, rp0, rp1, rp2, rv0, rv1, rv2, ra⟩ = ⟨rk, ri, x0, x1, x2, x3, x4, x5, x6⟩) := (by unfold whoT; rw [e0, e1, e2, e3, e4, e5, e6] : whoT s ⟨rk, ri, rp0, rp1, rp2, rv0, rv1, rv2, ra⟩ = ⟨rk, ri, x0, x1, x2, x3, x4, x5, x6⟩)
  have E012 : Hid (intA s = x0 ∧ intA (intS s) = x1 ∧ intA (intS (intS s)) = x2) := ⟨e0, e1, e2⟩
  have E345 : Hid (intA (vecS s) = x3 ∧ intA (intS (vecS s)) = x4 ∧ intA (intS (intS (vecS s))) = x5) := ⟨e3, e4, e5⟩
  have E6 : Hid (uintA 65535 (vecS (vecS s)) = x6) := e6
  rw [e6] at AB A16
  rw [EW.out]
  clear e0 e1 e2 e3 e4 e5 e6 EW
  go_enter Tryz.func126, Tryz.ntmps126
  go_wp2_with fail
  refine (vec_any _ K R _ HR.out).mono ?_; rw [E012.out.1, E012.out.2.1, E012.out.2.2]; rintro e w1 ⟨rfl, r1, g1⟩
  have X1 := X0.ch g1 (by omega)
  have G1 : Ch2 R M w w1 := g1.two
  clear X0 g1 HR E012
  have c2 := X1.cell 2 _ rfl
  have c3 := X1.cell 3 _ rfl
  have c4 := X1.cell 4 _ rfl
  have f2 := X1.froz 2
  have f3 := X1.froz 3
  have f4 := X1.froz 4
  have xl := X1.lt
  have R1 : Hid (Rdr w1 K R (vecS s)) := r1
  clear r1
  go_wp2_with fail
  have X2 := X1.three (o := 2) (.int .i64 x0) (.int .i64 x1) (.int .i64 x2) (by simp)
  simp only [List.set] at X2
  have G2 := ((G1.set (by omega) 2 (.int .i64 x0)).set (by omega) 3 (.int .i64 x1)).set (by omega) 4 (.int .i64 x2)
  have R2 : Hid (Rdr (((w1.setCell ⟨M, 2, none⟩ (.int .i64 x0)).setCell ⟨M, 3, none⟩ (.int .i64 x1)).setCell ⟨M, 4, none⟩ (.int .i64 x2)) K R (vecS s)) := R1.out.ch ((((Ch.refl M _).set 2 _).set 3 _).set 4 _) (by omega) (by omega)
  generalize ((w1.setCell ⟨M, 2, none⟩ (.int .i64 x0)).setCell ⟨M, 3, none⟩ (.int .i64 x1)).setCell ⟨M, 4, none⟩ (.int .i64 x2) = w2 at X2 G2 R2 ⊢
  clear c2 c3 c4 f2 f3 f4 xl X1 G1 R1
  refine (vec_any _ K R _ R2.out).mono ?_; rw [E345.out.1, E345.out.2.1, E345.out.2.2]; rintro e w3 ⟨rfl, r3, g3⟩
  have X3 := X2.ch g3 (by omega)
  have G3 : Ch2 R M w w3 := G2.trans g3.two
  clear X2 g3 G2 R2 E345
  have c5 := X3.cell 5 _ rfl
  have c6 := X3.cell 6 _ rfl
  have c7 := X3.cell 7 _ rfl
  have f5 := X3.froz 5
  have f6 := X3.froz 6
  have f7 := X3.froz 7
  have xl := X3.lt
  have R3 : Hid (Rdr w3 K R (vecS (vecS s))) := r3
  clear r3
  go_wp2_with fail
  have X4 := X3.three (o := 5) (.int .i64 x3) (.int .i64 x4) (.int .i64 x5) (by simp)
  simp only [List.set] at X4
  have G4 := ((G3.set (by omega) 5 (.int .i64 x3)).set (by omega) 6 (.int .i64 x4)).set (by omega) 7 (.int .i64 x5)
  have R4 : Hid (Rdr (((w3.setCell ⟨M, 5, none⟩ (.int .i64 x3)).setCell ⟨M, 6, none⟩ (.int .i64 x4)).setCell ⟨M, 7, none⟩ (.int .i64 x5)) K R (vecS (vecS s))) := R3.out.ch ((((Ch.refl M _).set 5 _).set 6 _).set 7 _) (by omega) (by omega)
  generalize ((w3.setCell ⟨M, 5, none⟩ (.int .i64 x3)).setCell ⟨M, 6, none⟩ (.int .i64 x4)).setCell ⟨M, 7, none⟩ (.int .i64 x5) = w4 at X4 G4 R4 ⊢
  clear c5 c6 c7 f5 f6 f7 xl X3 G3 R3
  refine (uint_any _ K R _ 65535 R4.out).mono ?_; rw [E6.out]; rintro e w5 ⟨rfl, r5, g5⟩
  have X5 := X4.ch g5 (by omega)
  have G5 : Ch2 R M w w5 := G4.trans g5.two
  have R5 : Hid (Rdr w5 K R (uintS 65535 (vecS (vecS s)))) := r5
  clear X4 g5 G4 R4 E6 r5
  have c8 := X5.cell 8 _ rfl
  have f8 := X5.froz 8
  have xl := X5.lt
  have w6 : IntKind.u16.wrap x6 = x6 := by rw [IntKind.wrap_u16]; omega
  go_wp2_with fail
  go_end0
  have X6 := X5.set 8 (.int .u16 x6) (by simp)
  simp only [List.set] at X6
  exact ⟨rfl, R5.out.ch ((Ch.refl M _).set 8 _) (by omega) (by omega), X6, G5.set (by omega) 8 _⟩
set_option maxRecDepth 8000 in
set_option maxHeartbeats 2000000 in
theorem rec_readUpdate (w : World) (K R M : Nat) (s : St) (r : Rc) (h : Rdr w K R s) (hX : Blk w M (recC r)) (hM : R < M) (hr : r.a = 0) : Calls Tryz.prog 129 #[.pointer (some ⟨R, 0, none⟩), .pointer (some ⟨M, 0, none⟩)] w fun e w' =>
    e = .returned (.tuple #[]) ∧ Rdr w' K R (updS s) ∧ Blk w' M (recC (updT s r)) ∧ Ch2 R M w w' := by
  have HR : Hid (Rdr w K R s) := h
  have hK := h.hK
  have mb := byteA_bd h.bytes
  clear h
  obtain ⟨rk, ri, rp0, rp1, rp2, rv0, rv1, rv2, ra⟩ := r
  simp only at hr
  subst hr
  have X0 := hX
  clear hX
  obtain ⟨m, hm⟩ : ∃ m, byteA s = m := ⟨_, rfl⟩
  obtain ⟨t, ht⟩ : ∃ t, mskS s = t := ⟨_, rfl⟩
  have HM : Hid (byteA s = m) := hm
  have HT : Hid (t = if badM m then failS (byteS s) 7 else byteS s) := (by rw [← ht, ← hm]; rfl : t = if badM m then failS (byteS s) 7 else byteS s)
  obtain ⟨x0, e0⟩ : ∃ x, difA m t 0 = x := ⟨_, rfl⟩
  obtain ⟨x1, e1⟩ : ∃ x, difA m t 1 = x := ⟨_, rfl⟩
  obtain ⟨x2, e2⟩ : ∃ x, difA m t 2 = x := ⟨_, rfl⟩
  obtain ⟨x3, e3⟩ : ∃ x, difA m t 3 = x := ⟨_, rfl⟩
  obtain ⟨x4, e4⟩ : ∃ x, difA m t 4 = x := ⟨_, rfl⟩
  obtain ⟨x5, e5⟩ : ∃ x, difA m t 5 = x := ⟨_, rfl⟩
  obtain ⟨z, hz⟩ : ∃ z, difS m t 6 = z := ⟨_, rfl⟩
  have EW : Hid (updT s ⟨rk, ri, rp0, rp1, rp2, rv0, rv1, rv2, 0⟩ = ⟨rk, ri, x0, x1, x2, x3, x4, x5, angA (bitB m 6) z⟩) := (by unfold updT; rw [hm, ht, hz, e0, e1, e2, e3, e4, e5] : updT s ⟨rk, ri, rp0, rp1, rp2, rv0, rv1, rv2, 0⟩ = ⟨rk, ri, x0, x1, x2, x3, x4, x5, angA (bitB m 6) z⟩)
  have ES : Hid (updS s = angS (bitB m 6) z) := (by unfold updS; rw [hm, ht, hz] : updS s = angS (bitB m 6) z)
  have E012 : Hid (difA m t 0 = x0 ∧ difA m t 1 = x1 ∧ difA m t 2 = x2) := ⟨e0, e1, e2⟩
  have E345 : Hid (difA (m / 8) (difS m t 3) 0 = x3 ∧ difA (m / 8) (difS m t 3) 1 = x4 ∧ difA (m / 8) (difS m t 3) 2 = x5) := ⟨by rw [difA_shift]; exact e3, by rw [difA_shift]; exact e4, by rw [difA_shift]; exact e5⟩
  have EZ : Hid (difS (m / 8) (difS m t 3) 3 = z) := (by rw [dif_shift]; exact hz : difS (m / 8) (difS m t 3) 3 = z)
  rw [EW.out, ES.out]
  rw [hm] at mb
  clear hm ht hz e0 e1 e2 e3 e4 e5 EW ES
  obtain ⟨m0, m1⟩ := mb
  have P6 : Hid (bits .and .u8 m (2 ^ 6) = if bitB m 6 then 2 ^ 6 else 0) := and_pow (by omega) m0 m1
  have AB := uintA_bd 65535 z
  have A16 : uintA 65535 z ≤ 65535 := uintA_max (by omega) _
  go_enter Tryz.func129, Tryz.ntmps129
  go_wp2_with fail
  refine (byte_any _ K R _ HR.out).mono ?_; rw [HM.out]; rintro e w1 ⟨rfl, r1, g1⟩
  have X1 := X0.ch g1 (by omega)
  have G1 : Ch2 R M w w1 := g1.two
  have R1 : Hid (Rdr w1 K R (byteS s)) := r1
  clear X0 g1 r1 HR HM
  by_cases b0 : m = 0
  · have ET : t = failS (byteS s) 7 := by rw [HT.out, if_pos (by unfold badM; simp [b0])]
    clear HT
    have b0q : (m == 0) = true := by simp [b0]
    clear b0
    go_wp2_with fail
    refine (fail_any _ K R _ 7 R1.out).mono ?_; rw [← ET]; rintro e w2 ⟨rfl, r2, g2⟩
    have X2 := X1.ch g2 (by omega)
    have G2 : Ch2 R M w w2 := G1.trans g2.two
    have R2 : Hid (Rdr w2 K R t) := r2
    clear r2 g2 X1 G1 R1 ET
    go_wp2_with fail
    refine (rec_diffs _ K R t m m0 m1 R2.out).mono ?_; rw [E012.out.1, E012.out.2.1, E012.out.2.2]; rintro e w3 ⟨rfl, r3, g3⟩
    have X3 := X2.ch g3 (by omega)
    have G3 : Ch2 R M w w3 := G2.trans g3.two
    have R3 : Hid (Rdr w3 K R (difS m t 3)) := r3
    clear r3 g3 X2 G2 R2
    have c2 := X3.cell 2 _ rfl
    have c3 := X3.cell 3 _ rfl
    have c4 := X3.cell 4 _ rfl
    have f2 := X3.froz 2
    have f3 := X3.froz 3
    have f4 := X3.froz 4
    have xl := X3.lt
    go_wp2_with fail
    have X4 := X3.three (o := 2) (.int .i64 x0) (.int .i64 x1) (.int .i64 x2) (by simp)
    simp only [List.set] at X4
    have G4 := ((G3.set (by omega) 2 (.int .i64 x0)).set (by omega) 3 (.int .i64 x1)).set (by omega) 4 (.int .i64 x2)
    have R4 : Hid (Rdr (((w3.setCell ⟨M, 2, none⟩ (.int .i64 x0)).setCell ⟨M, 3, none⟩ (.int .i64 x1)).setCell ⟨M, 4, none⟩ (.int .i64 x2)) K R (difS m t 3)) := R3.out.ch ((((Ch.refl M _).set 2 _).set 3 _).set 4 _) (by omega) (by omega)
    generalize ((w3.setCell ⟨M, 2, none⟩ (.int .i64 x0)).setCell ⟨M, 3, none⟩ (.int .i64 x1)).setCell ⟨M, 4, none⟩ (.int .i64 x2) = w4 at X4 G4 R4 ⊢
    clear c2 c3 c4 f2 f3 f4 xl X3 G3 R3
    refine (rec_diffs _ K R (difS m t 3) (m / 8) (by omega) (by omega) R4.out).mono ?_; rw [E345.out.1, E345.out.2.1, E345.out.2.2, EZ.out]; rintro e w5 ⟨rfl, r5, g5⟩
    have X5 := X4.ch g5 (by omega)
    have G5 : Ch2 R M w w5 := G4.trans g5.two
    have R5 : Hid (Rdr w5 K R z) := r5
    clear r5 g5 X4 G4 R4
    have c5 := X5.cell 5 _ rfl
    have c6 := X5.cell 6 _ rfl
    have c7 := X5.cell 7 _ rfl
    have f5 := X5.froz 5
    have f6 := X5.froz 6
    have f7 := X5.froz 7
    have xl := X5.lt
    have X6 := X5.three (o := 5) (.int .i64 x3) (.int .i64 x4) (.int .i64 x5) (by simp)
    simp only [List.set] at X6
    have G6 := ((G5.set (by omega) 5 (.int .i64 x3)).set (by omega) 6 (.int .i64 x4)).set (by omega) 7 (.int .i64 x5)
    have R6 : Hid (Rdr (((w5.setCell ⟨M, 5, none⟩ (.int .i64 x3)).setCell ⟨M, 6, none⟩ (.int .i64 x4)).setCell ⟨M, 7, none⟩ (.int .i64 x5)) K R z) := R5.out.ch ((((Ch.refl M _).set 5 _).set 6 _).set 7 _) (by omega) (by omega)
    cases hb : bitB m 6
    · have P : bits .and .u8 m 64 = 0 := by have h := P6.out; rw [hb] at h; simpa using h
      go_wp2_with fail
      go_end0
      exact ⟨rfl, by rw [hb]; exact R6.out, by rw [hb]; exact X6, G6⟩
    · have P : bits .and .u8 m 64 = 64 := by have h := P6.out; rw [hb] at h; simpa using h
      go_wp2_with fail
      generalize ((w5.setCell ⟨M, 5, none⟩ (.int .i64 x3)).setCell ⟨M, 6, none⟩ (.int .i64 x4)).setCell ⟨M, 7, none⟩ (.int .i64 x5) = w6 at X6 G6 R6 ⊢
      clear c5 c6 c7 f5 f6 f7 xl X5 G5 R5
      obtain ⟨x6, h6⟩ : ∃ x, uintA 65535 z = x := ⟨_, rfl⟩
      have E6 : Hid (uintA 65535 z = x6) := h6
      rw [h6] at AB A16
      have EA : Hid (angA true z = x6 ∧ angS true z = othS x6 (uintS 65535 z)) := ⟨h6, by rw [← h6]; rfl⟩
      clear h6
      refine (uint_any _ K R _ 65535 R6.out).mono ?_; rw [E6.out]; rintro e w7 ⟨rfl, r7, g7⟩
      have X7 := X6.ch g7 (by omega)
      have G7 : Ch2 R M w w7 := G6.trans g7.two
      have R7 : Hid (Rdr w7 K R (uintS 65535 z)) := r7
      clear r7 g7 X6 G6 R6
      go_wp2_with fail
      refine (rec_otherU _ K R _ x6 R7.out).mono ?_; rintro e w8 ⟨rfl, r8, g8⟩
      have X8 := X7.ch g8 (by omega)
      have G8 : Ch2 R M w w8 := G7.trans g8.two
      have R8 : Hid (Rdr w8 K R (othS x6 (uintS 65535 z))) := r8
      clear r8 g8 X7 G7 R7
      have c8 := X8.cell 8 _ rfl
      have f8 := X8.froz 8
      have xl := X8.lt
      have w6' : IntKind.u16.wrap x6 = x6 := by rw [IntKind.wrap_u16]; omega
      go_wp2_with fail
      go_end0
      have X9 := X8.set 8 (.int .u16 x6) (by simp)
      simp only [List.set] at X9
      exact ⟨rfl, by rw [hb, EA.out.2]; exact R8.out.ch ((Ch.refl M _).set 8 _) (by omega) (by omega), by rw [hb, EA.out.1]; exact X9, G8.set (by omega) 8 _⟩
  have b0q : (m == 0) = false := by simp [b0]
  by_cases b1 : 127 < m
  · have ET : t = failS (byteS s) 7 := by rw [HT.out, if_pos (by unfold badM; simp [b1])]
    clear HT
    go_wp2_with fail
    refine (fail_any _ K R _ 7 R1.out).mono ?_; rw [← ET]; rintro e w2 ⟨rfl, r2, g2⟩
    have X2 := X1.ch g2 (by omega)
    have G2 : Ch2 R M w w2 := G1.trans g2.two
    have R2 : Hid (Rdr w2 K R t) := r2
    clear r2 g2 X1 G1 R1 ET
    go_wp2_with fail
    refine (rec_diffs _ K R t m m0 m1 R2.out).mono ?_; rw [E012.out.1, E012.out.2.1, E012.out.2.2]; rintro e w3 ⟨rfl, r3, g3⟩
    have X3 := X2.ch g3 (by omega)
    have G3 : Ch2 R M w w3 := G2.trans g3.two
    have R3 : Hid (Rdr w3 K R (difS m t 3)) := r3
    clear r3 g3 X2 G2 R2
    have c2 := X3.cell 2 _ rfl
    have c3 := X3.cell 3 _ rfl
    have c4 := X3.cell 4 _ rfl
    have f2 := X3.froz 2
    have f3 := X3.froz 3
    have f4 := X3.froz 4
    have xl := X3.lt
    go_wp2_with fail
    have X4 := X3.three (o := 2) (.int .i64 x0) (.int .i64 x1) (.int .i64 x2) (by simp)
    simp only [List.set] at X4
    have G4 := ((G3.set (by omega) 2 (.int .i64 x0)).set (by omega) 3 (.int .i64 x1)).set (by omega) 4 (.int .i64 x2)
    have R4 : Hid (Rdr (((w3.setCell ⟨M, 2, none⟩ (.int .i64 x0)).setCell ⟨M, 3, none⟩ (.int .i64 x1)).setCell ⟨M, 4, none⟩ (.int .i64 x2)) K R (difS m t 3)) := R3.out.ch ((((Ch.refl M _).set 2 _).set 3 _).set 4 _) (by omega) (by omega)
    generalize ((w3.setCell ⟨M, 2, none⟩ (.int .i64 x0)).setCell ⟨M, 3, none⟩ (.int .i64 x1)).setCell ⟨M, 4, none⟩ (.int .i64 x2) = w4 at X4 G4 R4 ⊢
    clear c2 c3 c4 f2 f3 f4 xl X3 G3 R3
    refine (rec_diffs _ K R (difS m t 3) (m / 8) (by omega) (by omega) R4.out).mono ?_; rw [E345.out.1, E345.out.2.1, E345.out.2.2, EZ.out]; rintro e w5 ⟨rfl, r5, g5⟩
    have X5 := X4.ch g5 (by omega)
    have G5 : Ch2 R M w w5 := G4.trans g5.two
    have R5 : Hid (Rdr w5 K R z) := r5
    clear r5 g5 X4 G4 R4
    have c5 := X5.cell 5 _ rfl
    have c6 := X5.cell 6 _ rfl
    have c7 := X5.cell 7 _ rfl
    have f5 := X5.froz 5
    have f6 := X5.froz 6
    have f7 := X5.froz 7
    have xl := X5.lt
    have X6 := X5.three (o := 5) (.int .i64 x3) (.int .i64 x4) (.int .i64 x5) (by simp)
    simp only [List.set] at X6
    have G6 := ((G5.set (by omega) 5 (.int .i64 x3)).set (by omega) 6 (.int .i64 x4)).set (by omega) 7 (.int .i64 x5)
    have R6 : Hid (Rdr (((w5.setCell ⟨M, 5, none⟩ (.int .i64 x3)).setCell ⟨M, 6, none⟩ (.int .i64 x4)).setCell ⟨M, 7, none⟩ (.int .i64 x5)) K R z) := R5.out.ch ((((Ch.refl M _).set 5 _).set 6 _).set 7 _) (by omega) (by omega)
    cases hb : bitB m 6
    · have P : bits .and .u8 m 64 = 0 := by have h := P6.out; rw [hb] at h; simpa using h
      go_wp2_with fail
      go_end0
      exact ⟨rfl, by rw [hb]; exact R6.out, by rw [hb]; exact X6, G6⟩
    · have P : bits .and .u8 m 64 = 64 := by have h := P6.out; rw [hb] at h; simpa using h
      go_wp2_with fail
      generalize ((w5.setCell ⟨M, 5, none⟩ (.int .i64 x3)).setCell ⟨M, 6, none⟩ (.int .i64 x4)).setCell ⟨M, 7, none⟩ (.int .i64 x5) = w6 at X6 G6 R6 ⊢
      clear c5 c6 c7 f5 f6 f7 xl X5 G5 R5
      obtain ⟨x6, h6⟩ : ∃ x, uintA 65535 z = x := ⟨_, rfl⟩
      have E6 : Hid (uintA 65535 z = x6) := h6
      rw [h6] at AB A16
      have EA : Hid (angA true z = x6 ∧ angS true z = othS x6 (uintS 65535 z)) := ⟨h6, by rw [← h6]; rfl⟩
      clear h6
      refine (uint_any _ K R _ 65535 R6.out).mono ?_; rw [E6.out]; rintro e w7 ⟨rfl, r7, g7⟩
      have X7 := X6.ch g7 (by omega)
      have G7 : Ch2 R M w w7 := G6.trans g7.two
      have R7 : Hid (Rdr w7 K R (uintS 65535 z)) := r7
      clear r7 g7 X6 G6 R6
      go_wp2_with fail
      refine (rec_otherU _ K R _ x6 R7.out).mono ?_; rintro e w8 ⟨rfl, r8, g8⟩
      have X8 := X7.ch g8 (by omega)
      have G8 : Ch2 R M w w8 := G7.trans g8.two
      have R8 : Hid (Rdr w8 K R (othS x6 (uintS 65535 z))) := r8
      clear r8 g8 X7 G7 R7
      have c8 := X8.cell 8 _ rfl
      have f8 := X8.froz 8
      have xl := X8.lt
      have w6' : IntKind.u16.wrap x6 = x6 := by rw [IntKind.wrap_u16]; omega
      go_wp2_with fail
      go_end0
      have X9 := X8.set 8 (.int .u16 x6) (by simp)
      simp only [List.set] at X9
      exact ⟨rfl, by rw [hb, EA.out.2]; exact R8.out.ch ((Ch.refl M _).set 8 _) (by omega) (by omega), by rw [hb, EA.out.1]; exact X9, G8.set (by omega) 8 _⟩
  · have ET : t = byteS s := by rw [HT.out, if_neg (by unfold badM; simp; omega)]
    rw [← ET] at R1
    clear HT ET
    have X2 := X1
    have G2 := G1
    have R2 : Hid (Rdr w1 K R t) := R1
    clear X1 G1 R1
    go_wp2_with fail
    refine (rec_diffs _ K R t m m0 m1 R2.out).mono ?_; rw [E012.out.1, E012.out.2.1, E012.out.2.2]; rintro e w3 ⟨rfl, r3, g3⟩
    have X3 := X2.ch g3 (by omega)
    have G3 : Ch2 R M w w3 := G2.trans g3.two
    have R3 : Hid (Rdr w3 K R (difS m t 3)) := r3
    clear r3 g3 X2 G2 R2
    have c2 := X3.cell 2 _ rfl
    have c3 := X3.cell 3 _ rfl
    have c4 := X3.cell 4 _ rfl
    have f2 := X3.froz 2
    have f3 := X3.froz 3
    have f4 := X3.froz 4
    have xl := X3.lt
    go_wp2_with fail
    have X4 := X3.three (o := 2) (.int .i64 x0) (.int .i64 x1) (.int .i64 x2) (by simp)
    simp only [List.set] at X4
    have G4 := ((G3.set (by omega) 2 (.int .i64 x0)).set (by omega) 3 (.int .i64 x1)).set (by omega) 4 (.int .i64 x2)
    have R4 : Hid (Rdr (((w3.setCell ⟨M, 2, none⟩ (.int .i64 x0)).setCell ⟨M, 3, none⟩ (.int .i64 x1)).setCell ⟨M, 4, none⟩ (.int .i64 x2)) K R (difS m t 3)) := R3.out.ch ((((Ch.refl M _).set 2 _).set 3 _).set 4 _) (by omega) (by omega)
    generalize ((w3.setCell ⟨M, 2, none⟩ (.int .i64 x0)).setCell ⟨M, 3, none⟩ (.int .i64 x1)).setCell ⟨M, 4, none⟩ (.int .i64 x2) = w4 at X4 G4 R4 ⊢
    clear c2 c3 c4 f2 f3 f4 xl X3 G3 R3
    refine (rec_diffs _ K R (difS m t 3) (m / 8) (by omega) (by omega) R4.out).mono ?_; rw [E345.out.1, E345.out.2.1, E345.out.2.2, EZ.out]; rintro e w5 ⟨rfl, r5, g5⟩
    have X5 := X4.ch g5 (by omega)
    have G5 : Ch2 R M w w5 := G4.trans g5.two
    have R5 : Hid (Rdr w5 K R z) := r5
    clear r5 g5 X4 G4 R4
    have c5 := X5.cell 5 _ rfl
    have c6 := X5.cell 6 _ rfl
    have c7 := X5.cell 7 _ rfl
    have f5 := X5.froz 5
    have f6 := X5.froz 6
    have f7 := X5.froz 7
    have xl := X5.lt
    have X6 := X5.three (o := 5) (.int .i64 x3) (.int .i64 x4) (.int .i64 x5) (by simp)
    simp only [List.set] at X6
    have G6 := ((G5.set (by omega) 5 (.int .i64 x3)).set (by omega) 6 (.int .i64 x4)).set (by omega) 7 (.int .i64 x5)
    have R6 : Hid (Rdr (((w5.setCell ⟨M, 5, none⟩ (.int .i64 x3)).setCell ⟨M, 6, none⟩ (.int .i64 x4)).setCell ⟨M, 7, none⟩ (.int .i64 x5)) K R z) := R5.out.ch ((((Ch.refl M _).set 5 _).set 6 _).set 7 _) (by omega) (by omega)
    cases hb : bitB m 6
    · have P : bits .and .u8 m 64 = 0 := by have h := P6.out; rw [hb] at h; simpa using h
      go_wp2_with fail
      go_end0
      exact ⟨rfl, by rw [hb]; exact R6.out, by rw [hb]; exact X6, G6⟩
    · have P : bits .and .u8 m 64 = 64 := by have h := P6.out; rw [hb] at h; simpa using h
      go_wp2_with fail
      generalize ((w5.setCell ⟨M, 5, none⟩ (.int .i64 x3)).setCell ⟨M, 6, none⟩ (.int .i64 x4)).setCell ⟨M, 7, none⟩ (.int .i64 x5) = w6 at X6 G6 R6 ⊢
      clear c5 c6 c7 f5 f6 f7 xl X5 G5 R5
      obtain ⟨x6, h6⟩ : ∃ x, uintA 65535 z = x := ⟨_, rfl⟩
      have E6 : Hid (uintA 65535 z = x6) := h6
      rw [h6] at AB A16
      have EA : Hid (angA true z = x6 ∧ angS true z = othS x6 (uintS 65535 z)) := ⟨h6, by rw [← h6]; rfl⟩
      clear h6
      refine (uint_any _ K R _ 65535 R6.out).mono ?_; rw [E6.out]; rintro e w7 ⟨rfl, r7, g7⟩
      have X7 := X6.ch g7 (by omega)
      have G7 : Ch2 R M w w7 := G6.trans g7.two
      have R7 : Hid (Rdr w7 K R (uintS 65535 z)) := r7
      clear r7 g7 X6 G6 R6
      go_wp2_with fail
      refine (rec_otherU _ K R _ x6 R7.out).mono ?_; rintro e w8 ⟨rfl, r8, g8⟩
      have X8 := X7.ch g8 (by omega)
      have G8 : Ch2 R M w w8 := G7.trans g8.two
      have R8 : Hid (Rdr w8 K R (othS x6 (uintS 65535 z))) := r8
      clear r8 g8 X7 G7 R7
      have c8 := X8.cell 8 _ rfl
      have f8 := X8.froz 8
      have xl := X8.lt
      have w6' : IntKind.u16.wrap x6 = x6 := by rw [IntKind.wrap_u16]; omega
      go_wp2_with fail
      go_end0
      have X9 := X8.set 8 (.int .u16 x6) (by simp)
      simp only [List.set] at X9
      exact ⟨rfl, by rw [hb, EA.out.2]; exact R8.out.ch ((Ch.refl M _).set 8 _) (by omega) (by omega), by rw [hb, EA.out.1]; exact X9, G8.set (by omega) 8 _⟩
end Go.Proofs.YtlpdhglibgnkoaaGreat
