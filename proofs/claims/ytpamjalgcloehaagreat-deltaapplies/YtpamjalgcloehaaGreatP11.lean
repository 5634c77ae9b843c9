/-
  Texts Rec14, Rec15, Rec16, Rec17, Rec18, Rec19 in one.
-/
import Derived.Test.YtpamjalgcloehaaGreatP10
namespace Go.Proofs.YtpamjalgcloehaaGreat
open Go.RowKit
set_option linter.unusedVariables false

theorem bit_shift (m : Int) (k : Nat) : bitB (m / 8) k = bitB m (k + 3) := by
  unfold bitB
  have e : m / 8 / 2 ^ k = m / 2 ^ (k + 3) := by
    have h : (2 : Int) ^ (k + 3) = 8 * 2 ^ k := by rw [Int.pow_add]; omega
    rw [h, Int.ediv_ediv_of_nonneg (by omega)]
  rw [e]
theorem dif_shift (m : Int) (s : St) : ∀ k, difS (m / 8) (difS m s 3) k = difS m s (k + 3)
  | 0 => rfl
  | k + 1 => by
    show stepS _ _ = stepS _ (difS m s (k + 3))
    rw [dif_shift m s k, bit_shift]
theorem difA_shift (m : Int) (s : St) (k : Nat) : difA (m / 8) (difS m s 3) k = difA m s (k + 3) := by
  unfold difA
  rw [dif_shift, bit_shift]
theorem uintA_max {m : Int} (hm : 0 ≤ m) (s : St) : uintA m s ≤ m := by
  unfold uintA
  split
  · split
    · rename_i h1 h2
      unfold uintE at h2
      split at h2
      · omega
      · split at h2
        · split at h2
          · omega
          · omega
        · omega
    · exact hm
  · exact hm
theorem byteA_bd {s : St} (h : Bytes s.l) : 0 ≤ byteA s ∧ byteA s ≤ 255 := by
  unfold byteA
  split
  · exact h.at 0
  · omega
theorem rec_readNothing (w : World) (R M : Nat) : Calls Tryz.prog 89 #[.pointer (some ⟨R, 0, none⟩), .pointer (some ⟨M, 0, none⟩)] w fun e w' => e = .returned (.tuple #[]) ∧ w' = w := by
  go_enter Tryz.func89, Tryz.ntmps89
  go_wp2_with fail
  go_end0
  exact ⟨rfl, rfl⟩
/-- A vector is stored into a record. -/
theorem Blk.three {w : World} {b o : Nat} {cs : List Value} (h : Blk w b cs) (x0 x1 x2 : Value) (ho : o + 2 < cs.length) :
    Blk (((w.setCell ⟨b, o, none⟩ x0).setCell ⟨b, o + 1, none⟩ x1).setCell ⟨b, o + 2, none⟩ x2) b (((cs.set o x0).set (o + 1) x1).set (o + 2) x2) :=
  ((h.set o x0 (by omega)).set (o + 1) x1 (by rw [List.length_set]; omega)).set (o + 2) x2 (by rw [List.length_set, List.length_set]; omega)
set_option maxRecDepth 8000 in
set_option maxHeartbeats 2000000 in
theorem rec_readWhole (w : World) (K R M : Nat) (s : St) (r : Rc) (h : Rdr w K R s) (hX : Blk w M (recC r)) (hM : R < M) : Calls Tryz.prog 83 #[.pointer (some ⟨R, 0, none⟩), .pointer (some ⟨M, 0, none⟩)] w fun e w' =>
    e = .returned (.tuple #[]) ∧ Rdr w' K R (whoS s) ∧ Blk w' M (recC (whoT s r)) ∧ Ch2 R M w w' := by
  have HR : Hid (Rdr w K R s) := h
  have hK := h.hK
  clear h
  obtain ⟨rk, ri, rp0, rp1, rp2, rv0, rv1, rv2, ra⟩ := r
  have X0 := hX
  clear hX
  have AB := uintA_bd 65535 (vecS (vecS s))
  have A16 : uintA 65535 (vecS (vecS s)) ≤ 65535 := uintA_max (by omega) _
  obtain ⟨x0, e0⟩ : ∃ x, intA s = x := ⟨_, rfl⟩
  obtain ⟨x1, e1⟩ : ∃ x, intA (intS s) = x := ⟨_, rfl⟩
  obtain ⟨x2, e2⟩ : ∃ x, intA (intS (intS s)) = x := ⟨_, rfl⟩
  obtain ⟨x3, e3⟩ : ∃ x, intA (vecS s) = x := ⟨_, rfl⟩
  obtain ⟨x4, e4⟩ : ∃ x, intA (intS (vecS s)) = x := ⟨_, rfl⟩
  obtain ⟨x5, e5⟩ : ∃ x, intA (intS (intS (vecS s))) = x := ⟨_, rfl⟩
  obtain ⟨x6, e6⟩ : ∃ x, uintA 65535 (vecS (vecS s)) = x := ⟨_, rfl⟩
  have EW : Hid (whoT s ⟨rk, ri, rp0, rp1, rp2, rv0, rv1, rv2, ra⟩ = ⟨rk, ri, x0, x1, x2, x3, x4, x5, x6⟩) := (by unfold whoT; rw [e0, e1, e2, e3, e4, e5, e6] : whoT s ⟨rk, ri, rp0, rp1, rp2, rv0, rv1, rv2, ra⟩ = ⟨rk, ri, x0, x1, x2, x3, x4, x5, x6⟩)
  have E012 : Hid (intA s = x0 ∧ intA (intS s) = x1 ∧ intA (intS (intS s)) = x2) := ⟨e0, e1, e2⟩
  have E345 : Hid (intA (vecS s) = x3 ∧ intA (intS (vecS s)) = x4 ∧ intA (intS (intS (vecS s))) = x5) := ⟨e3, e4, e5⟩
  have E6 : Hid (uintA 65535 (vecS (vecS s)) = x6) := e6
  rw [e6] at AB A16
  rw [EW.out]
  clear e0 e1 e2 e3 e4 e5 e6 EW
  go_enter Tryz.func83, Tryz.ntmps83
  go_wp2_with fail
  refine (vec_any _ K R _ HR.out).mono ?_; rw [E012.out.1, E012.out.2.1, E012.out.2.2]; rintro e w1 ⟨rfl, r1, g1⟩
  have X1 := X0.ch g1 (by omega)
  have G1 : Ch2 R M w w1 := g1.two
  clear X0 g1 HR E012
  have c2 := X1.cell 2 _ rfl
  have c3 := X1.cell 3 _ rfl
  have c4 := X1.cell 4 _ rfl
  have f2 := X1.froz 2
  have f3 := X1.froz 3
  have f4 := X1.froz 4
  have xl := X1.lt
  have R1 : Hid (Rdr w1 K R (vecS s)) := r1
  clear r1
  go_wp2_with fail
  have X2 := X1.three (o := 2) (.int .i64 x0) (.int .i64 x1) (.int .i64 x2) (by simp)
  simp only [List.set] at X2
  have G2 := ((G1.set (by omega) 2 (.int .i64 x0)).set (by omega) 3 (.int .i64 x1)).set (by omega) 4 (.int .i64 x2)
  have R2 : Hid (Rdr (((w1.setCell ⟨M, 2, none⟩ (.int .i64 x0)).setCell ⟨M, 3, none⟩ (.int .i64 x1)).setCell ⟨M, 4, none⟩ (.int .i64 x2)) K R (vecS s)) := R1.out.ch ((((Ch.refl M _).set 2 _).set 3 _).set 4 _) (by omega) (by omega)
  generalize ((w1.setCell ⟨M, 2, none⟩ (.int .i64 x0)).setCell ⟨M, 3, none⟩ (.int .i64 x1)).setCell ⟨M, 4, none⟩ (.int .i64 x2) = w2 at X2 G2 R2 ⊢
  clear c2 c3 c4 f2 f3 f4 xl X1 G1 R1
  refine (vec_any _ K R _ R2.out).mono ?_; rw [E345.out.1, E345.out.2.1, E345.out.2.2]; rintro e w3 ⟨rfl, r3, g3⟩
  have X3 := X2.ch g3 (by omega)
  have G3 : Ch2 R M w w3 := G2.trans g3.two
  clear X2 g3 G2 R2 E345
  have c5 := X3.cell 5 _ rfl
  have c6 := X3.cell 6 _ rfl
  have c7 := X3.cell 7 _ rfl
  have f5 := X3.froz 5
  have f6 := X3.froz 6
  have f7 := X3.froz 7
  have xl := X3.lt
  have R3 : Hid (Rdr w3 K R (vecS (vecS s))) := r3
  clear r3
  go_wp2_with fail
  have X4 := X3.three (o := 5) (.int .i64 x3) (.int .i64 x4) (.int .i64 x5) (by simp)
  simp only [List.set] at X4
  have G4 := ((G3.set (by omega) 5 (.int .i64 x3)).set (by omega) 6 (.int .i64 x4)).set (by omega) 7 (.int .i64 x5)
  have R4 : Hid (Rdr (((w3.setCell ⟨M, 5, none⟩ (.int .i64 x3)).setCell ⟨M, 6, none⟩ (.int .i64 x4)).setCell ⟨M, 7, none⟩ (.int .i64 x5)) K R (vecS (vecS s))) := R3.out.ch ((((Ch.refl M _).set 5 _).set 6 _).set 7 _) (by omega) (by omega)
  generalize ((w3.setCell ⟨M, 5, none⟩ (.int .i64 x3)).setCell ⟨M, 6, none⟩ (.int .i64 x4)).setCell ⟨M, 7, none⟩ (.int .i64 x5) = w4 at X4 G4 R4 ⊢
  clear c5 c6 c7 f5 f6 f7 xl X3 G3 R3
  refine (uint_any _ K R _ 65535 R4.out).mono ?_; rw [E6.out]; rintro e w5 ⟨rfl, r5, g5⟩
  have X5 := X4.ch g5 (by omega)
  have G5 : Ch2 R M w w5 := G4.trans g5.two
  have R5 : Hid (Rdr w5 K R (uintS 65535 (vecS (vecS s)))) := r5
  clear X4 g5 G4 R4 E6 r5
  have c8 := X5.cell 8 _ rfl
  have f8 := X5.froz 8
  have xl := X5.lt
  have w6 : IntKind.u16.wrap x6 = x6 := by rw [IntKind.wrap_u16]; omega
  go_wp2_with fail
  go_end0
  have X6 := X5.set 8 (.int .u16 x6) (by simp)
  simp only [List.set] at X6
  exact ⟨rfl, R5.out.ch ((Ch.refl M _).set 8 _) (by omega) (by omega), X6, G5.set (by omega) 8 _⟩
set_option maxRecDepth 8000 in
set_option maxHeartbeats 2000000 in
theorem rec_readUpdate (w : World) (K R M : Nat) (s : St) (r : Rc) (h : Rdr w K R s) (hX : Blk w M (recC r)) (hM : R < M) (hr : r.a = 0) : Calls Tryz.prog 86 #[.pointer (some ⟨R, 0, none⟩), .pointer (some ⟨M, 0, none⟩)] w fun e w' =>
    e = .returned (.tuple #[]) ∧ Rdr w' K R (updS s) ∧ Blk w' M (recC (updT s r)) ∧ Ch2 R M w w' := by
  have HR : Hid (Rdr w K R s) := h
  have hK := h.hK
  have mb := byteA_bd h.bytes
  clear h
  obtain ⟨rk, ri, rp0, rp1, rp2, rv0, rv1, rv2, ra⟩ := r
  simp only at hr
  subst hr
  have X0 := hX
  clear hX
  obtain ⟨m, hm⟩ : ∃ m, byteA s = m := ⟨_, rfl⟩
  obtain ⟨t, ht⟩ : ∃ t, mskS s = t := ⟨_, rfl⟩
  have HM : Hid (byteA s = m) := hm
  have HT : Hid (t = if badM m then failS (byteS s) 7 else byteS s) := (by rw [← ht, ← hm]; rfl : t = if badM m then failS (byteS s) 7 else byteS s)
  obtain ⟨x0, e0⟩ : ∃ x, difA m t 0 = x := ⟨_, rfl⟩
  obtain ⟨x1, e1⟩ : ∃ x, difA m t 1 = x := ⟨_, rfl⟩
  obtain ⟨x2, e2⟩ : ∃ x, difA m t 2 = x := ⟨_, rfl⟩
  obtain ⟨x3, e3⟩ : ∃ x, difA m t 3 = x := ⟨_, rfl⟩
  obtain ⟨x4, e4⟩ : ∃ x, difA m t 4 = x := ⟨_, rfl⟩
  obtain ⟨x5, e5⟩ : ∃ x, difA m t 5 = x := ⟨_, rfl⟩
  obtain ⟨z, hz⟩ : ∃ z, difS m t 6 = z := ⟨_, rfl⟩
  have EW : Hid (updT s ⟨rk, ri, rp0, rp1, rp2, rv0, rv1, rv2, 0⟩ = ⟨rk, ri, x0, x1, x2, x3, x4, x5, angA (bitB m 6) z⟩) := (by unfold updT; rw [hm, ht, hz, e0, e1, e2, e3, e4, e5] : updT s ⟨rk, ri, rp0, rp1, rp2, rv0, rv1, rv2, 0⟩ = ⟨rk, ri, x0, x1, x2, x3, x4, x5, angA (bitB m 6) z⟩)
  have ES : Hid (updS s = angS (bitB m 6) z) := (by unfold updS; rw [hm, ht, hz] : updS s = angS (bitB m 6) z)
  have E012 : Hid (difA m t 0 = x0 ∧ difA m t 1 = x1 ∧ difA m t 2 = x2) := ⟨e0, e1, e2⟩
  have E345 : Hid (difA (m / 8) (difS m t 3) 0 = x3 ∧ difA (m / 8) (difS m t 3) 1 = x4 ∧ difA (m / 8) (difS m t 3) 2 = x5) := ⟨by rw [difA_shift]; exact e3, by rw [difA_shift]; exact e4, by rw [difA_shift]; exact e5⟩
  have EZ : Hid (difS (m / 8) (difS m t 3) 3 = z) := (by rw [dif_shift]; exact hz : difS (m / 8) (difS m t 3) 3 = z)
  rw [EW.out, ES.out]
  rw [hm] at mb
  clear hm ht hz e0 e1 e2 e3 e4 e5 EW ES
  obtain ⟨m0, m1⟩ := mb
  have P6 : Hid (bits .and .u8 m (2 ^ 6) = if bitB m 6 then 2 ^ 6 else 0) := and_pow (by omega) m0 m1
  have AB := uintA_bd 65535 z
  have A16 : uintA 65535 z ≤ 65535 := uintA_max (by omega) _
  go_enter Tryz.func86, Tryz.ntmps86
  go_wp2_with fail
  refine (byte_any _ K R _ HR.out).mono ?_; rw [HM.out]; rintro e w1 ⟨rfl, r1, g1⟩
  have X1 := X0.ch g1 (by omega)
  have G1 : Ch2 R M w w1 := g1.two
  have R1 : Hid (Rdr w1 K R (byteS s)) := r1
  clear X0 g1 r1 HR HM
  by_cases b0 : m = 0
  · have ET : t = failS (byteS s) 7 := by rw [HT.out, if_pos (by unfold badM; simp [b0])]
    clear HT
    have b0q : (m == 0) = true := by simp [b0]
    clear b0
    go_wp2_with fail
    refine (fail_any _ K R _ 7 R1.out).mono ?_; rw [← ET]; rintro e w2 ⟨rfl, r2, g2⟩
    have X2 := X1.ch g2 (by omega)
    have G2 : Ch2 R M w w2 := G1.trans g2.two
    have R2 : Hid (Rdr w2 K R t) := r2
    clear r2 g2 X1 G1 R1 ET
    go_wp2_with fail
    refine (rec_diffs _ K R t m m0 m1 R2.out).mono ?_; rw [E012.out.1, E012.out.2.1, E012.out.2.2]; rintro e w3 ⟨rfl, r3, g3⟩
    have X3 := X2.ch g3 (by omega)
    have G3 : Ch2 R M w w3 := G2.trans g3.two
    have R3 : Hid (Rdr w3 K R (difS m t 3)) := r3
    clear r3 g3 X2 G2 R2
    have c2 := X3.cell 2 _ rfl
    have c3 := X3.cell 3 _ rfl
    have c4 := X3.cell 4 _ rfl
    have f2 := X3.froz 2
    have f3 := X3.froz 3
    have f4 := X3.froz 4
    have xl := X3.lt
    go_wp2_with fail
    have X4 := X3.three (o := 2) (.int .i64 x0) (.int .i64 x1) (.int .i64 x2) (by simp)
    simp only [List.set] at X4
    have G4 := ((G3.set (by omega) 2 (.int .i64 x0)).set (by omega) 3 (.int .i64 x1)).set (by omega) 4 (.int .i64 x2)
    have R4 : Hid (Rdr (((w3.setCell ⟨M, 2, none⟩ (.int .i64 x0)).setCell ⟨M, 3, none⟩ (.int .i64 x1)).setCell ⟨M, 4, none⟩ (.int .i64 x2)) K R (difS m t 3)) := R3.out.ch ((((Ch.refl M _).set 2 _).set 3 _).set 4 _) (by omega) (by omega)
    generalize ((w3.setCell ⟨M, 2, none⟩ (.int .i64 x0)).setCell ⟨M, 3, none⟩ (.int .i64 x1)).setCell ⟨M, 4, none⟩ (.int .i64 x2) = w4 at X4 G4 R4 ⊢
    clear c2 c3 c4 f2 f3 f4 xl X3 G3 R3
    refine (rec_diffs _ K R (difS m t 3) (m / 8) (by omega) (by omega) R4.out).mono ?_; rw [E345.out.1, E345.out.2.1, E345.out.2.2, EZ.out]; rintro e w5 ⟨rfl, r5, g5⟩
    have X5 := X4.ch g5 (by omega)
    have G5 : Ch2 R M w w5 := G4.trans g5.two
    have R5 : Hid (Rdr w5 K R z) := r5
    clear r5 g5 X4 G4 R4
    have c5 := X5.cell 5 _ rfl
    have c6 := X5.cell 6 _ rfl
    have c7 := X5.cell 7 _ rfl
    have f5 := X5.froz 5
    have f6 := X5.froz 6
    have f7 := X5.froz 7
    have xl := X5.lt
    have X6 := X5.three (o := 5) (.int .i64 x3) (.int .i64 x4) (.int .i64 x5) (by simp)
    simp only [List.set] at X6
    have G6 := ((G5.set (by omega) 5 (.int .i64 x3)).set (by omega) 6 (.int .i64 x4)).set (by omega) 7 (.int .i64 x5)
    have R6 : Hid (Rdr (((w5.setCell ⟨M, 5, none⟩ (.int .i64 x3)).setCell ⟨M, 6, none⟩ (.int .i64 x4)).setCell ⟨M, 7, none⟩ (.int .i64 x5)) K R z) := R5.out.ch ((((Ch.refl M _).set 5 _).set 6 _).set 7 _) (by omega) (by omega)
    cases hb : bitB m 6
    · have P : bits .and .u8 m 64 = 0 := by have h := P6.out; rw [hb] at h; simpa using h
      go_wp2_with fail
      go_end0
      exact ⟨rfl, by rw [hb]; exact R6.out, by rw [hb]; exact X6, G6⟩
    · have P : bits .and .u8 m 64 = 64 := by have h := P6.out; rw [hb] at h; simpa using h
      go_wp2_with fail
      generalize ((w5.setCell ⟨M, 5, none⟩ (.int .i64 x3)).setCell ⟨M, 6, none⟩ (.int .i64 x4)).setCell ⟨M, 7, none⟩ (.int .i64 x5) = w6 at X6 G6 R6 ⊢
      clear c5 c6 c7 f5 f6 f7 xl X5 G5 R5
      obtain ⟨x6, h6⟩ : ∃ x, uintA 65535 z = x := ⟨_, rfl⟩
      have E6 : Hid (uintA 65535 z = x6) := h6
      rw [h6] at AB A16
      have EA : Hid (angA true z = x6 ∧ angS true z = othS x6 (uintS 65535 z)) := ⟨h6, by rw [← h6]; rfl⟩
      clear h6
      refine (uint_any _ K R _ 65535 R6.out).mono ?_; rw [E6.out]; rintro e w7 ⟨rfl, r7, g7⟩
      have X7 := X6.ch g7 (by omega)
      have G7 : Ch2 R M w w7 := G6.trans g7.two
      have R7 : Hid (Rdr w7 K R (uintS 65535 z)) := r7
      clear r7 g7 X6 G6 R6
      go_wp2_with fail
      refine (rec_otherU _ K R _ x6 R7.out).mono ?_; rintro e w8 ⟨rfl, r8, g8⟩
      have X8 := X7.ch g8 (by omega)
      have G8 : Ch2 R M w w8 := G7.trans g8.two
      have R8 : Hid (Rdr w8 K R (othS x6 (uintS 65535 z))) := r8
      clear r8 g8 X7 G7 R7
      have c8 := X8.cell 8 _ rfl
      have f8 := X8.froz 8
      have xl := X8.lt
      have w6' : IntKind.u16.wrap x6 = x6 := by rw [IntKind.wrap_u16]; omega
      go_wp2_with fail
      go_end0
      have X9 := X8.set 8 (.int .u16 x6) (by simp)
      simp only [List.set] at X9
      exact ⟨rfl, by rw [hb, EA.out.2]; exact R8.out.ch ((Ch.refl M _).set 8 _) (by omega) (by omega), by rw [hb, EA.out.1]; exact X9, G8.set (by omega) 8 _⟩
  have b0q : (m == 0) = false := by simp [b0]
  by_cases b1 : 127 < m
  · have ET : t = failS (byteS s) 7 := by rw [HT.out, if_pos (by unfold badM; simp [b1])]
    clear HT
    go_wp2_with fail
    refine (fail_any _ K R _ 7 R1.out).mono ?_; rw [← ET]; rintro e w2 ⟨rfl, r2, g2⟩
    have X2 := X1.ch g2 (by omega)
    have G2 : Ch2 R M w w2 := G1.trans g2.two
    have R2 : Hid (Rdr w2 K R t) := r2
    clear r2 g2 X1 G1 R1 ET
    go_wp2_with fail
    refine (rec_diffs _ K R t m m0 m1 R2.out).mono ?_; rw [E012.out.1, E012.out.2.1, E012.out.2.2]; rintro e w3 ⟨rfl, r3, g3⟩
    have X3 := X2.ch g3 (by omega)
    have G3 : Ch2 R M w w3 := G2.trans g3.two
    have R3 : Hid (Rdr w3 K R (difS m t 3)) := r3
    clear r3 g3 X2 G2 R2
    have c2 := X3.cell 2 _ rfl
    have c3 := X3.cell 3 _ rfl
    have c4 := X3.cell 4 _ rfl
    have f2 := X3.froz 2
    have f3 := X3.froz 3
    have f4 := X3.froz 4
    have xl := X3.lt
    go_wp2_with fail
    have X4 := X3.three (o := 2) (.int .i64 x0) (.int .i64 x1) (.int .i64 x2) (by simp)
    simp only [List.set] at X4
    have G4 := ((G3.set (by omega) 2 (.int .i64 x0)).set (by omega) 3 (.int .i64 x1)).set (by omega) 4 (.int .i64 x2)
    have R4 : Hid (Rdr (((w3.setCell ⟨M, 2, none⟩ (.int .i64 x0)).setCell ⟨M, 3, none⟩ (.int .i64 x1)).setCell ⟨M, 4, none⟩ (.int .i64 x2)) K R (difS m t 3)) := R3.out.ch ((((Ch.refl M _).set 2 _).set 3 _).set 4 _) (by omega) (by omega)
    generalize ((w3.setCell ⟨M, 2, none⟩ (.int .i64 x0)).setCell ⟨M, 3, none⟩ (.int .i64 x1)).setCell ⟨M, 4, none⟩ (.int .i64 x2) = w4 at X4 G4 R4 ⊢
    clear c2 c3 c4 f2 f3 f4 xl X3 G3 R3
    refine (rec_diffs _ K R (difS m t 3) (m / 8) (by omega) (by omega) R4.out).mono ?_; rw [E345.out.1, E345.out.2.1, E345.out.2.2, EZ.out]; rintro e w5 ⟨rfl, r5, g5⟩
    have X5 := X4.ch g5 (by omega)
    have G5 : Ch2 R M w w5 := G4.trans g5.two
    have R5 : Hid (Rdr w5 K R z) := r5
    clear r5 g5 X4 G4 R4
    have c5 := X5.cell 5 _ rfl
    have c6 := X5.cell 6 _ rfl
    have c7 := X5.cell 7 _ rfl
    have f5 := X5.froz 5
    have f6 := X5.froz 6
    have f7 := X5.froz 7
    have xl := X5.lt
    have X6 := X5.three (o := 5) (.int .i64 x3) (.int .i64 x4) (.int .i64 x5) (by simp)
    simp only [List.set] at X6
    have G6 := ((G5.set (by omega) 5 (.int .i64 x3)).set (by omega) 6 (.int .i64 x4)).set (by omega) 7 (.int .i64 x5)
    have R6 : Hid (Rdr (((w5.setCell ⟨M, 5, none⟩ (.int .i64 x3)).setCell ⟨M, 6, none⟩ (.int .i64 x4)).setCell ⟨M, 7, none⟩ (.int .i64 x5)) K R z) := R5.out.ch ((((Ch.refl M _).set 5 _).set 6 _).set 7 _) (by omega) (by omega)
    cases hb : bitB m 6
    · have P : bits .and .u8 m 64 = 0 := by have h := P6.out; rw [hb] at h; simpa using h
      go_wp2_with fail
      go_end0
      exact ⟨rfl, by rw [hb]; exact R6.out, by rw [hb]; exact X6, G6⟩
    · have P : bits .and .u8 m 64 = 64 := by have h := P6.out; rw [hb] at h; simpa using h
      go_wp2_with fail
      generalize ((w5.setCell ⟨M, 5, none⟩ (.int .i64 x3)).setCell ⟨M, 6, none⟩ (.int .i64 x4)).setCell ⟨M, 7, none⟩ (.int .i64 x5) = w6 at X6 G6 R6 ⊢
      clear c5 c6 c7 f5 f6 f7 xl X5 G5 R5
      obtain ⟨x6, h6⟩ : ∃ x, uintA 65535 z = x := ⟨_, rfl⟩
      have E6 : Hid (uintA 65535 z = x6) := h6
      rw [h6] at AB A16
      have EA : Hid (angA true z = x6 ∧ angS true z = othS x6 (uintS 65535 z)) := ⟨h6, by rw [← h6]; rfl⟩
      clear h6
      refine (uint_any _ K R _ 65535 R6.out).mono ?_; rw [E6.out]; rintro e w7 ⟨rfl, r7, g7⟩
      have X7 := X6.ch g7 (by omega)
      have G7 : Ch2 R M w w7 := G6.trans g7.two
      have R7 : Hid (Rdr w7 K R (uintS 65535 z)) := r7
      clear r7 g7 X6 G6 R6
      go_wp2_with fail
      refine (rec_otherU _ K R _ x6 R7.out).mono ?_; rintro e w8 ⟨rfl, r8, g8⟩
      have X8 := X7.ch g8 (by omega)
      have G8 : Ch2 R M w w8 := G7.trans g8.two
      have R8 : Hid (Rdr w8 K R (othS x6 (uintS 65535 z))) := r8
      clear r8 g8 X7 G7 R7
      have c8 := X8.cell 8 _ rfl
      have f8 := X8.froz 8
      have xl := X8.lt
      have w6' : IntKind.u16.wrap x6 = x6 := by rw [IntKind.wrap_u16]; omega
      go_wp2_with fail
      go_end0
      have X9 := X8.set 8 (.int .u16 x6) (by simp)
      simp only [List.set] at X9
      exact ⟨rfl, by rw [hb, EA.out.2]; exact R8.out.ch ((Ch.refl M _).set 8 _) (by omega) (by omega), by rw [hb, EA.out.1]; exact X9, G8.set (by omega) 8 _⟩
  · have ET : t = byteS s := by rw [HT.out, if_neg (by unfold badM; simp; omega)]
    rw [← ET] at R1
    clear HT ET
    have X2 := X1
    have G2 := G1
    have R2 : Hid (Rdr w1 K R t) := R1
    clear X1 G1 R1
    go_wp2_with fail
    refine (rec_diffs _ K R t m m0 m1 R2.out).mono ?_; rw [E012.out.1, E012.out.2.1, E012.out.2.2]; rintro e w3 ⟨rfl, r3, g3⟩
    have X3 := X2.ch g3 (by omega)
    have G3 : Ch2 R M w w3 := G2.trans g3.two
    have R3 : Hid (Rdr w3 K R (difS m t 3)) := r3
    clear r3 g3 X2 G2 R2
    have c2 := X3.cell 2 _ rfl
    have c3 := X3.cell 3 _ rfl
    have c4 := X3.cell 4 _ rfl
    have f2 := X3.froz 2
    have f3 := X3.froz 3
    have f4 := X3.froz 4
    have xl := X3.lt
    go_wp2_with fail
    have X4 := X3.three (o := 2) (.int .i64 x0) (.int .i64 x1) (.int .i64 x2) (by simp)
    simp only [List.set] at X4
    have G4 := ((G3.set (by omega) 2 (.int .i64 x0)).set (by omega) 3 (.int .i64 x1)).set (by omega) 4 (.int .i64 x2)
    have R4 : Hid (Rdr (((w3.setCell ⟨M, 2, none⟩ (.int .i64 x0)).setCell ⟨M, 3, none⟩ (.int .i64 x1)).setCell ⟨M, 4, none⟩ (.int .i64 x2)) K R (difS m t 3)) := R3.out.ch ((((Ch.refl M _).set 2 _).set 3 _).set 4 _) (by omega) (by omega)
    generalize ((w3.setCell ⟨M, 2, none⟩ (.int .i64 x0)).setCell ⟨M, 3, none⟩ (.int .i64 x1)).setCell ⟨M, 4, none⟩ (.int .i64 x2) = w4 at X4 G4 R4 ⊢
    clear c2 c3 c4 f2 f3 f4 xl X3 G3 R3
    refine (rec_diffs _ K R (difS m t 3) (m / 8) (by omega) (by omega) R4.out).mono ?_; rw [E345.out.1, E345.out.2.1, E345.out.2.2, EZ.out]; rintro e w5 ⟨rfl, r5, g5⟩
    have X5 := X4.ch g5 (by omega)
    have G5 : Ch2 R M w w5 := G4.trans g5.two
    have R5 : Hid (Rdr w5 K R z) := r5
    clear r5 g5 X4 G4 R4
    have c5 := X5.cell 5 _ rfl
    have c6 := X5.cell 6 _ rfl
    have c7 := X5.cell 7 _ rfl
    have f5 := X5.froz 5
    have f6 := X5.froz 6
    have f7 := X5.froz 7
    have xl := X5.lt
    have X6 := X5.three (o := 5) (.int .i64 x3) (.int .i64 x4) (.int .i64 x5) (by simp)
    simp only [List.set] at X6
    have G6 := ((G5.set (by omega) 5 (.int .i64 x3)).set (by omega) 6 (.int .i64 x4)).set (by omega) 7 (.int .i64 x5)
    have R6 : Hid (Rdr (((w5.setCell ⟨M, 5, none⟩ (.int .i64 x3)).setCell ⟨M, 6, none⟩ (.int .i64 x4)).setCell ⟨M, 7, none⟩ (.int .i64 x5)) K R z) := R5.out.ch ((((Ch.refl M _).set 5 _).set 6 _).set 7 _) (by omega) (by omega)
    cases hb : bitB m 6
    · have P : bits .and .u8 m 64 = 0 := by have h := P6.out; rw [hb] at h; simpa using h
      go_wp2_with fail
      go_end0
      exact ⟨rfl, by rw [hb]; exact R6.out, by rw [hb]; exact X6, G6⟩
    · have P : bits .and .u8 m 64 = 64 := by have h := P6.out; rw [hb] at h; simpa using h
      go_wp2_with fail
      generalize ((w5.setCell ⟨M, 5, none⟩ (.int .i64 x3)).setCell ⟨M, 6, none⟩ (.int .i64 x4)).setCell ⟨M, 7, none⟩ (.int .i64 x5) = w6 at X6 G6 R6 ⊢
      clear c5 c6 c7 f5 f6 f7 xl X5 G5 R5
      obtain ⟨x6, h6⟩ : ∃ x, uintA 65535 z = x := ⟨_, rfl⟩
      have E6 : Hid (uintA 65535 z = x6) := h6
      rw [h6] at AB A16
      have EA : Hid (angA true z = x6 ∧ angS true z = othS x6 (uintS 65535 z)) := ⟨h6, by rw [← h6]; rfl⟩
      clear h6
      refine (uint_any _ K R _ 65535 R6.out).mono ?_; rw [E6.out]; rintro e w7 ⟨rfl, r7, g7⟩
      have X7 := X6.ch g7 (by omega)
      have G7 : Ch2 R M w w7 := G6.trans g7.two
      have R7 : Hid (Rdr w7 K R (uintS 65535 z)) := r7
      clear r7 g7 X6 G6 R6
      go_wp2_with fail
      refine (rec_otherU _ K R _ x6 R7.out).mono ?_; rintro e w8 ⟨rfl, r8, g8⟩
      have X8 := X7.ch g8 (by omega)
      have G8 : Ch2 R M w w8 := G7.trans g8.two
      have R8 : Hid (Rdr w8 K R (othS x6 (uintS 65535 z))) := r8
      clear r8 g8 X7 G7 R7
      have c8 := X8.cell 8 _ rfl
      have f8 := X8.froz 8
      have xl := X8.lt
      have w6' : IntKind.u16.wrap x6 = x6 := by rw [IntKind.wrap_u16]; omega
      go_wp2_with fail
      go_end0
      have X9 := X8.set 8 (.int .u16 x6) (by simp)
      simp only [List.set] at X9
      exact ⟨rfl, by rw [hb, EA.out.2]; exact R8.out.ch ((Ch.refl M _).set 8 _) (by omega) (by omega), by rw [hb, EA.out.1]; exact X9, G8.set (by omega) 8 _⟩
end Go.Proofs.YtpamjalgcloehaaGreat

namespace Go.Proofs.YtpamjalgcloehaaGreat
open Go.RowKit
set_option linter.unusedVariables false

theorem ch9 {M : Nat} {w : World} {x0 x1 x2 x3 x4 x5 x6 x7 x8 : Value} :
    Ch M w (((((((((w.setCell ⟨M, 0, none⟩ x0).setCell ⟨M, 1, none⟩ x1).setCell ⟨M, 2, none⟩ x2).setCell ⟨M, 3, none⟩ x3).setCell ⟨M, 4, none⟩ x4).setCell ⟨M, 5, none⟩ x5).setCell ⟨M, 6, none⟩ x6).setCell ⟨M, 7, none⟩ x7).setCell ⟨M, 8, none⟩ x8) :=
  (((((((((Ch.refl M w).set 0 _).set 1 _).set 2 _).set 3 _).set 4 _).set 5 _).set 6 _).set 7 _).set 8 _
theorem ch_nine {R b : Nat} {a w : World} {x0 x1 x2 x3 x4 x5 x6 x7 x8 : Value} (h : Ch R a w) (hR : R ≤ a.heap.size) (hb : a.heap.size ≤ b) :
    Ch R a (((((((((w.setCell ⟨b, 0, none⟩ x0).setCell ⟨b, 1, none⟩ x1).setCell ⟨b, 2, none⟩ x2).setCell ⟨b, 3, none⟩ x3).setCell ⟨b, 4, none⟩ x4).setCell ⟨b, 5, none⟩ x5).setCell ⟨b, 6, none⟩ x6).setCell ⟨b, 7, none⟩ x7).setCell ⟨b, 8, none⟩ x8) :=
  ((((((((h.setNew hR hb _).setNew hR hb _).setNew hR hb _).setNew hR hb _).setNew hR hb _).setNew hR hb _).setNew hR hb _).setNew hR hb _).setNew hR hb _
theorem uintA_min (m : Int) (s : St) : 0 ≤ uintA m s := (uintA_bd m s).1
end Go.Proofs.YtpamjalgcloehaaGreat

namespace Go.Proofs.YtpamjalgcloehaaGreat
open Go.RowKit
set_option linter.unusedVariables false

end Go.Proofs.YtpamjalgcloehaaGreat

namespace Go.Proofs.YtpamjalgcloehaaGreat
open Go.RowKit
set_option linter.unusedVariables false

theorem bit_is {m : Int} {k : Nat} : bitB m k = decide (m / 2 ^ k % 2 = 1) := rfl
theorem half_up (m : Int) (k : Nat) : m / 2 ^ (k + 1) = m / 2 ^ k / 2 := by
  rw [Int.pow_succ, Int.ediv_ediv_of_nonneg (Int.pow_nonneg (by omega))]
end Go.Proofs.YtpamjalgcloehaaGreat

namespace Go.Proofs.YtpamjalgcloehaaGreat
open Go.RowKit
set_option linter.unusedVariables false

theorem boxedT {w W : World} {a b : Array Value} {t1 t2 : TypeId} (h : (w.alloc (.cells a t1)).alloc (.cells b t2) = W) :
    Blk W w.heap.size a.toList ∧ Blk W (w.heap.size + 1) b.toList ∧ Below w.heap.size w W := by
  subst h
  exact ⟨(Blk.new w _ _ rfl).alloc _, Blk.new _ _ _ (by simp), ((Below.refl _ _).alloc (Nat.le_refl _) _).alloc (by simp) _⟩
end Go.Proofs.YtpamjalgcloehaaGreat

namespace Go.Proofs.YtpamjalgcloehaaGreat
open Go.RowKit
set_option linter.unusedVariables false

/-! a reader that has not failed, ahead of a number's bytes -/
theorem rd_uint {x m : Int} (h0 : 0 ≤ x) (h1 : x ≤ m) (hm : m ≤ 18446744073709551615) (r : List Int) (n : Int) :
    uintA m ⟨put x ++ r, n, 0⟩ = x ∧ uintS m ⟨put x ++ r, n, 0⟩ = ⟨r, n + (put x).length, 0⟩ := by
  have g := got_put h0 (by omega) r
  have hne : put x ++ r ≠ [] := by simp [put_ne]
  have e : uintE m (put x ++ r) = 0 := by
    unfold uintE
    rw [if_neg hne, g]
    simp only [if_true]
    rw [if_neg (by omega)]
  unfold uintA uintS
  simp only [if_true, e, g]
  simp
theorem rd_int {x : Int} (hx : S64 x) (r : List Int) (n : Int) : intA ⟨put (zig x) ++ r, n, 0⟩ = x ∧ intS ⟨put (zig x) ++ r, n, 0⟩ = ⟨r, n + (put (zig x)).length, 0⟩ := by
  have b := zig_bd hx
  have h := rd_uint (m := top64) b.1 b.2 (by unfold top64; omega) r n
  unfold intA intS
  rw [h.1, h.2, zag_zig]
  exact ⟨rfl, rfl⟩
theorem rd_byte {b : Int} (r : List Int) (n : Int) : byteA ⟨b :: r, n, 0⟩ = b ∧ byteS ⟨b :: r, n, 0⟩ = ⟨r, n + 1, 0⟩ := by
  unfold byteA byteS
  simp
/-! an Update -/
theorem bit_mask : ∀ (l : List Int) (k : Nat), k < l.length → bitB (mask l) k = decide (l.getD k 0 ≠ 0)
  | x :: r, 0, _ => by
    unfold bitB
    simp only [mask]
    by_cases h : x = 0
    · simp [h]
    · simp [h]
  | x :: r, k + 1, hk => by
    have h1 := bit_mask r k (by simpa using hk)
    have e : mask (x :: r) / 2 = mask r := by
      show ((if x = 0 then (0 : Int) else 1) + 2 * mask r) / 2 = mask r
      split <;> omega
    have e2 : mask (x :: r) / 2 ^ (k + 1) = mask r / 2 ^ k := by
      rw [Int.pow_succ, Int.mul_comm (2 ^ k) 2, ← Int.ediv_ediv_of_nonneg (by omega), e]
    rw [List.getD_cons_succ, ← h1]
    unfold bitB
    rw [e2]
theorem bit_mask6 (l : List Int) (h : l.length = 6) (a : Int) (k : Nat) (hk : k < 6) : bitB (mask l + if a = 0 then 0 else 64) k = decide (l.getD k 0 ≠ 0) := by
  rw [← bit_mask l k (by omega)]
  unfold bitB
  split
  · simp
  · have e : (mask l + 64) / 2 ^ k % 2 = mask l / 2 ^ k % 2 := by
      rcases (show k = 0 ∨ k = 1 ∨ k = 2 ∨ k = 3 ∨ k = 4 ∨ k = 5 by omega) with rfl | rfl | rfl | rfl | rfl | rfl <;> simp <;> omega
    rw [e]
theorem bit_six (l : List Int) (h : l.length = 6) (a : Int) : bitB (mask l + if a = 0 then 0 else 64) 6 = decide (a ≠ 0) := by
  have hb := mask_bd l
  rw [h] at hb
  unfold bitB
  split
  · rename_i h'; simp [h']; omega
  · rename_i h'; simp [h']; omega
/-- The numbers of an Update are read one by one. -/
theorem dif_read (l : List Int) (h6 : l.length = 6) (a : Int) (hl : ∀ x ∈ l, S64 x) (rest : List Int) (n : Int) : ∀ k, k ≤ 6 →
    difS (mask l + if a = 0 then 0 else 64) ⟨zn l ++ rest, n, 0⟩ k = ⟨zn (l.drop k) ++ rest, n + (zn (l.take k)).length, 0⟩
  | 0, _ => by simp [difS, zn]
  | k + 1, hk => by
    show stepS _ (difS _ _ k) = _
    rw [dif_read l h6 a hl rest n k (by omega), bit_mask6 l h6 a k (by omega)]
    have hd : zn (l.drop k) = (if l.getD k 0 = 0 then [] else put (zig (l.getD k 0))) ++ zn (l.drop (k + 1)) := by
      unfold zn; rw [List.drop_eq_getElem_cons (by omega), List.flatMap_cons]; simp [List.getD, show k < l.length by omega]
    have ht := zn_snoc l k (by omega)
    rw [hd, ht]
    have hx : S64 (l.getD k 0) := hl _ (getD_mem (by omega))
    obtain ⟨x, e⟩ : ∃ x, l.getD k 0 = x := ⟨_, rfl⟩
    rw [e] at hx ⊢
    unfold stepS
    by_cases hz : x = 0
    · simp [hz]
    · rw [if_pos (by simp [hz]), if_neg hz, List.append_assoc, (rd_int hx _ _).1, (rd_int hx _ _).2]
      unfold othS
      rw [if_neg hz, List.length_append]
      congr 1
      omega
theorem difA_read (l : List Int) (h6 : l.length = 6) (a : Int) (hl : ∀ x ∈ l, S64 x) (rest : List Int) (n : Int) (k : Nat) (hk : k < 6) :
    difA (mask l + if a = 0 then 0 else 64) ⟨zn l ++ rest, n, 0⟩ k = l.getD k 0 := by
  unfold difA
  rw [dif_read l h6 a hl rest n k (by omega), bit_mask6 l h6 a k hk]
  have hd : zn (l.drop k) = (if l.getD k 0 = 0 then [] else put (zig (l.getD k 0))) ++ zn (l.drop (k + 1)) := by
    unfold zn; rw [List.drop_eq_getElem_cons (by omega), List.flatMap_cons]; simp [List.getD, show k < l.length by omega]
  rw [hd]
  have hx : S64 (l.getD k 0) := hl _ (getD_mem (by omega))
  obtain ⟨x, e⟩ : ∃ x, l.getD k 0 = x := ⟨_, rfl⟩
  rw [e] at hx ⊢
  unfold stepA
  by_cases hz : x = 0
  · simp [hz]
  · rw [if_pos (by simp [hz]), if_neg hz, List.append_assoc, (rd_int hx _ _).1]
/-- What is written behind the kind is read. -/
theorem upd_read {r : Rc} (ok : r.ok) (hk : r.k = 1) (hem : emptyB r = false) (rest : List Int) (n : Int) :
    updT ⟨updB r ++ rest, n, 0⟩ ⟨r.k, r.i, 0, 0, 0, 0, 0, 0, 0⟩ = r ∧ updS ⟨updB r ++ rest, n, 0⟩ = ⟨rest, n + (updB r).length, 0⟩ := by
  have hb := maskR_bd r
  have hnz : maskR r ≠ 0 := by
    intro h0
    have hm := mask_bd (nums r)
    have ha : r.a = 0 := by
      unfold maskR at h0
      split at h0
      · assumption
      · omega
    have hm0 : mask (nums r) = 0 := by unfold maskR at h0; rw [ha] at h0; simpa using h0
    have hz : ∀ k, k < 6 → (nums r).getD k 0 = 0 := by
      intro k hk
      have := bit_mask (nums r) k hk
      rw [hm0] at this
      unfold bitB at this
      simpa using this.symm
    have : emptyB r = true := (emptyB_iff r).2 ⟨⟨hz 0 (by omega), hz 1 (by omega), hz 2 (by omega), hz 3 (by omega), hz 4 (by omega), hz 5 (by omega)⟩, ha⟩
    rw [this] at hem
    exact absurd hem (by simp)
  have eb := rd_byte (b := maskR r) (restR r ++ rest) n
  have e1 : byteA ⟨updB r ++ rest, n, 0⟩ = maskR r := eb.1
  have e2 : byteS ⟨updB r ++ rest, n, 0⟩ = ⟨restR r ++ rest, n + 1, 0⟩ := eb.2
  have e3 : mskS ⟨updB r ++ rest, n, 0⟩ = ⟨restR r ++ rest, n + 1, 0⟩ := by
    unfold mskS
    rw [e1, e2, if_neg (by unfold badM; simp; omega)]
  have e4 : restR r ++ rest = zn (nums r) ++ ((if r.a = 0 then [] else put r.a) ++ rest) := by unfold restR; rw [List.append_assoc]
  have hl := ok.nums
  have d := fun k hk => difA_read (nums r) rfl r.a hl ((if r.a = 0 then [] else put r.a) ++ rest) (n + 1) k hk
  have s6 := dif_read (nums r) rfl r.a hl ((if r.a = 0 then [] else put r.a) ++ rest) (n + 1) 6 (by omega)
  have b6 := bit_six (nums r) rfl r.a
  rw [show (nums r).drop 6 = [] from rfl, show (nums r).take 6 = nums r from rfl] at s6
  have em : maskR r = mask (nums r) + if r.a = 0 then 0 else 64 := rfl
  have len : ((updB r).length : Int) = 1 + (zn (nums r)).length + ((if r.a = 0 then ([] : List Int) else put r.a).length : Int) := by
    unfold updB restR; rw [List.length_cons, List.length_append]; omega
  constructor
  · unfold updT
    rw [e1, e3, e4, em, d 0 (by omega), d 1 (by omega), d 2 (by omega), d 3 (by omega), d 4 (by omega), d 5 (by omega), s6, b6]
    have ea : angA (decide (r.a ≠ 0)) ⟨zn [] ++ ((if r.a = 0 then [] else put r.a) ++ rest), n + 1 + (zn (nums r)).length, 0⟩ = r.a := by
      unfold angA
      by_cases hz : r.a = 0
      · simp [hz]
      · rw [if_pos (by simp [hz]), if_neg hz]
        exact (rd_uint ok.a.1 ok.a.2 (by omega) rest _).1
    rw [ea]
    rfl
  · unfold updS
    rw [e1, e3, e4, em, s6, b6, len]
    unfold angS
    by_cases hz : r.a = 0
    · simp [hz, zn]; omega
    · rw [if_pos (by simp [hz]), if_neg hz]
      have h := rd_uint ok.a.1 ok.a.2 (by omega) rest (n + 1 + (zn (nums r)).length)
      show othS (uintA 65535 ⟨put r.a ++ rest, _, 0⟩) (uintS 65535 ⟨put r.a ++ rest, _, 0⟩) = _
      rw [h.1, h.2]
      unfold othS
      rw [if_neg hz]
      congr 1
      omega
theorem vec_read {a b c : Int} (ha : S64 a) (hb : S64 b) (hc : S64 c) (rest : List Int) (n : Int) :
    intA ⟨zs [a, b, c] ++ rest, n, 0⟩ = a ∧ intA (intS ⟨zs [a, b, c] ++ rest, n, 0⟩) = b ∧ intA (intS (intS ⟨zs [a, b, c] ++ rest, n, 0⟩)) = c ∧ vecS ⟨zs [a, b, c] ++ rest, n, 0⟩ = ⟨rest, n + (zs [a, b, c]).length, 0⟩ := by
  have e : zs [a, b, c] ++ rest = put (zig a) ++ (put (zig b) ++ (put (zig c) ++ rest)) := by simp [zs]
  have len : ((zs [a, b, c]).length : Int) = (put (zig a)).length + (put (zig b)).length + (put (zig c)).length := by simp [zs]; omega
  unfold vecS
  rw [e, len, (rd_int ha _ _).2, (rd_int hb _ _).2, (rd_int hc _ _).2, (rd_int ha _ _).1, (rd_int hb _ _).1, (rd_int hc _ _).1]
  refine ⟨rfl, rfl, rfl, ?_⟩
  congr 1
  omega
theorem who_read {r : Rc} (ok : r.ok) (rest : List Int) (n : Int) :
    whoT ⟨wholeB r ++ rest, n, 0⟩ ⟨r.k, r.i, 0, 0, 0, 0, 0, 0, 0⟩ = r ∧ whoS ⟨wholeB r ++ rest, n, 0⟩ = ⟨rest, n + (wholeB r).length, 0⟩ := by
  have e : wholeB r ++ rest = zs [r.p0, r.p1, r.p2] ++ (zs [r.v0, r.v1, r.v2] ++ (put r.a ++ rest)) := by unfold wholeB nums; simp [zs]
  have len : ((wholeB r).length : Int) = (zs [r.p0, r.p1, r.p2]).length + (zs [r.v0, r.v1, r.v2]).length + (put r.a).length := by unfold wholeB nums; simp [zs]; omega
  have v1 := vec_read ok.p0 ok.p1 ok.p2 (zs [r.v0, r.v1, r.v2] ++ (put r.a ++ rest)) n
  have v2 := vec_read ok.v0 ok.v1 ok.v2 (put r.a ++ rest) (n + (zs [r.p0, r.p1, r.p2]).length)
  have u := rd_uint ok.a.1 ok.a.2 (by omega) rest (n + (zs [r.p0, r.p1, r.p2]).length + (zs [r.v0, r.v1, r.v2]).length)
  constructor
  · unfold whoT
    rw [e, v1.2.2.2, v1.1, v1.2.1, v1.2.2.1, v2.2.2.2, v2.1, v2.2.1, v2.2.2.1, u.1]
  · unfold whoS
    rw [e, v1.2.2.2, v2.2.2.2, u.2, len]
    congr 1
    omega
/-- What is written is read. -/
theorem wr_read {r : Rc} {last : Int} (ok : r.ok) (h : wrE r last = 0) (rest : List Int) (n : Int) :
    redT ⟨wrB r last ++ rest, n, 0⟩ last = r ∧ redS ⟨wrB r last ++ rest, n, 0⟩ last = ⟨rest, n + (wrB r last).length, 0⟩ ∧ redE ⟨wrB r last ++ rest, n, 0⟩ last = 0 := by
  obtain ⟨hc, hl, hi⟩ := wrE_ok h
  obtain ⟨kb, ib, k1, k2⟩ := chk_ok hc
  have eB : wrB r last = put (r.i - last - 1) ++ (r.k :: bodyB r) := by unfold wrB; rw [if_pos h]
  have e : wrB r last ++ rest = put (r.i - last - 1) ++ (r.k :: (bodyB r ++ rest)) := by rw [eB]; simp
  have len : ((wrB r last).length : Int) = (put (r.i - last - 1)).length + 1 + (bodyB r).length := by rw [eB, List.length_append, List.length_cons]; omega
  have u := rd_uint (x := r.i - last - 1) (m := 65534 - last) (by omega) (by omega) (by omega) (r.k :: (bodyB r ++ rest)) n
  have b := rd_byte (b := r.k) (bodyB r ++ rest) (n + (put (r.i - last - 1)).length)
  have eK : hdK ⟨wrB r last ++ rest, n, 0⟩ last = r.k := by unfold hdK; rw [e, u.2, b.1]
  have eI : hdI ⟨wrB r last ++ rest, n, 0⟩ last = r.i := by unfold hdI; rw [e, u.1]; omega
  have eS : hdS ⟨wrB r last ++ rest, n, 0⟩ last = ⟨bodyB r ++ rest, n + (put (r.i - last - 1)).length + 1, 0⟩ := by unfold hdS; rw [e, u.2, b.2]
  have T0 : takT ⟨wrB r last ++ rest, n, 0⟩ last = if 4 ≤ r.k then noRec else if r.k = 1 then updT ⟨bodyB r ++ rest, n + (put (r.i - last - 1)).length + 1, 0⟩ ⟨r.k, r.i, 0, 0, 0, 0, 0, 0, 0⟩ else if r.k = 2 then ⟨r.k, r.i, 0, 0, 0, 0, 0, 0, 0⟩ else whoT ⟨bodyB r ++ rest, n + (put (r.i - last - 1)).length + 1, 0⟩ ⟨r.k, r.i, 0, 0, 0, 0, 0, 0, 0⟩ := by
    unfold takT; rw [if_neg (by omega), eK, eI, eS]
  have S0 : takS ⟨wrB r last ++ rest, n, 0⟩ last = if 4 ≤ r.k then failS ⟨bodyB r ++ rest, n + (put (r.i - last - 1)).length + 1, 0⟩ 11 else if r.k = 1 then updS ⟨bodyB r ++ rest, n + (put (r.i - last - 1)).length + 1, 0⟩ else if r.k = 2 then ⟨bodyB r ++ rest, n + (put (r.i - last - 1)).length + 1, 0⟩ else whoS ⟨bodyB r ++ rest, n + (put (r.i - last - 1)).length + 1, 0⟩ := by
    unfold takS; rw [if_neg (by omega), eK, eS]
  have h4 : ¬ 4 ≤ r.k := by omega
  rw [if_neg h4] at T0 S0
  have key : takT ⟨wrB r last ++ rest, n, 0⟩ last = r ∧ takS ⟨wrB r last ++ rest, n, 0⟩ last = ⟨rest, n + (wrB r last).length, 0⟩ := by
    rw [T0, S0, len]
    by_cases g1 : r.k = 1
    · have eb : bodyB r = updB r := by unfold bodyB; rw [if_pos g1]
      have hu := upd_read ok g1 (k1 g1) rest (n + (put (r.i - last - 1)).length + 1)
      rw [if_pos g1, if_pos g1, eb]
      refine ⟨hu.1, hu.2.trans ?_⟩
      congr 1; omega
    · by_cases g2 : r.k = 2
      · have eb : bodyB r = [] := by unfold bodyB; rw [if_neg g1, if_pos g2]
        obtain ⟨⟨q0, q1, q2, q3, q4, q5⟩, q6⟩ := (emptyB_iff r).1 (k2 g2)
        rw [if_neg g1, if_neg g1, if_pos g2, if_pos g2, eb]
        constructor
        · clear T0 S0 eK eI eS e eB u b len h hc hl hi kb ib k1 k2 ok g1 g2 eb h4
          cases r
          simp only at q0 q1 q2 q3 q4 q5 q6
          subst q0 q1 q2 q3 q4 q5 q6
          rfl
        · rw [List.nil_append, List.length_nil]
          congr 1; omega
      · have eb : bodyB r = wholeB r := by unfold bodyB; rw [if_neg g1, if_neg g2]
        have hw := who_read ok rest (n + (put (r.i - last - 1)).length + 1)
        rw [if_neg g1, if_neg g1, if_neg g2, if_neg g2, eb]
        refine ⟨hw.1, hw.2.trans ?_⟩
        congr 1; omega
  have LB : lastB last = true := by unfold lastB; rw [decide_eq_true hl]
  unfold redT redS redE
  rw [LB, key.1, key.2]
  exact ⟨rfl, rfl, rfl⟩
end Go.Proofs.YtpamjalgcloehaaGreat
