/-
  Texts Rec18 in one.
-/
import Derived.Test.YtlpdhglibgnkoaaGreatP14
namespace Go.Proofs.YtlpdhglibgnkoaaGreat
open Go.RowKit
set_option linter.unusedVariables false

theorem boxedT {w W : World} {a b : Array Value} {t1 t2 : TypeId} (h : (w.alloc (.cells a t1)).alloc (.cells b t2) = W) :
    Blk W w.heap.size a.toList ∧ Blk W (w.heap.size + 1) b.toList ∧ Below w.heap.size w W := by
  subst h
  exact ⟨(Blk.new w _ _ rfl).alloc _, Blk.new _ _ _ (by simp), ((Below.refl _ _).alloc (Nat.le_refl _) _).alloc (by simp) _⟩
set_option maxRecDepth 8000 in
set_option maxHeartbeats 20000000 in
theorem doc_read (w : World) (K R : Nat) (s : St) (last : Int) (h : Rdr w K R s) : Calls Tryz.prog 60 #[.pointer (some ⟨R, 0, none⟩), .int .i64 last] w fun e w' =>
    e = .returned (.tuple #[recV (redT s last), .int .i64 (redE s last)]) ∧ Rdr w' K R (redS s last) ∧ Ch R w w' := by
  have HR : Hid (Rdr w K R s) := h
  have lt := h.lt
  have hK := h.hK
  clear h
  obtain ⟨T, hT⟩ : ∃ T, redT s last = T := ⟨_, rfl⟩
  obtain ⟨U, hU⟩ : ∃ U, redS s last = U := ⟨_, rfl⟩
  obtain ⟨E, hE⟩ : ∃ E, redE s last = E := ⟨_, rfl⟩
  have HT : Hid (redT s last = T) := hT
  have HU : Hid (redS s last = U) := hU
  have HE : Hid (redE s last = E) := hE
  rw [hT, hU, hE]
  clear hT hU hE
  go_enter Tryz.func60, Tryz.ntmps60
  by_cases b1 : last < -1
  · have bq := b1
    have LB : lastB last = false := by unfold lastB; rw [decide_eq_false (by omega)]
    have EU : Hid (U = s) := (by rw [← HU.out]; unfold redS; rw [LB]; rfl : U = s)
    have EE : Hid (E = 3) := (by rw [← HE.out]; unfold redE; rw [LB]; rfl : E = 3)
    have ET : Hid (T = noRec) := (by rw [← HT.out]; unfold redT; rw [LB]; rfl : T = noRec)
    clear HT HU HE LB
    go_wp2_with fail
    refine bodyPost_ret (v := .tuple #[recV noRec, .int .i64 3]) (by simp [results, Tryz.results60, go_sem, noRec]) rfl ⟨by rw [ET.out, EE.out], by rw [EU.out]; exact HR.out.below ((Below.refl _ _).alloc (Nat.le_refl _) _) lt, Ch.of ((Below.refl _ _).alloc (Nat.le_refl _) _) (by omega)⟩
  by_cases b2 : 65535 < last
  · have bq := b2
    have LB : lastB last = false := by unfold lastB; rw [decide_eq_false (by omega)]
    have EU : Hid (U = s) := (by rw [← HU.out]; unfold redS; rw [LB]; rfl : U = s)
    have EE : Hid (E = 3) := (by rw [← HE.out]; unfold redE; rw [LB]; rfl : E = 3)
    have ET : Hid (T = noRec) := (by rw [← HT.out]; unfold redT; rw [LB]; rfl : T = noRec)
    clear HT HU HE LB
    go_wp2_with fail
    refine bodyPost_ret (v := .tuple #[recV noRec, .int .i64 3]) (by simp [results, Tryz.results60, go_sem, noRec]) rfl ⟨by rw [ET.out, EE.out], by rw [EU.out]; exact HR.out.below ((Below.refl _ _).alloc (Nat.le_refl _) _) lt, Ch.of ((Below.refl _ _).alloc (Nat.le_refl _) _) (by omega)⟩
  have LB : lastB last = true := by unfold lastB; rw [decide_eq_true (by omega)]
  have EU : Hid (U = takS s last) := (by rw [← HU.out]; unfold redS; rw [LB]; rfl : U = takS s last)
  have EE : Hid (E = (takS s last).e) := (by rw [← HE.out]; unfold redE; rw [LB]; rfl : E = (takS s last).e)
  have ET : Hid (T = if (takS s last).e = 0 then takT s last else noRec) := (by rw [← HT.out]; unfold redT; rw [LB]; rfl : T = if (takS s last).e = 0 then takT s last else noRec)
  clear HT HU HE LB
  by_cases h65 : last = 65535
  · have TS : takS s last = failS s 10 := by unfold takS; rw [if_pos h65]
    have TT : takT s last = noRec := by unfold takT; rw [if_pos h65]
    rw [TS] at EU EE
    rw [TT] at ET
    have ET2 : Hid (T = noRec) := (by have h := ET.out; simpa using h : T = noRec)
    clear TS TT ET
    subst h65
    go_wp2_with fail
    generalize hW : w.alloc (.cells (recA ⟨0, 0, 0, 0, 0, 0, 0, 0, 0⟩) 107) = W
    obtain ⟨Y0, B0, Z0⟩ := boxed hW
    have R0 : Hid (Rdr W K R s) := HR.out.below B0 lt
    have G0 : Ch R w W := Ch.of B0 (by omega)
    obtain ⟨H, hH⟩ : ∃ H, w.heap.size = H := ⟨_, rfl⟩
    have H1 : w.heap.size ≤ H := by omega
    have H2 : H ≤ w.heap.size := by omega
    rw [hH] at Y0 lt
    rw [hH]
    clear hH hW B0 Z0 HR
    refine (rfail_any _ K R _ 10 R0.out).mono ?_; rintro e w1 ⟨rfl, r1, g1⟩
    have Y1 := Y0.ch g1 (by omega)
    have G1 := G0.trans g1
    have R1 : Hid (Rdr w1 K R (failS s 10)) := r1
    clear Y0 G0 R0 g1
    obtain ⟨sv, hv⟩ := r1
    have ce := hv.c2
    have rl := hv.lt
    clear hv
    obtain ⟨Q, hQ⟩ : ∃ Q, failS s 10 = Q := ⟨_, rfl⟩
    rw [hQ] at ce R1 EU EE
    clear hQ
    obtain ⟨er, her⟩ : ∃ er, Q.e = er := ⟨_, rfl⟩
    rw [her] at ce EE
    clear her
    have yl := Y1.lt
    have c0 := Y1.cell 0 _ rfl
    have fc0 := Y1.froz 0
    have c1 := Y1.cell 1 _ rfl
    have fc1 := Y1.froz 1
    have c2 := Y1.cell 2 _ rfl
    have fc2 := Y1.froz 2
    have c3 := Y1.cell 3 _ rfl
    have fc3 := Y1.froz 3
    have c4 := Y1.cell 4 _ rfl
    have fc4 := Y1.froz 4
    have c5 := Y1.cell 5 _ rfl
    have fc5 := Y1.froz 5
    have c6 := Y1.cell 6 _ rfl
    have fc6 := Y1.froz 6
    have c7 := Y1.cell 7 _ rfl
    have fc7 := Y1.froz 7
    have c8 := Y1.cell 8 _ rfl
    have fc8 := Y1.froz 8
    go_wp2_with fail
    go_region
    have RB : Blk (((((((((w1.setCell ⟨H, 0, none⟩ (.int .i64 0)).setCell ⟨H, 1, none⟩ (.int .i64 0)).setCell ⟨H, 2, none⟩ (.int .i64 0)).setCell ⟨H, 3, none⟩ (.int .i64 0)).setCell ⟨H, 4, none⟩ (.int .i64 0)).setCell ⟨H, 5, none⟩ (.int .i64 0)).setCell ⟨H, 6, none⟩ (.int .i64 0)).setCell ⟨H, 7, none⟩ (.int .i64 0)).setCell ⟨H, 8, none⟩ (.int .u16 0)).drew H [.int .i64 0, .int .i64 0, .int .i64 0, .int .i64 0, .int .i64 0, .int .i64 0, .int .i64 0, .int .i64 0, .int .u16 0] := (Y1.nine).drew
    have GB : Ch R w (((((((((w1.setCell ⟨H, 0, none⟩ (.int .i64 0)).setCell ⟨H, 1, none⟩ (.int .i64 0)).setCell ⟨H, 2, none⟩ (.int .i64 0)).setCell ⟨H, 3, none⟩ (.int .i64 0)).setCell ⟨H, 4, none⟩ (.int .i64 0)).setCell ⟨H, 5, none⟩ (.int .i64 0)).setCell ⟨H, 6, none⟩ (.int .i64 0)).setCell ⟨H, 7, none⟩ (.int .i64 0)).setCell ⟨H, 8, none⟩ (.int .u16 0)).drew := (ch_nine G1 (by omega) (by omega)).drew
    have RR : Rdr (((((((((w1.setCell ⟨H, 0, none⟩ (.int .i64 0)).setCell ⟨H, 1, none⟩ (.int .i64 0)).setCell ⟨H, 2, none⟩ (.int .i64 0)).setCell ⟨H, 3, none⟩ (.int .i64 0)).setCell ⟨H, 4, none⟩ (.int .i64 0)).setCell ⟨H, 5, none⟩ (.int .i64 0)).setCell ⟨H, 6, none⟩ (.int .i64 0)).setCell ⟨H, 7, none⟩ (.int .i64 0)).setCell ⟨H, 8, none⟩ (.int .u16 0)).drew K R (Q) := (R1.out.ch ch9 (by omega) (by omega)).drew
    generalize (((((((((w1.setCell ⟨H, 0, none⟩ (.int .i64 0)).setCell ⟨H, 1, none⟩ (.int .i64 0)).setCell ⟨H, 2, none⟩ (.int .i64 0)).setCell ⟨H, 3, none⟩ (.int .i64 0)).setCell ⟨H, 4, none⟩ (.int .i64 0)).setCell ⟨H, 5, none⟩ (.int .i64 0)).setCell ⟨H, 6, none⟩ (.int .i64 0)).setCell ⟨H, 7, none⟩ (.int .i64 0)).setCell ⟨H, 8, none⟩ (.int .u16 0)).drew = W9 at RB GB RR ⊢
    go_wp2_with fail
    have q0 := RB.cell 0 _ rfl
    have q1 := RB.cell 1 _ rfl
    have q2 := RB.cell 2 _ rfl
    have q3 := RB.cell 3 _ rfl
    have q4 := RB.cell 4 _ rfl
    have q5 := RB.cell 5 _ rfl
    have q6 := RB.cell 6 _ rfl
    have q7 := RB.cell 7 _ rfl
    have q8 := RB.cell 8 _ rfl
    refine bodyPost_ret (v := .tuple #[recV noRec, .int .i64 er]) (by simp [results, Tryz.results60, go_sem, noRec, q0, q1, q2, q3, q4, q5, q6, q7, q8]) rfl ⟨by rw [ET2.out, EE.out], by rw [EU.out]; exact RR, GB⟩
  · obtain ⟨u, hu⟩ : ∃ u, uintA (65534 - last) s = u := ⟨_, rfl⟩
    obtain ⟨s1, hs1⟩ : ∃ s1, uintS (65534 - last) s = s1 := ⟨_, rfl⟩
    have ub0 := uintA_min (65534 - last) s
    have ub1 := uintA_max (m := 65534 - last) (by omega) s
    rw [hu] at ub0 ub1
    obtain ⟨k, hk⟩ : ∃ k, byteA s1 = k := ⟨_, rfl⟩
    obtain ⟨s2, hs2⟩ : ∃ s2, byteS s1 = s2 := ⟨_, rfl⟩
    have TT : takT s last = if 4 ≤ k then noRec else if k = 1 then updT s2 ⟨k, last + 1 + u, 0, 0, 0, 0, 0, 0, 0⟩ else if k = 2 then ⟨k, last + 1 + u, 0, 0, 0, 0, 0, 0, 0⟩ else whoT s2 ⟨k, last + 1 + u, 0, 0, 0, 0, 0, 0, 0⟩ := by
      unfold takT hdK hdI hdS; rw [if_neg h65, hu, hs1, hk, hs2]
    have TS : takS s last = if 4 ≤ k then failS s2 11 else if k = 1 then updS s2 else if k = 2 then s2 else whoS s2 := by
      unfold takS hdK hdS; rw [if_neg h65, hs1, hk, hs2]
    obtain ⟨X', hX'⟩ : ∃ X', takT s last = X' := ⟨_, rfl⟩
    obtain ⟨U', hU'⟩ : ∃ U', takS s last = U' := ⟨_, rfl⟩
    rw [hX'] at TT ET
    rw [hU'] at TS ET EU EE
    have HTT : Hid (X' = if 4 ≤ k then noRec else if k = 1 then updT s2 ⟨k, last + 1 + u, 0, 0, 0, 0, 0, 0, 0⟩ else if k = 2 then ⟨k, last + 1 + u, 0, 0, 0, 0, 0, 0, 0⟩ else whoT s2 ⟨k, last + 1 + u, 0, 0, 0, 0, 0, 0, 0⟩) := TT
    have HTS : Hid (U' = if 4 ≤ k then failS s2 11 else if k = 1 then updS s2 else if k = 2 then s2 else whoS s2) := TS
    have Hu : Hid (uintA (65534 - last) s = u ∧ uintS (65534 - last) s = s1) := ⟨hu, hs1⟩
    have Hk : Hid (byteA s1 = k ∧ byteS s1 = s2) := ⟨hk, hs2⟩
    clear TT TS hX' hU' hu hs1 hk hs2
    go_wp2_with fail
    generalize hW : (w.alloc (.cells (recA ⟨0, 0, 0, 0, 0, 0, 0, 0, 0⟩) 107)).alloc (.cells (recA ⟨0, 0, 0, 0, 0, 0, 0, 0, 0⟩) 107) = W
    obtain ⟨Y0, X0, B0⟩ := boxedT hW
    have R0 : Hid (Rdr W K R s) := HR.out.below B0 lt
    have G0 : Ch R w W := Ch.of B0 (by omega)
    obtain ⟨H, hH⟩ : ∃ H, w.heap.size = H := ⟨_, rfl⟩
    have H1 : w.heap.size ≤ H := by omega
    have H2 : H ≤ w.heap.size := by omega
    rw [hH] at Y0 X0 lt
    rw [hH]
    clear hH hW B0 HR
    obtain ⟨M, hM⟩ : ∃ M, H + 1 = M := ⟨_, rfl⟩
    have HM : H < M := by omega
    rw [hM] at X0
    rw [hM]
    clear hM
    refine (ruint_any _ K R _ (65534 - last) R0.out).mono ?_; rw [Hu.out.1, Hu.out.2]; rintro e w1 ⟨rfl, r1, g1⟩
    have Y1 := Y0.ch g1 (by omega)
    have X1 := X0.ch g1 (by omega)
    have G1 := G0.trans g1
    have R1 : Hid (Rdr w1 K R s1) := r1
    have kb := byteA_bd r1.bytes
    rw [Hk.out.1] at kb
    clear Y0 X0 G0 R0 g1 r1 Hu
    have wl2 : wrap64 (last + 1 + u) = last + 1 + u := by unfold wrap64; omega
    have c1 := X1.cell 1 _ rfl
    have fc1 := X1.froz 1
    have xl := X1.lt
    go_wp2_with fail
    obtain ⟨i, hi⟩ : ∃ i, last + 1 + u = i := ⟨_, rfl⟩
    rw [hi] at HTT wl2
    rw [hi]
    clear hi
    have X2 := X1.set 1 (.int .i64 i) (by simp)
    simp only [List.set] at X2
    have Y2 := Y1.other (p := ⟨M, 1, none⟩) (show M ≠ H by omega) (.int .i64 i)
    have G2 := G1.setNew (p := ⟨M, 1, none⟩) (by omega) (show w.heap.size ≤ M by omega) (.int .i64 i)
    have R2 : Hid (Rdr (w1.setCell ⟨M, 1, none⟩ (.int .i64 i)) K R s1) := R1.out.ch ((Ch.refl M _).set 1 _) (by omega) (by omega)
    generalize w1.setCell ⟨M, 1, none⟩ (.int .i64 i) = w2 at X2 Y2 G2 R2 ⊢
    clear X1 Y1 G1 R1 c1 fc1 xl
    refine (rbyte_any _ K R _ R2.out).mono ?_; rw [Hk.out.1, Hk.out.2]; rintro e w3 ⟨rfl, r3, g3⟩
    have Y3 := Y2.ch g3 (by omega)
    have X3 := X2.ch g3 (by omega)
    have G3 := G2.trans g3
    have R3 : Hid (Rdr w3 K R s2) := r3
    clear Y2 X2 G2 R2 g3 r3 Hk
    have X4 := X3.set 0 (.int .i64 k) (by simp)
    simp only [List.set] at X4
    have Y4 := Y3.other (p := ⟨M, 0, none⟩) (show M ≠ H by omega) (.int .i64 k)
    have G4 := G3.setNew (p := ⟨M, 0, none⟩) (by omega) (show w.heap.size ≤ M by omega) (.int .i64 k)
    have R4 : Hid (Rdr (w3.setCell ⟨M, 0, none⟩ (.int .i64 k)) K R s2) := R3.out.ch ((Ch.refl M _).set 0 _) (by omega) (by omega)
    have c0 := X3.cell 0 _ rfl
    have fc0 := X3.froz 0
    have xl := X3.lt
    obtain ⟨k0, k1⟩ := kb
    by_cases g0 : k = 0
    · have XT : Hid (X' = whoT s2 ⟨k, i, 0, 0, 0, 0, 0, 0, 0⟩) := by have h := HTT.out; rw [if_neg (by omega), if_neg (by omega), if_neg (by omega)] at h; exact h
      have UT : Hid (U' = whoS s2) := by have h := HTS.out; rw [if_neg (by omega), if_neg (by omega), if_neg (by omega)] at h; exact h
      clear HTT HTS
      subst g0
      rw [UT.out] at ET EU EE
      rw [XT.out] at ET
      clear UT XT
      have AB := uintA_bd 65535 (vecS (vecS s2))
      have A16 : uintA 65535 (vecS (vecS s2)) ≤ 65535 := uintA_max (by omega) _
      obtain ⟨x0, e0⟩ : ∃ x, intA s2 = x := ⟨_, rfl⟩
      obtain ⟨x1, e1⟩ : ∃ x, intA (intS s2) = x := ⟨_, rfl⟩
      obtain ⟨x2, e2⟩ : ∃ x, intA (intS (intS s2)) = x := ⟨_, rfl⟩
      obtain ⟨x3, e3⟩ : ∃ x, intA (vecS s2) = x := ⟨_, rfl⟩
      obtain ⟨x4, e4⟩ : ∃ x, intA (intS (vecS s2)) = x := ⟨_, rfl⟩
      obtain ⟨x5, e5⟩ : ∃ x, intA (intS (intS (vecS s2))) = x := ⟨_, rfl⟩
      obtain ⟨x6, e6⟩ : ∃ x, uintA 65535 (vecS (vecS s2)) = x := ⟨_, rfl⟩
      have EW : whoT s2 ⟨0, i, 0, 0, 0, 0, 0, 0, 0⟩ = ⟨0, i, x0, x1, x2, x3, x4, x5, x6⟩ := by unfold whoT; rw [e0, e1, e2, e3, e4, e5, e6]
      rw [EW] at ET
      have E012 : Hid (intA s2 = x0 ∧ intA (intS s2) = x1 ∧ intA (intS (intS s2)) = x2) := ⟨e0, e1, e2⟩
      have E345 : Hid (intA (vecS s2) = x3 ∧ intA (intS (vecS s2)) = x4 ∧ intA (intS (intS (vecS s2))) = x5) := ⟨e3, e4, e5⟩
      have E6 : Hid (uintA 65535 (vecS (vecS s2)) = x6) := e6
      rw [e6] at AB A16
      clear e0 e1 e2 e3 e4 e5 e6 EW
      go_wp2_with fail
      generalize w3.setCell ⟨M, 0, none⟩ (.int .i64 0) = w4 at X4 Y4 G4 R4 ⊢
      clear c0 fc0 xl X3 Y3 G3 R3
      refine (rvec_any _ K R _ R4.out).mono ?_; rw [E012.out.1, E012.out.2.1, E012.out.2.2]; rintro e w5 ⟨rfl, r5, g5⟩
      have X5 := X4.ch g5 (by omega)
      have Y5 := Y4.ch g5 (by omega)
      have G5 := G4.trans g5
      have R5 : Hid (Rdr w5 K R (vecS s2)) := r5
      clear X4 Y4 G4 R4 g5 r5 E012
      have c2 := X5.cell 2 _ rfl
      have c3 := X5.cell 3 _ rfl
      have c4 := X5.cell 4 _ rfl
      have f2 := X5.froz 2
      have f3 := X5.froz 3
      have f4 := X5.froz 4
      have xl := X5.lt
      go_wp2_with fail
      have X6 := X5.three (o := 2) (.int .i64 x0) (.int .i64 x1) (.int .i64 x2) (by simp)
      simp only [List.set] at X6
      have Y6 := ((Y5.other (p := ⟨M, 2, none⟩) (show M ≠ H by omega) (.int .i64 x0)).other (p := ⟨M, 3, none⟩) (show M ≠ H by omega) (.int .i64 x1)).other (p := ⟨M, 4, none⟩) (show M ≠ H by omega) (.int .i64 x2)
      have G6 := ((G5.setNew (p := ⟨M, 2, none⟩) (by omega) (show w.heap.size ≤ M by omega) (.int .i64 x0)).setNew (p := ⟨M, 3, none⟩) (by omega) (show w.heap.size ≤ M by omega) (.int .i64 x1)).setNew (p := ⟨M, 4, none⟩) (by omega) (show w.heap.size ≤ M by omega) (.int .i64 x2)
      have R6 : Hid (Rdr (((w5.setCell ⟨M, 2, none⟩ (.int .i64 x0)).setCell ⟨M, 3, none⟩ (.int .i64 x1)).setCell ⟨M, 4, none⟩ (.int .i64 x2)) K R (vecS s2)) := R5.out.ch ((((Ch.refl M _).set 2 _).set 3 _).set 4 _) (by omega) (by omega)
      generalize ((w5.setCell ⟨M, 2, none⟩ (.int .i64 x0)).setCell ⟨M, 3, none⟩ (.int .i64 x1)).setCell ⟨M, 4, none⟩ (.int .i64 x2) = w6 at X6 Y6 G6 R6 ⊢
      clear c2 c3 c4 f2 f3 f4 xl X5 Y5 G5 R5
      refine (rvec_any _ K R _ R6.out).mono ?_; rw [E345.out.1, E345.out.2.1, E345.out.2.2]; rintro e w7 ⟨rfl, r7, g7⟩
      have X7 := X6.ch g7 (by omega)
      have Y7 := Y6.ch g7 (by omega)
      have G7 := G6.trans g7
      have R7 : Hid (Rdr w7 K R (vecS (vecS s2))) := r7
      clear X6 Y6 G6 R6 g7 r7 E345
      have c5 := X7.cell 5 _ rfl
      have c6 := X7.cell 6 _ rfl
      have c7 := X7.cell 7 _ rfl
      have f5 := X7.froz 5
      have f6 := X7.froz 6
      have f7 := X7.froz 7
      have xl := X7.lt
      go_wp2_with fail
      have X8 := X7.three (o := 5) (.int .i64 x3) (.int .i64 x4) (.int .i64 x5) (by simp)
      simp only [List.set] at X8
      have Y8 := ((Y7.other (p := ⟨M, 5, none⟩) (show M ≠ H by omega) (.int .i64 x3)).other (p := ⟨M, 6, none⟩) (show M ≠ H by omega) (.int .i64 x4)).other (p := ⟨M, 7, none⟩) (show M ≠ H by omega) (.int .i64 x5)
      have G8 := ((G7.setNew (p := ⟨M, 5, none⟩) (by omega) (show w.heap.size ≤ M by omega) (.int .i64 x3)).setNew (p := ⟨M, 6, none⟩) (by omega) (show w.heap.size ≤ M by omega) (.int .i64 x4)).setNew (p := ⟨M, 7, none⟩) (by omega) (show w.heap.size ≤ M by omega) (.int .i64 x5)
      have R8 : Hid (Rdr (((w7.setCell ⟨M, 5, none⟩ (.int .i64 x3)).setCell ⟨M, 6, none⟩ (.int .i64 x4)).setCell ⟨M, 7, none⟩ (.int .i64 x5)) K R (vecS (vecS s2))) := R7.out.ch ((((Ch.refl M _).set 5 _).set 6 _).set 7 _) (by omega) (by omega)
      generalize ((w7.setCell ⟨M, 5, none⟩ (.int .i64 x3)).setCell ⟨M, 6, none⟩ (.int .i64 x4)).setCell ⟨M, 7, none⟩ (.int .i64 x5) = w8 at X8 Y8 G8 R8 ⊢
      clear c5 c6 c7 f5 f6 f7 xl X7 Y7 G7 R7
      refine (ruint_any _ K R _ 65535 R8.out).mono ?_; rw [E6.out]; rintro e w9 ⟨rfl, r9, g9⟩
      have X9 := X8.ch g9 (by omega)
      have Y9 := Y8.ch g9 (by omega)
      have G9 := G8.trans g9
      have R9 : Hid (Rdr w9 K R (whoS s2)) := r9
      clear X8 Y8 G8 R8 g9 r9 E6
      have c8 := X9.cell 8 _ rfl
      have f8 := X9.froz 8
      have w6' : IntKind.u16.wrap x6 = x6 := by rw [IntKind.wrap_u16]; omega
      have Xa := X9.set 8 (.int .u16 x6) (by simp)
      simp only [List.set] at Xa
      have Ya := Y9.other (p := ⟨M, 8, none⟩) (show M ≠ H by omega) (.int .u16 x6)
      have Ga := G9.setNew (p := ⟨M, 8, none⟩) (by omega) (show w.heap.size ≤ M by omega) (.int .u16 x6)
      have Ra : Hid (Rdr (w9.setCell ⟨M, 8, none⟩ (.int .u16 x6)) K R (whoS s2)) := R9.out.ch ((Ch.refl M _).set 8 _) (by omega) (by omega)
      have cx8 := X9.cell 8 _ rfl
      clear c8
      obtain ⟨sv, hv⟩ := R9.out
      have ce := hv.c2
      have rl := hv.lt
      clear hv
      obtain ⟨Q, hQ⟩ : ∃ Q, (whoS s2) = Q := ⟨_, rfl⟩
      rw [hQ] at ce EU ET EE
      have RN : Hid (Rdr (w9.setCell ⟨M, 8, none⟩ (.int .u16 x6)) K R Q) := by rw [← hQ]; exact Ra.out
      have nRM : ¬ R = M := by omega
      have nMR : ¬ M = R := by omega
      have nRH : ¬ R = H := by omega
      have nHR : ¬ H = R := by omega
      have nHM : ¬ H = M := by omega
      have nMH : ¬ M = H := by omega
      clear hQ
      obtain ⟨er, her⟩ : ∃ er, Q.e = er := ⟨_, rfl⟩
      have ET3 : Hid (T = if er = 0 then ⟨0, i, x0, x1, x2, x3, x4, x5, x6⟩ else noRec) := by have h := ET.out; rw [her] at h; exact h
      have EE3 : Hid (E = er) := by have h := EE.out; rw [her] at h; exact h
      rw [her] at ce
      clear her ET EE
      have yl := Y9.lt
      have xl := X9.lt
      have c0 := Y9.cell 0 _ rfl
      have fc0 := Y9.froz 0
      have c1 := Y9.cell 1 _ rfl
      have fc1 := Y9.froz 1
      have c2 := Y9.cell 2 _ rfl
      have fc2 := Y9.froz 2
      have c3 := Y9.cell 3 _ rfl
      have fc3 := Y9.froz 3
      have c4 := Y9.cell 4 _ rfl
      have fc4 := Y9.froz 4
      have c5 := Y9.cell 5 _ rfl
      have fc5 := Y9.froz 5
      have c6 := Y9.cell 6 _ rfl
      have fc6 := Y9.froz 6
      have c7 := Y9.cell 7 _ rfl
      have fc7 := Y9.froz 7
      have c8 := Y9.cell 8 _ rfl
      have fc8 := Y9.froz 8
      by_cases e0 : er = 0
      · subst e0
        have y0 := X9.cell 0 _ rfl
        have y1 := X9.cell 1 _ rfl
        have y2 := X9.cell 2 _ rfl
        have y3 := X9.cell 3 _ rfl
        have y4 := X9.cell 4 _ rfl
        have y5 := X9.cell 5 _ rfl
        have y6 := X9.cell 6 _ rfl
        have y7 := X9.cell 7 _ rfl
        have y8 := X9.cell 8 _ rfl
        have ET4 : Hid (T = ⟨0, i, x0, x1, x2, x3, x4, x5, x6⟩) := (by have h := ET3.out; rw [if_pos rfl] at h; exact h : T = ⟨0, i, x0, x1, x2, x3, x4, x5, x6⟩)
        clear ET3
        go_wp2_with fail
        have RB : Blk ((((((((((w9.setCell ⟨M, 8, none⟩ (.int .u16 x6)).setCell ⟨H, 0, none⟩ (.int .i64 0)).setCell ⟨H, 1, none⟩ (.int .i64 i)).setCell ⟨H, 2, none⟩ (.int .i64 x0)).setCell ⟨H, 3, none⟩ (.int .i64 x1)).setCell ⟨H, 4, none⟩ (.int .i64 x2)).setCell ⟨H, 5, none⟩ (.int .i64 x3)).setCell ⟨H, 6, none⟩ (.int .i64 x4)).setCell ⟨H, 7, none⟩ (.int .i64 x5)).setCell ⟨H, 8, none⟩ (.int .u16 x6)) H [.int .i64 0, .int .i64 i, .int .i64 x0, .int .i64 x1, .int .i64 x2, .int .i64 x3, .int .i64 x4, .int .i64 x5, .int .u16 x6] := (Ya.nine)
        have GB : Ch R w ((((((((((w9.setCell ⟨M, 8, none⟩ (.int .u16 x6)).setCell ⟨H, 0, none⟩ (.int .i64 0)).setCell ⟨H, 1, none⟩ (.int .i64 i)).setCell ⟨H, 2, none⟩ (.int .i64 x0)).setCell ⟨H, 3, none⟩ (.int .i64 x1)).setCell ⟨H, 4, none⟩ (.int .i64 x2)).setCell ⟨H, 5, none⟩ (.int .i64 x3)).setCell ⟨H, 6, none⟩ (.int .i64 x4)).setCell ⟨H, 7, none⟩ (.int .i64 x5)).setCell ⟨H, 8, none⟩ (.int .u16 x6)) := (ch_nine Ga (by omega) (by omega))
        have RR : Rdr ((((((((((w9.setCell ⟨M, 8, none⟩ (.int .u16 x6)).setCell ⟨H, 0, none⟩ (.int .i64 0)).setCell ⟨H, 1, none⟩ (.int .i64 i)).setCell ⟨H, 2, none⟩ (.int .i64 x0)).setCell ⟨H, 3, none⟩ (.int .i64 x1)).setCell ⟨H, 4, none⟩ (.int .i64 x2)).setCell ⟨H, 5, none⟩ (.int .i64 x3)).setCell ⟨H, 6, none⟩ (.int .i64 x4)).setCell ⟨H, 7, none⟩ (.int .i64 x5)).setCell ⟨H, 8, none⟩ (.int .u16 x6)) K R (Q) := (RN.out.ch ch9 (by omega) (by omega))
        generalize ((((((((((w9.setCell ⟨M, 8, none⟩ (.int .u16 x6)).setCell ⟨H, 0, none⟩ (.int .i64 0)).setCell ⟨H, 1, none⟩ (.int .i64 i)).setCell ⟨H, 2, none⟩ (.int .i64 x0)).setCell ⟨H, 3, none⟩ (.int .i64 x1)).setCell ⟨H, 4, none⟩ (.int .i64 x2)).setCell ⟨H, 5, none⟩ (.int .i64 x3)).setCell ⟨H, 6, none⟩ (.int .i64 x4)).setCell ⟨H, 7, none⟩ (.int .i64 x5)).setCell ⟨H, 8, none⟩ (.int .u16 x6)) = W9 at RB GB RR ⊢
        have q0 := RB.cell 0 _ rfl
        have q1 := RB.cell 1 _ rfl
        have q2 := RB.cell 2 _ rfl
        have q3 := RB.cell 3 _ rfl
        have q4 := RB.cell 4 _ rfl
        have q5 := RB.cell 5 _ rfl
        have q6 := RB.cell 6 _ rfl
        have q7 := RB.cell 7 _ rfl
        have q8 := RB.cell 8 _ rfl
        refine bodyPost_ret (v := .tuple #[recV ⟨0, i, x0, x1, x2, x3, x4, x5, x6⟩, .int .i64 0]) (by simp [results, Tryz.results60, go_sem, q0, q1, q2, q3, q4, q5, q6, q7, q8]) rfl ⟨by rw [ET4.out, EE3.out], by rw [EU.out]; exact RR, GB⟩
      · have ET4 : Hid (T = noRec) := by have h := ET3.out; rw [if_neg e0] at h; exact h
        clear ET3
        go_wp2_with fail
        go_region
        have RB : Blk ((((((((((w9.setCell ⟨M, 8, none⟩ (.int .u16 x6)).setCell ⟨H, 0, none⟩ (.int .i64 0)).setCell ⟨H, 1, none⟩ (.int .i64 0)).setCell ⟨H, 2, none⟩ (.int .i64 0)).setCell ⟨H, 3, none⟩ (.int .i64 0)).setCell ⟨H, 4, none⟩ (.int .i64 0)).setCell ⟨H, 5, none⟩ (.int .i64 0)).setCell ⟨H, 6, none⟩ (.int .i64 0)).setCell ⟨H, 7, none⟩ (.int .i64 0)).setCell ⟨H, 8, none⟩ (.int .u16 0)).drew H [.int .i64 0, .int .i64 0, .int .i64 0, .int .i64 0, .int .i64 0, .int .i64 0, .int .i64 0, .int .i64 0, .int .u16 0] := (Ya.nine).drew
        have GB : Ch R w ((((((((((w9.setCell ⟨M, 8, none⟩ (.int .u16 x6)).setCell ⟨H, 0, none⟩ (.int .i64 0)).setCell ⟨H, 1, none⟩ (.int .i64 0)).setCell ⟨H, 2, none⟩ (.int .i64 0)).setCell ⟨H, 3, none⟩ (.int .i64 0)).setCell ⟨H, 4, none⟩ (.int .i64 0)).setCell ⟨H, 5, none⟩ (.int .i64 0)).setCell ⟨H, 6, none⟩ (.int .i64 0)).setCell ⟨H, 7, none⟩ (.int .i64 0)).setCell ⟨H, 8, none⟩ (.int .u16 0)).drew := (ch_nine Ga (by omega) (by omega)).drew
        have RR : Rdr ((((((((((w9.setCell ⟨M, 8, none⟩ (.int .u16 x6)).setCell ⟨H, 0, none⟩ (.int .i64 0)).setCell ⟨H, 1, none⟩ (.int .i64 0)).setCell ⟨H, 2, none⟩ (.int .i64 0)).setCell ⟨H, 3, none⟩ (.int .i64 0)).setCell ⟨H, 4, none⟩ (.int .i64 0)).setCell ⟨H, 5, none⟩ (.int .i64 0)).setCell ⟨H, 6, none⟩ (.int .i64 0)).setCell ⟨H, 7, none⟩ (.int .i64 0)).setCell ⟨H, 8, none⟩ (.int .u16 0)).drew K R (Q) := (RN.out.ch ch9 (by omega) (by omega)).drew
        generalize ((((((((((w9.setCell ⟨M, 8, none⟩ (.int .u16 x6)).setCell ⟨H, 0, none⟩ (.int .i64 0)).setCell ⟨H, 1, none⟩ (.int .i64 0)).setCell ⟨H, 2, none⟩ (.int .i64 0)).setCell ⟨H, 3, none⟩ (.int .i64 0)).setCell ⟨H, 4, none⟩ (.int .i64 0)).setCell ⟨H, 5, none⟩ (.int .i64 0)).setCell ⟨H, 6, none⟩ (.int .i64 0)).setCell ⟨H, 7, none⟩ (.int .i64 0)).setCell ⟨H, 8, none⟩ (.int .u16 0)).drew = W9 at RB GB RR ⊢
        go_wp2_with fail
        have q0 := RB.cell 0 _ rfl
        have q1 := RB.cell 1 _ rfl
        have q2 := RB.cell 2 _ rfl
        have q3 := RB.cell 3 _ rfl
        have q4 := RB.cell 4 _ rfl
        have q5 := RB.cell 5 _ rfl
        have q6 := RB.cell 6 _ rfl
        have q7 := RB.cell 7 _ rfl
        have q8 := RB.cell 8 _ rfl
        refine bodyPost_ret (v := .tuple #[recV noRec, .int .i64 er]) (by simp [results, Tryz.results60, go_sem, noRec, q0, q1, q2, q3, q4, q5, q6, q7, q8]) rfl ⟨by rw [ET4.out, EE3.out], by rw [EU.out]; exact RR, GB⟩
    by_cases g1 : k = 1
    · have XT : Hid (X' = updT s2 ⟨k, i, 0, 0, 0, 0, 0, 0, 0⟩) := by have h := HTT.out; rw [if_neg (by omega), if_pos g1] at h; exact h
      have UT : Hid (U' = updS s2) := by have h := HTS.out; rw [if_neg (by omega), if_pos g1] at h; exact h
      clear HTT HTS
      subst g1
      rw [UT.out] at ET EU EE
      rw [XT.out] at ET
      clear UT XT
      go_wp2_with fail
      generalize w3.setCell ⟨M, 0, none⟩ (.int .i64 1) = w4 at X4 Y4 G4 R4 ⊢
      clear c0 fc0 xl X3 Y3 G3 R3
      refine (doc_update _ K R M s2 1 i R4.out X4 (by omega)).mono ?_; rintro e w5 ⟨rfl, r5, X5, g5⟩
      have Y5 := Y4.ch2 g5 (by omega) (by omega)
      have G5 := Ch2.one G4 g5 (by omega)
      have R5 : Hid (Rdr w5 K R (updS s2)) := r5
      clear X4 Y4 G4 R4 g5 r5
      obtain ⟨N', hN'⟩ : ∃ N', updT s2 ⟨1, i, 0, 0, 0, 0, 0, 0, 0⟩ = N' := ⟨_, rfl⟩
      rw [hN'] at X5 ET
      clear hN'
      obtain ⟨sv, hv⟩ := R5.out
      have ce := hv.c2
      have rl := hv.lt
      clear hv
      obtain ⟨Q, hQ⟩ : ∃ Q, (updS s2) = Q := ⟨_, rfl⟩
      rw [hQ] at ce EU ET EE
      have RN : Hid (Rdr w5 K R Q) := by rw [← hQ]; exact R5.out
      have nRM : ¬ R = M := by omega
      have nMR : ¬ M = R := by omega
      have nRH : ¬ R = H := by omega
      have nHR : ¬ H = R := by omega
      have nHM : ¬ H = M := by omega
      have nMH : ¬ M = H := by omega
      clear hQ
      obtain ⟨er, her⟩ : ∃ er, Q.e = er := ⟨_, rfl⟩
      have ET3 : Hid (T = if er = 0 then N' else noRec) := by have h := ET.out; rw [her] at h; exact h
      have EE3 : Hid (E = er) := by have h := EE.out; rw [her] at h; exact h
      rw [her] at ce
      clear her ET EE
      have yl := Y5.lt
      have xl := X5.lt
      have c0 := Y5.cell 0 _ rfl
      have fc0 := Y5.froz 0
      have c1 := Y5.cell 1 _ rfl
      have fc1 := Y5.froz 1
      have c2 := Y5.cell 2 _ rfl
      have fc2 := Y5.froz 2
      have c3 := Y5.cell 3 _ rfl
      have fc3 := Y5.froz 3
      have c4 := Y5.cell 4 _ rfl
      have fc4 := Y5.froz 4
      have c5 := Y5.cell 5 _ rfl
      have fc5 := Y5.froz 5
      have c6 := Y5.cell 6 _ rfl
      have fc6 := Y5.froz 6
      have c7 := Y5.cell 7 _ rfl
      have fc7 := Y5.froz 7
      have c8 := Y5.cell 8 _ rfl
      have fc8 := Y5.froz 8
      by_cases e0 : er = 0
      · subst e0
        have y0 := X5.cell 0 _ rfl
        have y1 := X5.cell 1 _ rfl
        have y2 := X5.cell 2 _ rfl
        have y3 := X5.cell 3 _ rfl
        have y4 := X5.cell 4 _ rfl
        have y5 := X5.cell 5 _ rfl
        have y6 := X5.cell 6 _ rfl
        have y7 := X5.cell 7 _ rfl
        have y8 := X5.cell 8 _ rfl
        have ET4 : Hid (T = N') := (by have h := ET3.out; rw [if_pos rfl] at h; exact h : T = N')
        clear ET3
        go_wp2_with fail
        have RB : Blk (((((((((w5.setCell ⟨H, 0, none⟩ (.int .i64 N'.k)).setCell ⟨H, 1, none⟩ (.int .i64 N'.i)).setCell ⟨H, 2, none⟩ (.int .i64 N'.p0)).setCell ⟨H, 3, none⟩ (.int .i64 N'.p1)).setCell ⟨H, 4, none⟩ (.int .i64 N'.p2)).setCell ⟨H, 5, none⟩ (.int .i64 N'.v0)).setCell ⟨H, 6, none⟩ (.int .i64 N'.v1)).setCell ⟨H, 7, none⟩ (.int .i64 N'.v2)).setCell ⟨H, 8, none⟩ (.int .u16 N'.a)) H [.int .i64 N'.k, .int .i64 N'.i, .int .i64 N'.p0, .int .i64 N'.p1, .int .i64 N'.p2, .int .i64 N'.v0, .int .i64 N'.v1, .int .i64 N'.v2, .int .u16 N'.a] := (Y5.nine)
        have GB : Ch R w (((((((((w5.setCell ⟨H, 0, none⟩ (.int .i64 N'.k)).setCell ⟨H, 1, none⟩ (.int .i64 N'.i)).setCell ⟨H, 2, none⟩ (.int .i64 N'.p0)).setCell ⟨H, 3, none⟩ (.int .i64 N'.p1)).setCell ⟨H, 4, none⟩ (.int .i64 N'.p2)).setCell ⟨H, 5, none⟩ (.int .i64 N'.v0)).setCell ⟨H, 6, none⟩ (.int .i64 N'.v1)).setCell ⟨H, 7, none⟩ (.int .i64 N'.v2)).setCell ⟨H, 8, none⟩ (.int .u16 N'.a)) := (ch_nine G5 (by omega) (by omega))
        have RR : Rdr (((((((((w5.setCell ⟨H, 0, none⟩ (.int .i64 N'.k)).setCell ⟨H, 1, none⟩ (.int .i64 N'.i)).setCell ⟨H, 2, none⟩ (.int .i64 N'.p0)).setCell ⟨H, 3, none⟩ (.int .i64 N'.p1)).setCell ⟨H, 4, none⟩ (.int .i64 N'.p2)).setCell ⟨H, 5, none⟩ (.int .i64 N'.v0)).setCell ⟨H, 6, none⟩ (.int .i64 N'.v1)).setCell ⟨H, 7, none⟩ (.int .i64 N'.v2)).setCell ⟨H, 8, none⟩ (.int .u16 N'.a)) K R (Q) := (RN.out.ch ch9 (by omega) (by omega))
        generalize (((((((((w5.setCell ⟨H, 0, none⟩ (.int .i64 N'.k)).setCell ⟨H, 1, none⟩ (.int .i64 N'.i)).setCell ⟨H, 2, none⟩ (.int .i64 N'.p0)).setCell ⟨H, 3, none⟩ (.int .i64 N'.p1)).setCell ⟨H, 4, none⟩ (.int .i64 N'.p2)).setCell ⟨H, 5, none⟩ (.int .i64 N'.v0)).setCell ⟨H, 6, none⟩ (.int .i64 N'.v1)).setCell ⟨H, 7, none⟩ (.int .i64 N'.v2)).setCell ⟨H, 8, none⟩ (.int .u16 N'.a)) = W9 at RB GB RR ⊢
        have q0 := RB.cell 0 _ rfl
        have q1 := RB.cell 1 _ rfl
        have q2 := RB.cell 2 _ rfl
        have q3 := RB.cell 3 _ rfl
        have q4 := RB.cell 4 _ rfl
        have q5 := RB.cell 5 _ rfl
        have q6 := RB.cell 6 _ rfl
        have q7 := RB.cell 7 _ rfl
        have q8 := RB.cell 8 _ rfl
        refine bodyPost_ret (v := .tuple #[recV N', .int .i64 0]) (by simp [results, Tryz.results60, go_sem, q0, q1, q2, q3, q4, q5, q6, q7, q8]) rfl ⟨by rw [ET4.out, EE3.out], by rw [EU.out]; exact RR, GB⟩
      · have ET4 : Hid (T = noRec) := by have h := ET3.out; rw [if_neg e0] at h; exact h
        clear ET3
        go_wp2_with fail
        go_region
        have RB : Blk (((((((((w5.setCell ⟨H, 0, none⟩ (.int .i64 0)).setCell ⟨H, 1, none⟩ (.int .i64 0)).setCell ⟨H, 2, none⟩ (.int .i64 0)).setCell ⟨H, 3, none⟩ (.int .i64 0)).setCell ⟨H, 4, none⟩ (.int .i64 0)).setCell ⟨H, 5, none⟩ (.int .i64 0)).setCell ⟨H, 6, none⟩ (.int .i64 0)).setCell ⟨H, 7, none⟩ (.int .i64 0)).setCell ⟨H, 8, none⟩ (.int .u16 0)).drew H [.int .i64 0, .int .i64 0, .int .i64 0, .int .i64 0, .int .i64 0, .int .i64 0, .int .i64 0, .int .i64 0, .int .u16 0] := (Y5.nine).drew
        have GB : Ch R w (((((((((w5.setCell ⟨H, 0, none⟩ (.int .i64 0)).setCell ⟨H, 1, none⟩ (.int .i64 0)).setCell ⟨H, 2, none⟩ (.int .i64 0)).setCell ⟨H, 3, none⟩ (.int .i64 0)).setCell ⟨H, 4, none⟩ (.int .i64 0)).setCell ⟨H, 5, none⟩ (.int .i64 0)).setCell ⟨H, 6, none⟩ (.int .i64 0)).setCell ⟨H, 7, none⟩ (.int .i64 0)).setCell ⟨H, 8, none⟩ (.int .u16 0)).drew := (ch_nine G5 (by omega) (by omega)).drew
        have RR : Rdr (((((((((w5.setCell ⟨H, 0, none⟩ (.int .i64 0)).setCell ⟨H, 1, none⟩ (.int .i64 0)).setCell ⟨H, 2, none⟩ (.int .i64 0)).setCell ⟨H, 3, none⟩ (.int .i64 0)).setCell ⟨H, 4, none⟩ (.int .i64 0)).setCell ⟨H, 5, none⟩ (.int .i64 0)).setCell ⟨H, 6, none⟩ (.int .i64 0)).setCell ⟨H, 7, none⟩ (.int .i64 0)).setCell ⟨H, 8, none⟩ (.int .u16 0)).drew K R (Q) := (RN.out.ch ch9 (by omega) (by omega)).drew
        generalize (((((((((w5.setCell ⟨H, 0, none⟩ (.int .i64 0)).setCell ⟨H, 1, none⟩ (.int .i64 0)).setCell ⟨H, 2, none⟩ (.int .i64 0)).setCell ⟨H, 3, none⟩ (.int .i64 0)).setCell ⟨H, 4, none⟩ (.int .i64 0)).setCell ⟨H, 5, none⟩ (.int .i64 0)).setCell ⟨H, 6, none⟩ (.int .i64 0)).setCell ⟨H, 7, none⟩ (.int .i64 0)).setCell ⟨H, 8, none⟩ (.int .u16 0)).drew = W9 at RB GB RR ⊢
        go_wp2_with fail
        have q0 := RB.cell 0 _ rfl
        have q1 := RB.cell 1 _ rfl
        have q2 := RB.cell 2 _ rfl
        have q3 := RB.cell 3 _ rfl
        have q4 := RB.cell 4 _ rfl
        have q5 := RB.cell 5 _ rfl
        have q6 := RB.cell 6 _ rfl
        have q7 := RB.cell 7 _ rfl
        have q8 := RB.cell 8 _ rfl
        refine bodyPost_ret (v := .tuple #[recV noRec, .int .i64 er]) (by simp [results, Tryz.results60, go_sem, noRec, q0, q1, q2, q3, q4, q5, q6, q7, q8]) rfl ⟨by rw [ET4.out, EE3.out], by rw [EU.out]; exact RR, GB⟩
    by_cases g2 : k = 2
    · have XT : Hid (X' = ⟨k, i, 0, 0, 0, 0, 0, 0, 0⟩) := by have h := HTT.out; rw [if_neg (by omega), if_neg (by omega), if_pos g2] at h; exact h
      have UT : Hid (U' = s2) := by have h := HTS.out; rw [if_neg (by omega), if_neg (by omega), if_pos g2] at h; exact h
      clear HTT HTS
      subst g2
      rw [UT.out] at ET EU EE
      rw [XT.out] at ET
      clear UT XT
      obtain ⟨sv, hv⟩ := R3.out
      have ce := hv.c2
      have rl := hv.lt
      clear hv
      obtain ⟨Q, hQ⟩ : ∃ Q, (s2) = Q := ⟨_, rfl⟩
      rw [hQ] at ce EU ET EE
      have RN : Hid (Rdr (w3.setCell ⟨M, 0, none⟩ (.int .i64 2)) K R Q) := by rw [← hQ]; exact R4.out
      have nRM : ¬ R = M := by omega
      have nMR : ¬ M = R := by omega
      have nRH : ¬ R = H := by omega
      have nHR : ¬ H = R := by omega
      have nHM : ¬ H = M := by omega
      have nMH : ¬ M = H := by omega
      clear hQ
      obtain ⟨er, her⟩ : ∃ er, Q.e = er := ⟨_, rfl⟩
      have ET3 : Hid (T = if er = 0 then ⟨2, i, 0, 0, 0, 0, 0, 0, 0⟩ else noRec) := by have h := ET.out; rw [her] at h; exact h
      have EE3 : Hid (E = er) := by have h := EE.out; rw [her] at h; exact h
      rw [her] at ce
      clear her ET EE
      have yl := Y3.lt
      have xl := X3.lt
      have c0 := Y3.cell 0 _ rfl
      have fc0 := Y3.froz 0
      have c1 := Y3.cell 1 _ rfl
      have fc1 := Y3.froz 1
      have c2 := Y3.cell 2 _ rfl
      have fc2 := Y3.froz 2
      have c3 := Y3.cell 3 _ rfl
      have fc3 := Y3.froz 3
      have c4 := Y3.cell 4 _ rfl
      have fc4 := Y3.froz 4
      have c5 := Y3.cell 5 _ rfl
      have fc5 := Y3.froz 5
      have c6 := Y3.cell 6 _ rfl
      have fc6 := Y3.froz 6
      have c7 := Y3.cell 7 _ rfl
      have fc7 := Y3.froz 7
      have c8 := Y3.cell 8 _ rfl
      have fc8 := Y3.froz 8
      by_cases e0 : er = 0
      · subst e0
        have y0 := X3.cell 0 _ rfl
        have y1 := X3.cell 1 _ rfl
        have y2 := X3.cell 2 _ rfl
        have y3 := X3.cell 3 _ rfl
        have y4 := X3.cell 4 _ rfl
        have y5 := X3.cell 5 _ rfl
        have y6 := X3.cell 6 _ rfl
        have y7 := X3.cell 7 _ rfl
        have y8 := X3.cell 8 _ rfl
        have ET4 : Hid (T = ⟨2, i, 0, 0, 0, 0, 0, 0, 0⟩) := (by have h := ET3.out; rw [if_pos rfl] at h; exact h : T = ⟨2, i, 0, 0, 0, 0, 0, 0, 0⟩)
        clear ET3
        go_wp2_with fail
        have RB : Blk ((((((((((w3.setCell ⟨M, 0, none⟩ (.int .i64 2)).setCell ⟨H, 0, none⟩ (.int .i64 2)).setCell ⟨H, 1, none⟩ (.int .i64 i)).setCell ⟨H, 2, none⟩ (.int .i64 0)).setCell ⟨H, 3, none⟩ (.int .i64 0)).setCell ⟨H, 4, none⟩ (.int .i64 0)).setCell ⟨H, 5, none⟩ (.int .i64 0)).setCell ⟨H, 6, none⟩ (.int .i64 0)).setCell ⟨H, 7, none⟩ (.int .i64 0)).setCell ⟨H, 8, none⟩ (.int .u16 0)) H [.int .i64 2, .int .i64 i, .int .i64 0, .int .i64 0, .int .i64 0, .int .i64 0, .int .i64 0, .int .i64 0, .int .u16 0] := (Y4.nine)
        have GB : Ch R w ((((((((((w3.setCell ⟨M, 0, none⟩ (.int .i64 2)).setCell ⟨H, 0, none⟩ (.int .i64 2)).setCell ⟨H, 1, none⟩ (.int .i64 i)).setCell ⟨H, 2, none⟩ (.int .i64 0)).setCell ⟨H, 3, none⟩ (.int .i64 0)).setCell ⟨H, 4, none⟩ (.int .i64 0)).setCell ⟨H, 5, none⟩ (.int .i64 0)).setCell ⟨H, 6, none⟩ (.int .i64 0)).setCell ⟨H, 7, none⟩ (.int .i64 0)).setCell ⟨H, 8, none⟩ (.int .u16 0)) := (ch_nine G4 (by omega) (by omega))
        have RR : Rdr ((((((((((w3.setCell ⟨M, 0, none⟩ (.int .i64 2)).setCell ⟨H, 0, none⟩ (.int .i64 2)).setCell ⟨H, 1, none⟩ (.int .i64 i)).setCell ⟨H, 2, none⟩ (.int .i64 0)).setCell ⟨H, 3, none⟩ (.int .i64 0)).setCell ⟨H, 4, none⟩ (.int .i64 0)).setCell ⟨H, 5, none⟩ (.int .i64 0)).setCell ⟨H, 6, none⟩ (.int .i64 0)).setCell ⟨H, 7, none⟩ (.int .i64 0)).setCell ⟨H, 8, none⟩ (.int .u16 0)) K R (Q) := (RN.out.ch ch9 (by omega) (by omega))
        generalize ((((((((((w3.setCell ⟨M, 0, none⟩ (.int .i64 2)).setCell ⟨H, 0, none⟩ (.int .i64 2)).setCell ⟨H, 1, none⟩ (.int .i64 i)).setCell ⟨H, 2, none⟩ (.int .i64 0)).setCell ⟨H, 3, none⟩ (.int .i64 0)).setCell ⟨H, 4, none⟩ (.int .i64 0)).setCell ⟨H, 5, none⟩ (.int .i64 0)).setCell ⟨H, 6, none⟩ (.int .i64 0)).setCell ⟨H, 7, none⟩ (.int .i64 0)).setCell ⟨H, 8, none⟩ (.int .u16 0)) = W9 at RB GB RR ⊢
        have q0 := RB.cell 0 _ rfl
        have q1 := RB.cell 1 _ rfl
        have q2 := RB.cell 2 _ rfl
        have q3 := RB.cell 3 _ rfl
        have q4 := RB.cell 4 _ rfl
        have q5 := RB.cell 5 _ rfl
        have q6 := RB.cell 6 _ rfl
        have q7 := RB.cell 7 _ rfl
        have q8 := RB.cell 8 _ rfl
        refine bodyPost_ret (v := .tuple #[recV ⟨2, i, 0, 0, 0, 0, 0, 0, 0⟩, .int .i64 0]) (by simp [results, Tryz.results60, go_sem, q0, q1, q2, q3, q4, q5, q6, q7, q8]) rfl ⟨by rw [ET4.out, EE3.out], by rw [EU.out]; exact RR, GB⟩
      · have ET4 : Hid (T = noRec) := by have h := ET3.out; rw [if_neg e0] at h; exact h
        clear ET3
        go_wp2_with fail
        go_region
        have RB : Blk ((((((((((w3.setCell ⟨M, 0, none⟩ (.int .i64 2)).setCell ⟨H, 0, none⟩ (.int .i64 0)).setCell ⟨H, 1, none⟩ (.int .i64 0)).setCell ⟨H, 2, none⟩ (.int .i64 0)).setCell ⟨H, 3, none⟩ (.int .i64 0)).setCell ⟨H, 4, none⟩ (.int .i64 0)).setCell ⟨H, 5, none⟩ (.int .i64 0)).setCell ⟨H, 6, none⟩ (.int .i64 0)).setCell ⟨H, 7, none⟩ (.int .i64 0)).setCell ⟨H, 8, none⟩ (.int .u16 0)).drew H [.int .i64 0, .int .i64 0, .int .i64 0, .int .i64 0, .int .i64 0, .int .i64 0, .int .i64 0, .int .i64 0, .int .u16 0] := (Y4.nine).drew
        have GB : Ch R w ((((((((((w3.setCell ⟨M, 0, none⟩ (.int .i64 2)).setCell ⟨H, 0, none⟩ (.int .i64 0)).setCell ⟨H, 1, none⟩ (.int .i64 0)).setCell ⟨H, 2, none⟩ (.int .i64 0)).setCell ⟨H, 3, none⟩ (.int .i64 0)).setCell ⟨H, 4, none⟩ (.int .i64 0)).setCell ⟨H, 5, none⟩ (.int .i64 0)).setCell ⟨H, 6, none⟩ (.int .i64 0)).setCell ⟨H, 7, none⟩ (.int .i64 0)).setCell ⟨H, 8, none⟩ (.int .u16 0)).drew := (ch_nine G4 (by omega) (by omega)).drew
        have RR : Rdr ((((((((((w3.setCell ⟨M, 0, none⟩ (.int .i64 2)).setCell ⟨H, 0, none⟩ (.int .i64 0)).setCell ⟨H, 1, none⟩ (.int .i64 0)).setCell ⟨H, 2, none⟩ (.int .i64 0)).setCell ⟨H, 3, none⟩ (.int .i64 0)).setCell ⟨H, 4, none⟩ (.int .i64 0)).setCell ⟨H, 5, none⟩ (.int .i64 0)).setCell ⟨H, 6, none⟩ (.int .i64 0)).setCell ⟨H, 7, none⟩ (.int .i64 0)).setCell ⟨H, 8, none⟩ (.int .u16 0)).drew K R (Q) := (RN.out.ch ch9 (by omega) (by omega)).drew
        generalize ((((((((((w3.setCell ⟨M, 0, none⟩ (.int .i64 2)).setCell ⟨H, 0, none⟩ (.int .i64 0)).setCell ⟨H, 1, none⟩ (.int .i64 0)).setCell ⟨H, 2, none⟩ (.int .i64 0)).setCell ⟨H, 3, none⟩ (.int .i64 0)).setCell ⟨H, 4, none⟩ (.int .i64 0)).setCell ⟨H, 5, none⟩ (.int .i64 0)).setCell ⟨H, 6, none⟩ (.int .i64 0)).setCell ⟨H, 7, none⟩ (.int .i64 0)).setCell ⟨H, 8, none⟩ (.int .u16 0)).drew = W9 at RB GB RR ⊢
        go_wp2_with fail
        have q0 := RB.cell 0 _ rfl
        have q1 := RB.cell 1 _ rfl
        have q2 := RB.cell 2 _ rfl
        have q3 := RB.cell 3 _ rfl
        have q4 := RB.cell 4 _ rfl
        have q5 := RB.cell 5 _ rfl
        have q6 := RB.cell 6 _ rfl
        have q7 := RB.cell 7 _ rfl
        have q8 := RB.cell 8 _ rfl
        refine bodyPost_ret (v := .tuple #[recV noRec, .int .i64 er]) (by simp [results, Tryz.results60, go_sem, noRec, q0, q1, q2, q3, q4, q5, q6, q7, q8]) rfl ⟨by rw [ET4.out, EE3.out], by rw [EU.out]; exact RR, GB⟩
    by_cases g3 : k = 3
    · have XT : Hid (X' = whoT s2 ⟨k, i, 0, 0, 0, 0, 0, 0, 0⟩) := by have h := HTT.out; rw [if_neg (by omega), if_neg (by omega), if_neg (by omega)] at h; exact h
      have UT : Hid (U' = whoS s2) := by have h := HTS.out; rw [if_neg (by omega), if_neg (by omega), if_neg (by omega)] at h; exact h
      clear HTT HTS
      subst g3
      rw [UT.out] at ET EU EE
      rw [XT.out] at ET
      clear UT XT
      have AB := uintA_bd 65535 (vecS (vecS s2))
      have A16 : uintA 65535 (vecS (vecS s2)) ≤ 65535 := uintA_max (by omega) _
      obtain ⟨x0, e0⟩ : ∃ x, intA s2 = x := ⟨_, rfl⟩
      obtain ⟨x1, e1⟩ : ∃ x, intA (intS s2) = x := ⟨_, rfl⟩
      obtain ⟨x2, e2⟩ : ∃ x, intA (intS (intS s2)) = x := ⟨_, rfl⟩
      obtain ⟨x3, e3⟩ : ∃ x, intA (vecS s2) = x := ⟨_, rfl⟩
      obtain ⟨x4, e4⟩ : ∃ x, intA (intS (vecS s2)) = x := ⟨_, rfl⟩
      obtain ⟨x5, e5⟩ : ∃ x, intA (intS (intS (vecS s2))) = x := ⟨_, rfl⟩
      obtain ⟨x6, e6⟩ : ∃ x, uintA 65535 (vecS (vecS s2)) = x := ⟨_, rfl⟩
      have EW : whoT s2 ⟨3, i, 0, 0, 0, 0, 0, 0, 0⟩ = ⟨3, i, x0, x1, x2, x3, x4, x5, x6⟩ := by unfold whoT; rw [e0, e1, e2, e3, e4, e5, e6]
      rw [EW] at ET
      have E012 : Hid (intA s2 = x0 ∧ intA (intS s2) = x1 ∧ intA (intS (intS s2)) = x2) := ⟨e0, e1, e2⟩
      have E345 : Hid (intA (vecS s2) = x3 ∧ intA (intS (vecS s2)) = x4 ∧ intA (intS (intS (vecS s2))) = x5) := ⟨e3, e4, e5⟩
      have E6 : Hid (uintA 65535 (vecS (vecS s2)) = x6) := e6
      rw [e6] at AB A16
      clear e0 e1 e2 e3 e4 e5 e6 EW
      go_wp2_with fail
      generalize w3.setCell ⟨M, 0, none⟩ (.int .i64 3) = w4 at X4 Y4 G4 R4 ⊢
      clear c0 fc0 xl X3 Y3 G3 R3
      refine (rvec_any _ K R _ R4.out).mono ?_; rw [E012.out.1, E012.out.2.1, E012.out.2.2]; rintro e w5 ⟨rfl, r5, g5⟩
      have X5 := X4.ch g5 (by omega)
      have Y5 := Y4.ch g5 (by omega)
      have G5 := G4.trans g5
      have R5 : Hid (Rdr w5 K R (vecS s2)) := r5
      clear X4 Y4 G4 R4 g5 r5 E012
      have c2 := X5.cell 2 _ rfl
      have c3 := X5.cell 3 _ rfl
      have c4 := X5.cell 4 _ rfl
      have f2 := X5.froz 2
      have f3 := X5.froz 3
      have f4 := X5.froz 4
      have xl := X5.lt
      go_wp2_with fail
      have X6 := X5.three (o := 2) (.int .i64 x0) (.int .i64 x1) (.int .i64 x2) (by simp)
      simp only [List.set] at X6
      have Y6 := ((Y5.other (p := ⟨M, 2, none⟩) (show M ≠ H by omega) (.int .i64 x0)).other (p := ⟨M, 3, none⟩) (show M ≠ H by omega) (.int .i64 x1)).other (p := ⟨M, 4, none⟩) (show M ≠ H by omega) (.int .i64 x2)
      have G6 := ((G5.setNew (p := ⟨M, 2, none⟩) (by omega) (show w.heap.size ≤ M by omega) (.int .i64 x0)).setNew (p := ⟨M, 3, none⟩) (by omega) (show w.heap.size ≤ M by omega) (.int .i64 x1)).setNew (p := ⟨M, 4, none⟩) (by omega) (show w.heap.size ≤ M by omega) (.int .i64 x2)
      have R6 : Hid (Rdr (((w5.setCell ⟨M, 2, none⟩ (.int .i64 x0)).setCell ⟨M, 3, none⟩ (.int .i64 x1)).setCell ⟨M, 4, none⟩ (.int .i64 x2)) K R (vecS s2)) := R5.out.ch ((((Ch.refl M _).set 2 _).set 3 _).set 4 _) (by omega) (by omega)
      generalize ((w5.setCell ⟨M, 2, none⟩ (.int .i64 x0)).setCell ⟨M, 3, none⟩ (.int .i64 x1)).setCell ⟨M, 4, none⟩ (.int .i64 x2) = w6 at X6 Y6 G6 R6 ⊢
      clear c2 c3 c4 f2 f3 f4 xl X5 Y5 G5 R5
      refine (rvec_any _ K R _ R6.out).mono ?_; rw [E345.out.1, E345.out.2.1, E345.out.2.2]; rintro e w7 ⟨rfl, r7, g7⟩
      have X7 := X6.ch g7 (by omega)
      have Y7 := Y6.ch g7 (by omega)
      have G7 := G6.trans g7
      have R7 : Hid (Rdr w7 K R (vecS (vecS s2))) := r7
      clear X6 Y6 G6 R6 g7 r7 E345
      have c5 := X7.cell 5 _ rfl
      have c6 := X7.cell 6 _ rfl
      have c7 := X7.cell 7 _ rfl
      have f5 := X7.froz 5
      have f6 := X7.froz 6
      have f7 := X7.froz 7
      have xl := X7.lt
      go_wp2_with fail
      have X8 := X7.three (o := 5) (.int .i64 x3) (.int .i64 x4) (.int .i64 x5) (by simp)
      simp only [List.set] at X8
      have Y8 := ((Y7.other (p := ⟨M, 5, none⟩) (show M ≠ H by omega) (.int .i64 x3)).other (p := ⟨M, 6, none⟩) (show M ≠ H by omega) (.int .i64 x4)).other (p := ⟨M, 7, none⟩) (show M ≠ H by omega) (.int .i64 x5)
      have G8 := ((G7.setNew (p := ⟨M, 5, none⟩) (by omega) (show w.heap.size ≤ M by omega) (.int .i64 x3)).setNew (p := ⟨M, 6, none⟩) (by omega) (show w.heap.size ≤ M by omega) (.int .i64 x4)).setNew (p := ⟨M, 7, none⟩) (by omega) (show w.heap.size ≤ M by omega) (.int .i64 x5)
      have R8 : Hid (Rdr (((w7.setCell ⟨M, 5, none⟩ (.int .i64 x3)).setCell ⟨M, 6, none⟩ (.int .i64 x4)).setCell ⟨M, 7, none⟩ (.int .i64 x5)) K R (vecS (vecS s2))) := R7.out.ch ((((Ch.refl M _).set 5 _).set 6 _).set 7 _) (by omega) (by omega)
      generalize ((w7.setCell ⟨M, 5, none⟩ (.int .i64 x3)).setCell ⟨M, 6, none⟩ (.int .i64 x4)).setCell ⟨M, 7, none⟩ (.int .i64 x5) = w8 at X8 Y8 G8 R8 ⊢
      clear c5 c6 c7 f5 f6 f7 xl X7 Y7 G7 R7
      refine (ruint_any _ K R _ 65535 R8.out).mono ?_; rw [E6.out]; rintro e w9 ⟨rfl, r9, g9⟩
      have X9 := X8.ch g9 (by omega)
      have Y9 := Y8.ch g9 (by omega)
      have G9 := G8.trans g9
      have R9 : Hid (Rdr w9 K R (whoS s2)) := r9
      clear X8 Y8 G8 R8 g9 r9 E6
      have c8 := X9.cell 8 _ rfl
      have f8 := X9.froz 8
      have w6' : IntKind.u16.wrap x6 = x6 := by rw [IntKind.wrap_u16]; omega
      have Xa := X9.set 8 (.int .u16 x6) (by simp)
      simp only [List.set] at Xa
      have Ya := Y9.other (p := ⟨M, 8, none⟩) (show M ≠ H by omega) (.int .u16 x6)
      have Ga := G9.setNew (p := ⟨M, 8, none⟩) (by omega) (show w.heap.size ≤ M by omega) (.int .u16 x6)
      have Ra : Hid (Rdr (w9.setCell ⟨M, 8, none⟩ (.int .u16 x6)) K R (whoS s2)) := R9.out.ch ((Ch.refl M _).set 8 _) (by omega) (by omega)
      have cx8 := X9.cell 8 _ rfl
      clear c8
      obtain ⟨sv, hv⟩ := R9.out
      have ce := hv.c2
      have rl := hv.lt
      clear hv
      obtain ⟨Q, hQ⟩ : ∃ Q, (whoS s2) = Q := ⟨_, rfl⟩
      rw [hQ] at ce EU ET EE
      have RN : Hid (Rdr (w9.setCell ⟨M, 8, none⟩ (.int .u16 x6)) K R Q) := by rw [← hQ]; exact Ra.out
      have nRM : ¬ R = M := by omega
      have nMR : ¬ M = R := by omega
      have nRH : ¬ R = H := by omega
      have nHR : ¬ H = R := by omega
      have nHM : ¬ H = M := by omega
      have nMH : ¬ M = H := by omega
      clear hQ
      obtain ⟨er, her⟩ : ∃ er, Q.e = er := ⟨_, rfl⟩
      have ET3 : Hid (T = if er = 0 then ⟨3, i, x0, x1, x2, x3, x4, x5, x6⟩ else noRec) := by have h := ET.out; rw [her] at h; exact h
      have EE3 : Hid (E = er) := by have h := EE.out; rw [her] at h; exact h
      rw [her] at ce
      clear her ET EE
      have yl := Y9.lt
      have xl := X9.lt
      have c0 := Y9.cell 0 _ rfl
      have fc0 := Y9.froz 0
      have c1 := Y9.cell 1 _ rfl
      have fc1 := Y9.froz 1
      have c2 := Y9.cell 2 _ rfl
      have fc2 := Y9.froz 2
      have c3 := Y9.cell 3 _ rfl
      have fc3 := Y9.froz 3
      have c4 := Y9.cell 4 _ rfl
      have fc4 := Y9.froz 4
      have c5 := Y9.cell 5 _ rfl
      have fc5 := Y9.froz 5
      have c6 := Y9.cell 6 _ rfl
      have fc6 := Y9.froz 6
      have c7 := Y9.cell 7 _ rfl
      have fc7 := Y9.froz 7
      have c8 := Y9.cell 8 _ rfl
      have fc8 := Y9.froz 8
      by_cases e0 : er = 0
      · subst e0
        have y0 := X9.cell 0 _ rfl
        have y1 := X9.cell 1 _ rfl
        have y2 := X9.cell 2 _ rfl
        have y3 := X9.cell 3 _ rfl
        have y4 := X9.cell 4 _ rfl
        have y5 := X9.cell 5 _ rfl
        have y6 := X9.cell 6 _ rfl
        have y7 := X9.cell 7 _ rfl
        have y8 := X9.cell 8 _ rfl
        have ET4 : Hid (T = ⟨3, i, x0, x1, x2, x3, x4, x5, x6⟩) := (by have h := ET3.out; rw [if_pos rfl] at h; exact h : T = ⟨3, i, x0, x1, x2, x3, x4, x5, x6⟩)
        clear ET3
        go_wp2_with fail
        have RB : Blk ((((((((((w9.setCell ⟨M, 8, none⟩ (.int .u16 x6)).setCell ⟨H, 0, none⟩ (.int .i64 3)).setCell ⟨H, 1, none⟩ (.int .i64 i)).setCell ⟨H, 2, none⟩ (.int .i64 x0)).setCell ⟨H, 3, none⟩ (.int .i64 x1)).setCell ⟨H, 4, none⟩ (.int .i64 x2)).setCell ⟨H, 5, none⟩ (.int .i64 x3)).setCell ⟨H, 6, none⟩ (.int .i64 x4)).setCell ⟨H, 7, none⟩ (.int .i64 x5)).setCell ⟨H, 8, none⟩ (.int .u16 x6)) H [.int .i64 3, .int .i64 i, .int .i64 x0, .int .i64 x1, .int .i64 x2, .int .i64 x3, .int .i64 x4, .int .i64 x5, .int .u16 x6] := (Ya.nine)
        have GB : Ch R w ((((((((((w9.setCell ⟨M, 8, none⟩ (.int .u16 x6)).setCell ⟨H, 0, none⟩ (.int .i64 3)).setCell ⟨H, 1, none⟩ (.int .i64 i)).setCell ⟨H, 2, none⟩ (.int .i64 x0)).setCell ⟨H, 3, none⟩ (.int .i64 x1)).setCell ⟨H, 4, none⟩ (.int .i64 x2)).setCell ⟨H, 5, none⟩ (.int .i64 x3)).setCell ⟨H, 6, none⟩ (.int .i64 x4)).setCell ⟨H, 7, none⟩ (.int .i64 x5)).setCell ⟨H, 8, none⟩ (.int .u16 x6)) := (ch_nine Ga (by omega) (by omega))
        have RR : Rdr ((((((((((w9.setCell ⟨M, 8, none⟩ (.int .u16 x6)).setCell ⟨H, 0, none⟩ (.int .i64 3)).setCell ⟨H, 1, none⟩ (.int .i64 i)).setCell ⟨H, 2, none⟩ (.int .i64 x0)).setCell ⟨H, 3, none⟩ (.int .i64 x1)).setCell ⟨H, 4, none⟩ (.int .i64 x2)).setCell ⟨H, 5, none⟩ (.int .i64 x3)).setCell ⟨H, 6, none⟩ (.int .i64 x4)).setCell ⟨H, 7, none⟩ (.int .i64 x5)).setCell ⟨H, 8, none⟩ (.int .u16 x6)) K R (Q) := (RN.out.ch ch9 (by omega) (by omega))
        generalize ((((((((((w9.setCell ⟨M, 8, none⟩ (.int .u16 x6)).setCell ⟨H, 0, none⟩ (.int .i64 3)).setCell ⟨H, 1, none⟩ (.int .i64 i)).setCell ⟨H, 2, none⟩ (.int .i64 x0)).setCell ⟨H, 3, none⟩ (.int .i64 x1)).setCell ⟨H, 4, none⟩ (.int .i64 x2)).setCell ⟨H, 5, none⟩ (.int .i64 x3)).setCell ⟨H, 6, none⟩ (.int .i64 x4)).setCell ⟨H, 7, none⟩ (.int .i64 x5)).setCell ⟨H, 8, none⟩ (.int .u16 x6)) = W9 at RB GB RR ⊢
        have q0 := RB.cell 0 _ rfl
        have q1 := RB.cell 1 _ rfl
        have q2 := RB.cell 2 _ rfl
        have q3 := RB.cell 3 _ rfl
        have q4 := RB.cell 4 _ rfl
        have q5 := RB.cell 5 _ rfl
        have q6 := RB.cell 6 _ rfl
        have q7 := RB.cell 7 _ rfl
        have q8 := RB.cell 8 _ rfl
        refine bodyPost_ret (v := .tuple #[recV ⟨3, i, x0, x1, x2, x3, x4, x5, x6⟩, .int .i64 0]) (by simp [results, Tryz.results60, go_sem, q0, q1, q2, q3, q4, q5, q6, q7, q8]) rfl ⟨by rw [ET4.out, EE3.out], by rw [EU.out]; exact RR, GB⟩
      · have ET4 : Hid (T = noRec) := by have h := ET3.out; rw [if_neg e0] at h; exact h
        clear ET3
        go_wp2_with fail
        go_region
        have RB : Blk ((((((((((w9.setCell ⟨M, 8, none⟩ (.int .u16 x6)).setCell ⟨H, 0, none⟩ (.int .i64 0)).setCell ⟨H, 1, none⟩ (.int .i64 0)).setCell ⟨H, 2, none⟩ (.int .i64 0)).setCell ⟨H, 3, none⟩ (.int .i64 0)).setCell ⟨H, 4, none⟩ (.int .i64 0)).setCell ⟨H, 5, none⟩ (.int .i64 0)).setCell ⟨H, 6, none⟩ (.int .i64 0)).setCell ⟨H, 7, none⟩ (.int .i64 0)).setCell ⟨H, 8, none⟩ (.int .u16 0)).drew H [.int .i64 0, .int .i64 0, .int .i64 0, .int .i64 0, .int .i64 0, .int .i64 0, .int .i64 0, .int .i64 0, .int .u16 0] := (Ya.nine).drew
        have GB : Ch R w ((((((((((w9.setCell ⟨M, 8, none⟩ (.int .u16 x6)).setCell ⟨H, 0, none⟩ (.int .i64 0)).setCell ⟨H, 1, none⟩ (.int .i64 0)).setCell ⟨H, 2, none⟩ (.int .i64 0)).setCell ⟨H, 3, none⟩ (.int .i64 0)).setCell ⟨H, 4, none⟩ (.int .i64 0)).setCell ⟨H, 5, none⟩ (.int .i64 0)).setCell ⟨H, 6, none⟩ (.int .i64 0)).setCell ⟨H, 7, none⟩ (.int .i64 0)).setCell ⟨H, 8, none⟩ (.int .u16 0)).drew := (ch_nine Ga (by omega) (by omega)).drew
        have RR : Rdr ((((((((((w9.setCell ⟨M, 8, none⟩ (.int .u16 x6)).setCell ⟨H, 0, none⟩ (.int .i64 0)).setCell ⟨H, 1, none⟩ (.int .i64 0)).setCell ⟨H, 2, none⟩ (.int .i64 0)).setCell ⟨H, 3, none⟩ (.int .i64 0)).setCell ⟨H, 4, none⟩ (.int .i64 0)).setCell ⟨H, 5, none⟩ (.int .i64 0)).setCell ⟨H, 6, none⟩ (.int .i64 0)).setCell ⟨H, 7, none⟩ (.int .i64 0)).setCell ⟨H, 8, none⟩ (.int .u16 0)).drew K R (Q) := (RN.out.ch ch9 (by omega) (by omega)).drew
        generalize ((((((((((w9.setCell ⟨M, 8, none⟩ (.int .u16 x6)).setCell ⟨H, 0, none⟩ (.int .i64 0)).setCell ⟨H, 1, none⟩ (.int .i64 0)).setCell ⟨H, 2, none⟩ (.int .i64 0)).setCell ⟨H, 3, none⟩ (.int .i64 0)).setCell ⟨H, 4, none⟩ (.int .i64 0)).setCell ⟨H, 5, none⟩ (.int .i64 0)).setCell ⟨H, 6, none⟩ (.int .i64 0)).setCell ⟨H, 7, none⟩ (.int .i64 0)).setCell ⟨H, 8, none⟩ (.int .u16 0)).drew = W9 at RB GB RR ⊢
        go_wp2_with fail
        have q0 := RB.cell 0 _ rfl
        have q1 := RB.cell 1 _ rfl
        have q2 := RB.cell 2 _ rfl
        have q3 := RB.cell 3 _ rfl
        have q4 := RB.cell 4 _ rfl
        have q5 := RB.cell 5 _ rfl
        have q6 := RB.cell 6 _ rfl
        have q7 := RB.cell 7 _ rfl
        have q8 := RB.cell 8 _ rfl
        refine bodyPost_ret (v := .tuple #[recV noRec, .int .i64 er]) (by simp [results, Tryz.results60, go_sem, noRec, q0, q1, q2, q3, q4, q5, q6, q7, q8]) rfl ⟨by rw [ET4.out, EE3.out], by rw [EU.out]; exact RR, GB⟩
    · have g4 : 4 ≤ k := by omega
      have XT : Hid (X' = noRec) := by have h := HTT.out; rw [if_pos g4] at h; exact h
      have UT : Hid (U' = failS s2 11) := by have h := HTS.out; rw [if_pos g4] at h; exact h
      clear HTT HTS
      have kq0 : (k == 0) = false := by simp; omega
      have kq1 : (k == 1) = false := by simp; omega
      have kq2 : (k == 2) = false := by simp; omega
      have kq3 : (k == 3) = false := by simp; omega
      rw [UT.out] at ET EU EE
      rw [XT.out] at ET
      clear UT XT
      go_wp2_with fail
      generalize w3.setCell ⟨M, 0, none⟩ (.int .i64 k) = w4 at X4 Y4 G4 R4 ⊢
      clear c0 fc0 xl X3 Y3 G3 R3
      refine (rfail_any _ K R _ 11 R4.out).mono ?_; rintro e w5 ⟨rfl, r5, g5⟩
      have NE : Hid ((failS s2 11).e ≠ 0) := (by unfold failS; split; · simp
                                                 · assumption : (failS s2 11).e ≠ 0)
      have Y5 := Y4.ch g5 (by omega)
      have X5 := X4.ch g5 (by omega)
      have G5 := G4.trans g5
      have R5 : Hid (Rdr w5 K R (failS s2 11)) := r5
      clear X4 Y4 G4 R4 g5 r5
      obtain ⟨sv, hv⟩ := R5.out
      have ce := hv.c2
      have rl := hv.lt
      clear hv
      obtain ⟨Q, hQ⟩ : ∃ Q, (failS s2 11) = Q := ⟨_, rfl⟩
      rw [hQ] at ce EU ET EE NE
      have RN : Hid (Rdr w5 K R Q) := by rw [← hQ]; exact R5.out
      have nRM : ¬ R = M := by omega
      have nMR : ¬ M = R := by omega
      have nRH : ¬ R = H := by omega
      have nHR : ¬ H = R := by omega
      have nHM : ¬ H = M := by omega
      have nMH : ¬ M = H := by omega
      clear hQ
      obtain ⟨er, her⟩ : ∃ er, Q.e = er := ⟨_, rfl⟩
      have ET3 : Hid (T = if er = 0 then noRec else noRec) := by have h := ET.out; rw [her] at h; exact h
      have EE3 : Hid (E = er) := by have h := EE.out; rw [her] at h; exact h
      rw [her] at ce NE
      clear her ET EE
      have yl := Y5.lt
      have xl := X5.lt
      have c0 := Y5.cell 0 _ rfl
      have fc0 := Y5.froz 0
      have c1 := Y5.cell 1 _ rfl
      have fc1 := Y5.froz 1
      have c2 := Y5.cell 2 _ rfl
      have fc2 := Y5.froz 2
      have c3 := Y5.cell 3 _ rfl
      have fc3 := Y5.froz 3
      have c4 := Y5.cell 4 _ rfl
      have fc4 := Y5.froz 4
      have c5 := Y5.cell 5 _ rfl
      have fc5 := Y5.froz 5
      have c6 := Y5.cell 6 _ rfl
      have fc6 := Y5.froz 6
      have c7 := Y5.cell 7 _ rfl
      have fc7 := Y5.froz 7
      have c8 := Y5.cell 8 _ rfl
      have fc8 := Y5.froz 8
      by_cases e0 : er = 0
      · exact absurd e0 NE.out
      · have ET4 : Hid (T = noRec) := by have h := ET3.out; rw [if_neg e0] at h; exact h
        clear ET3
        go_wp2_with fail
        go_region
        have RB : Blk (((((((((w5.setCell ⟨H, 0, none⟩ (.int .i64 0)).setCell ⟨H, 1, none⟩ (.int .i64 0)).setCell ⟨H, 2, none⟩ (.int .i64 0)).setCell ⟨H, 3, none⟩ (.int .i64 0)).setCell ⟨H, 4, none⟩ (.int .i64 0)).setCell ⟨H, 5, none⟩ (.int .i64 0)).setCell ⟨H, 6, none⟩ (.int .i64 0)).setCell ⟨H, 7, none⟩ (.int .i64 0)).setCell ⟨H, 8, none⟩ (.int .u16 0)).drew H [.int .i64 0, .int .i64 0, .int .i64 0, .int .i64 0, .int .i64 0, .int .i64 0, .int .i64 0, .int .i64 0, .int .u16 0] := (Y5.nine).drew
        have GB : Ch R w (((((((((w5.setCell ⟨H, 0, none⟩ (.int .i64 0)).setCell ⟨H, 1, none⟩ (.int .i64 0)).setCell ⟨H, 2, none⟩ (.int .i64 0)).setCell ⟨H, 3, none⟩ (.int .i64 0)).setCell ⟨H, 4, none⟩ (.int .i64 0)).setCell ⟨H, 5, none⟩ (.int .i64 0)).setCell ⟨H, 6, none⟩ (.int .i64 0)).setCell ⟨H, 7, none⟩ (.int .i64 0)).setCell ⟨H, 8, none⟩ (.int .u16 0)).drew := (ch_nine G5 (by omega) (by omega)).drew
        have RR : Rdr (((((((((w5.setCell ⟨H, 0, none⟩ (.int .i64 0)).setCell ⟨H, 1, none⟩ (.int .i64 0)).setCell ⟨H, 2, none⟩ (.int .i64 0)).setCell ⟨H, 3, none⟩ (.int .i64 0)).setCell ⟨H, 4, none⟩ (.int .i64 0)).setCell ⟨H, 5, none⟩ (.int .i64 0)).setCell ⟨H, 6, none⟩ (.int .i64 0)).setCell ⟨H, 7, none⟩ (.int .i64 0)).setCell ⟨H, 8, none⟩ (.int .u16 0)).drew K R (Q) := (RN.out.ch ch9 (by omega) (by omega)).drew
        generalize (((((((((w5.setCell ⟨H, 0, none⟩ (.int .i64 0)).setCell ⟨H, 1, none⟩ (.int .i64 0)).setCell ⟨H, 2, none⟩ (.int .i64 0)).setCell ⟨H, 3, none⟩ (.int .i64 0)).setCell ⟨H, 4, none⟩ (.int .i64 0)).setCell ⟨H, 5, none⟩ (.int .i64 0)).setCell ⟨H, 6, none⟩ (.int .i64 0)).setCell ⟨H, 7, none⟩ (.int .i64 0)).setCell ⟨H, 8, none⟩ (.int .u16 0)).drew = W9 at RB GB RR ⊢
        go_wp2_with fail
        have q0 := RB.cell 0 _ rfl
        have q1 := RB.cell 1 _ rfl
        have q2 := RB.cell 2 _ rfl
        have q3 := RB.cell 3 _ rfl
        have q4 := RB.cell 4 _ rfl
        have q5 := RB.cell 5 _ rfl
        have q6 := RB.cell 6 _ rfl
        have q7 := RB.cell 7 _ rfl
        have q8 := RB.cell 8 _ rfl
        refine bodyPost_ret (v := .tuple #[recV noRec, .int .i64 er]) (by simp [results, Tryz.results60, go_sem, noRec, q0, q1, q2, q3, q4, q5, q6, q7, q8]) rfl ⟨by rw [ET4.out, EE3.out], by rw [EU.out]; exact RR, GB⟩
end Go.Proofs.YtlpdhglibgnkoaaGreat
