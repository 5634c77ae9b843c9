/-
  Texts Rec15, Rec16 in one.
-/
import Derived.Test.YtlpdhglibgnkoaaGreatP12
namespace Go.Proofs.YtlpdhglibgnkoaaGreat
open Go.RowKit
set_option linter.unusedVariables false

theorem ch9 {M : Nat} {w : World} {x0 x1 x2 x3 x4 x5 x6 x7 x8 : Value} :
    Ch M w (((((((((w.setCell ⟨M, 0, none⟩ x0).setCell ⟨M, 1, none⟩ x1).setCell ⟨M, 2, none⟩ x2).setCell ⟨M, 3, none⟩ x3).setCell ⟨M, 4, none⟩ x4).setCell ⟨M, 5, none⟩ x5).setCell ⟨M, 6, none⟩ x6).setCell ⟨M, 7, none⟩ x7).setCell ⟨M, 8, none⟩ x8) :=
  (((((((((Ch.refl M w).set 0 _).set 1 _).set 2 _).set 3 _).set 4 _).set 5 _).set 6 _).set 7 _).set 8 _
theorem ch_nine {R b : Nat} {a w : World} {x0 x1 x2 x3 x4 x5 x6 x7 x8 : Value} (h : Ch R a w) (hR : R ≤ a.heap.size) (hb : a.heap.size ≤ b) :
    Ch R a (((((((((w.setCell ⟨b, 0, none⟩ x0).setCell ⟨b, 1, none⟩ x1).setCell ⟨b, 2, none⟩ x2).setCell ⟨b, 3, none⟩ x3).setCell ⟨b, 4, none⟩ x4).setCell ⟨b, 5, none⟩ x5).setCell ⟨b, 6, none⟩ x6).setCell ⟨b, 7, none⟩ x7).setCell ⟨b, 8, none⟩ x8) :=
  ((((((((h.setNew hR hb _).setNew hR hb _).setNew hR hb _).setNew hR hb _).setNew hR hb _).setNew hR hb _).setNew hR hb _).setNew hR hb _).setNew hR hb _
theorem uintA_min (m : Int) (s : St) : 0 ≤ uintA m s := (uintA_bd m s).1
set_option maxRecDepth 8000 in
set_option maxHeartbeats 8000000 in
theorem rec_take (w : World) (K R : Nat) (s : St) (last : Int) (l0 : -1 ≤ last) (l1 : last ≤ 65535) (h : Rdr w K R s) : Calls Tryz.prog 139 #[.pointer (some ⟨R, 0, none⟩), .int .i64 last] w fun e w' =>
    e = .returned (recV (takT s last)) ∧ Rdr w' K R (takS s last) ∧ Ch R w w' := by
  have HR : Hid (Rdr w K R s) := h
  have lt := h.lt
  have hK := h.hK
  have HBy : Hid (Bytes s.l) := h.bytes
  clear h
  obtain ⟨T, hT⟩ : ∃ T, takT s last = T := ⟨_, rfl⟩
  obtain ⟨U, hU⟩ : ∃ U, takS s last = U := ⟨_, rfl⟩
  have HT : Hid (takT s last = T) := hT
  have HU : Hid (takS s last = U) := hU
  rw [hT, hU]
  clear hT hU
  go_enter Tryz.func139, Tryz.ntmps139
  by_cases h65 : last = 65535
  · have ET : noRec = T := by rw [← HT.out]; unfold takT; rw [if_pos h65]
    have EU : failS s 10 = U := by rw [← HU.out]; unfold takS; rw [if_pos h65]
    clear HT HU
    subst h65
    go_wp2_with fail
    generalize hW : w.alloc (.cells (recA ⟨0, 0, 0, 0, 0, 0, 0, 0, 0⟩) 107) = W
    obtain ⟨X0, B0, Z0⟩ := boxed hW
    have R0 : Hid (Rdr W K R s) := HR.out.below B0 lt
    have G0 : Ch R w W := Ch.of B0 (by omega)
    obtain ⟨H, hH⟩ : ∃ H, w.heap.size = H := ⟨_, rfl⟩
    have H1 : w.heap.size ≤ H := by omega
    have H2 : H ≤ w.heap.size := by omega
    rw [hH] at X0 lt
    rw [hH]
    clear hH hW B0 Z0 HR
    refine (fail_any _ K R _ 10 R0.out).mono ?_; rintro e w1 ⟨rfl, r1, g1⟩
    have X1 := X0.ch g1 (by omega)
    have G1 := G0.trans g1
    have R1 : Hid (Rdr w1 K R (failS s 10)) := r1
    clear X0 G0 R0 g1 r1
    have xl := X1.lt
    have c0 := X1.cell 0 _ rfl
    have fc0 := X1.froz 0
    have c1 := X1.cell 1 _ rfl
    have fc1 := X1.froz 1
    have c2 := X1.cell 2 _ rfl
    have fc2 := X1.froz 2
    have c3 := X1.cell 3 _ rfl
    have fc3 := X1.froz 3
    have c4 := X1.cell 4 _ rfl
    have fc4 := X1.froz 4
    have c5 := X1.cell 5 _ rfl
    have fc5 := X1.froz 5
    have c6 := X1.cell 6 _ rfl
    have fc6 := X1.froz 6
    have c7 := X1.cell 7 _ rfl
    have fc7 := X1.froz 7
    have c8 := X1.cell 8 _ rfl
    have fc8 := X1.froz 8
    go_wp2_with fail
    have RB : Blk (((((((((w1.setCell ⟨H, 0, none⟩ (.int .i64 0)).setCell ⟨H, 1, none⟩ (.int .i64 0)).setCell ⟨H, 2, none⟩ (.int .i64 0)).setCell ⟨H, 3, none⟩ (.int .i64 0)).setCell ⟨H, 4, none⟩ (.int .i64 0)).setCell ⟨H, 5, none⟩ (.int .i64 0)).setCell ⟨H, 6, none⟩ (.int .i64 0)).setCell ⟨H, 7, none⟩ (.int .i64 0)).setCell ⟨H, 8, none⟩ (.int .u16 0)) H [.int .i64 0, .int .i64 0, .int .i64 0, .int .i64 0, .int .i64 0, .int .i64 0, .int .i64 0, .int .i64 0, .int .u16 0] := X1.nine
    have GB : Ch R w (((((((((w1.setCell ⟨H, 0, none⟩ (.int .i64 0)).setCell ⟨H, 1, none⟩ (.int .i64 0)).setCell ⟨H, 2, none⟩ (.int .i64 0)).setCell ⟨H, 3, none⟩ (.int .i64 0)).setCell ⟨H, 4, none⟩ (.int .i64 0)).setCell ⟨H, 5, none⟩ (.int .i64 0)).setCell ⟨H, 6, none⟩ (.int .i64 0)).setCell ⟨H, 7, none⟩ (.int .i64 0)).setCell ⟨H, 8, none⟩ (.int .u16 0)) := ch_nine G1 (by omega) (by omega)
    have RR : Rdr (((((((((w1.setCell ⟨H, 0, none⟩ (.int .i64 0)).setCell ⟨H, 1, none⟩ (.int .i64 0)).setCell ⟨H, 2, none⟩ (.int .i64 0)).setCell ⟨H, 3, none⟩ (.int .i64 0)).setCell ⟨H, 4, none⟩ (.int .i64 0)).setCell ⟨H, 5, none⟩ (.int .i64 0)).setCell ⟨H, 6, none⟩ (.int .i64 0)).setCell ⟨H, 7, none⟩ (.int .i64 0)).setCell ⟨H, 8, none⟩ (.int .u16 0)) K R (failS s 10) := R1.out.ch ch9 (by omega) (by omega)
    generalize (((((((((w1.setCell ⟨H, 0, none⟩ (.int .i64 0)).setCell ⟨H, 1, none⟩ (.int .i64 0)).setCell ⟨H, 2, none⟩ (.int .i64 0)).setCell ⟨H, 3, none⟩ (.int .i64 0)).setCell ⟨H, 4, none⟩ (.int .i64 0)).setCell ⟨H, 5, none⟩ (.int .i64 0)).setCell ⟨H, 6, none⟩ (.int .i64 0)).setCell ⟨H, 7, none⟩ (.int .i64 0)).setCell ⟨H, 8, none⟩ (.int .u16 0)) = W9 at RB GB RR ⊢
    have q0 := RB.cell 0 _ rfl
    have q1 := RB.cell 1 _ rfl
    have q2 := RB.cell 2 _ rfl
    have q3 := RB.cell 3 _ rfl
    have q4 := RB.cell 4 _ rfl
    have q5 := RB.cell 5 _ rfl
    have q6 := RB.cell 6 _ rfl
    have q7 := RB.cell 7 _ rfl
    have q8 := RB.cell 8 _ rfl
    refine bodyPost_ret (v := recV noRec) (by simp [results, Tryz.results139, go_sem, noRec, q0, q1, q2, q3, q4, q5, q6, q7, q8]) rfl ⟨by rw [ET], by rw [← EU]; exact RR, GB⟩
  · obtain ⟨u, hu⟩ : ∃ u, uintA (65534 - last) s = u := ⟨_, rfl⟩
    obtain ⟨s1, hs1⟩ : ∃ s1, uintS (65534 - last) s = s1 := ⟨_, rfl⟩
    have ub0 := uintA_min (65534 - last) s
    have ub1 := uintA_max (m := 65534 - last) (by omega) s
    rw [hu] at ub0 ub1
    obtain ⟨k, hk⟩ : ∃ k, byteA s1 = k := ⟨_, rfl⟩
    obtain ⟨s2, hs2⟩ : ∃ s2, byteS s1 = s2 := ⟨_, rfl⟩
    have ET : Hid (T = if 4 ≤ k then noRec else if k = 1 then updT s2 ⟨k, last + 1 + u, 0, 0, 0, 0, 0, 0, 0⟩ else if k = 2 then ⟨k, last + 1 + u, 0, 0, 0, 0, 0, 0, 0⟩ else whoT s2 ⟨k, last + 1 + u, 0, 0, 0, 0, 0, 0, 0⟩) := by
      rw [← HT.out]; unfold takT hdK hdI hdS; rw [if_neg h65, hu, hs1, hk, hs2]; rfl
    have EU : Hid (U = if 4 ≤ k then failS s2 11 else if k = 1 then updS s2 else if k = 2 then s2 else whoS s2) := by
      rw [← HU.out]; unfold takS hdK hdS; rw [if_neg h65, hs1, hk, hs2]; rfl
    have Hu : Hid (uintA (65534 - last) s = u ∧ uintS (65534 - last) s = s1) := ⟨hu, hs1⟩
    have Hk : Hid (byteA s1 = k ∧ byteS s1 = s2) := ⟨hk, hs2⟩
    clear HT HU hu hs1 hk hs2
    have wl1 : wrap64 (last + 1) = last + 1 := by unfold wrap64; omega
    go_wp2_with fail
    generalize hW : w.alloc (.cells (recA ⟨0, 0, 0, 0, 0, 0, 0, 0, 0⟩) 107) = W
    obtain ⟨X0, B0, Z0⟩ := boxed hW
    have R0 : Hid (Rdr W K R s) := HR.out.below B0 lt
    have G0 : Ch R w W := Ch.of B0 (by omega)
    obtain ⟨H, hH⟩ : ∃ H, w.heap.size = H := ⟨_, rfl⟩
    have H1 : w.heap.size ≤ H := by omega
    have H2 : H ≤ w.heap.size := by omega
    rw [hH] at X0 lt
    rw [hH]
    clear hH hW B0 Z0 HR
    rw [show (65535 : Int) - (last + 1) = 65534 - last by omega]
    refine (uint_any _ K R _ (65534 - last) R0.out).mono ?_; rw [Hu.out.1, Hu.out.2]; rintro e w1 ⟨rfl, r1, g1⟩
    have Y1 := X0.ch g1 (by omega)
    have G1 := G0.trans g1
    have R1 : Hid (Rdr w1 K R s1) := r1
    have kb := byteA_bd r1.bytes
    rw [Hk.out.1] at kb
    clear X0 G0 R0 g1 r1 Hu wl1
    have wl2 : wrap64 (last + 1 + u) = last + 1 + u := by unfold wrap64; omega
    go_wp2_with fail
    generalize hV : w1.alloc (.cells (recA ⟨0, last + 1 + u, 0, 0, 0, 0, 0, 0, 0⟩) 107) = V1
    obtain ⟨X1, bb, zz⟩ := boxed hV
    have YL := Y1.lt
    have Y2 := Y1.below bb YL
    have R2 : Hid (Rdr V1 K R s1) := R1.out.below bb (by omega)
    have G2 := G1.trans (Ch.of bb (by omega))
    obtain ⟨M, hM⟩ : ∃ M, w1.heap.size = M := ⟨_, rfl⟩
    have HM : H < M := by omega
    rw [hM] at X1
    rw [hM]
    clear hM hV bb zz Y1 R1 G1 YL
    obtain ⟨i, hi⟩ : ∃ i, last + 1 + u = i := ⟨_, rfl⟩
    rw [hi] at X1 ET wl2
    rw [hi]
    clear hi
    refine (byte_any _ K R _ R2.out).mono ?_; rw [Hk.out.1, Hk.out.2]; rintro e w3 ⟨rfl, r3, g3⟩
    have Y3 := Y2.ch g3 (by omega)
    have X3 := X1.ch g3 (by omega)
    have G3 := G2.trans g3
    have R3 : Hid (Rdr w3 K R s2) := r3
    clear Y2 X1 G2 R2 g3 r3 Hk
    have c0 := X3.cell 0 _ rfl
    have fc0 := X3.froz 0
    have xl := X3.lt
    go_wp2_with fail
    have X4 := X3.set 0 (.int .i64 k) (by simp)
    simp only [List.set] at X4
    have Y4 := Y3.other (p := ⟨M, 0, none⟩) (show M ≠ H by omega) (.int .i64 k)
    have G4 := G3.setNew (p := ⟨M, 0, none⟩) (by omega) (show w.heap.size ≤ M by omega) (.int .i64 k)
    have R4 : Hid (Rdr (w3.setCell ⟨M, 0, none⟩ (.int .i64 k)) K R s2) := R3.out.ch ((Ch.refl M _).set 0 _) (by omega) (by omega)
    generalize w3.setCell ⟨M, 0, none⟩ (.int .i64 k) = w4 at X4 Y4 G4 R4 ⊢
    clear X3 Y3 G3 R3 c0 fc0 xl
    refine (rec_kinds _).mono ?_; rintro e w5 ⟨rfl, bb⟩
    have X5 := X4.below bb X4.lt
    have Y5 := Y4.below bb Y4.lt
    have R5 : Hid (Rdr w5 K R s2) := R4.out.below bb R4.out.lt
    have G5 := G4.trans (Ch.of bb (by have := R4.out.lt; omega))
    clear X4 Y4 R4 G4 bb
    have KK : Blk (w5.alloc (.cells kindA 165)) w5.heap.size kindC := Blk.new w5 _ _ rfl
    have X6 := X5.alloc (.cells kindA 165)
    have Y6 := Y5.alloc (.cells kindA 165)
    have R6 : Hid (Rdr (w5.alloc (.cells kindA 165)) K R s2) := R5.out.below ((Below.refl _ _).alloc (Nat.le_refl _) _) R5.out.lt
    have G6 := G5.alloc (by have := R5.out.lt; omega) (.cells kindA 165)
    have x0' := X5.cell 0 _ rfl
    have xl := X5.lt
    obtain ⟨k0, k1⟩ := kb
    by_cases h4 : 4 ≤ k
    · have ET2 : noRec = T := by rw [ET.out, if_pos h4]
      have EU2 : failS s2 11 = U := by rw [EU.out, if_pos h4]
      clear ET EU
      go_wp2_with fail
      generalize w5.alloc (.cells kindA 165) = w6 at KK X6 Y6 R6 G6 ⊢
      clear KK x0' xl X5 Y5 R5 G5
      refine (fail_any _ K R _ 11 R6.out).mono ?_; rintro e w7 ⟨rfl, r7, g7⟩
      have Y7 := Y6.ch g7 (by omega)
      have G7 := G6.trans g7
      have R7 : Hid (Rdr w7 K R (failS s2 11)) := r7
      clear X6 Y6 G6 R6 g7 r7
      have yl := Y7.lt
      have c0 := Y7.cell 0 _ rfl
      have fc0 := Y7.froz 0
      have c1 := Y7.cell 1 _ rfl
      have fc1 := Y7.froz 1
      have c2 := Y7.cell 2 _ rfl
      have fc2 := Y7.froz 2
      have c3 := Y7.cell 3 _ rfl
      have fc3 := Y7.froz 3
      have c4 := Y7.cell 4 _ rfl
      have fc4 := Y7.froz 4
      have c5 := Y7.cell 5 _ rfl
      have fc5 := Y7.froz 5
      have c6 := Y7.cell 6 _ rfl
      have fc6 := Y7.froz 6
      have c7 := Y7.cell 7 _ rfl
      have fc7 := Y7.froz 7
      have c8 := Y7.cell 8 _ rfl
      have fc8 := Y7.froz 8
      go_wp2_with fail
      have RB : Blk (((((((((w7.setCell ⟨H, 0, none⟩ (.int .i64 0)).setCell ⟨H, 1, none⟩ (.int .i64 0)).setCell ⟨H, 2, none⟩ (.int .i64 0)).setCell ⟨H, 3, none⟩ (.int .i64 0)).setCell ⟨H, 4, none⟩ (.int .i64 0)).setCell ⟨H, 5, none⟩ (.int .i64 0)).setCell ⟨H, 6, none⟩ (.int .i64 0)).setCell ⟨H, 7, none⟩ (.int .i64 0)).setCell ⟨H, 8, none⟩ (.int .u16 0)) H [.int .i64 0, .int .i64 0, .int .i64 0, .int .i64 0, .int .i64 0, .int .i64 0, .int .i64 0, .int .i64 0, .int .u16 0] := Y7.nine
      have GB : Ch R w (((((((((w7.setCell ⟨H, 0, none⟩ (.int .i64 0)).setCell ⟨H, 1, none⟩ (.int .i64 0)).setCell ⟨H, 2, none⟩ (.int .i64 0)).setCell ⟨H, 3, none⟩ (.int .i64 0)).setCell ⟨H, 4, none⟩ (.int .i64 0)).setCell ⟨H, 5, none⟩ (.int .i64 0)).setCell ⟨H, 6, none⟩ (.int .i64 0)).setCell ⟨H, 7, none⟩ (.int .i64 0)).setCell ⟨H, 8, none⟩ (.int .u16 0)) := ch_nine G7 (by omega) (by omega)
      have RR : Rdr (((((((((w7.setCell ⟨H, 0, none⟩ (.int .i64 0)).setCell ⟨H, 1, none⟩ (.int .i64 0)).setCell ⟨H, 2, none⟩ (.int .i64 0)).setCell ⟨H, 3, none⟩ (.int .i64 0)).setCell ⟨H, 4, none⟩ (.int .i64 0)).setCell ⟨H, 5, none⟩ (.int .i64 0)).setCell ⟨H, 6, none⟩ (.int .i64 0)).setCell ⟨H, 7, none⟩ (.int .i64 0)).setCell ⟨H, 8, none⟩ (.int .u16 0)) K R (failS s2 11) := R7.out.ch ch9 (by omega) (by omega)
      generalize (((((((((w7.setCell ⟨H, 0, none⟩ (.int .i64 0)).setCell ⟨H, 1, none⟩ (.int .i64 0)).setCell ⟨H, 2, none⟩ (.int .i64 0)).setCell ⟨H, 3, none⟩ (.int .i64 0)).setCell ⟨H, 4, none⟩ (.int .i64 0)).setCell ⟨H, 5, none⟩ (.int .i64 0)).setCell ⟨H, 6, none⟩ (.int .i64 0)).setCell ⟨H, 7, none⟩ (.int .i64 0)).setCell ⟨H, 8, none⟩ (.int .u16 0)) = W9 at RB GB RR ⊢
      have q0 := RB.cell 0 _ rfl
      have q1 := RB.cell 1 _ rfl
      have q2 := RB.cell 2 _ rfl
      have q3 := RB.cell 3 _ rfl
      have q4 := RB.cell 4 _ rfl
      have q5 := RB.cell 5 _ rfl
      have q6 := RB.cell 6 _ rfl
      have q7 := RB.cell 7 _ rfl
      have q8 := RB.cell 8 _ rfl
      refine bodyPost_ret (v := recV noRec) (by simp [results, Tryz.results139, go_sem, noRec, q0, q1, q2, q3, q4, q5, q6, q7, q8]) rfl ⟨by rw [ET2], by rw [← EU2]; exact RR, GB⟩
    by_cases g0 : k = 0
    · have ET2 : Hid (T = whoT s2 ⟨k, i, 0, 0, 0, 0, 0, 0, 0⟩) := by have h := ET.out; rw [if_neg h4, if_neg (by omega), if_neg (by omega)] at h; exact h
      have EU2 : Hid (U = whoS s2) := by have h := EU.out; rw [if_neg h4, if_neg (by omega), if_neg (by omega)] at h; exact h
      clear ET EU
      subst g0
      have kf := KK.cell 2 _ rfl
      have kl := KK.lt
      go_wp2_with fail
      generalize w5.alloc (.cells kindA 165) = w6 at KK X6 Y6 R6 G6 kf kl ⊢
      clear x0' xl X5 Y5 R5 G5 kf kl KK
      refine (rec_readWhole _ K R M s2 ⟨0, i, 0, 0, 0, 0, 0, 0, 0⟩ R6.out X6 (by omega)).mono ?_; rintro e w7 ⟨rfl, r7, X7, g7⟩
      have Y7 := Y6.ch2 g7 (by omega) (by omega)
      have G7 := Ch2.one G6 g7 (by omega)
      have R7 : Hid (Rdr w7 K R (whoS s2)) := r7
      clear X6 Y6 G6 R6 g7 r7
      obtain ⟨N, hN⟩ : ∃ N, (whoT s2 ⟨0, i, 0, 0, 0, 0, 0, 0, 0⟩ : Rc) = N := ⟨_, rfl⟩
      have EN : Hid (T = N) := by rw [← hN]; exact ET2.out
      rw [hN] at X7
      clear hN ET2
      have yl := Y7.lt
      have xl := X7.lt
      have x0 := X7.cell 0 _ rfl
      have x1 := X7.cell 1 _ rfl
      have x2 := X7.cell 2 _ rfl
      have x3 := X7.cell 3 _ rfl
      have x4 := X7.cell 4 _ rfl
      have x5 := X7.cell 5 _ rfl
      have x6 := X7.cell 6 _ rfl
      have x7 := X7.cell 7 _ rfl
      have x8 := X7.cell 8 _ rfl
      have c0 := Y7.cell 0 _ rfl
      have fc0 := Y7.froz 0
      have c1 := Y7.cell 1 _ rfl
      have fc1 := Y7.froz 1
      have c2 := Y7.cell 2 _ rfl
      have fc2 := Y7.froz 2
      have c3 := Y7.cell 3 _ rfl
      have fc3 := Y7.froz 3
      have c4 := Y7.cell 4 _ rfl
      have fc4 := Y7.froz 4
      have c5 := Y7.cell 5 _ rfl
      have fc5 := Y7.froz 5
      have c6 := Y7.cell 6 _ rfl
      have fc6 := Y7.froz 6
      have c7 := Y7.cell 7 _ rfl
      have fc7 := Y7.froz 7
      have c8 := Y7.cell 8 _ rfl
      have fc8 := Y7.froz 8
      go_wp2_with fail
      have RB : Blk (((((((((w7.setCell ⟨H, 0, none⟩ (.int .i64 N.k)).setCell ⟨H, 1, none⟩ (.int .i64 N.i)).setCell ⟨H, 2, none⟩ (.int .i64 N.p0)).setCell ⟨H, 3, none⟩ (.int .i64 N.p1)).setCell ⟨H, 4, none⟩ (.int .i64 N.p2)).setCell ⟨H, 5, none⟩ (.int .i64 N.v0)).setCell ⟨H, 6, none⟩ (.int .i64 N.v1)).setCell ⟨H, 7, none⟩ (.int .i64 N.v2)).setCell ⟨H, 8, none⟩ (.int .u16 N.a)) H [.int .i64 N.k, .int .i64 N.i, .int .i64 N.p0, .int .i64 N.p1, .int .i64 N.p2, .int .i64 N.v0, .int .i64 N.v1, .int .i64 N.v2, .int .u16 N.a] := Y7.nine
      have GB : Ch R w (((((((((w7.setCell ⟨H, 0, none⟩ (.int .i64 N.k)).setCell ⟨H, 1, none⟩ (.int .i64 N.i)).setCell ⟨H, 2, none⟩ (.int .i64 N.p0)).setCell ⟨H, 3, none⟩ (.int .i64 N.p1)).setCell ⟨H, 4, none⟩ (.int .i64 N.p2)).setCell ⟨H, 5, none⟩ (.int .i64 N.v0)).setCell ⟨H, 6, none⟩ (.int .i64 N.v1)).setCell ⟨H, 7, none⟩ (.int .i64 N.v2)).setCell ⟨H, 8, none⟩ (.int .u16 N.a)) := ch_nine G7 (by omega) (by omega)
      have RR : Rdr (((((((((w7.setCell ⟨H, 0, none⟩ (.int .i64 N.k)).setCell ⟨H, 1, none⟩ (.int .i64 N.i)).setCell ⟨H, 2, none⟩ (.int .i64 N.p0)).setCell ⟨H, 3, none⟩ (.int .i64 N.p1)).setCell ⟨H, 4, none⟩ (.int .i64 N.p2)).setCell ⟨H, 5, none⟩ (.int .i64 N.v0)).setCell ⟨H, 6, none⟩ (.int .i64 N.v1)).setCell ⟨H, 7, none⟩ (.int .i64 N.v2)).setCell ⟨H, 8, none⟩ (.int .u16 N.a)) K R (whoS s2) := R7.out.ch ch9 (by omega) (by omega)
      generalize (((((((((w7.setCell ⟨H, 0, none⟩ (.int .i64 N.k)).setCell ⟨H, 1, none⟩ (.int .i64 N.i)).setCell ⟨H, 2, none⟩ (.int .i64 N.p0)).setCell ⟨H, 3, none⟩ (.int .i64 N.p1)).setCell ⟨H, 4, none⟩ (.int .i64 N.p2)).setCell ⟨H, 5, none⟩ (.int .i64 N.v0)).setCell ⟨H, 6, none⟩ (.int .i64 N.v1)).setCell ⟨H, 7, none⟩ (.int .i64 N.v2)).setCell ⟨H, 8, none⟩ (.int .u16 N.a)) = W9 at RB GB RR ⊢
      have q0 := RB.cell 0 _ rfl
      have q1 := RB.cell 1 _ rfl
      have q2 := RB.cell 2 _ rfl
      have q3 := RB.cell 3 _ rfl
      have q4 := RB.cell 4 _ rfl
      have q5 := RB.cell 5 _ rfl
      have q6 := RB.cell 6 _ rfl
      have q7 := RB.cell 7 _ rfl
      have q8 := RB.cell 8 _ rfl
      refine bodyPost_ret (v := recV N) (by simp [results, Tryz.results139, go_sem, q0, q1, q2, q3, q4, q5, q6, q7, q8]) rfl ⟨by rw [EN.out], by rw [EU2.out]; exact RR, GB⟩
    by_cases g1 : k = 1
    · have ET2 : Hid (T = updT s2 ⟨k, i, 0, 0, 0, 0, 0, 0, 0⟩) := by have h := ET.out; rw [if_neg h4, if_pos g1] at h; exact h
      have EU2 : Hid (U = updS s2) := by have h := EU.out; rw [if_neg h4, if_pos g1] at h; exact h
      clear ET EU
      subst g1
      have kf := KK.cell 5 _ rfl
      have kl := KK.lt
      go_wp2_with fail
      generalize w5.alloc (.cells kindA 165) = w6 at KK X6 Y6 R6 G6 kf kl ⊢
      clear x0' xl X5 Y5 R5 G5 kf kl KK
      refine (rec_readUpdate _ K R M s2 ⟨1, i, 0, 0, 0, 0, 0, 0, 0⟩ R6.out X6 (by omega) rfl).mono ?_; rintro e w7 ⟨rfl, r7, X7, g7⟩
      have Y7 := Y6.ch2 g7 (by omega) (by omega)
      have G7 := Ch2.one G6 g7 (by omega)
      have R7 : Hid (Rdr w7 K R (updS s2)) := r7
      clear X6 Y6 G6 R6 g7 r7
      obtain ⟨N, hN⟩ : ∃ N, (updT s2 ⟨1, i, 0, 0, 0, 0, 0, 0, 0⟩ : Rc) = N := ⟨_, rfl⟩
      have EN : Hid (T = N) := by rw [← hN]; exact ET2.out
      rw [hN] at X7
      clear hN ET2
      have yl := Y7.lt
      have xl := X7.lt
      have x0 := X7.cell 0 _ rfl
      have x1 := X7.cell 1 _ rfl
      have x2 := X7.cell 2 _ rfl
      have x3 := X7.cell 3 _ rfl
      have x4 := X7.cell 4 _ rfl
      have x5 := X7.cell 5 _ rfl
      have x6 := X7.cell 6 _ rfl
      have x7 := X7.cell 7 _ rfl
      have x8 := X7.cell 8 _ rfl
      have c0 := Y7.cell 0 _ rfl
      have fc0 := Y7.froz 0
      have c1 := Y7.cell 1 _ rfl
      have fc1 := Y7.froz 1
      have c2 := Y7.cell 2 _ rfl
      have fc2 := Y7.froz 2
      have c3 := Y7.cell 3 _ rfl
      have fc3 := Y7.froz 3
      have c4 := Y7.cell 4 _ rfl
      have fc4 := Y7.froz 4
      have c5 := Y7.cell 5 _ rfl
      have fc5 := Y7.froz 5
      have c6 := Y7.cell 6 _ rfl
      have fc6 := Y7.froz 6
      have c7 := Y7.cell 7 _ rfl
      have fc7 := Y7.froz 7
      have c8 := Y7.cell 8 _ rfl
      have fc8 := Y7.froz 8
      go_wp2_with fail
      have RB : Blk (((((((((w7.setCell ⟨H, 0, none⟩ (.int .i64 N.k)).setCell ⟨H, 1, none⟩ (.int .i64 N.i)).setCell ⟨H, 2, none⟩ (.int .i64 N.p0)).setCell ⟨H, 3, none⟩ (.int .i64 N.p1)).setCell ⟨H, 4, none⟩ (.int .i64 N.p2)).setCell ⟨H, 5, none⟩ (.int .i64 N.v0)).setCell ⟨H, 6, none⟩ (.int .i64 N.v1)).setCell ⟨H, 7, none⟩ (.int .i64 N.v2)).setCell ⟨H, 8, none⟩ (.int .u16 N.a)) H [.int .i64 N.k, .int .i64 N.i, .int .i64 N.p0, .int .i64 N.p1, .int .i64 N.p2, .int .i64 N.v0, .int .i64 N.v1, .int .i64 N.v2, .int .u16 N.a] := Y7.nine
      have GB : Ch R w (((((((((w7.setCell ⟨H, 0, none⟩ (.int .i64 N.k)).setCell ⟨H, 1, none⟩ (.int .i64 N.i)).setCell ⟨H, 2, none⟩ (.int .i64 N.p0)).setCell ⟨H, 3, none⟩ (.int .i64 N.p1)).setCell ⟨H, 4, none⟩ (.int .i64 N.p2)).setCell ⟨H, 5, none⟩ (.int .i64 N.v0)).setCell ⟨H, 6, none⟩ (.int .i64 N.v1)).setCell ⟨H, 7, none⟩ (.int .i64 N.v2)).setCell ⟨H, 8, none⟩ (.int .u16 N.a)) := ch_nine G7 (by omega) (by omega)
      have RR : Rdr (((((((((w7.setCell ⟨H, 0, none⟩ (.int .i64 N.k)).setCell ⟨H, 1, none⟩ (.int .i64 N.i)).setCell ⟨H, 2, none⟩ (.int .i64 N.p0)).setCell ⟨H, 3, none⟩ (.int .i64 N.p1)).setCell ⟨H, 4, none⟩ (.int .i64 N.p2)).setCell ⟨H, 5, none⟩ (.int .i64 N.v0)).setCell ⟨H, 6, none⟩ (.int .i64 N.v1)).setCell ⟨H, 7, none⟩ (.int .i64 N.v2)).setCell ⟨H, 8, none⟩ (.int .u16 N.a)) K R (updS s2) := R7.out.ch ch9 (by omega) (by omega)
      generalize (((((((((w7.setCell ⟨H, 0, none⟩ (.int .i64 N.k)).setCell ⟨H, 1, none⟩ (.int .i64 N.i)).setCell ⟨H, 2, none⟩ (.int .i64 N.p0)).setCell ⟨H, 3, none⟩ (.int .i64 N.p1)).setCell ⟨H, 4, none⟩ (.int .i64 N.p2)).setCell ⟨H, 5, none⟩ (.int .i64 N.v0)).setCell ⟨H, 6, none⟩ (.int .i64 N.v1)).setCell ⟨H, 7, none⟩ (.int .i64 N.v2)).setCell ⟨H, 8, none⟩ (.int .u16 N.a)) = W9 at RB GB RR ⊢
      have q0 := RB.cell 0 _ rfl
      have q1 := RB.cell 1 _ rfl
      have q2 := RB.cell 2 _ rfl
      have q3 := RB.cell 3 _ rfl
      have q4 := RB.cell 4 _ rfl
      have q5 := RB.cell 5 _ rfl
      have q6 := RB.cell 6 _ rfl
      have q7 := RB.cell 7 _ rfl
      have q8 := RB.cell 8 _ rfl
      refine bodyPost_ret (v := recV N) (by simp [results, Tryz.results139, go_sem, q0, q1, q2, q3, q4, q5, q6, q7, q8]) rfl ⟨by rw [EN.out], by rw [EU2.out]; exact RR, GB⟩
    by_cases g2 : k = 2
    · have ET2 : Hid (T = ⟨k, i, 0, 0, 0, 0, 0, 0, 0⟩) := by have h := ET.out; rw [if_neg h4, if_neg (by omega), if_pos g2] at h; exact h
      have EU2 : Hid (U = s2) := by have h := EU.out; rw [if_neg h4, if_neg (by omega), if_pos g2] at h; exact h
      clear ET EU
      subst g2
      have kf := KK.cell 8 _ rfl
      have kl := KK.lt
      go_wp2_with fail
      generalize w5.alloc (.cells kindA 165) = w6 at KK X6 Y6 R6 G6 kf kl ⊢
      clear x0' xl X5 Y5 R5 G5 kf kl KK
      refine (rec_readNothing _ R M).mono ?_; rintro e w7 ⟨rfl, rfl⟩
      have X7 := X6
      have Y7 := Y6
      have G7 := G6
      have R7 := R6
      clear X6 Y6 G6 R6
      obtain ⟨N, hN⟩ : ∃ N, (⟨2, i, 0, 0, 0, 0, 0, 0, 0⟩ : Rc) = N := ⟨_, rfl⟩
      have EN : Hid (T = N) := by rw [← hN]; exact ET2.out
      have X7 : Blk w7 M (recC N) := by rw [← hN]; exact X7
      clear hN ET2
      have yl := Y7.lt
      have xl := X7.lt
      have x0 := X7.cell 0 _ rfl
      have x1 := X7.cell 1 _ rfl
      have x2 := X7.cell 2 _ rfl
      have x3 := X7.cell 3 _ rfl
      have x4 := X7.cell 4 _ rfl
      have x5 := X7.cell 5 _ rfl
      have x6 := X7.cell 6 _ rfl
      have x7 := X7.cell 7 _ rfl
      have x8 := X7.cell 8 _ rfl
      have c0 := Y7.cell 0 _ rfl
      have fc0 := Y7.froz 0
      have c1 := Y7.cell 1 _ rfl
      have fc1 := Y7.froz 1
      have c2 := Y7.cell 2 _ rfl
      have fc2 := Y7.froz 2
      have c3 := Y7.cell 3 _ rfl
      have fc3 := Y7.froz 3
      have c4 := Y7.cell 4 _ rfl
      have fc4 := Y7.froz 4
      have c5 := Y7.cell 5 _ rfl
      have fc5 := Y7.froz 5
      have c6 := Y7.cell 6 _ rfl
      have fc6 := Y7.froz 6
      have c7 := Y7.cell 7 _ rfl
      have fc7 := Y7.froz 7
      have c8 := Y7.cell 8 _ rfl
      have fc8 := Y7.froz 8
      go_wp2_with fail
      have RB : Blk (((((((((w7.setCell ⟨H, 0, none⟩ (.int .i64 N.k)).setCell ⟨H, 1, none⟩ (.int .i64 N.i)).setCell ⟨H, 2, none⟩ (.int .i64 N.p0)).setCell ⟨H, 3, none⟩ (.int .i64 N.p1)).setCell ⟨H, 4, none⟩ (.int .i64 N.p2)).setCell ⟨H, 5, none⟩ (.int .i64 N.v0)).setCell ⟨H, 6, none⟩ (.int .i64 N.v1)).setCell ⟨H, 7, none⟩ (.int .i64 N.v2)).setCell ⟨H, 8, none⟩ (.int .u16 N.a)) H [.int .i64 N.k, .int .i64 N.i, .int .i64 N.p0, .int .i64 N.p1, .int .i64 N.p2, .int .i64 N.v0, .int .i64 N.v1, .int .i64 N.v2, .int .u16 N.a] := Y7.nine
      have GB : Ch R w (((((((((w7.setCell ⟨H, 0, none⟩ (.int .i64 N.k)).setCell ⟨H, 1, none⟩ (.int .i64 N.i)).setCell ⟨H, 2, none⟩ (.int .i64 N.p0)).setCell ⟨H, 3, none⟩ (.int .i64 N.p1)).setCell ⟨H, 4, none⟩ (.int .i64 N.p2)).setCell ⟨H, 5, none⟩ (.int .i64 N.v0)).setCell ⟨H, 6, none⟩ (.int .i64 N.v1)).setCell ⟨H, 7, none⟩ (.int .i64 N.v2)).setCell ⟨H, 8, none⟩ (.int .u16 N.a)) := ch_nine G7 (by omega) (by omega)
      have RR : Rdr (((((((((w7.setCell ⟨H, 0, none⟩ (.int .i64 N.k)).setCell ⟨H, 1, none⟩ (.int .i64 N.i)).setCell ⟨H, 2, none⟩ (.int .i64 N.p0)).setCell ⟨H, 3, none⟩ (.int .i64 N.p1)).setCell ⟨H, 4, none⟩ (.int .i64 N.p2)).setCell ⟨H, 5, none⟩ (.int .i64 N.v0)).setCell ⟨H, 6, none⟩ (.int .i64 N.v1)).setCell ⟨H, 7, none⟩ (.int .i64 N.v2)).setCell ⟨H, 8, none⟩ (.int .u16 N.a)) K R (s2) := R7.out.ch ch9 (by omega) (by omega)
      generalize (((((((((w7.setCell ⟨H, 0, none⟩ (.int .i64 N.k)).setCell ⟨H, 1, none⟩ (.int .i64 N.i)).setCell ⟨H, 2, none⟩ (.int .i64 N.p0)).setCell ⟨H, 3, none⟩ (.int .i64 N.p1)).setCell ⟨H, 4, none⟩ (.int .i64 N.p2)).setCell ⟨H, 5, none⟩ (.int .i64 N.v0)).setCell ⟨H, 6, none⟩ (.int .i64 N.v1)).setCell ⟨H, 7, none⟩ (.int .i64 N.v2)).setCell ⟨H, 8, none⟩ (.int .u16 N.a)) = W9 at RB GB RR ⊢
      have q0 := RB.cell 0 _ rfl
      have q1 := RB.cell 1 _ rfl
      have q2 := RB.cell 2 _ rfl
      have q3 := RB.cell 3 _ rfl
      have q4 := RB.cell 4 _ rfl
      have q5 := RB.cell 5 _ rfl
      have q6 := RB.cell 6 _ rfl
      have q7 := RB.cell 7 _ rfl
      have q8 := RB.cell 8 _ rfl
      refine bodyPost_ret (v := recV N) (by simp [results, Tryz.results139, go_sem, q0, q1, q2, q3, q4, q5, q6, q7, q8]) rfl ⟨by rw [EN.out], by rw [EU2.out]; exact RR, GB⟩
    · have g3 : k = 3 := by omega
      have ET2 : Hid (T = whoT s2 ⟨k, i, 0, 0, 0, 0, 0, 0, 0⟩) := by have h := ET.out; rw [if_neg h4, if_neg (by omega), if_neg (by omega)] at h; exact h
      have EU2 : Hid (U = whoS s2) := by have h := EU.out; rw [if_neg h4, if_neg (by omega), if_neg (by omega)] at h; exact h
      clear ET EU
      subst g3
      have kf := KK.cell 11 _ rfl
      have kl := KK.lt
      go_wp2_with fail
      generalize w5.alloc (.cells kindA 165) = w6 at KK X6 Y6 R6 G6 kf kl ⊢
      clear x0' xl X5 Y5 R5 G5 kf kl KK
      refine (rec_readWhole _ K R M s2 ⟨3, i, 0, 0, 0, 0, 0, 0, 0⟩ R6.out X6 (by omega)).mono ?_; rintro e w7 ⟨rfl, r7, X7, g7⟩
      have Y7 := Y6.ch2 g7 (by omega) (by omega)
      have G7 := Ch2.one G6 g7 (by omega)
      have R7 : Hid (Rdr w7 K R (whoS s2)) := r7
      clear X6 Y6 G6 R6 g7 r7
      obtain ⟨N, hN⟩ : ∃ N, (whoT s2 ⟨3, i, 0, 0, 0, 0, 0, 0, 0⟩ : Rc) = N := ⟨_, rfl⟩
      have EN : Hid (T = N) := by rw [← hN]; exact ET2.out
      rw [hN] at X7
      clear hN ET2
      have yl := Y7.lt
      have xl := X7.lt
      have x0 := X7.cell 0 _ rfl
      have x1 := X7.cell 1 _ rfl
      have x2 := X7.cell 2 _ rfl
      have x3 := X7.cell 3 _ rfl
      have x4 := X7.cell 4 _ rfl
      have x5 := X7.cell 5 _ rfl
      have x6 := X7.cell 6 _ rfl
      have x7 := X7.cell 7 _ rfl
      have x8 := X7.cell 8 _ rfl
      have c0 := Y7.cell 0 _ rfl
      have fc0 := Y7.froz 0
      have c1 := Y7.cell 1 _ rfl
      have fc1 := Y7.froz 1
      have c2 := Y7.cell 2 _ rfl
      have fc2 := Y7.froz 2
      have c3 := Y7.cell 3 _ rfl
      have fc3 := Y7.froz 3
      have c4 := Y7.cell 4 _ rfl
      have fc4 := Y7.froz 4
      have c5 := Y7.cell 5 _ rfl
      have fc5 := Y7.froz 5
      have c6 := Y7.cell 6 _ rfl
      have fc6 := Y7.froz 6
      have c7 := Y7.cell 7 _ rfl
      have fc7 := Y7.froz 7
      have c8 := Y7.cell 8 _ rfl
      have fc8 := Y7.froz 8
      go_wp2_with fail
      have RB : Blk (((((((((w7.setCell ⟨H, 0, none⟩ (.int .i64 N.k)).setCell ⟨H, 1, none⟩ (.int .i64 N.i)).setCell ⟨H, 2, none⟩ (.int .i64 N.p0)).setCell ⟨H, 3, none⟩ (.int .i64 N.p1)).setCell ⟨H, 4, none⟩ (.int .i64 N.p2)).setCell ⟨H, 5, none⟩ (.int .i64 N.v0)).setCell ⟨H, 6, none⟩ (.int .i64 N.v1)).setCell ⟨H, 7, none⟩ (.int .i64 N.v2)).setCell ⟨H, 8, none⟩ (.int .u16 N.a)) H [.int .i64 N.k, .int .i64 N.i, .int .i64 N.p0, .int .i64 N.p1, .int .i64 N.p2, .int .i64 N.v0, .int .i64 N.v1, .int .i64 N.v2, .int .u16 N.a] := Y7.nine
      have GB : Ch R w (((((((((w7.setCell ⟨H, 0, none⟩ (.int .i64 N.k)).setCell ⟨H, 1, none⟩ (.int .i64 N.i)).setCell ⟨H, 2, none⟩ (.int .i64 N.p0)).setCell ⟨H, 3, none⟩ (.int .i64 N.p1)).setCell ⟨H, 4, none⟩ (.int .i64 N.p2)).setCell ⟨H, 5, none⟩ (.int .i64 N.v0)).setCell ⟨H, 6, none⟩ (.int .i64 N.v1)).setCell ⟨H, 7, none⟩ (.int .i64 N.v2)).setCell ⟨H, 8, none⟩ (.int .u16 N.a)) := ch_nine G7 (by omega) (by omega)
      have RR : Rdr (((((((((w7.setCell ⟨H, 0, none⟩ (.int .i64 N.k)).setCell ⟨H, 1, none⟩ (.int .i64 N.i)).setCell ⟨H, 2, none⟩ (.int .i64 N.p0)).setCell ⟨H, 3, none⟩ (.int .i64 N.p1)).setCell ⟨H, 4, none⟩ (.int .i64 N.p2)).setCell ⟨H, 5, none⟩ (.int .i64 N.v0)).setCell ⟨H, 6, none⟩ (.int .i64 N.v1)).setCell ⟨H, 7, none⟩ (.int .i64 N.v2)).setCell ⟨H, 8, none⟩ (.int .u16 N.a)) K R (whoS s2) := R7.out.ch ch9 (by omega) (by omega)
      generalize (((((((((w7.setCell ⟨H, 0, none⟩ (.int .i64 N.k)).setCell ⟨H, 1, none⟩ (.int .i64 N.i)).setCell ⟨H, 2, none⟩ (.int .i64 N.p0)).setCell ⟨H, 3, none⟩ (.int .i64 N.p1)).setCell ⟨H, 4, none⟩ (.int .i64 N.p2)).setCell ⟨H, 5, none⟩ (.int .i64 N.v0)).setCell ⟨H, 6, none⟩ (.int .i64 N.v1)).setCell ⟨H, 7, none⟩ (.int .i64 N.v2)).setCell ⟨H, 8, none⟩ (.int .u16 N.a)) = W9 at RB GB RR ⊢
      have q0 := RB.cell 0 _ rfl
      have q1 := RB.cell 1 _ rfl
      have q2 := RB.cell 2 _ rfl
      have q3 := RB.cell 3 _ rfl
      have q4 := RB.cell 4 _ rfl
      have q5 := RB.cell 5 _ rfl
      have q6 := RB.cell 6 _ rfl
      have q7 := RB.cell 7 _ rfl
      have q8 := RB.cell 8 _ rfl
      refine bodyPost_ret (v := recV N) (by simp [results, Tryz.results139, go_sem, q0, q1, q2, q3, q4, q5, q6, q7, q8]) rfl ⟨by rw [EN.out], by rw [EU2.out]; exact RR, GB⟩
end Go.Proofs.YtlpdhglibgnkoaaGreat

namespace Go.Proofs.YtlpdhglibgnkoaaGreat
open Go.RowKit
set_option linter.unusedVariables false

set_option maxRecDepth 8000 in
set_option maxHeartbeats 8000000 in
theorem rec_read (w : World) (K R : Nat) (s : St) (last : Int) (h : Rdr w K R s) : Calls Tryz.prog 112 #[.pointer (some ⟨R, 0, none⟩), .int .i64 last] w fun e w' =>
    e = .returned (.tuple #[recV (redT s last), .int .i64 (redE s last)]) ∧ Rdr w' K R (redS s last) ∧ Ch R w w' := by
  have HR : Hid (Rdr w K R s) := h
  have lt := h.lt
  have hK := h.hK
  clear h
  obtain ⟨T, hT⟩ : ∃ T, redT s last = T := ⟨_, rfl⟩
  obtain ⟨U, hU⟩ : ∃ U, redS s last = U := ⟨_, rfl⟩
  obtain ⟨E, hE⟩ : ∃ E, redE s last = E := ⟨_, rfl⟩
  have HT : Hid (redT s last = T) := hT
  have HU : Hid (redS s last = U) := hU
  have HE : Hid (redE s last = E) := hE
  rw [hT, hU, hE]
  clear hT hU hE
  go_enter Tryz.func112, Tryz.ntmps112
  go_wp2_with fail
  generalize hW : w.alloc (.cells (recA ⟨0, 0, 0, 0, 0, 0, 0, 0, 0⟩) 107) = W
  obtain ⟨X0, B0, Z0⟩ := boxed hW
  have R0 : Hid (Rdr W K R s) := HR.out.below B0 lt
  have G0 : Ch R w W := Ch.of B0 (by omega)
  obtain ⟨H, hH⟩ : ∃ H, w.heap.size = H := ⟨_, rfl⟩
  have H1 : w.heap.size ≤ H := by omega
  have H2 : H ≤ w.heap.size := by omega
  rw [hH] at X0 lt
  rw [hH]
  clear hH hW B0 Z0 HR
  refine (rec_isLast _ last).mono ?_; rintro e W' ⟨rfl, rfl⟩
  by_cases hb : -1 ≤ last ∧ last ≤ 65535
  · have LB : lastB last = true := by unfold lastB; rw [decide_eq_true hb]
    rw [decide_eq_true hb]
    obtain ⟨l0, l1⟩ := hb
    obtain ⟨q, hq⟩ : ∃ q, takS s last = q := ⟨_, rfl⟩
    obtain ⟨N, hN⟩ : ∃ N, takT s last = N := ⟨_, rfl⟩
    have EU : U = q := by rw [← HU.out]; unfold redS; rw [LB, hq]; rfl
    have EE : E = q.e := by rw [← HE.out]; unfold redE; rw [LB, hq]; rfl
    have ET : T = if q.e = 0 then N else noRec := by rw [← HT.out]; unfold redT; rw [LB, hq, hN]; rfl
    have HQ : Hid (takS s last = q ∧ takT s last = N) := ⟨hq, hN⟩
    have EU' : Hid (U = q) := EU
    have EE' : Hid (E = q.e) := EE
    have ET' : Hid (T = if q.e = 0 then N else noRec) := ET
    clear HT HU HE hq hN EU EE ET LB
    go_wp2_with fail
    refine (rec_take _ K R s last l0 l1 R0.out).mono ?_; rw [HQ.out.1, HQ.out.2]; rintro e w1 ⟨rfl, r1, g1⟩
    have Y1 := X0.ch g1 (by omega)
    have G1 := G0.trans g1
    have R1 : Hid (Rdr w1 K R q) := r1
    have yl1 := Y1.lt
    clear X0 G0 R0 g1 r1 HQ
    go_wp2_with fail
    generalize hV : w1.alloc (.cells (recA N) 107) = V1
    obtain ⟨X2, bb, zz⟩ := boxed hV
    have Y2 := Y1.below bb yl1
    have R2 : Hid (Rdr V1 K R q) := R1.out.below bb R1.out.lt
    have G2 := G1.trans (Ch.of bb (by omega))
    obtain ⟨M, hM⟩ : ∃ M, w1.heap.size = M := ⟨_, rfl⟩
    have HM : H < M := by omega
    rw [hM] at X2
    rw [hM]
    clear hM hV bb zz Y1 R1 G1 yl1
    refine (err_any _ K R q R2.out).mono ?_; rintro e W2 ⟨rfl, rfl⟩
    obtain ⟨er, her⟩ : ∃ er, q.e = er := ⟨_, rfl⟩
    rw [her] at EE' ET'
    rw [her]
    clear her
    have yl := Y2.lt
    have xl := X2.lt
    have x0 := X2.cell 0 _ rfl
    have x1 := X2.cell 1 _ rfl
    have x2 := X2.cell 2 _ rfl
    have x3 := X2.cell 3 _ rfl
    have x4 := X2.cell 4 _ rfl
    have x5 := X2.cell 5 _ rfl
    have x6 := X2.cell 6 _ rfl
    have x7 := X2.cell 7 _ rfl
    have x8 := X2.cell 8 _ rfl
    have c0 := Y2.cell 0 _ rfl
    have fc0 := Y2.froz 0
    have c1 := Y2.cell 1 _ rfl
    have fc1 := Y2.froz 1
    have c2 := Y2.cell 2 _ rfl
    have fc2 := Y2.froz 2
    have c3 := Y2.cell 3 _ rfl
    have fc3 := Y2.froz 3
    have c4 := Y2.cell 4 _ rfl
    have fc4 := Y2.froz 4
    have c5 := Y2.cell 5 _ rfl
    have fc5 := Y2.froz 5
    have c6 := Y2.cell 6 _ rfl
    have fc6 := Y2.froz 6
    have c7 := Y2.cell 7 _ rfl
    have fc7 := Y2.froz 7
    have c8 := Y2.cell 8 _ rfl
    have fc8 := Y2.froz 8
    by_cases e0 : er = 0
    · have ET2 : Hid (T = N) := by have h := ET'.out; rw [if_pos e0] at h; exact h
      subst e0
      clear ET'
      go_wp2_with fail
      have RB : Blk (((((((((W2.setCell ⟨H, 0, none⟩ (.int .i64 N.k)).setCell ⟨H, 1, none⟩ (.int .i64 N.i)).setCell ⟨H, 2, none⟩ (.int .i64 N.p0)).setCell ⟨H, 3, none⟩ (.int .i64 N.p1)).setCell ⟨H, 4, none⟩ (.int .i64 N.p2)).setCell ⟨H, 5, none⟩ (.int .i64 N.v0)).setCell ⟨H, 6, none⟩ (.int .i64 N.v1)).setCell ⟨H, 7, none⟩ (.int .i64 N.v2)).setCell ⟨H, 8, none⟩ (.int .u16 N.a)) H [.int .i64 N.k, .int .i64 N.i, .int .i64 N.p0, .int .i64 N.p1, .int .i64 N.p2, .int .i64 N.v0, .int .i64 N.v1, .int .i64 N.v2, .int .u16 N.a] := Y2.nine
      have GB : Ch R w (((((((((W2.setCell ⟨H, 0, none⟩ (.int .i64 N.k)).setCell ⟨H, 1, none⟩ (.int .i64 N.i)).setCell ⟨H, 2, none⟩ (.int .i64 N.p0)).setCell ⟨H, 3, none⟩ (.int .i64 N.p1)).setCell ⟨H, 4, none⟩ (.int .i64 N.p2)).setCell ⟨H, 5, none⟩ (.int .i64 N.v0)).setCell ⟨H, 6, none⟩ (.int .i64 N.v1)).setCell ⟨H, 7, none⟩ (.int .i64 N.v2)).setCell ⟨H, 8, none⟩ (.int .u16 N.a)) := ch_nine G2 (by omega) (by omega)
      have RR : Rdr (((((((((W2.setCell ⟨H, 0, none⟩ (.int .i64 N.k)).setCell ⟨H, 1, none⟩ (.int .i64 N.i)).setCell ⟨H, 2, none⟩ (.int .i64 N.p0)).setCell ⟨H, 3, none⟩ (.int .i64 N.p1)).setCell ⟨H, 4, none⟩ (.int .i64 N.p2)).setCell ⟨H, 5, none⟩ (.int .i64 N.v0)).setCell ⟨H, 6, none⟩ (.int .i64 N.v1)).setCell ⟨H, 7, none⟩ (.int .i64 N.v2)).setCell ⟨H, 8, none⟩ (.int .u16 N.a)) K R (q) := R2.out.ch ch9 (by omega) (by omega)
      generalize (((((((((W2.setCell ⟨H, 0, none⟩ (.int .i64 N.k)).setCell ⟨H, 1, none⟩ (.int .i64 N.i)).setCell ⟨H, 2, none⟩ (.int .i64 N.p0)).setCell ⟨H, 3, none⟩ (.int .i64 N.p1)).setCell ⟨H, 4, none⟩ (.int .i64 N.p2)).setCell ⟨H, 5, none⟩ (.int .i64 N.v0)).setCell ⟨H, 6, none⟩ (.int .i64 N.v1)).setCell ⟨H, 7, none⟩ (.int .i64 N.v2)).setCell ⟨H, 8, none⟩ (.int .u16 N.a)) = W9 at RB GB RR ⊢
      have q0 := RB.cell 0 _ rfl
      have q1 := RB.cell 1 _ rfl
      have q2 := RB.cell 2 _ rfl
      have q3 := RB.cell 3 _ rfl
      have q4 := RB.cell 4 _ rfl
      have q5 := RB.cell 5 _ rfl
      have q6 := RB.cell 6 _ rfl
      have q7 := RB.cell 7 _ rfl
      have q8 := RB.cell 8 _ rfl
      refine bodyPost_ret (v := .tuple #[recV N, .int .i64 0]) (by simp [results, Tryz.results112, go_sem, q0, q1, q2, q3, q4, q5, q6, q7, q8]) rfl ⟨by rw [ET2.out, EE'.out], by rw [EU'.out]; exact RR, GB⟩
    · have ET2 : Hid (T = noRec) := by have h := ET'.out; rw [if_neg e0] at h; exact h
      clear ET'
      go_wp2_with fail
      have RB : Blk (((((((((W2.setCell ⟨H, 0, none⟩ (.int .i64 0)).setCell ⟨H, 1, none⟩ (.int .i64 0)).setCell ⟨H, 2, none⟩ (.int .i64 0)).setCell ⟨H, 3, none⟩ (.int .i64 0)).setCell ⟨H, 4, none⟩ (.int .i64 0)).setCell ⟨H, 5, none⟩ (.int .i64 0)).setCell ⟨H, 6, none⟩ (.int .i64 0)).setCell ⟨H, 7, none⟩ (.int .i64 0)).setCell ⟨H, 8, none⟩ (.int .u16 0)) H [.int .i64 0, .int .i64 0, .int .i64 0, .int .i64 0, .int .i64 0, .int .i64 0, .int .i64 0, .int .i64 0, .int .u16 0] := Y2.nine
      have GB : Ch R w (((((((((W2.setCell ⟨H, 0, none⟩ (.int .i64 0)).setCell ⟨H, 1, none⟩ (.int .i64 0)).setCell ⟨H, 2, none⟩ (.int .i64 0)).setCell ⟨H, 3, none⟩ (.int .i64 0)).setCell ⟨H, 4, none⟩ (.int .i64 0)).setCell ⟨H, 5, none⟩ (.int .i64 0)).setCell ⟨H, 6, none⟩ (.int .i64 0)).setCell ⟨H, 7, none⟩ (.int .i64 0)).setCell ⟨H, 8, none⟩ (.int .u16 0)) := ch_nine G2 (by omega) (by omega)
      have RR : Rdr (((((((((W2.setCell ⟨H, 0, none⟩ (.int .i64 0)).setCell ⟨H, 1, none⟩ (.int .i64 0)).setCell ⟨H, 2, none⟩ (.int .i64 0)).setCell ⟨H, 3, none⟩ (.int .i64 0)).setCell ⟨H, 4, none⟩ (.int .i64 0)).setCell ⟨H, 5, none⟩ (.int .i64 0)).setCell ⟨H, 6, none⟩ (.int .i64 0)).setCell ⟨H, 7, none⟩ (.int .i64 0)).setCell ⟨H, 8, none⟩ (.int .u16 0)) K R (q) := R2.out.ch ch9 (by omega) (by omega)
      generalize (((((((((W2.setCell ⟨H, 0, none⟩ (.int .i64 0)).setCell ⟨H, 1, none⟩ (.int .i64 0)).setCell ⟨H, 2, none⟩ (.int .i64 0)).setCell ⟨H, 3, none⟩ (.int .i64 0)).setCell ⟨H, 4, none⟩ (.int .i64 0)).setCell ⟨H, 5, none⟩ (.int .i64 0)).setCell ⟨H, 6, none⟩ (.int .i64 0)).setCell ⟨H, 7, none⟩ (.int .i64 0)).setCell ⟨H, 8, none⟩ (.int .u16 0)) = W9 at RB GB RR ⊢
      have q0 := RB.cell 0 _ rfl
      have q1 := RB.cell 1 _ rfl
      have q2 := RB.cell 2 _ rfl
      have q3 := RB.cell 3 _ rfl
      have q4 := RB.cell 4 _ rfl
      have q5 := RB.cell 5 _ rfl
      have q6 := RB.cell 6 _ rfl
      have q7 := RB.cell 7 _ rfl
      have q8 := RB.cell 8 _ rfl
      refine bodyPost_ret (v := .tuple #[recV noRec, .int .i64 er]) (by simp [results, Tryz.results112, go_sem, noRec, q0, q1, q2, q3, q4, q5, q6, q7, q8]) rfl ⟨by rw [ET2.out, EE'.out], by rw [EU'.out]; exact RR, GB⟩
  · have LB : lastB last = false := by unfold lastB; rw [decide_eq_false hb]
    rw [decide_eq_false hb]
    have EU : Hid (U = s) := (by rw [← HU.out]; unfold redS; rw [LB]; rfl : U = s)
    have EE : Hid (E = 3) := (by rw [← HE.out]; unfold redE; rw [LB]; rfl : E = 3)
    have ET : Hid (T = noRec) := (by rw [← HT.out]; unfold redT; rw [LB]; rfl : T = noRec)
    clear HT HU HE LB
    have xl := X0.lt
    have c0 := X0.cell 0 _ rfl
    have fc0 := X0.froz 0
    have c1 := X0.cell 1 _ rfl
    have fc1 := X0.froz 1
    have c2 := X0.cell 2 _ rfl
    have fc2 := X0.froz 2
    have c3 := X0.cell 3 _ rfl
    have fc3 := X0.froz 3
    have c4 := X0.cell 4 _ rfl
    have fc4 := X0.froz 4
    have c5 := X0.cell 5 _ rfl
    have fc5 := X0.froz 5
    have c6 := X0.cell 6 _ rfl
    have fc6 := X0.froz 6
    have c7 := X0.cell 7 _ rfl
    have fc7 := X0.froz 7
    have c8 := X0.cell 8 _ rfl
    have fc8 := X0.froz 8
    go_wp2_with fail
    have RB : Blk (((((((((W'.setCell ⟨H, 0, none⟩ (.int .i64 0)).setCell ⟨H, 1, none⟩ (.int .i64 0)).setCell ⟨H, 2, none⟩ (.int .i64 0)).setCell ⟨H, 3, none⟩ (.int .i64 0)).setCell ⟨H, 4, none⟩ (.int .i64 0)).setCell ⟨H, 5, none⟩ (.int .i64 0)).setCell ⟨H, 6, none⟩ (.int .i64 0)).setCell ⟨H, 7, none⟩ (.int .i64 0)).setCell ⟨H, 8, none⟩ (.int .u16 0)) H [.int .i64 0, .int .i64 0, .int .i64 0, .int .i64 0, .int .i64 0, .int .i64 0, .int .i64 0, .int .i64 0, .int .u16 0] := X0.nine
    have GB : Ch R w (((((((((W'.setCell ⟨H, 0, none⟩ (.int .i64 0)).setCell ⟨H, 1, none⟩ (.int .i64 0)).setCell ⟨H, 2, none⟩ (.int .i64 0)).setCell ⟨H, 3, none⟩ (.int .i64 0)).setCell ⟨H, 4, none⟩ (.int .i64 0)).setCell ⟨H, 5, none⟩ (.int .i64 0)).setCell ⟨H, 6, none⟩ (.int .i64 0)).setCell ⟨H, 7, none⟩ (.int .i64 0)).setCell ⟨H, 8, none⟩ (.int .u16 0)) := ch_nine G0 (by omega) (by omega)
    have RR : Rdr (((((((((W'.setCell ⟨H, 0, none⟩ (.int .i64 0)).setCell ⟨H, 1, none⟩ (.int .i64 0)).setCell ⟨H, 2, none⟩ (.int .i64 0)).setCell ⟨H, 3, none⟩ (.int .i64 0)).setCell ⟨H, 4, none⟩ (.int .i64 0)).setCell ⟨H, 5, none⟩ (.int .i64 0)).setCell ⟨H, 6, none⟩ (.int .i64 0)).setCell ⟨H, 7, none⟩ (.int .i64 0)).setCell ⟨H, 8, none⟩ (.int .u16 0)) K R (s) := R0.out.ch ch9 (by omega) (by omega)
    generalize (((((((((W'.setCell ⟨H, 0, none⟩ (.int .i64 0)).setCell ⟨H, 1, none⟩ (.int .i64 0)).setCell ⟨H, 2, none⟩ (.int .i64 0)).setCell ⟨H, 3, none⟩ (.int .i64 0)).setCell ⟨H, 4, none⟩ (.int .i64 0)).setCell ⟨H, 5, none⟩ (.int .i64 0)).setCell ⟨H, 6, none⟩ (.int .i64 0)).setCell ⟨H, 7, none⟩ (.int .i64 0)).setCell ⟨H, 8, none⟩ (.int .u16 0)) = W9 at RB GB RR ⊢
    have q0 := RB.cell 0 _ rfl
    have q1 := RB.cell 1 _ rfl
    have q2 := RB.cell 2 _ rfl
    have q3 := RB.cell 3 _ rfl
    have q4 := RB.cell 4 _ rfl
    have q5 := RB.cell 5 _ rfl
    have q6 := RB.cell 6 _ rfl
    have q7 := RB.cell 7 _ rfl
    have q8 := RB.cell 8 _ rfl
    refine bodyPost_ret (v := .tuple #[recV noRec, .int .i64 3]) (by simp [results, Tryz.results112, go_sem, noRec, q0, q1, q2, q3, q4, q5, q6, q7, q8]) rfl ⟨by rw [ET.out, EE.out], by rw [EU.out]; exact RR, GB⟩
end Go.Proofs.YtlpdhglibgnkoaaGreat
