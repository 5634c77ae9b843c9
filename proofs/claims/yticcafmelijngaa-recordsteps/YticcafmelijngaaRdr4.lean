/-
  Layer 7 (reader): Byte, Uint, Int, Vec, of a reader and of none, by the code.
-/
import Derived.Test.YticcafmelijngaaRdr3
namespace Go.Proofs.Yticcafmelijngaa
open Go.RowKit
set_option linter.unusedVariables false
theorem Blk.ch {R : Nat} {w w' : World} {b : Nat} {cs : List Value} (h : Blk w b cs) (k : Ch R w w') (hb : b ≠ R) : Blk w' b cs :=
  ⟨Nat.lt_of_lt_of_le h.lt k.size, fun o ho => (k.cell (p := ⟨b, o, none⟩) hb h.lt).trans (h.all o ho), fun o => (k.frozen (p := ⟨b, o, none⟩) hb h.lt).trans (h.froz o)⟩

theorem takeByte_nil (w : World) : Calls Try.prog 34 #[.pointer none, .func (.func 35) #[] #[]] w fun e w' => e = .returned (.int .u8 0) ∧ w' = w := by
  go_enter Try.func34, Try.ntmps34
  go_wp2_with fail
  refine (left_nil _).mono ?_; rintro e w1 ⟨rfl, rfl⟩
  go_wp2_with fail
  refine (fail_nil _ 6).mono ?_; rintro e w1 ⟨rfl, rfl⟩
  go_wp2_with fail
  refine (err_nil _).mono ?_; rintro e w1 ⟨rfl, rfl⟩
  go_wp2_with fail
  go_ret
  exact ⟨rfl, rfl⟩
theorem takeInt_nil (w : World) : Calls Try.prog 38 #[.pointer none, .func (.func 39) #[] #[]] w fun e w' => e = .returned (.int .i64 0) ∧ w' = w := by
  go_enter Try.func38, Try.ntmps38
  go_wp2_with fail
  refine (left_nil _).mono ?_; rintro e w1 ⟨rfl, rfl⟩
  go_wp2_with fail
  refine (fail_nil _ 6).mono ?_; rintro e w1 ⟨rfl, rfl⟩
  go_wp2_with fail
  refine (err_nil _).mono ?_; rintro e w1 ⟨rfl, rfl⟩
  go_wp2_with fail
  go_ret
  exact ⟨rfl, rfl⟩
theorem takeUint_nil (w : World) (c : Array Value) : Calls Try.prog 32 #[.pointer none, .func (.func 41) #[] c] w fun e w' => e = .returned (.int .u64 0) ∧ w' = w := by
  go_enter Try.func32, Try.ntmps32
  go_wp2_with fail
  refine (left_nil _).mono ?_; rintro e w1 ⟨rfl, rfl⟩
  go_wp2_with fail
  refine (fail_nil _ 6).mono ?_; rintro e w1 ⟨rfl, rfl⟩
  go_wp2_with fail
  refine (err_nil _).mono ?_; rintro e w1 ⟨rfl, rfl⟩
  go_wp2_with fail
  go_ret
  exact ⟨rfl, rfl⟩
theorem byte_any (w : World) (K R : Nat) (s : St) (h : Rdr w K R s) : Calls Try.prog 26 #[.pointer (some ⟨R, 0, none⟩)] w fun e w' => e = .returned (.int .u8 (byteA s)) ∧ Rdr w' K R (byteS s) ∧ Ch R w w' := by
  have HR : Hid (Rdr w K R s) := h
  clear h
  go_enter Try.func26, Try.ntmps26
  go_wp2_with fail
  refine (takeByte _ K R _ HR.out).mono ?_; rintro e w1 ⟨rfl, r1, g1⟩
  go_wp2_with fail
  go_ret
  exact ⟨rfl, r1, g1⟩
theorem byte_nil (w : World) : Calls Try.prog 26 #[.pointer none] w fun e w' => e = .returned (.int .u8 0) ∧ w' = w := by
  go_enter Try.func26, Try.ntmps26
  go_wp2_with fail
  refine (takeByte_nil _).mono ?_; rintro e w1 ⟨rfl, rfl⟩
  go_wp2_with fail
  go_ret
  exact ⟨rfl, rfl⟩
theorem int_any (w : World) (K R : Nat) (s : St) (h : Rdr w K R s) : Calls Try.prog 31 #[.pointer (some ⟨R, 0, none⟩)] w fun e w' => e = .returned (.int .i64 (intA s)) ∧ Rdr w' K R (intS s) ∧ Ch R w w' := by
  have HR : Hid (Rdr w K R s) := h
  clear h
  go_enter Try.func31, Try.ntmps31
  go_wp2_with fail
  refine (takeInt _ K R _ HR.out).mono ?_; rintro e w1 ⟨rfl, r1, g1⟩
  go_wp2_with fail
  go_ret
  exact ⟨rfl, r1, g1⟩
theorem int_nil (w : World) : Calls Try.prog 31 #[.pointer none] w fun e w' => e = .returned (.int .i64 0) ∧ w' = w := by
  go_enter Try.func31, Try.ntmps31
  go_wp2_with fail
  refine (takeInt_nil _).mono ?_; rintro e w1 ⟨rfl, rfl⟩
  go_wp2_with fail
  go_ret
  exact ⟨rfl, rfl⟩
theorem uint_any (w : World) (K R : Nat) (s : St) (most : Int) (h : Rdr w K R s) : Calls Try.prog 25 #[.pointer (some ⟨R, 0, none⟩), .int .u64 most] w fun e w' => e = .returned (.int .u64 (uintA most s)) ∧ Rdr w' K R (uintS most s) ∧ Ch R w w' := by
  have HR : Hid (Rdr w K R s) := h
  have lt := h.lt
  clear h
  go_enter Try.func25, Try.ntmps25
  go_wp2_with fail
  refine (upTo_any _ most).mono ?_; rintro e w1 ⟨rfl, b1, s1, c1⟩
  have R1 : Hid (Rdr w1 K R s) := HR.out.below b1 lt
  have g0 : Ch R w w1 := Ch.of b1 (by omega)
  go_wp2_with fail
  refine (takeUint _ K R _ most _ c1 R1.out).mono ?_; rintro e w2 ⟨rfl, r2, g2⟩
  go_wp2_with fail
  go_ret
  exact ⟨rfl, r2, g0.trans g2⟩
theorem uint_nil (w : World) (most : Int) : Calls Try.prog 25 #[.pointer none, .int .u64 most] w fun e w' => e = .returned (.int .u64 0) ∧ Below w.heap.size w w' := by
  go_enter Try.func25, Try.ntmps25
  go_wp2_with fail
  refine (upTo_any _ most).mono ?_; rintro e w1 ⟨rfl, b1, s1, c1⟩
  go_wp2_with fail
  refine (takeUint_nil _ _).mono ?_; rintro e w2 ⟨rfl, rfl⟩
  go_wp2_with fail
  go_ret
  exact ⟨rfl, b1⟩
set_option maxHeartbeats 1000000 in
theorem vec_any (w : World) (K R : Nat) (s : St) (h : Rdr w K R s) : Calls Try.prog 24 #[.pointer (some ⟨R, 0, none⟩)] w fun e w' => e = .returned (.agg #[.int .i64 (intA s), .int .i64 (intA (intS s)), .int .i64 (intA (intS (intS s)))]) ∧ Rdr w' K R (vecS s) ∧ Ch R w w' := by
  have HR : Hid (Rdr w K R s) := h
  have lt := h.lt
  have hK := h.hK
  clear h
  go_enter Try.func24, Try.ntmps24
  go_wp2_with fail
  have X0 : Blk ((w.alloc (.cells #[.int .i64 0, .int .i64 0, .int .i64 0] 22)).alloc (.cells #[.int .i64 0, .int .i64 0, .int .i64 0] 22)) w.heap.size [.int .i64 0, .int .i64 0, .int .i64 0] := (Blk.new w _ _ rfl).alloc _
  have Y0 : Blk ((w.alloc (.cells #[.int .i64 0, .int .i64 0, .int .i64 0] 22)).alloc (.cells #[.int .i64 0, .int .i64 0, .int .i64 0] 22)) (w.heap.size + 1) [.int .i64 0, .int .i64 0, .int .i64 0] := Blk.new _ _ _ (by simp)
  have B0 : Below w.heap.size w ((w.alloc (.cells #[.int .i64 0, .int .i64 0, .int .i64 0] 22)).alloc (.cells #[.int .i64 0, .int .i64 0, .int .i64 0] 22)) := ((Below.refl _ _).alloc (Nat.le_refl _) _).alloc (by simp) _
  have G0 : Ch R w ((w.alloc (.cells #[.int .i64 0, .int .i64 0, .int .i64 0] 22)).alloc (.cells #[.int .i64 0, .int .i64 0, .int .i64 0] 22)) := Ch.of B0 (by omega)
  have RR := HR.out.below B0 lt
  clear B0 HR
  obtain ⟨W0, hW⟩ : ∃ W, ((w.alloc (.cells #[.int .i64 0, .int .i64 0, .int .i64 0] 22)).alloc (.cells #[.int .i64 0, .int .i64 0, .int .i64 0] 22)) = W := ⟨_, rfl⟩
  rw [hW] at X0 Y0 G0 RR
  rw [hW]
  clear hW
  obtain ⟨H, hH⟩ : ∃ H, w.heap.size = H := ⟨_, rfl⟩
  rw [hH] at X0 Y0 lt
  rw [hH]
  have R0 : Hid (Rdr W0 K R s) := RR
  clear RR
  refine wp_loop_rounds 4 ?_
  rw [rounds_succ]
  have y := Y0.cell 0 _ rfl
  have yf := Y0.froz 0
  have yl := Y0.lt
  go_wp2_with fail
  refine (int_any _ K R _ R0.out).mono ?_; rintro e w1 ⟨rfl, r, g⟩
  have Y := Y0.ch g (by omega)
  have X := X0.ch g (by omega)
  have G := G0.trans g
  clear y yf yl
  have y := Y.cell 0 _ rfl
  have yf := Y.froz 0
  have yl := Y.lt
  go_wp2_with fail
  have Y' := Y.set 0 (.int .i64 (intA s)) (by simp)
  have X' := X.other (p := ⟨H + 1, 0, none⟩) (fun h => by have h' : H + 1 = H := h; omega) (.int .i64 (intA s))
  simp only [List.set] at Y'
  have G' := G.setNew (p := ⟨H + 1, 0, none⟩) (by omega) (show w.heap.size ≤ H + 1 by omega) (.int .i64 (intA s))
  have r' := r.ch ((Ch.refl (H + 1) _).set 0 (.int .i64 (intA s))) (by omega) (by omega)
  obtain ⟨W1, hW⟩ : ∃ W, (w1.setCell ⟨H + 1, 0, none⟩ (.int .i64 (intA s))) = W := ⟨_, rfl⟩
  rw [hW] at Y' X' G' r'
  rw [hW]
  have R1 : Hid (Rdr W1 K R (intS s)) := r'
  clear r' r G X Y g R0
  clear hW y yf yl Y0 X0 G0
  have Y1 := Y'; have X1 := X'; have G1 := G'
  clear Y' X' G'
  rw [rounds_succ]
  have y := Y1.cell 1 _ rfl
  have yf := Y1.froz 1
  have yl := Y1.lt
  go_wp2_with fail
  refine (int_any _ K R _ R1.out).mono ?_; rintro e w2 ⟨rfl, r, g⟩
  have Y := Y1.ch g (by omega)
  have X := X1.ch g (by omega)
  have G := G1.trans g
  clear y yf yl
  have y := Y.cell 1 _ rfl
  have yf := Y.froz 1
  have yl := Y.lt
  go_wp2_with fail
  have Y' := Y.set 1 (.int .i64 (intA (intS s))) (by simp)
  have X' := X.other (p := ⟨H + 1, 1, none⟩) (fun h => by have h' : H + 1 = H := h; omega) (.int .i64 (intA (intS s)))
  simp only [List.set] at Y'
  have G' := G.setNew (p := ⟨H + 1, 1, none⟩) (by omega) (show w.heap.size ≤ H + 1 by omega) (.int .i64 (intA (intS s)))
  have r' := r.ch ((Ch.refl (H + 1) _).set 1 (.int .i64 (intA (intS s)))) (by omega) (by omega)
  obtain ⟨W2, hW⟩ : ∃ W, (w2.setCell ⟨H + 1, 1, none⟩ (.int .i64 (intA (intS s)))) = W := ⟨_, rfl⟩
  rw [hW] at Y' X' G' r'
  rw [hW]
  have R2 : Hid (Rdr W2 K R (intS (intS s))) := r'
  clear r' r G X Y g R1
  clear hW y yf yl Y1 X1 G1
  have Y2 := Y'; have X2 := X'; have G2 := G'
  clear Y' X' G'
  rw [rounds_succ]
  have y := Y2.cell 2 _ rfl
  have yf := Y2.froz 2
  have yl := Y2.lt
  go_wp2_with fail
  refine (int_any _ K R _ R2.out).mono ?_; rintro e w3 ⟨rfl, r, g⟩
  have Y := Y2.ch g (by omega)
  have X := X2.ch g (by omega)
  have G := G2.trans g
  clear y yf yl
  have y := Y.cell 2 _ rfl
  have yf := Y.froz 2
  have yl := Y.lt
  go_wp2_with fail
  have Y' := Y.set 2 (.int .i64 (intA (intS (intS s)))) (by simp)
  have X' := X.other (p := ⟨H + 1, 2, none⟩) (fun h => by have h' : H + 1 = H := h; omega) (.int .i64 (intA (intS (intS s))))
  simp only [List.set] at Y'
  have G' := G.setNew (p := ⟨H + 1, 2, none⟩) (by omega) (show w.heap.size ≤ H + 1 by omega) (.int .i64 (intA (intS (intS s))))
  have r' := r.ch ((Ch.refl (H + 1) _).set 2 (.int .i64 (intA (intS (intS s))))) (by omega) (by omega)
  obtain ⟨W3, hW⟩ : ∃ W, (w3.setCell ⟨H + 1, 2, none⟩ (.int .i64 (intA (intS (intS s))))) = W := ⟨_, rfl⟩
  rw [hW] at Y' X' G' r'
  rw [hW]
  have R3 : Hid (Rdr W3 K R (intS (intS (intS s)))) := r'
  clear r' r G X Y g R2
  clear hW y yf yl Y2 X2 G2
  have Y3 := Y'; have X3 := X'; have G3 := G'
  clear Y' X' G'
  rw [rounds_succ]
  have x0 := Y3.cell 0 _ rfl
  have y0 := X3.cell 0 _ rfl
  have v0 := X3.froz 0
  have x1 := Y3.cell 1 _ rfl
  have y1 := X3.cell 1 _ rfl
  have v1 := X3.froz 1
  have x2 := Y3.cell 2 _ rfl
  have y2 := X3.cell 2 _ rfl
  have v2 := X3.froz 2
  have xl := X3.lt
  have yl := Y3.lt
  go_wp2_with fail
  refine bodyPost_ret (v := .agg #[.int .i64 (intA s), .int .i64 (intA (intS s)), .int .i64 (intA (intS (intS s)))]) (by simp [results, Try.results24, go_sem, y0, y1, y2]) rfl ?_
  refine ⟨rfl, ?_, ?_⟩
  · refine R3.out.ch (M := H) ?_ (by omega) (by omega)
    repeat' (first | exact Ch.refl _ _ | refine Ch.set ?_ _ _)
  · repeat' (first | exact G3 | refine Ch.setNew ?_ (by omega) (show w.heap.size ≤ H by omega) _)
set_option maxHeartbeats 1000000 in
theorem vec_nil (w : World) : Calls Try.prog 24 #[.pointer none] w fun e w' => e = .returned (.agg #[.int .i64 0, .int .i64 0, .int .i64 0]) ∧ Below w.heap.size w w' := by
  go_enter Try.func24, Try.ntmps24
  go_wp2_with fail
  have X0 : Blk ((w.alloc (.cells #[.int .i64 0, .int .i64 0, .int .i64 0] 22)).alloc (.cells #[.int .i64 0, .int .i64 0, .int .i64 0] 22)) w.heap.size [.int .i64 0, .int .i64 0, .int .i64 0] := (Blk.new w _ _ rfl).alloc _
  have Y0 : Blk ((w.alloc (.cells #[.int .i64 0, .int .i64 0, .int .i64 0] 22)).alloc (.cells #[.int .i64 0, .int .i64 0, .int .i64 0] 22)) (w.heap.size + 1) [.int .i64 0, .int .i64 0, .int .i64 0] := Blk.new _ _ _ (by simp)
  have G0 : Below w.heap.size w ((w.alloc (.cells #[.int .i64 0, .int .i64 0, .int .i64 0] 22)).alloc (.cells #[.int .i64 0, .int .i64 0, .int .i64 0] 22)) := ((Below.refl _ _).alloc (Nat.le_refl _) _).alloc (by simp) _
  obtain ⟨W0, hW⟩ : ∃ W, ((w.alloc (.cells #[.int .i64 0, .int .i64 0, .int .i64 0] 22)).alloc (.cells #[.int .i64 0, .int .i64 0, .int .i64 0] 22)) = W := ⟨_, rfl⟩
  rw [hW] at X0 Y0 G0
  rw [hW]
  clear hW
  obtain ⟨H, hH⟩ : ∃ H, w.heap.size = H := ⟨_, rfl⟩
  rw [hH] at X0 Y0 G0
  rw [hH]
  have hH2 : H ≤ w.heap.size := by omega
  refine wp_loop_rounds 4 ?_
  rw [rounds_succ]
  have y := Y0.cell 0 _ rfl
  have yf := Y0.froz 0
  have yl := Y0.lt
  go_wp2_with fail
  refine (int_nil _).mono ?_; rintro e w1 ⟨rfl, rfl⟩
  go_wp2_with fail
  have Y' := Y0.set 0 (.int .i64 0) (by simp)
  have X' := X0.other (p := ⟨H + 1, 0, none⟩) (fun h => by have h' : H + 1 = H := h; omega) (.int .i64 0)
  simp only [List.set] at Y'
  have G' := G0.setCell (p := ⟨H + 1, 0, none⟩) (show H ≤ H + 1 by omega) (.int .i64 0)
  obtain ⟨W1, hW⟩ : ∃ W, (w1.setCell ⟨H + 1, 0, none⟩ (.int .i64 0)) = W := ⟨_, rfl⟩
  rw [hW] at Y' X' G'
  rw [hW]
  clear hW y yf yl Y0 X0 G0
  have Y1 := Y'; have X1 := X'; have G1 := G'
  clear Y' X' G'
  rw [rounds_succ]
  have y := Y1.cell 1 _ rfl
  have yf := Y1.froz 1
  have yl := Y1.lt
  go_wp2_with fail
  refine (int_nil _).mono ?_; rintro e w2 ⟨rfl, rfl⟩
  go_wp2_with fail
  have Y' := Y1.set 1 (.int .i64 0) (by simp)
  have X' := X1.other (p := ⟨H + 1, 1, none⟩) (fun h => by have h' : H + 1 = H := h; omega) (.int .i64 0)
  simp only [List.set] at Y'
  have G' := G1.setCell (p := ⟨H + 1, 1, none⟩) (show H ≤ H + 1 by omega) (.int .i64 0)
  obtain ⟨W2, hW⟩ : ∃ W, (w2.setCell ⟨H + 1, 1, none⟩ (.int .i64 0)) = W := ⟨_, rfl⟩
  rw [hW] at Y' X' G'
  rw [hW]
  clear hW y yf yl Y1 X1 G1
  have Y2 := Y'; have X2 := X'; have G2 := G'
  clear Y' X' G'
  rw [rounds_succ]
  have y := Y2.cell 2 _ rfl
  have yf := Y2.froz 2
  have yl := Y2.lt
  go_wp2_with fail
  refine (int_nil _).mono ?_; rintro e w3 ⟨rfl, rfl⟩
  go_wp2_with fail
  have Y' := Y2.set 2 (.int .i64 0) (by simp)
  have X' := X2.other (p := ⟨H + 1, 2, none⟩) (fun h => by have h' : H + 1 = H := h; omega) (.int .i64 0)
  simp only [List.set] at Y'
  have G' := G2.setCell (p := ⟨H + 1, 2, none⟩) (show H ≤ H + 1 by omega) (.int .i64 0)
  obtain ⟨W3, hW⟩ : ∃ W, (w3.setCell ⟨H + 1, 2, none⟩ (.int .i64 0)) = W := ⟨_, rfl⟩
  rw [hW] at Y' X' G'
  rw [hW]
  clear hW y yf yl Y2 X2 G2
  have Y3 := Y'; have X3 := X'; have G3 := G'
  clear Y' X' G'
  rw [rounds_succ]
  have x0 := Y3.cell 0 _ rfl
  have y0 := X3.cell 0 _ rfl
  have v0 := X3.froz 0
  have x1 := Y3.cell 1 _ rfl
  have y1 := X3.cell 1 _ rfl
  have v1 := X3.froz 1
  have x2 := Y3.cell 2 _ rfl
  have y2 := X3.cell 2 _ rfl
  have v2 := X3.froz 2
  have xl := X3.lt
  have yl := Y3.lt
  go_wp2_with fail
  refine bodyPost_ret (v := .agg #[.int .i64 0, .int .i64 0, .int .i64 0]) (by simp [results, Try.results24, go_sem, y0, y1, y2]) rfl ?_
  refine ⟨rfl, ?_⟩
  rw [hH]
  exact ((G3.setCell (p := ⟨H, 0, none⟩) (Nat.le_refl _) _).setCell (p := ⟨H, 1, none⟩) (Nat.le_refl _) _).setCell (p := ⟨H, 2, none⟩) (Nat.le_refl _) _
end Go.Proofs.Yticcafmelijngaa
