/-
  Texts Rdr4, Rdr5, Rdr6, Eq3, Rec, Rec1 in one.
-/
import Derived.Deep.LoopGhost
import Derived.Deep.DeepCutAuto
import Derived.Deep.CutBlock
import Derived.ChangeKeysEq
import Derived.Laws.EntriesVeiled
import Derived.Test.YtlpdhglibgnkoaaGreatP5
namespace Go.Proofs.YtlpdhglibgnkoaaGreat
open Go.RowKit
set_option linter.unusedVariables false
theorem Blk.ch {R : Nat} {w w' : World} {b : Nat} {cs : List Value} (h : Blk w b cs) (k : Ch R w w') (hb : b ≠ R) : Blk w' b cs :=
  ⟨Nat.lt_of_lt_of_le h.lt k.size, fun o ho => (k.cell (p := ⟨b, o, none⟩) hb h.lt).trans (h.all o ho), fun o => (k.frozen (p := ⟨b, o, none⟩) hb h.lt).trans (h.froz o)⟩

theorem byte_any (w : World) (K R : Nat) (s : St) (h : Rdr w K R s) : Calls Tryz.prog 134 #[.pointer (some ⟨R, 0, none⟩)] w fun e w' => e = .returned (.int .u8 (byteA s)) ∧ Rdr w' K R (byteS s) ∧ Ch R w w' := by
  have HR : Hid (Rdr w K R s) := h
  clear h
  go_enter Tryz.func134, Tryz.ntmps134
  go_wp2_with fail
  refine (takeByte _ K R _ HR.out).mono ?_; rintro e w1 ⟨rfl, r1, g1⟩
  go_wp2_with fail
  go_ret
  exact ⟨rfl, r1, g1⟩
theorem int_any (w : World) (K R : Nat) (s : St) (h : Rdr w K R s) : Calls Tryz.prog 110 #[.pointer (some ⟨R, 0, none⟩)] w fun e w' => e = .returned (.int .i64 (intA s)) ∧ Rdr w' K R (intS s) ∧ Ch R w w' := by
  have HR : Hid (Rdr w K R s) := h
  clear h
  go_enter Tryz.func110, Tryz.ntmps110
  go_wp2_with fail
  refine (takeInt _ K R _ HR.out).mono ?_; rintro e w1 ⟨rfl, r1, g1⟩
  go_wp2_with fail
  go_ret
  exact ⟨rfl, r1, g1⟩
theorem uint_any (w : World) (K R : Nat) (s : St) (most : Int) (h : Rdr w K R s) : Calls Tryz.prog 109 #[.pointer (some ⟨R, 0, none⟩), .int .u64 most] w fun e w' => e = .returned (.int .u64 (uintA most s)) ∧ Rdr w' K R (uintS most s) ∧ Ch R w w' := by
  have HR : Hid (Rdr w K R s) := h
  have lt := h.lt
  clear h
  go_enter Tryz.func109, Tryz.ntmps109
  go_wp2_with fail
  refine (upTo_any _ most).mono ?_; rintro e w1 ⟨rfl, b1, s1, c1⟩
  have R1 : Hid (Rdr w1 K R s) := HR.out.below b1 lt
  have g0 : Ch R w w1 := Ch.of b1 (by omega)
  go_wp2_with fail
  refine (takeUint _ K R _ most _ c1 R1.out).mono ?_; rintro e w2 ⟨rfl, r2, g2⟩
  go_wp2_with fail
  go_ret
  exact ⟨rfl, r2, g0.trans g2⟩
set_option maxHeartbeats 1000000 in
theorem vec_any (w : World) (K R : Nat) (s : St) (h : Rdr w K R s) : Calls Tryz.prog 148 #[.pointer (some ⟨R, 0, none⟩)] w fun e w' => e = .returned (.agg #[.int .i64 (intA s), .int .i64 (intA (intS s)), .int .i64 (intA (intS (intS s)))]) ∧ Rdr w' K R (vecS s) ∧ Ch R w w' := by
  have HR : Hid (Rdr w K R s) := h
  have lt := h.lt
  have hK := h.hK
  clear h
  go_enter Tryz.func148, Tryz.ntmps148
  go_wp2_with fail
  have X0 : Blk ((w.alloc (.cells #[.int .i64 0, .int .i64 0, .int .i64 0] 66)).alloc (.cells #[.int .i64 0, .int .i64 0, .int .i64 0] 66)) w.heap.size [.int .i64 0, .int .i64 0, .int .i64 0] := (Blk.new w _ _ rfl).alloc _
  have Y0 : Blk ((w.alloc (.cells #[.int .i64 0, .int .i64 0, .int .i64 0] 66)).alloc (.cells #[.int .i64 0, .int .i64 0, .int .i64 0] 66)) (w.heap.size + 1) [.int .i64 0, .int .i64 0, .int .i64 0] := Blk.new _ _ _ (by simp)
  have B0 : Below w.heap.size w ((w.alloc (.cells #[.int .i64 0, .int .i64 0, .int .i64 0] 66)).alloc (.cells #[.int .i64 0, .int .i64 0, .int .i64 0] 66)) := ((Below.refl _ _).alloc (Nat.le_refl _) _).alloc (by simp) _
  have G0 : Ch R w ((w.alloc (.cells #[.int .i64 0, .int .i64 0, .int .i64 0] 66)).alloc (.cells #[.int .i64 0, .int .i64 0, .int .i64 0] 66)) := Ch.of B0 (by omega)
  have RR := HR.out.below B0 lt
  clear B0 HR
  obtain ⟨W0, hW⟩ : ∃ W, ((w.alloc (.cells #[.int .i64 0, .int .i64 0, .int .i64 0] 66)).alloc (.cells #[.int .i64 0, .int .i64 0, .int .i64 0] 66)) = W := ⟨_, rfl⟩
  rw [hW] at X0 Y0 G0 RR
  rw [hW]
  clear hW
  obtain ⟨H, hH⟩ : ∃ H, w.heap.size = H := ⟨_, rfl⟩
  rw [hH] at X0 Y0 lt
  rw [hH]
  have R0 : Hid (Rdr W0 K R s) := RR
  clear RR
  refine wp_loop_rounds 4 ?_
  rw [rounds_succ]
  have y := Y0.cell 0 _ rfl
  have yf := Y0.froz 0
  have yl := Y0.lt
  go_wp2_with fail
  refine (int_any _ K R _ R0.out).mono ?_; rintro e w1 ⟨rfl, r, g⟩
  have Y := Y0.ch g (by omega)
  have X := X0.ch g (by omega)
  have G := G0.trans g
  clear y yf yl
  have y := Y.cell 0 _ rfl
  have yf := Y.froz 0
  have yl := Y.lt
  go_wp2_with fail
  have Y' := Y.set 0 (.int .i64 (intA s)) (by simp)
  have X' := X.other (p := ⟨H + 1, 0, none⟩) (fun h => by have h' : H + 1 = H := h; omega) (.int .i64 (intA s))
  simp only [List.set] at Y'
  have G' := G.setNew (p := ⟨H + 1, 0, none⟩) (by omega) (show w.heap.size ≤ H + 1 by omega) (.int .i64 (intA s))
  have r' := r.ch ((Ch.refl (H + 1) _).set 0 (.int .i64 (intA s))) (by omega) (by omega)
  obtain ⟨W1, hW⟩ : ∃ W, (w1.setCell ⟨H + 1, 0, none⟩ (.int .i64 (intA s))) = W := ⟨_, rfl⟩
  rw [hW] at Y' X' G' r'
  rw [hW]
  have R1 : Hid (Rdr W1 K R (intS s)) := r'
  clear r' r G X Y g R0
  clear hW y yf yl Y0 X0 G0
  have Y1 := Y'; have X1 := X'; have G1 := G'
  clear Y' X' G'
  rw [rounds_succ]
  have y := Y1.cell 1 _ rfl
  have yf := Y1.froz 1
  have yl := Y1.lt
  go_wp2_with fail
  refine (int_any _ K R _ R1.out).mono ?_; rintro e w2 ⟨rfl, r, g⟩
  have Y := Y1.ch g (by omega)
  have X := X1.ch g (by omega)
  have G := G1.trans g
  clear y yf yl
  have y := Y.cell 1 _ rfl
  have yf := Y.froz 1
  have yl := Y.lt
  go_wp2_with fail
  have Y' := Y.set 1 (.int .i64 (intA (intS s))) (by simp)
  have X' := X.other (p := ⟨H + 1, 1, none⟩) (fun h => by have h' : H + 1 = H := h; omega) (.int .i64 (intA (intS s)))
  simp only [List.set] at Y'
  have G' := G.setNew (p := ⟨H + 1, 1, none⟩) (by omega) (show w.heap.size ≤ H + 1 by omega) (.int .i64 (intA (intS s)))
  have r' := r.ch ((Ch.refl (H + 1) _).set 1 (.int .i64 (intA (intS s)))) (by omega) (by omega)
  obtain ⟨W2, hW⟩ : ∃ W, (w2.setCell ⟨H + 1, 1, none⟩ (.int .i64 (intA (intS s)))) = W := ⟨_, rfl⟩
  rw [hW] at Y' X' G' r'
  rw [hW]
  have R2 : Hid (Rdr W2 K R (intS (intS s))) := r'
  clear r' r G X Y g R1
  clear hW y yf yl Y1 X1 G1
  have Y2 := Y'; have X2 := X'; have G2 := G'
  clear Y' X' G'
  rw [rounds_succ]
  have y := Y2.cell 2 _ rfl
  have yf := Y2.froz 2
  have yl := Y2.lt
  go_wp2_with fail
  refine (int_any _ K R _ R2.out).mono ?_; rintro e w3 ⟨rfl, r, g⟩
  have Y := Y2.ch g (by omega)
  have X := X2.ch g (by omega)
  have G := G2.trans g
  clear y yf yl
  have y := Y.cell 2 _ rfl
  have yf := Y.froz 2
  have yl := Y.lt
  go_wp2_with fail
  have Y' := Y.set 2 (.int .i64 (intA (intS (intS s)))) (by simp)
  have X' := X.other (p := ⟨H + 1, 2, none⟩) (fun h => by have h' : H + 1 = H := h; omega) (.int .i64 (intA (intS (intS s))))
  simp only [List.set] at Y'
  have G' := G.setNew (p := ⟨H + 1, 2, none⟩) (by omega) (show w.heap.size ≤ H + 1 by omega) (.int .i64 (intA (intS (intS s))))
  have r' := r.ch ((Ch.refl (H + 1) _).set 2 (.int .i64 (intA (intS (intS s))))) (by omega) (by omega)
  obtain ⟨W3, hW⟩ : ∃ W, (w3.setCell ⟨H + 1, 2, none⟩ (.int .i64 (intA (intS (intS s))))) = W := ⟨_, rfl⟩
  rw [hW] at Y' X' G' r'
  rw [hW]
  have R3 : Hid (Rdr W3 K R (intS (intS (intS s)))) := r'
  clear r' r G X Y g R2
  clear hW y yf yl Y2 X2 G2
  have Y3 := Y'; have X3 := X'; have G3 := G'
  clear Y' X' G'
  rw [rounds_succ]
  have x0 := Y3.cell 0 _ rfl
  have y0 := X3.cell 0 _ rfl
  have v0 := X3.froz 0
  have x1 := Y3.cell 1 _ rfl
  have y1 := X3.cell 1 _ rfl
  have v1 := X3.froz 1
  have x2 := Y3.cell 2 _ rfl
  have y2 := X3.cell 2 _ rfl
  have v2 := X3.froz 2
  have xl := X3.lt
  have yl := Y3.lt
  go_wp2_with fail
  refine bodyPost_ret (v := .agg #[.int .i64 (intA s), .int .i64 (intA (intS s)), .int .i64 (intA (intS (intS s)))]) (by simp [results, Tryz.results148, go_sem, y0, y1, y2]) rfl ?_
  refine ⟨rfl, ?_, ?_⟩
  · refine R3.out.ch (M := H) ?_ (by omega) (by omega)
    repeat' (first | exact Ch.refl _ _ | refine Ch.set ?_ _ _)
  · repeat' (first | exact G3 | refine Ch.setNew ?_ (by omega) (show w.heap.size ≤ H by omega) _)
end Go.Proofs.YtlpdhglibgnkoaaGreat

namespace Go.Proofs.YtlpdhglibgnkoaaGreat
open Go.RowKit
set_option linter.unusedVariables false
theorem got_five {l : List Int} (h : l ≠ []) : (got l).2.2 ≠ 5 := by
  unfold got; rw [if_neg h]
  split <;> (try split) <;> (try split) <;> (try split) <;> simp
theorem rfail_any (w : World) (K R : Nat) (s : St) (x : Int) (h : Rdr w K R s) : Calls Tryz.prog 59 #[.pointer (some ⟨R, 0, none⟩), .int .i64 x] w fun e w' => e = .returned (.tuple #[]) ∧ Rdr w' K R (failS s x) ∧ Ch R w w' := by
  have HR : Hid (Rdr w K R s) := h
  obtain ⟨l, n, e⟩ := s
  obtain ⟨v, h⟩ := h
  have HV : Hid (RdrV w K R v ⟨l, n, e⟩) := h
  have c0 := h.c0
  have c1 := h.c1
  have c2 := h.c2
  have f0 := h.f 0
  have f1 := h.f 1
  have f2 := h.f 2
  have n0 := h.n0
  have n1 := h.n1
  have lt := h.lt
  have hlow := h.low
  have HL : Hid (Low w K v l) := h.low
  have HB : Hid (Bytes l) := h.bytes
  have hK := h.hK
  clear h
  simp only at c0 c1 c2 n0 n1 hlow
  obtain ⟨m, hm⟩ : ∃ m, l.length = m := ⟨_, rfl⟩
  rw [hm] at n1
  have HM : Hid (l.length = m) := hm
  obtain ⟨ao, cap, rfl, q1, q2, q3, q4⟩ := hlow
  rw [hm] at c0 q1
  clear q3
  by_cases he : e = 0
  · subst he
    go_enter Tryz.func59, Tryz.ntmps59
    go_wp2_with fail
    go_end0
    exact ⟨rfl, ⟨_, HV.out.fail x⟩, (Ch.refl _ _).set 2 _⟩
  · have hne : (e == 0) = false := by simpa using he
    go_enter Tryz.func59, Tryz.ntmps59
    go_wp2_with fail
    go_end0
    refine ⟨rfl, ?_, Ch.refl _ _⟩
    unfold failS; rw [if_neg (by simpa using he)]; exact HR.out
theorem rdone_any (w : World) (K R : Nat) (s : St) (h : Rdr w K R s) : Calls Tryz.prog 61 #[.pointer (some ⟨R, 0, none⟩)] w fun e w' => e = .returned (.int .i64 (doneA s)) ∧ w' = w := by
  have HR : Hid (Rdr w K R s) := h
  obtain ⟨l, n, e⟩ := s
  obtain ⟨v, h⟩ := h
  have HV : Hid (RdrV w K R v ⟨l, n, e⟩) := h
  have c0 := h.c0
  have c1 := h.c1
  have c2 := h.c2
  have f0 := h.f 0
  have f1 := h.f 1
  have f2 := h.f 2
  have n0 := h.n0
  have n1 := h.n1
  have lt := h.lt
  have hlow := h.low
  have HL : Hid (Low w K v l) := h.low
  have HB : Hid (Bytes l) := h.bytes
  have hK := h.hK
  clear h
  simp only at c0 c1 c2 n0 n1 hlow
  obtain ⟨m, hm⟩ : ∃ m, l.length = m := ⟨_, rfl⟩
  rw [hm] at n1
  have HM : Hid (l.length = m) := hm
  obtain ⟨ao, cap, rfl, q1, q2, q3, q4⟩ := hlow
  rw [hm] at c0 q1
  clear q3
  obtain ⟨d, hd⟩ : ∃ d, doneA ⟨l, n, e⟩ = d := ⟨_, rfl⟩
  rw [hd]
  have HD := (show Hid _ from hd)
  clear hd
  by_cases he : e = 0
  · subst he
    by_cases hl : l = []
    · subst hl
      have m0 : m = 0 := by simpa using hm.symm
      subst m0
      clear q4 hm
      go_enter Tryz.func61, Tryz.ntmps61
      go_wp2_with fail
      go_ret
      exact ⟨ret_int (by have := HD.out; simpa [doneA] using this), rfl⟩
    · have hp := List.length_pos_iff.2 hl
      rw [hm] at hp
      have q : decide ((0 : Int) < (m : Int)) = true := by simp; omega
      clear hm q4
      go_enter Tryz.func61, Tryz.ntmps61
      go_wp2_with fail
      go_ret
      exact ⟨ret_int (by have := HD.out; simpa [doneA, hl] using this), rfl⟩
  · have hne : (e == 0) = false := by simpa using he
    go_enter Tryz.func61, Tryz.ntmps61
    go_wp2_with fail
    go_ret
    exact ⟨ret_int (by have := HD.out; simpa [doneA, he] using this), rfl⟩
set_option maxHeartbeats 1000000 in
theorem rbyte_any (w : World) (K R : Nat) (s : St) (h : Rdr w K R s) : Calls Tryz.prog 92 #[.pointer (some ⟨R, 0, none⟩)] w fun e w' => e = .returned (.int .u8 (byteA s)) ∧ Rdr w' K R (byteS s) ∧ Ch R w w' := by
  have HR : Hid (Rdr w K R s) := h
  obtain ⟨l, n, e⟩ := s
  obtain ⟨v, h⟩ := h
  have HV : Hid (RdrV w K R v ⟨l, n, e⟩) := h
  have c0 := h.c0
  have c1 := h.c1
  have c2 := h.c2
  have f0 := h.f 0
  have f1 := h.f 1
  have f2 := h.f 2
  have n0 := h.n0
  have n1 := h.n1
  have lt := h.lt
  have hlow := h.low
  have HL : Hid (Low w K v l) := h.low
  have HB : Hid (Bytes l) := h.bytes
  have hK := h.hK
  clear h
  simp only at c0 c1 c2 n0 n1 hlow
  obtain ⟨m, hm⟩ : ∃ m, l.length = m := ⟨_, rfl⟩
  rw [hm] at n1
  have HM : Hid (l.length = m) := hm
  obtain ⟨ao, cap, rfl, q1, q2, q3, q4⟩ := hlow
  rw [hm] at c0 q1
  clear q3
  by_cases he : e = 0
  · subst he
    by_cases hl : l = []
    · subst hl
      have m0 : m = 0 := by simpa using hm.symm
      subst m0
      clear q4 hm
      go_enter Tryz.func92, Tryz.ntmps92
      go_wp2_with fail
      go_ret
      exact ⟨ret_int (by simp [byteA]), ⟨_, by have := HV.out.fail 6; simpa [byteS] using this⟩, (Ch.refl _ _).set 2 _⟩
    · have hp := List.length_pos_iff.2 hl
      rw [hm] at hp
      have q : ((m : Int) == 0) = false := by simp; omega
      obtain ⟨b, o, rfl, hbK, hat⟩ := q4.resolve_left hl
      have hc := hat 0 (by omega)
      obtain ⟨x, hx⟩ : ∃ x, l.getD 0 0 = x := ⟨_, rfl⟩
      rw [hx] at hc
      simp only [Nat.add_zero] at hc
      have HX : Hid (l.getD 0 0 = x) := hx
      have HL2 : Hid (l ≠ []) := hl
      have q5 : ¬ (m : Int) < 1 := by omega
      have q6 : b ≠ R := by omega
      rw [hm] at HL
      clear hm hl hat q4 hx
      go_enter Tryz.func92, Tryz.ntmps92
      go_wp2_with fail
      all_goals
        go_ret
        refine ⟨ret_int (by have := HX.out; simpa [byteA] using this.symm), ?_, ((Ch.refl _ _).set 0 _).set 1 _⟩
        unfold byteS; rw [if_pos rfl, if_neg HL2.out]
        exact ⟨_, HV.out.take 1 (by have := HM.out; omega) _ rfl (low_cut HL.out HM.out HL2.out (by omega) (by omega) (by omega) (by first | (right; rfl) | (left; omega)))⟩
  · have hne : (e == 0) = false := by simpa using he
    clear hm q4
    go_enter Tryz.func92, Tryz.ntmps92
    go_wp2_with fail
    go_ret
    exact ⟨ret_int (by simp [byteA, he]), by have := HR.out; simpa [byteS, he] using this, Ch.refl _ _⟩
set_option maxHeartbeats 1000000 in
theorem ruint_any (w : World) (K R : Nat) (s : St) (most : Int) (h : Rdr w K R s) : Calls Tryz.prog 57 #[.pointer (some ⟨R, 0, none⟩), .int .u64 most] w fun e w' => e = .returned (.int .u64 (uintA most s)) ∧ Rdr w' K R (uintS most s) ∧ Ch R w w' := by
  have HR : Hid (Rdr w K R s) := h
  obtain ⟨l, n, e⟩ := s
  obtain ⟨v, h⟩ := h
  have HV : Hid (RdrV w K R v ⟨l, n, e⟩) := h
  have c0 := h.c0
  have c1 := h.c1
  have c2 := h.c2
  have f0 := h.f 0
  have f1 := h.f 1
  have f2 := h.f 2
  have n0 := h.n0
  have n1 := h.n1
  have lt := h.lt
  have hlow := h.low
  have HL : Hid (Low w K v l) := h.low
  have HB : Hid (Bytes l) := h.bytes
  have hK := h.hK
  clear h
  simp only at c0 c1 c2 n0 n1 hlow
  obtain ⟨m, hm⟩ : ∃ m, l.length = m := ⟨_, rfl⟩
  rw [hm] at n1
  have HM : Hid (l.length = m) := hm
  obtain ⟨ao, cap, rfl, q1, q2, q3, q4⟩ := hlow
  rw [hm] at c0 q1
  clear q3
  by_cases he : e = 0
  · subst he
    by_cases hl : l = []
    · subst hl
      have m0 : m = 0 := by simpa using hm.symm
      subst m0
      clear q4 hm
      go_enter Tryz.func57, Tryz.ntmps57
      go_wp2_with fail
      refine (rget_any _ [] Bytes.nil _ HL.out.rd).mono ?_; rw [got_nil]; rintro e w1 ⟨rfl, rfl⟩
      go_wp2_with fail
      go_ret
      exact ⟨ret_int (by simp [uintA, uintE]), ⟨_, by have := HV.out.fail 6; simpa [uintS, uintE] using this⟩, (Ch.refl _ _).set 2 _⟩
    · have hp := List.length_pos_iff.2 hl
      rw [hm] at hp
      obtain ⟨b, o, rfl, hbK, hat⟩ := q4.resolve_left hl
      have HL2 : Hid (l ≠ []) := hl
      have q6 : b ≠ R := by omega
      have h5 := got_five hl
      have hbd := got_bd l
      have hgl := got_len HB.out
      rw [HM.out] at hgl
      obtain ⟨g, hg⟩ : ∃ g, got l = g := ⟨_, rfl⟩
      have HG : Hid (got l = g) := hg
      rw [hg] at hbd hgl h5
      obtain ⟨x, kI, er⟩ := g
      obtain ⟨x0, x1, k0, k1, e0, e1⟩ := hbd
      simp only at x0 x1 k0 k1 e0 e1 hgl h5
      obtain ⟨k, rfl⟩ : ∃ k : Nat, kI = k := ⟨kI.toNat, by omega⟩
      rw [hm] at HL
      clear hg hm hl hat q4
      have j5 : (er == 5) = false := by simpa using h5
      by_cases hz : er = 0
      · subst hz
        obtain ⟨g1, g2, g3⟩ := hgl rfl
        have g4 : ¬ (m : Int) < (k : Int) := by omega
        have g5 : 1 ≤ k := by omega
        have g6 : k ≤ m := by omega
        clear hgl
        by_cases hx : most < x
        · have HE : Hid (uintE most l = 3) := by show uintE most l = 3; unfold uintE; rw [if_neg HL2.out, HG.out, if_pos rfl, if_pos hx]
          go_enter Tryz.func57, Tryz.ntmps57
          go_wp2_with fail
          refine (rget_any _ l HB.out _ HL.out.rd).mono ?_; rw [HG.out]; rintro e w1 ⟨rfl, rfl⟩
          go_wp2_with fail
          go_ret
          refine ⟨ret_int (by unfold uintA; simp [HE.out]), ?_, (Ch.refl _ _).set 2 _⟩
          unfold uintS; rw [if_pos rfl, if_neg (by rw [HE.out]; decide)]; rw [HE.out]; exact ⟨_, HV.out.fail 3⟩
        · have HE : Hid (uintE most l = 0) := by show uintE most l = 0; unfold uintE; rw [if_neg HL2.out, HG.out, if_pos rfl, if_neg hx]
          go_enter Tryz.func57, Tryz.ntmps57
          go_wp2_with fail
          refine (rget_any _ l HB.out _ HL.out.rd).mono ?_; rw [HG.out]; rintro e w1 ⟨rfl, rfl⟩
          go_wp2_with fail
          all_goals
            go_ret
            refine ⟨ret_int (by unfold uintA; simp [HE.out, HG.out]), ?_, ((Ch.refl _ _).set 0 _).set 1 _⟩
            unfold uintS; rw [if_pos rfl, if_pos HE.out, HG.out]
            exact ⟨_, HV.out.take k (by have := HM.out; omega) _ rfl (low_cut HL.out HM.out HL2.out (by omega) (by omega) (by omega) (by first | (right; rfl) | (left; omega)))⟩
      · have hzz : (er == 0) = false := by simpa using hz
        have HE : Hid (uintE most l = er) := by show uintE most l = er; unfold uintE; rw [if_neg HL2.out, HG.out, if_neg (by exact hz)]
        clear hgl
        go_enter Tryz.func57, Tryz.ntmps57
        go_wp2_with fail
        refine (rget_any _ l HB.out _ HL.out.rd).mono ?_; rw [HG.out]; rintro e w1 ⟨rfl, rfl⟩
        go_wp2_with fail
        go_ret
        refine ⟨ret_int (by unfold uintA; simp [HE.out, hz]), ?_, (Ch.refl _ _).set 2 _⟩
        unfold uintS; rw [if_pos rfl, if_neg (by rw [HE.out]; exact hz)]; rw [HE.out]; exact ⟨_, HV.out.fail er⟩
  · have hne : (e == 0) = false := by simpa using he
    clear hm q4
    go_enter Tryz.func57, Tryz.ntmps57
    go_wp2_with fail
    go_ret
    exact ⟨ret_int (by simp [uintA, he]), by have := HR.out; simpa [uintS, he] using this, Ch.refl _ _⟩
theorem uintA_bd (m : Int) (s : St) : 0 ≤ uintA m s ∧ uintA m s ≤ 18446744073709551615 := by
  have := got_bd s.l
  unfold uintA; split <;> (try split) <;> omega
theorem rint_any (w : World) (K R : Nat) (s : St) (h : Rdr w K R s) : Calls Tryz.prog 58 #[.pointer (some ⟨R, 0, none⟩)] w fun e w' => e = .returned (.int .i64 (intA s)) ∧ Rdr w' K R (intS s) ∧ Ch R w w' := by
  have HR : Hid (Rdr w K R s) := h
  clear h
  have bd := uintA_bd top64 s
  go_enter Tryz.func58, Tryz.ntmps58
  go_wp2_with fail
  refine (ruint_any _ K R _ 18446744073709551615 HR.out).mono ?_; rintro e w1 ⟨rfl, r1, g1⟩
  go_wp2_with fail
  refine (rzag_any _ bd.1 bd.2 _).mono ?_; rintro e w2 ⟨rfl, rfl⟩
  go_wp2_with fail
  go_ret
  exact ⟨rfl, r1, g1⟩
set_option maxHeartbeats 1000000 in
theorem rvec_any (w : World) (K R : Nat) (s : St) (h : Rdr w K R s) : Calls Tryz.prog 95 #[.pointer (some ⟨R, 0, none⟩)] w fun e w' => e = .returned (.agg #[.int .i64 (intA s), .int .i64 (intA (intS s)), .int .i64 (intA (intS (intS s)))]) ∧ Rdr w' K R (vecS s) ∧ Ch R w w' := by
  have HR : Hid (Rdr w K R s) := h
  have lt := h.lt
  have hK := h.hK
  clear h
  go_enter Tryz.func95, Tryz.ntmps95
  go_wp2_with fail
  have X0 : Blk (w.alloc (.cells #[.int .i64 0, .int .i64 0, .int .i64 0] 66)) w.heap.size [.int .i64 0, .int .i64 0, .int .i64 0] := Blk.new w _ _ rfl
  have B0 : Below w.heap.size w (w.alloc (.cells #[.int .i64 0, .int .i64 0, .int .i64 0] 66)) := (Below.refl _ _).alloc (Nat.le_refl _) _
  have G0 : Ch R w (w.alloc (.cells #[.int .i64 0, .int .i64 0, .int .i64 0] 66)) := Ch.of B0 (by omega)
  have RR := HR.out.below B0 lt
  obtain ⟨W0, hW⟩ : ∃ W, (w.alloc (.cells #[.int .i64 0, .int .i64 0, .int .i64 0] 66)) = W := ⟨_, rfl⟩
  rw [hW] at X0 G0 RR
  rw [hW]
  clear hW B0 HR
  obtain ⟨H, hH⟩ : ∃ H, w.heap.size = H := ⟨_, rfl⟩
  rw [hH] at X0 lt
  rw [hH]
  have R0 : Hid (Rdr W0 K R s) := RR
  clear RR
  refine (rint_any _ K R _ R0.out).mono ?_; rintro e w1 ⟨rfl, r1, g1⟩
  have X1 := X0.ch g1 (by omega)
  have G1 := G0.trans g1
  clear X0 G0 R0 g1
  go_wp2_with fail
  refine (rint_any _ K R _ r1).mono ?_; rintro e w2 ⟨rfl, r2, g2⟩
  have X2 := X1.ch g2 (by omega)
  have G2 := G1.trans g2
  clear X1 G1 r1 g2
  go_wp2_with fail
  refine (rint_any _ K R _ r2).mono ?_; rintro e w3 ⟨rfl, r3, g3⟩
  have X3 := X2.ch g3 (by omega)
  have G3 := G2.trans g3
  clear X2 G2 r2 g3
  have y0 := X3.cell 0 _ rfl
  have v0 := X3.froz 0
  have y1 := X3.cell 1 _ rfl
  have v1 := X3.froz 1
  have y2 := X3.cell 2 _ rfl
  have v2 := X3.froz 2
  have xl := X3.lt
  go_wp2_with fail
  refine bodyPost_ret (v := .agg #[.int .i64 (intA s), .int .i64 (intA (intS s)), .int .i64 (intA (intS (intS s)))]) (by simp [results, Tryz.results95, go_sem, y0, y1, y2]) rfl ?_
  refine ⟨rfl, ?_, ?_⟩
  · refine r3.ch (M := H) ?_ (by omega) (by omega)
    repeat' (first | exact Ch.refl _ _ | refine Ch.set ?_ _ _)
  · repeat' (first | exact G3 | refine Ch.setNew ?_ (by omega) (show w.heap.size ≤ H by omega) _)
end Go.Proofs.YtlpdhglibgnkoaaGreat

namespace Go.Proofs.YtlpdhglibgnkoaaGreat
open Go.RowKit
set_option linter.unusedVariables false
theorem RdrV.new {w : World} {v : Value} {l : List Int} (h : Rd w v l) (hb : Bytes l) (t : TypeId) : RdrV (w.alloc (.cells #[v, .int .i64 0, .int .i64 0] t)) w.heap.size w.heap.size v ⟨l, 0, 0⟩ := by
  have B := Blk.new w #[v, .int .i64 0, .int .i64 0] t rfl
  have hl : l.length ≤ 9223372036854775807 := by obtain ⟨ao, cap, rfl, h1, h2, _⟩ := h; omega
  exact ⟨Nat.le_refl _, B.lt, h.low.below ((Below.refl _ w).alloc (Nat.le_refl _) _) (Nat.le_refl _), hb, by simp, by simp only; omega, B.cell 0 _ rfl, B.cell 1 _ rfl, B.cell 2 _ rfl, B.froz⟩
theorem Rdr.drew {w : World} {K R : Nat} {s : St} (h : Rdr w K R s) : Rdr w.drew K R s := h.below (Below.refl _ w).drew h.lt
theorem Rdr.drewN {w : World} {K R : Nat} {s : St} (h : Rdr w K R s) (n : Nat) : Rdr (w.drewN n) K R s := h.below (below_drewN (Below.refl _ w) n) h.lt
/-- A block made by one store of three. -/
theorem Blk.made {w : World} {t : TypeId} {z0 z1 z2 a b c : Value} {H : Nat} (hH : w.heap.size = H) :
    Blk ((((w.alloc (.cells #[z0, z1, z2] t)).setCell ⟨H, 0, none⟩ a).setCell ⟨H, 1, none⟩ b).setCell ⟨H, 2, none⟩ c) H [a, b, c] := by
  have B := (((Blk.new w #[z0, z1, z2] t hH.symm).set 0 a (by simp)).set 1 b (by simp)).set 2 c (by simp)
  exact B
/-- A reader whose bytes lie behind the block that another one's call turns. -/
theorem RdrV.ch2 {w w' : World} {K R M b o len cap : Nat} {s : St} (h : RdrV w K R (.slice (some ⟨b, o, none⟩) len cap) s) (k : Ch M w w') (hM : M ≠ R) (hb : b ≠ M) (hs : b < w.heap.size) : RdrV w' K R (.slice (some ⟨b, o, none⟩) len cap) s := by
  refine ⟨h.hK, Nat.lt_of_lt_of_le h.lt k.size, ?_, h.bytes, h.n0, h.n1, (k.cell (p := ⟨R, 0, none⟩) (Ne.symm hM) h.lt).trans h.c0, (k.cell (p := ⟨R, 1, none⟩) (Ne.symm hM) h.lt).trans h.c1,
    (k.cell (p := ⟨R, 2, none⟩) (Ne.symm hM) h.lt).trans h.c2, fun o => (k.frozen (p := ⟨R, o, none⟩) (Ne.symm hM) h.lt).trans (h.f o)⟩
  obtain ⟨ao, cap', e, h1, h2, h3, h4⟩ := h.low
  injection e with e1 e2 e3
  subst e1 e3
  refine ⟨_, _, by rw [e2], h1, h2, h3, ?_⟩
  rcases h4 with h | ⟨b', o', e, hK, hat⟩
  · exact Or.inl h
  · injection e with e; injection e with e1 e2
    subst e1 e2
    exact Or.inr ⟨_, _, rfl, hK, fun i hi => (k.cell (p := ⟨b, o + i, none⟩) hb hs).trans (hat i hi)⟩
def exS : St := ⟨[5, 172, 2], 0, 0⟩
end Go.Proofs.YtlpdhglibgnkoaaGreat

namespace Go.Proofs.YtlpdhglibgnkoaaGreat
open Go.RowKit

theorem cells_e3 : Tryz.prog.cellsOf 2 = 1 := by kernel_rfl
end Go.Proofs.YtlpdhglibgnkoaaGreat

namespace Go.Proofs.YtlpdhglibgnkoaaGreat
open Go.RowKit
set_option linter.unusedVariables false

structure Rc where
  k : Int
  i : Int
  p0 : Int
  p1 : Int
  p2 : Int
  v0 : Int
  v1 : Int
  v2 : Int
  a : Int
structure En where
  i : Int
  p0 : Int
  p1 : Int
  p2 : Int
  v0 : Int
  v1 : Int
  v2 : Int
  a : Int
  g : Int
abbrev recC (r : Rc) : List Value := [.int .i64 r.k, .int .i64 r.i, .int .i64 r.p0, .int .i64 r.p1, .int .i64 r.p2, .int .i64 r.v0, .int .i64 r.v1, .int .i64 r.v2, .int .u16 r.a]
abbrev recV (r : Rc) : Value := .agg #[.int .i64 r.k, .int .i64 r.i, .int .i64 r.p0, .int .i64 r.p1, .int .i64 r.p2, .int .i64 r.v0, .int .i64 r.v1, .int .i64 r.v2, .int .u16 r.a]
abbrev entC (r : En) : List Value := [.int .i64 r.i, .int .i64 r.p0, .int .i64 r.p1, .int .i64 r.p2, .int .i64 r.v0, .int .i64 r.v1, .int .i64 r.v2, .int .u16 r.a, .int .u8 r.g]
abbrev entV (r : En) : Value := .agg #[.int .i64 r.i, .int .i64 r.p0, .int .i64 r.p1, .int .i64 r.p2, .int .i64 r.v0, .int .i64 r.v1, .int .i64 r.v2, .int .u16 r.a, .int .u8 r.g]
def noRec : Rc := ⟨0, 0, 0, 0, 0, 0, 0, 0, 0⟩
def noEnt : En := ⟨0, 0, 0, 0, 0, 0, 0, 0, 0⟩
def S64 (x : Int) : Prop := -9223372036854775808 ≤ x ∧ x ≤ 9223372036854775807
structure Rc.ok (r : Rc) : Prop where
  k : S64 r.k
  i : S64 r.i
  p0 : S64 r.p0
  p1 : S64 r.p1
  p2 : S64 r.p2
  v0 : S64 r.v0
  v1 : S64 r.v1
  v2 : S64 r.v2
  a : 0 ≤ r.a ∧ r.a ≤ 65535
structure En.ok (r : En) : Prop where
  i : S64 r.i
  p0 : S64 r.p0
  p1 : S64 r.p1
  p2 : S64 r.p2
  v0 : S64 r.v0
  v1 : S64 r.v1
  v2 : S64 r.v2
  a : 0 ≤ r.a ∧ r.a ≤ 65535
  g : 0 ≤ r.g ∧ r.g ≤ 255
/-! '==' -/
def recB (r s : Rc) : Bool := r.k == s.k && (r.i == s.i && ((r.p0 == s.p0 && (r.p1 == s.p1 && r.p2 == s.p2)) && ((r.v0 == s.v0 && (r.v1 == s.v1 && r.v2 == s.v2)) && r.a == s.a)))
def entB (r s : En) : Bool := r.i == s.i && ((r.p0 == s.p0 && (r.p1 == s.p1 && r.p2 == s.p2)) && ((r.v0 == s.v0 && (r.v1 == s.v1 && r.v2 == s.v2)) && (r.a == s.a && r.g == s.g)))
theorem recB_iff (r s : Rc) : recB r s = true ↔ r = s := by
  cases r; cases s
  simp only [recB, Bool.and_eq_true, beq_iff_eq, Rc.mk.injEq]
  constructor
  · rintro ⟨h0, h1, ⟨h2, h3, h4⟩, ⟨h5, h6, h7⟩, h8⟩; exact ⟨h0, h1, h2, h3, h4, h5, h6, h7, h8⟩
  · rintro ⟨h0, h1, h2, h3, h4, h5, h6, h7, h8⟩; exact ⟨h0, h1, ⟨h2, h3, h4⟩, ⟨h5, h6, h7⟩, h8⟩
theorem entB_iff (r s : En) : entB r s = true ↔ r = s := by
  cases r; cases s
  simp only [entB, Bool.and_eq_true, beq_iff_eq, En.mk.injEq]
  constructor
  · rintro ⟨h1, ⟨h2, h3, h4⟩, ⟨h5, h6, h7⟩, h8, h9⟩; exact ⟨h1, h2, h3, h4, h5, h6, h7, h8, h9⟩
  · rintro ⟨h1, h2, h3, h4, h5, h6, h7, h8, h9⟩; exact ⟨h1, ⟨h2, h3, h4⟩, ⟨h5, h6, h7⟩, h8, h9⟩
theorem entB_same (r : En) : entB r r = true := (entB_iff r r).2 rfl
theorem eq3_at (d : Nat) (w : World) (a0 a1 a2 b0 b1 b2 : Int) :
    (Op.equalIn (d + 2) 66 (.agg #[.int .i64 a0, .int .i64 a1, .int .i64 a2]) (.agg #[.int .i64 b0, .int .i64 b1, .int .i64 b2])).run Tryz.prog w = .ok (a0 == b0 && (a1 == b1 && a2 == b2)) w := by
  have hu := Tryz.underlying2
  obtain ⟨i, hi⟩ := info_of_underlying hu
  rw [run_equalIn_array w (d + 1) _ _ Tryz.underlying66 hi, cells_e3]
  have r3 : List.range 3 = [0, 1, 2] := rfl
  have e : ∀ a b : Int, (Op.equalIn (d + 1) 2 (.int .i64 a) (.int .i64 b)).run Tryz.prog w = .ok (a == b) w := fun a b => run_equalIn_int w d _ _ _ a b hu
  rw [r3]
  simp only [Op.eqItems, Sem.run_bind]
  simp [part, isAgg, run_underlying hu, e, go_sem]
  by_cases h0 : a0 = b0
  · by_cases h1 : a1 = b1
    · by_cases h2 : a2 = b2 <;> simp [h0, h1, h2]
    · simp [h0, h1]
  · simp [h0]
theorem eq6_run (w : World) (a0 a1 a2 a3 a4 a5 b0 b1 b2 b3 b4 b5 : Int) :
    (Op.equalIn 10000 191 (.agg #[.int .i64 a0, .int .i64 a1, .int .i64 a2, .int .i64 a3, .int .i64 a4, .int .i64 a5]) (.agg #[.int .i64 b0, .int .i64 b1, .int .i64 b2, .int .i64 b3, .int .i64 b4, .int .i64 b5])).run Tryz.prog w
      = .ok (a0 == b0 && (a1 == b1 && (a2 == b2 && (a3 == b3 && (a4 == b4 && a5 == b5))))) w := by
  have hu := Tryz.underlying2
  obtain ⟨i, hi⟩ := info_of_underlying hu
  rw [show (10000 : Nat) = 9999 + 1 from rfl, run_equalIn_array w 9999 _ _ Tryz.underlying191 hi, cells_e3]
  have r6 : List.range 6 = [0, 1, 2, 3, 4, 5] := rfl
  have e : ∀ a b : Int, (Op.equalIn 9999 2 (.int .i64 a) (.int .i64 b)).run Tryz.prog w = .ok (a == b) w := fun a b => run_equalIn_int w 9998 _ _ _ a b hu
  rw [r6]
  simp only [Op.eqItems, Sem.run_bind]
  simp [part, isAgg, run_underlying hu, e, go_sem]
  by_cases h0 : a0 = b0
  · by_cases h1 : a1 = b1
    · by_cases h2 : a2 = b2
      · by_cases h3 : a3 = b3
        · by_cases h4 : a4 = b4
          · by_cases h5 : a5 = b5 <;> simp [h0, h1, h2, h3, h4, h5]
          · simp [h0, h1, h2, h3, h4]
        · simp [h0, h1, h2, h3]
      · simp [h0, h1, h2]
    · simp [h0, h1]
  · simp [h0]
theorem ok_bool {a b : Bool} {w : World} (h : a = b) : Result.ok a w = Result.ok b w := by rw [h]
set_option maxRecDepth 8000 in
theorem eqR_run (w : World) (k i p0 p1 p2 v0 v1 v2 a k' i' p0' p1' p2' v0' v1' v2' a' : Int) :
    (Op.equalIn 10000 107 (.agg #[.int .i64 k, .int .i64 i, .int .i64 p0, .int .i64 p1, .int .i64 p2, .int .i64 v0, .int .i64 v1, .int .i64 v2, .int .u16 a])
      (.agg #[.int .i64 k', .int .i64 i', .int .i64 p0', .int .i64 p1', .int .i64 p2', .int .i64 v0', .int .i64 v1', .int .i64 v2', .int .u16 a'])).run Tryz.prog w
      = .ok (recB ⟨k, i, p0, p1, p2, v0, v1, v2, a⟩ ⟨k', i', p0', p1', p2', v0', v1', v2', a'⟩) w := by
  have e3 : ∀ (w : World) (a0 a1 a2 b0 b1 b2 : Int), (Op.equalIn 9999 66 (.agg #[.int .i64 a0, .int .i64 a1, .int .i64 a2]) (.agg #[.int .i64 b0, .int .i64 b1, .int .i64 b2])).run Tryz.prog w = .ok (a0 == b0 && (a1 == b1 && a2 == b2)) w := eq3_at 9997
  simp [go_sem, e3]
  unfold recB
  repeat' split
  all_goals (refine ok_bool ?_; simp_all)
set_option maxRecDepth 8000 in
theorem eqE_run (w : World) (i p0 p1 p2 v0 v1 v2 a g i' p0' p1' p2' v0' v1' v2' a' g' : Int) :
    (Op.equalIn 10000 69 (.agg #[.int .i64 i, .int .i64 p0, .int .i64 p1, .int .i64 p2, .int .i64 v0, .int .i64 v1, .int .i64 v2, .int .u16 a, .int .u8 g])
      (.agg #[.int .i64 i', .int .i64 p0', .int .i64 p1', .int .i64 p2', .int .i64 v0', .int .i64 v1', .int .i64 v2', .int .u16 a', .int .u8 g'])).run Tryz.prog w
      = .ok (entB ⟨i, p0, p1, p2, v0, v1, v2, a, g⟩ ⟨i', p0', p1', p2', v0', v1', v2', a', g'⟩) w := by
  have e3 : ∀ (w : World) (a0 a1 a2 b0 b1 b2 : Int), (Op.equalIn 9999 66 (.agg #[.int .i64 a0, .int .i64 a1, .int .i64 a2]) (.agg #[.int .i64 b0, .int .i64 b1, .int .i64 b2])).run Tryz.prog w = .ok (a0 == b0 && (a1 == b1 && a2 == b2)) w := eq3_at 9997
  simp [go_sem, e3]
  unfold entB
  repeat' split
  all_goals (refine ok_bool ?_; simp_all)

/-! what a record is checked by -/
def emptyB (r : Rc) : Bool := recB r ⟨r.k, r.i, 0, 0, 0, 0, 0, 0, 0⟩
theorem emptyB_iff (r : Rc) : emptyB r = true ↔ (r.p0 = 0 ∧ r.p1 = 0 ∧ r.p2 = 0 ∧ r.v0 = 0 ∧ r.v1 = 0 ∧ r.v2 = 0) ∧ r.a = 0 := by
  unfold emptyB
  rw [recB_iff]
  cases r
  simp only [Rc.mk.injEq]
  constructor
  · rintro ⟨_, _, h2, h3, h4, h5, h6, h7, h8⟩; exact ⟨⟨h2, h3, h4, h5, h6, h7⟩, h8⟩
  · rintro ⟨⟨h2, h3, h4, h5, h6, h7⟩, h8⟩; exact ⟨trivial, trivial, h2, h3, h4, h5, h6, h7, h8⟩
def chk (r : Rc) : Int := if r.k < 0 ∨ 4 ≤ r.k then 11 else if r.i < 0 ∨ 65535 < r.i then 3 else if (r.k = 1 ∧ emptyB r = true) ∨ (r.k = 2 ∧ emptyB r = false) then 2 else 0
theorem chk_bd (r : Rc) : 0 ≤ chk r ∧ chk r ≤ 11 := by
  unfold chk
  repeat' split
  all_goals omega
theorem chk_ok {r : Rc} (h : chk r = 0) : (0 ≤ r.k ∧ r.k ≤ 3) ∧ (0 ≤ r.i ∧ r.i ≤ 65535) ∧ (r.k = 1 → emptyB r = false) ∧ (r.k = 2 → emptyB r = true) := by
  unfold chk at h
  by_cases h1 : r.k < 0 ∨ 4 ≤ r.k
  · rw [if_pos h1] at h; omega
  · rw [if_neg h1] at h
    by_cases h2 : r.i < 0 ∨ 65535 < r.i
    · rw [if_pos h2] at h; omega
    · rw [if_neg h2] at h
      by_cases h3 : (r.k = 1 ∧ emptyB r = true) ∨ (r.k = 2 ∧ emptyB r = false)
      · rw [if_pos h3] at h; omega
      · refine ⟨by omega, by omega, fun h4 => ?_, fun h4 => ?_⟩
        · cases e : emptyB r
          · rfl
          · exact absurd (Or.inl ⟨h4, e⟩) h3
        · cases e : emptyB r
          · exact absurd (Or.inr ⟨h4, e⟩) h3
          · rfl
theorem Blk.below {w w' : World} {b B : Nat} {cs : List Value} (h : Blk w b cs) (k : Below B w w') (hB : b < B) : Blk w' b cs :=
  ⟨Nat.lt_of_lt_of_le h.lt k.size, fun o ho => (k.cell (p := ⟨b, o, none⟩) hB).trans (h.all o ho), fun o => (k.frozen (p := ⟨b, o, none⟩) hB).trans (h.froz o)⟩
abbrev recA (r : Rc) : Array Value := #[.int .i64 r.k, .int .i64 r.i, .int .i64 r.p0, .int .i64 r.p1, .int .i64 r.p2, .int .i64 r.v0, .int .i64 r.v1, .int .i64 r.v2, .int .u16 r.a]
abbrev entA (r : En) : Array Value := #[.int .i64 r.i, .int .i64 r.p0, .int .i64 r.p1, .int .i64 r.p2, .int .i64 r.v0, .int .i64 r.v1, .int .i64 r.v2, .int .u16 r.a, .int .u8 r.g]
/-- A box that was just made. -/
theorem boxed {w W : World} {cs : Array Value} {t : TypeId} (h : w.alloc (.cells cs t) = W) : Blk W w.heap.size cs.toList ∧ Below w.heap.size w W ∧ W.heap.size = w.heap.size + 1 := by
  subst h
  exact ⟨Blk.new w _ _ rfl, (Below.refl _ _).alloc (Nat.le_refl _) _, by simp⟩
theorem Blk.drewN {w : World} {b : Nat} {cs : List Value} (h : Blk w b cs) (n : Nat) : Blk (w.drewN n) b cs := ⟨h.lt, h.all, h.froz⟩
end Go.Proofs.YtlpdhglibgnkoaaGreat

namespace Go.Proofs.YtlpdhglibgnkoaaGreat
open Go.RowKit
set_option linter.unusedVariables false
attribute [local go_sem ↓] eqR_run eqE_run eq6_run

set_option maxRecDepth 8000 in
theorem rec_nothing (w : World) (r : Rc) : Calls Tryz.prog 130 #[recV r] w fun e w' => e = .returned (.bool (emptyB r)) ∧ Below w.heap.size w w' := by
  go_enter Tryz.func130, Tryz.ntmps130
  go_wp2_with fail
  go_ret
  exact ⟨rfl, (Below.refl _ _).alloc (Nat.le_refl _) _⟩
theorem rec_anything (w : World) (r : Rc) : Calls Tryz.prog 124 #[recV r] w fun e w' => e = .returned (.bool true) ∧ Below w.heap.size w w' := by
  go_enter Tryz.func124, Tryz.ntmps124
  go_wp2_with fail
  go_ret
  exact ⟨rfl, (Below.refl _ _).alloc (Nat.le_refl _) _⟩
set_option maxRecDepth 8000 in
theorem rec_something (w : World) (r : Rc) : Calls Tryz.prog 127 #[recV r] w fun e w' => e = .returned (.bool (!emptyB r)) ∧ Below w.heap.size w w' := by
  go_enter Tryz.func127, Tryz.ntmps127
  go_wp2_with fail
  refine (rec_nothing _ r).mono ?_; rintro e w1 ⟨rfl, b1⟩
  go_wp2_with fail
  go_ret
  exact ⟨rfl, bthen ((Below.refl _ _).alloc (Nat.le_refl _) _) b1⟩
theorem rec_isLast (w : World) (x : Int) : Calls Tryz.prog 104 #[.int .i64 x] w fun e w' => e = .returned (.bool (decide (-1 ≤ x ∧ x ≤ 65535))) ∧ w' = w := by
  go_enter Tryz.func104, Tryz.ntmps104
  by_cases h1 : -1 ≤ x
  · by_cases h2 : x ≤ 65535
    · go_wp2_with fail
      go_ret
      exact ⟨ret_bool (decide_eq_true ⟨h1, h2⟩).symm, rfl⟩
    · go_wp2_with fail
      go_ret
      exact ⟨ret_bool (decide_eq_false (by omega)).symm, rfl⟩
  · go_wp2_with fail
    go_ret
    exact ⟨ret_bool (by simp; omega), rfl⟩
abbrev fnV (n : Nat) : Value := .func (.func n) #[] #[]
abbrev kindC : List Value := [fnV 124, fnV 125, fnV 126, fnV 127, fnV 128, fnV 129,
  fnV 130, fnV 131, fnV 132, fnV 124, fnV 125, fnV 126]
abbrev kindA : Array Value := #[fnV 124, fnV 125, fnV 126, fnV 127, fnV 128, fnV 129,
  fnV 130, fnV 131, fnV 132, fnV 124, fnV 125, fnV 126]
set_option maxRecDepth 8000 in
theorem rec_kinds (w : World) : Calls Tryz.prog 105 #[] w fun e w' => e = .returned (.agg kindA) ∧ Below w.heap.size w w' := by
  go_enter Tryz.func105, Tryz.ntmps105
  go_wp2_with fail
  refine bodyPost_ret (v := .agg kindA) (by simp [results, Tryz.results105, go_sem]) rfl ⟨rfl, (Below.refl _ _).alloc (Nat.le_refl _) _⟩
abbrev numV (r : Rc) : Value := .agg #[.int .i64 r.p0, .int .i64 r.p1, .int .i64 r.p2, .int .i64 r.v0, .int .i64 r.v1, .int .i64 r.v2]
set_option maxRecDepth 8000 in
theorem rec_signed (w : World) (r : Rc) : Calls Tryz.prog 147 #[recV r] w fun e w' => e = .returned (numV r) ∧ Below w.heap.size w w' := by
  go_enter Tryz.func147, Tryz.ntmps147
  go_wp2_with fail
  refine bodyPost_ret (v := numV r) (by simp [results, Tryz.results147, go_sem]) rfl ⟨rfl, ((Below.refl _ _).alloc (Nat.le_refl _) _).alloc (by simp) _⟩
set_option maxRecDepth 8000 in
theorem doc_numbers (w : World) (r : Rc) : Calls Tryz.prog 144 #[recV r] w fun e w' => e = .returned (numV r) ∧ Below w.heap.size w w' := by
  go_enter Tryz.func144, Tryz.ntmps144
  go_wp2_with fail
  refine bodyPost_ret (v := numV r) (by simp [results, Tryz.results144, go_sem]) rfl ⟨rfl, ((Below.refl _ _).alloc (Nat.le_refl _) _).alloc (by simp) _⟩
end Go.Proofs.YtlpdhglibgnkoaaGreat
