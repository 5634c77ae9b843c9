/-
  Layer 7 (reader): the document's own reader.
-/
import Derived.Test.YtjjaodlgnoiheaaRdr4
import Derived.Test.YtjjaodlgnoiheaaVint5
namespace Go.Proofs.Ytjjaodlgnoiheaa
open Go.RowKit
set_option linter.unusedVariables false
theorem got_five {l : List Int} (h : l ≠ []) : (got l).2.2 ≠ 5 := by
  unfold got; rw [if_neg h]
  split <;> (try split) <;> (try split) <;> (try split) <;> simp
theorem rfail_any (w : World) (K R : Nat) (s : St) (x : Int) (h : Rdr w K R s) : Calls Try.prog 37 #[.pointer (some ⟨R, 0, none⟩), .int .i64 x] w fun e w' => e = .returned (.tuple #[]) ∧ Rdr w' K R (failS s x) ∧ Ch R w w' := by
  have HR : Hid (Rdr w K R s) := h
  obtain ⟨l, n, e⟩ := s
  obtain ⟨v, h⟩ := h
  have HV : Hid (RdrV w K R v ⟨l, n, e⟩) := h
  have c0 := h.c0
  have c1 := h.c1
  have c2 := h.c2
  have f0 := h.f 0
  have f1 := h.f 1
  have f2 := h.f 2
  have n0 := h.n0
  have n1 := h.n1
  have lt := h.lt
  have hlow := h.low
  have HL : Hid (Low w K v l) := h.low
  have HB : Hid (Bytes l) := h.bytes
  have hK := h.hK
  clear h
  simp only at c0 c1 c2 n0 n1 hlow
  obtain ⟨m, hm⟩ : ∃ m, l.length = m := ⟨_, rfl⟩
  rw [hm] at n1
  have HM : Hid (l.length = m) := hm
  obtain ⟨ao, cap, rfl, q1, q2, q3, q4⟩ := hlow
  rw [hm] at c0 q1
  clear q3
  by_cases he : e = 0
  · subst he
    go_enter Try.func37, Try.ntmps37
    go_wp2_with fail
    go_end0
    exact ⟨rfl, ⟨_, HV.out.fail x⟩, (Ch.refl _ _).set 2 _⟩
  · have hne : (e == 0) = false := by simpa using he
    go_enter Try.func37, Try.ntmps37
    go_wp2_with fail
    go_end0
    refine ⟨rfl, ?_, Ch.refl _ _⟩
    unfold failS; rw [if_neg (by simpa using he)]; exact HR.out
set_option maxHeartbeats 1000000 in
theorem rbyte_any (w : World) (K R : Nat) (s : St) (h : Rdr w K R s) : Calls Try.prog 39 #[.pointer (some ⟨R, 0, none⟩)] w fun e w' => e = .returned (.int .u8 (byteA s)) ∧ Rdr w' K R (byteS s) ∧ Ch R w w' := by
  have HR : Hid (Rdr w K R s) := h
  obtain ⟨l, n, e⟩ := s
  obtain ⟨v, h⟩ := h
  have HV : Hid (RdrV w K R v ⟨l, n, e⟩) := h
  have c0 := h.c0
  have c1 := h.c1
  have c2 := h.c2
  have f0 := h.f 0
  have f1 := h.f 1
  have f2 := h.f 2
  have n0 := h.n0
  have n1 := h.n1
  have lt := h.lt
  have hlow := h.low
  have HL : Hid (Low w K v l) := h.low
  have HB : Hid (Bytes l) := h.bytes
  have hK := h.hK
  clear h
  simp only at c0 c1 c2 n0 n1 hlow
  obtain ⟨m, hm⟩ : ∃ m, l.length = m := ⟨_, rfl⟩
  rw [hm] at n1
  have HM : Hid (l.length = m) := hm
  obtain ⟨ao, cap, rfl, q1, q2, q3, q4⟩ := hlow
  rw [hm] at c0 q1
  clear q3
  by_cases he : e = 0
  · subst he
    by_cases hl : l = []
    · subst hl
      have m0 : m = 0 := by simpa using hm.symm
      subst m0
      clear q4 hm
      go_enter Try.func39, Try.ntmps39
      go_wp2_with fail
      go_ret
      exact ⟨ret_int (by simp [byteA]), ⟨_, by have := HV.out.fail 6; simpa [byteS] using this⟩, (Ch.refl _ _).set 2 _⟩
    · have hp := List.length_pos_iff.2 hl
      rw [hm] at hp
      have q : ((m : Int) == 0) = false := by simp; omega
      obtain ⟨b, o, rfl, hbK, hat⟩ := q4.resolve_left hl
      have hc := hat 0 (by omega)
      obtain ⟨x, hx⟩ : ∃ x, l.getD 0 0 = x := ⟨_, rfl⟩
      rw [hx] at hc
      simp only [Nat.add_zero] at hc
      have HX : Hid (l.getD 0 0 = x) := hx
      have HL2 : Hid (l ≠ []) := hl
      have q5 : ¬ (m : Int) < 1 := by omega
      have q6 : b ≠ R := by omega
      rw [hm] at HL
      clear hm hl hat q4 hx
      go_enter Try.func39, Try.ntmps39
      go_wp2_with fail
      all_goals
        go_ret
        refine ⟨ret_int (by have := HX.out; simpa [byteA] using this.symm), ?_, ((Ch.refl _ _).set 0 _).set 1 _⟩
        unfold byteS; rw [if_pos rfl, if_neg HL2.out]
        exact ⟨_, HV.out.take 1 (by have := HM.out; omega) _ rfl (low_cut HL.out HM.out HL2.out (by omega) (by omega) (by omega) (by first | (right; rfl) | (left; omega)))⟩
  · have hne : (e == 0) = false := by simpa using he
    clear hm q4
    go_enter Try.func39, Try.ntmps39
    go_wp2_with fail
    go_ret
    exact ⟨ret_int (by simp [byteA, he]), by have := HR.out; simpa [byteS, he] using this, Ch.refl _ _⟩
set_option maxHeartbeats 1000000 in
theorem ruint_any (w : World) (K R : Nat) (s : St) (most : Int) (h : Rdr w K R s) : Calls Try.prog 38 #[.pointer (some ⟨R, 0, none⟩), .int .u64 most] w fun e w' => e = .returned (.int .u64 (uintA most s)) ∧ Rdr w' K R (uintS most s) ∧ Ch R w w' := by
  have HR : Hid (Rdr w K R s) := h
  obtain ⟨l, n, e⟩ := s
  obtain ⟨v, h⟩ := h
  have HV : Hid (RdrV w K R v ⟨l, n, e⟩) := h
  have c0 := h.c0
  have c1 := h.c1
  have c2 := h.c2
  have f0 := h.f 0
  have f1 := h.f 1
  have f2 := h.f 2
  have n0 := h.n0
  have n1 := h.n1
  have lt := h.lt
  have hlow := h.low
  have HL : Hid (Low w K v l) := h.low
  have HB : Hid (Bytes l) := h.bytes
  have hK := h.hK
  clear h
  simp only at c0 c1 c2 n0 n1 hlow
  obtain ⟨m, hm⟩ : ∃ m, l.length = m := ⟨_, rfl⟩
  rw [hm] at n1
  have HM : Hid (l.length = m) := hm
  obtain ⟨ao, cap, rfl, q1, q2, q3, q4⟩ := hlow
  rw [hm] at c0 q1
  clear q3
  by_cases he : e = 0
  · subst he
    by_cases hl : l = []
    · subst hl
      have m0 : m = 0 := by simpa using hm.symm
      subst m0
      clear q4 hm
      go_enter Try.func38, Try.ntmps38
      go_wp2_with fail
      refine (rget_any _ [] Bytes.nil _ HL.out.rd).mono ?_; rw [got_nil]; rintro e w1 ⟨rfl, rfl⟩
      go_wp2_with fail
      go_ret
      exact ⟨ret_int (by simp [uintA, uintE]), ⟨_, by have := HV.out.fail 6; simpa [uintS, uintE] using this⟩, (Ch.refl _ _).set 2 _⟩
    · have hp := List.length_pos_iff.2 hl
      rw [hm] at hp
      obtain ⟨b, o, rfl, hbK, hat⟩ := q4.resolve_left hl
      have HL2 : Hid (l ≠ []) := hl
      have q6 : b ≠ R := by omega
      have h5 := got_five hl
      have hbd := got_bd l
      have hgl := got_len HB.out
      rw [HM.out] at hgl
      obtain ⟨g, hg⟩ : ∃ g, got l = g := ⟨_, rfl⟩
      have HG : Hid (got l = g) := hg
      rw [hg] at hbd hgl h5
      obtain ⟨x, kI, er⟩ := g
      obtain ⟨x0, x1, k0, k1, e0, e1⟩ := hbd
      simp only at x0 x1 k0 k1 e0 e1 hgl h5
      obtain ⟨k, rfl⟩ : ∃ k : Nat, kI = k := ⟨kI.toNat, by omega⟩
      rw [hm] at HL
      clear hg hm hl hat q4
      have j5 : (er == 5) = false := by simpa using h5
      by_cases hz : er = 0
      · subst hz
        obtain ⟨g1, g2, g3⟩ := hgl rfl
        have g4 : ¬ (m : Int) < (k : Int) := by omega
        have g5 : 1 ≤ k := by omega
        have g6 : k ≤ m := by omega
        clear hgl
        by_cases hx : most < x
        · have HE : Hid (uintE most l = 3) := by show uintE most l = 3; unfold uintE; rw [if_neg HL2.out, HG.out, if_pos rfl, if_pos hx]
          go_enter Try.func38, Try.ntmps38
          go_wp2_with fail
          refine (rget_any _ l HB.out _ HL.out.rd).mono ?_; rw [HG.out]; rintro e w1 ⟨rfl, rfl⟩
          go_wp2_with fail
          go_ret
          refine ⟨ret_int (by unfold uintA; simp [HE.out]), ?_, (Ch.refl _ _).set 2 _⟩
          unfold uintS; rw [if_pos rfl, if_neg (by rw [HE.out]; decide)]; rw [HE.out]; exact ⟨_, HV.out.fail 3⟩
        · have HE : Hid (uintE most l = 0) := by show uintE most l = 0; unfold uintE; rw [if_neg HL2.out, HG.out, if_pos rfl, if_neg hx]
          go_enter Try.func38, Try.ntmps38
          go_wp2_with fail
          refine (rget_any _ l HB.out _ HL.out.rd).mono ?_; rw [HG.out]; rintro e w1 ⟨rfl, rfl⟩
          go_wp2_with fail
          all_goals
            go_ret
            refine ⟨ret_int (by unfold uintA; simp [HE.out, HG.out]), ?_, ((Ch.refl _ _).set 0 _).set 1 _⟩
            unfold uintS; rw [if_pos rfl, if_pos HE.out, HG.out]
            exact ⟨_, HV.out.take k (by have := HM.out; omega) _ rfl (low_cut HL.out HM.out HL2.out (by omega) (by omega) (by omega) (by first | (right; rfl) | (left; omega)))⟩
      · have hzz : (er == 0) = false := by simpa using hz
        have HE : Hid (uintE most l = er) := by show uintE most l = er; unfold uintE; rw [if_neg HL2.out, HG.out, if_neg (by exact hz)]
        clear hgl
        go_enter Try.func38, Try.ntmps38
        go_wp2_with fail
        refine (rget_any _ l HB.out _ HL.out.rd).mono ?_; rw [HG.out]; rintro e w1 ⟨rfl, rfl⟩
        go_wp2_with fail
        go_ret
        refine ⟨ret_int (by unfold uintA; simp [HE.out, hz]), ?_, (Ch.refl _ _).set 2 _⟩
        unfold uintS; rw [if_pos rfl, if_neg (by rw [HE.out]; exact hz)]; rw [HE.out]; exact ⟨_, HV.out.fail er⟩
  · have hne : (e == 0) = false := by simpa using he
    clear hm q4
    go_enter Try.func38, Try.ntmps38
    go_wp2_with fail
    go_ret
    exact ⟨ret_int (by simp [uintA, he]), by have := HR.out; simpa [uintS, he] using this, Ch.refl _ _⟩
theorem uintA_bd (m : Int) (s : St) : 0 ≤ uintA m s ∧ uintA m s ≤ 18446744073709551615 := by
  have := got_bd s.l
  unfold uintA; split <;> (try split) <;> omega
theorem rint_any (w : World) (K R : Nat) (s : St) (h : Rdr w K R s) : Calls Try.prog 58 #[.pointer (some ⟨R, 0, none⟩)] w fun e w' => e = .returned (.int .i64 (intA s)) ∧ Rdr w' K R (intS s) ∧ Ch R w w' := by
  have HR : Hid (Rdr w K R s) := h
  clear h
  have bd := uintA_bd top64 s
  go_enter Try.func58, Try.ntmps58
  go_wp2_with fail
  refine (ruint_any _ K R _ 18446744073709551615 HR.out).mono ?_; rintro e w1 ⟨rfl, r1, g1⟩
  go_wp2_with fail
  refine (rzag_any _ bd.1 bd.2 _).mono ?_; rintro e w2 ⟨rfl, rfl⟩
  go_wp2_with fail
  go_ret
  exact ⟨rfl, r1, g1⟩
set_option maxHeartbeats 1000000 in
theorem rvec_any (w : World) (K R : Nat) (s : St) (h : Rdr w K R s) : Calls Try.prog 40 #[.pointer (some ⟨R, 0, none⟩)] w fun e w' => e = .returned (.agg #[.int .i64 (intA s), .int .i64 (intA (intS s)), .int .i64 (intA (intS (intS s)))]) ∧ Rdr w' K R (vecS s) ∧ Ch R w w' := by
  have HR : Hid (Rdr w K R s) := h
  have lt := h.lt
  have hK := h.hK
  clear h
  go_enter Try.func40, Try.ntmps40
  go_wp2_with fail
  have X0 : Blk (w.alloc (.cells #[.int .i64 0, .int .i64 0, .int .i64 0] 22)) w.heap.size [.int .i64 0, .int .i64 0, .int .i64 0] := Blk.new w _ _ rfl
  have B0 : Below w.heap.size w (w.alloc (.cells #[.int .i64 0, .int .i64 0, .int .i64 0] 22)) := (Below.refl _ _).alloc (Nat.le_refl _) _
  have G0 : Ch R w (w.alloc (.cells #[.int .i64 0, .int .i64 0, .int .i64 0] 22)) := Ch.of B0 (by omega)
  have RR := HR.out.below B0 lt
  obtain ⟨W0, hW⟩ : ∃ W, (w.alloc (.cells #[.int .i64 0, .int .i64 0, .int .i64 0] 22)) = W := ⟨_, rfl⟩
  rw [hW] at X0 G0 RR
  rw [hW]
  clear hW B0 HR
  obtain ⟨H, hH⟩ : ∃ H, w.heap.size = H := ⟨_, rfl⟩
  rw [hH] at X0 lt
  rw [hH]
  have R0 : Hid (Rdr W0 K R s) := RR
  clear RR
  refine (rint_any _ K R _ R0.out).mono ?_; rintro e w1 ⟨rfl, r1, g1⟩
  have X1 := X0.ch g1 (by omega)
  have G1 := G0.trans g1
  clear X0 G0 R0 g1
  go_wp2_with fail
  refine (rint_any _ K R _ r1).mono ?_; rintro e w2 ⟨rfl, r2, g2⟩
  have X2 := X1.ch g2 (by omega)
  have G2 := G1.trans g2
  clear X1 G1 r1 g2
  go_wp2_with fail
  refine (rint_any _ K R _ r2).mono ?_; rintro e w3 ⟨rfl, r3, g3⟩
  have X3 := X2.ch g3 (by omega)
  have G3 := G2.trans g3
  clear X2 G2 r2 g3
  have y0 := X3.cell 0 _ rfl
  have v0 := X3.froz 0
  have y1 := X3.cell 1 _ rfl
  have v1 := X3.froz 1
  have y2 := X3.cell 2 _ rfl
  have v2 := X3.froz 2
  have xl := X3.lt
  go_wp2_with fail
  refine bodyPost_ret (v := .agg #[.int .i64 (intA s), .int .i64 (intA (intS s)), .int .i64 (intA (intS (intS s)))]) (by simp [results, Try.results40, go_sem, y0, y1, y2]) rfl ?_
  refine ⟨rfl, ?_, ?_⟩
  · refine r3.ch (M := H) ?_ (by omega) (by omega)
    repeat' (first | exact Ch.refl _ _ | refine Ch.set ?_ _ _)
  · repeat' (first | exact G3 | refine Ch.setNew ?_ (by omega) (show w.heap.size ≤ H by omega) _)
end Go.Proofs.Ytjjaodlgnoiheaa
