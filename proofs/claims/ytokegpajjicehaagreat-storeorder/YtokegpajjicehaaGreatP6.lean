/-
  Texts Rdr3, Rdr4 in one.
-/
import Derived.Test.YtokegpajjicehaaGreatP5
namespace Go.Proofs.YtokegpajjicehaaGreat
open Go.RowKit
set_option linter.unusedVariables false

theorem first_any (w : World) (v : Value) (l : List Int) (hl : l ≠ []) (h : Rd w v l) : Calls Tryz.prog 187 #[v] w fun e w' => e = .returned (.tuple #[.int .u8 (l.getD 0 0), .int .i64 1, .int .i64 0]) ∧ w' = w := by
  have hp := List.length_pos_iff.2 hl
  obtain ⟨ao, cap, rfl, h1, h2, h3, h4⟩ := h
  obtain ⟨b, o, rfl, hat⟩ := h4.resolve_left hl
  have hc := hat 0 hp
  obtain ⟨x, hx⟩ : ∃ x, l.getD 0 0 = x := ⟨_, rfl⟩
  obtain ⟨n, hn⟩ : ∃ n, l.length = n := ⟨_, rfl⟩
  rw [hx] at hc ⊢
  rw [hn] at hp h1 ⊢
  simp only [Nat.add_zero] at hc
  clear hat h4 hl hx hn h3
  go_enter Tryz.func187, Tryz.ntmps187
  go_wp2_with fail
  go_ret3
  exact ⟨rfl, rfl⟩
theorem signed_any (w : World) (v : Value) (l : List Int) (hb : Bytes l) (h : Rd w v l) : Calls Tryz.prog 165 #[v] w fun e w' => e = .returned (.tuple #[.int .i64 (zag (got l).1), .int .i64 (got l).2.1, .int .i64 (got l).2.2]) ∧ w' = w := by
  have HR : Hid (Rd w v l) := h
  have hbd := got_bd l
  obtain ⟨g, hg⟩ : ∃ g, got l = g := ⟨_, rfl⟩
  have HG : Hid (got l = g) := hg
  rw [hg] at hbd ⊢
  obtain ⟨x, k, er⟩ := g
  obtain ⟨x0, x1, k0, k1, e0, e1⟩ := hbd
  simp only at x0 x1 k0 k1 e0 e1 ⊢
  have BE : Hid (Bytes l) := hb
  clear hg hb
  obtain ⟨ao, cap, rfl, _, _, _, _⟩ := h
  go_enter Tryz.func165, Tryz.ntmps165
  go_wp2_with fail
  refine (get_any _ l BE.out _ HR.out).mono ?_; rw [HG.out]; rintro e w1 ⟨rfl, rfl⟩
  go_wp2_with fail
  refine (zag_any x x0 x1 _).mono ?_; rintro e w1 ⟨rfl, rfl⟩
  go_wp2_with fail
  go_ret3
  exact ⟨rfl, rfl⟩
/-- A closure's own cell. -/
theorem upTo_any (w : World) (m : Int) : Calls Tryz.prog 163 #[.int .u64 m] w fun e w' => e = .returned (.func (.func 188) #[] #[.pointer (some ⟨w.heap.size, 0, none⟩)]) ∧ Below w.heap.size w w' ∧ w'.heap.size = w.heap.size + 1 ∧ w'.cell? ⟨w.heap.size, 0, none⟩ = some (.int .u64 m) := by
  go_enter Tryz.func163, Tryz.ntmps163
  go_wp2_with fail
  go_ret
  exact ⟨rfl, (Below.refl _ _).alloc (Nat.le_refl _) _, by simp, by simp⟩
def upE (m : Int) (g : Int × Int × Int) : Int := if g.2.2 = 0 then (if m < g.1 then 3 else 0) else g.2.2
theorem upTo1_any (w : World) (v : Value) (l : List Int) (m : Int) (C : Nat) (hb : Bytes l) (h : Rd w v l) (hc : w.cell? ⟨C, 0, none⟩ = some (.int .u64 m)) : Calls Tryz.prog 188 #[v, .pointer (some ⟨C, 0, none⟩)] w fun e w' => e = .returned (.tuple #[.int .u64 (got l).1, .int .i64 (got l).2.1, .int .i64 (upE m (got l))]) ∧ w' = w := by
  have HR : Hid (Rd w v l) := h
  have hbd := got_bd l
  obtain ⟨g, hg⟩ : ∃ g, got l = g := ⟨_, rfl⟩
  have HG : Hid (got l = g) := hg
  rw [hg] at hbd ⊢
  obtain ⟨x, k, er⟩ := g
  obtain ⟨x0, x1, k0, k1, e0, e1⟩ := hbd
  simp only at x0 x1 k0 k1 e0 e1 ⊢
  have BE : Hid (Bytes l) := hb
  clear hg hb
  obtain ⟨ao, cap, rfl, _, _, _, _⟩ := h
  obtain ⟨z, hz⟩ : ∃ z, upE m (x, k, er) = z := ⟨_, rfl⟩
  rw [hz]
  have HZ := (show Hid _ from hz)
  clear hz
  by_cases he : er = 0
  · subst he
    by_cases hm : m < x
    · go_enter Tryz.func188, Tryz.ntmps188
      go_wp2_with fail
      refine (get_any _ l BE.out _ HR.out).mono ?_; rw [HG.out]; rintro e w1 ⟨rfl, rfl⟩
      go_wp2_with fail
      go_ret3
      exact ⟨ret_three rfl rfl (by have := HZ.out; simpa [upE, hm] using this), rfl⟩
    · go_enter Tryz.func188, Tryz.ntmps188
      go_wp2_with fail
      refine (get_any _ l BE.out _ HR.out).mono ?_; rw [HG.out]; rintro e w1 ⟨rfl, rfl⟩
      go_wp2_with fail
      go_ret3
      exact ⟨ret_three rfl rfl (by have := HZ.out; unfold upE at this; rw [if_pos rfl, if_neg (Int.not_lt.2 hm)] at this; exact this), rfl⟩
  · go_enter Tryz.func188, Tryz.ntmps188
    go_wp2_with fail
    refine (get_any _ l BE.out _ HR.out).mono ?_; rw [HG.out]; rintro e w1 ⟨rfl, rfl⟩
    go_wp2_with fail
    go_ret3
    exact ⟨ret_three rfl rfl (by have := HZ.out; simpa [upE, he] using this), rfl⟩
/-- What is left of a slice, as the walk spells it. -/
theorem low_cut {w : World} {K cap b o m k len' cap' : Nat} {a : Addr} {l : List Int} (h : Low w K (.slice (some ⟨b, o, none⟩) m cap) l) (hlen : l.length = m) (hl : l ≠ []) (hk : k ≤ m) (e1 : len' = m - k) (e2 : cap' = cap - k) (ha : len' = 0 ∨ a = ⟨b, o + k, none⟩) :
    Low w K (.slice (some a) len' cap') (l.drop k) := by
  subst hlen e1 e2
  refine h.drop k hk _ ?_ hl
  rintro b' o' e
  injection e with e; injection e with e1 e2
  subst e1 e2
  exact ⟨a, rfl, ha⟩
set_option maxHeartbeats 1000000 in
theorem takeByte (w : World) (K R : Nat) (s : St) (h : Rdr w K R s) : Calls Tryz.prog 186 #[.pointer (some ⟨R, 0, none⟩), .func (.func 187) #[] #[]] w fun e w' => e = .returned (.int .u8 (byteA s)) ∧ Rdr w' K R (byteS s) ∧ Ch R w w' := by
  have HR : Hid (Rdr w K R s) := h
  obtain ⟨l, n, e⟩ := s
  obtain ⟨v, h⟩ := h
  have HV : Hid (RdrV w K R v ⟨l, n, e⟩) := h
  have c0 := h.c0
  have c1 := h.c1
  have c2 := h.c2
  have f0 := h.f 0
  have f1 := h.f 1
  have n0 := h.n0
  have n1 := h.n1
  have lt := h.lt
  have hlow := h.low
  have HL : Hid (Low w K v l) := h.low
  have HB : Hid (Bytes l) := h.bytes
  clear h
  simp only at c0 c1 c2 n0 n1 hlow
  obtain ⟨m, hm⟩ : ∃ m, l.length = m := ⟨_, rfl⟩
  rw [hm] at n1
  have HM : Hid (l.length = m) := hm
  obtain ⟨ao, cap, rfl, q1, q2, q3, q4⟩ := hlow
  rw [hm] at c0 q1
  clear q3
  by_cases he : e = 0
  · subst he
    by_cases hl : l = []
    · subst hl
      have m0 : m = 0 := by simpa using hm.symm
      subst m0
      clear q4 hm
      go_enter Tryz.func186, Tryz.ntmps186
      go_wp2_with fail
      refine (left_any _ K R _ HR.out).mono ?_; rintro e w1 ⟨rfl, rfl⟩
      go_wp2_with fail
      refine (fail_any _ K R _ 6 HR.out).mono ?_; rintro e w1 ⟨rfl, r1, g1⟩
      have R1 : Hid (Rdr w1 K R ⟨[], n, 6⟩) := r1
      clear r1
      go_wp2_with fail
      refine (err_any _ K R _ R1.out).mono ?_; rintro e w2 ⟨rfl, rfl⟩
      go_wp2_with fail
      go_ret
      exact ⟨ret_int (by simp [byteA]), by have := R1.out; simpa [byteS] using this, g1⟩
    · have hp := List.length_pos_iff.2 hl
      rw [hm] at hp
      have q : ((m : Int) == 0) = false := by simp; omega
      obtain ⟨b, o, rfl, hbK, hat⟩ := q4.resolve_left hl
      have HL2 : Hid (l ≠ []) := hl
      rw [hm] at HL
      clear hm hl hat q4
      have q5 : ¬ (m : Int) < 1 := by omega
      obtain ⟨x, hx⟩ : ∃ x, l.getD 0 0 = x := ⟨_, rfl⟩
      have HX : Hid (l.getD 0 0 = x) := hx
      clear hx
      go_enter Tryz.func186, Tryz.ntmps186
      go_wp2_with fail
      refine (left_any _ K R _ HR.out).mono ?_; simp only; rw [HM.out]; rintro e w1 ⟨rfl, rfl⟩
      go_wp2_with fail
      refine (err_any _ K R _ HR.out).mono ?_; rintro e w1 ⟨rfl, rfl⟩
      go_wp2_with (go_at_call 187; refine (first_any _ _ l HL2.out HL.out.rd).mono ?_; rw [HX.out]; rintro e w1 ⟨rfl, rfl⟩)
      all_goals
        go_ret
        refine ⟨ret_int (by have := HX.out; simpa [byteA] using this.symm), ?_, ((Ch.refl _ _).set 0 _).set 1 _⟩
        unfold byteS; rw [if_pos rfl, if_neg HL2.out]
        exact ⟨_, HV.out.take 1 (by have := HM.out; omega) _ rfl (low_cut HL.out HM.out HL2.out (by omega) (by omega) (by omega) (by first | (right; rfl) | (left; omega)))⟩
  · have hne : (e == 0) = false := by simpa using he
    by_cases hl : l = []
    · subst hl
      have m0 : m = 0 := by simpa using hm.symm
      subst m0
      clear q4 hm
      go_enter Tryz.func186, Tryz.ntmps186
      go_wp2_with fail
      refine (left_any _ K R _ HR.out).mono ?_; rintro e w1 ⟨rfl, rfl⟩
      go_wp2_with fail
      refine (fail_any _ K R _ 6 HR.out).mono ?_; rintro e w1 ⟨rfl, r1, g1⟩
      have R1 : Hid (Rdr w1 K R ⟨[], n, e⟩) := by unfold failS at r1; rw [if_neg (by simpa using he)] at r1; exact r1
      clear r1
      go_wp2_with fail
      refine (err_any _ K R _ R1.out).mono ?_; rintro e w2 ⟨rfl, rfl⟩
      go_wp2_with fail
      go_ret
      exact ⟨ret_int (by simp [byteA, he]), by have := R1.out; simpa [byteS, he] using this, g1⟩
    · have hp := List.length_pos_iff.2 hl
      rw [hm] at hp
      have q : ((m : Int) == 0) = false := by simp; omega
      clear hm hl q4
      go_enter Tryz.func186, Tryz.ntmps186
      go_wp2_with fail
      refine (left_any _ K R _ HR.out).mono ?_; simp only; rw [HM.out]; rintro e w1 ⟨rfl, rfl⟩
      go_wp2_with fail
      refine (err_any _ K R _ HR.out).mono ?_; rintro e w2 ⟨rfl, rfl⟩
      go_wp2_with fail
      go_ret
      exact ⟨ret_int (by simp [byteA, he]), by have := HR.out; simpa [byteS, he] using this, Ch.refl _ _⟩
set_option maxHeartbeats 1000000 in
theorem takeInt (w : World) (K R : Nat) (s : St) (h : Rdr w K R s) : Calls Tryz.prog 164 #[.pointer (some ⟨R, 0, none⟩), .func (.func 165) #[] #[]] w fun e w' => e = .returned (.int .i64 (intA s)) ∧ Rdr w' K R (intS s) ∧ Ch R w w' := by
  have HR : Hid (Rdr w K R s) := h
  obtain ⟨l, n, e⟩ := s
  obtain ⟨v, h⟩ := h
  have HV : Hid (RdrV w K R v ⟨l, n, e⟩) := h
  have c0 := h.c0
  have c1 := h.c1
  have c2 := h.c2
  have f0 := h.f 0
  have f1 := h.f 1
  have n0 := h.n0
  have n1 := h.n1
  have lt := h.lt
  have hlow := h.low
  have HL : Hid (Low w K v l) := h.low
  have HB : Hid (Bytes l) := h.bytes
  clear h
  simp only at c0 c1 c2 n0 n1 hlow
  obtain ⟨m, hm⟩ : ∃ m, l.length = m := ⟨_, rfl⟩
  rw [hm] at n1
  have HM : Hid (l.length = m) := hm
  obtain ⟨ao, cap, rfl, q1, q2, q3, q4⟩ := hlow
  rw [hm] at c0 q1
  clear q3
  by_cases he : e = 0
  · subst he
    by_cases hl : l = []
    · subst hl
      have m0 : m = 0 := by simpa using hm.symm
      subst m0
      clear q4 hm
      go_enter Tryz.func164, Tryz.ntmps164
      go_wp2_with fail
      refine (left_any _ K R _ HR.out).mono ?_; rintro e w1 ⟨rfl, rfl⟩
      go_wp2_with fail
      refine (fail_any _ K R _ 6 HR.out).mono ?_; rintro e w1 ⟨rfl, r1, g1⟩
      have R1 : Hid (Rdr w1 K R ⟨[], n, 6⟩) := r1
      clear r1
      go_wp2_with fail
      refine (err_any _ K R _ R1.out).mono ?_; rintro e w2 ⟨rfl, rfl⟩
      go_wp2_with fail
      go_ret
      exact ⟨ret_int (by simp [intA, uintA, uintE]; rfl), by have := R1.out; simpa [intS, uintS, uintE] using this, g1⟩
    · have hp := List.length_pos_iff.2 hl
      rw [hm] at hp
      have q : ((m : Int) == 0) = false := by simp; omega
      obtain ⟨b, o, rfl, hbK, hat⟩ := q4.resolve_left hl
      have HL2 : Hid (l ≠ []) := hl
      rw [hm] at HL
      clear hm hl hat q4
      have hbd := got_bd l
      have hgl := got_len HB.out
      rw [HM.out] at hgl
      obtain ⟨g, hg⟩ : ∃ g, got l = g := ⟨_, rfl⟩
      have HG : Hid (got l = g) := hg
      rw [hg] at hbd hgl
      obtain ⟨x, kI, er⟩ := g
      obtain ⟨x0, x1, k0, k1, e0, e1⟩ := hbd
      simp only at x0 x1 k0 k1 e0 e1 hgl
      obtain ⟨k, rfl⟩ : ∃ k : Nat, kI = k := ⟨kI.toNat, by omega⟩
      clear hg
      obtain ⟨z, hzz⟩ : ∃ z, er = z := ⟨_, rfl⟩
      subst hzz
      have HT : Hid (uintE top64 l = er) := by show uintE top64 l = er; rw [uintE_top, if_neg HL2.out, HG.out]
      have HZ0 : Hid (er = 0 → er = 0 ∧ True) := fun h => ⟨h, trivial⟩
      have HZ1 : Hid (er = 0 → uintE top64 l = 0) := fun h => HT.out.trans h
      have HZ2 : Hid (er ≠ 0 → uintE top64 l = er) := fun _ => HT.out
      by_cases hz : er = 0
      · clear HT; subst hz
        skip
        obtain ⟨g1, g2, g3⟩ := hgl rfl
        have g4 : ¬ (m : Int) < (k : Int) := by omega
        have g5 : 1 ≤ k := by omega
        have g6 : k ≤ m := by omega
        have HE : Hid (uintE top64 l = 0) := HZ1.out rfl
        clear hgl
        go_enter Tryz.func164, Tryz.ntmps164
        go_wp2_with fail
        refine (left_any _ K R _ HR.out).mono ?_; simp only; rw [HM.out]; rintro e w1 ⟨rfl, rfl⟩
        go_wp2_with fail
        refine (err_any _ K R _ HR.out).mono ?_; rintro e w1 ⟨rfl, rfl⟩
        go_wp2_with (go_at_call 165; refine (signed_any _ _ l HB.out HL.out.rd).mono ?_; rw [HG.out]; rintro e w1 ⟨rfl, rfl⟩)
        all_goals
          go_ret
          refine ⟨ret_int (by unfold intA uintA; simp [HE.out, HG.out]), ?_, ((Ch.refl _ _).set 0 _).set 1 _⟩
          unfold intS uintS; rw [if_pos rfl, if_pos HE.out, HG.out]
          exact ⟨_, HV.out.take k (by have := HM.out; omega) _ rfl (low_cut HL.out HM.out HL2.out (by omega) (by omega) (by omega) (by first | (right; rfl) | (left; omega)))⟩
      · have hzz : (er == 0) = false := by simpa using hz
        have HE : Hid (uintE top64 l = er) := HZ2.out hz
        clear hgl
        go_enter Tryz.func164, Tryz.ntmps164
        go_wp2_with fail
        refine (left_any _ K R _ HR.out).mono ?_; simp only; rw [HM.out]; rintro e w1 ⟨rfl, rfl⟩
        go_wp2_with fail
        refine (err_any _ K R _ HR.out).mono ?_; rintro e w1 ⟨rfl, rfl⟩
        go_wp2_with (go_at_call 165; refine (signed_any _ _ l HB.out HL.out.rd).mono ?_; rw [HG.out]; rintro e w1 ⟨rfl, rfl⟩)
        refine (fail_any _ K R _ er HR.out).mono ?_; rintro e w1 ⟨rfl, r1, g1⟩
        go_wp2_with fail
        go_ret
        refine ⟨ret_int (by unfold intA uintA; simp [HE.out, hz]; try rfl), ?_, g1⟩
        unfold intS uintS; rw [if_pos rfl, if_neg (by rw [HE.out]; exact hz)]; rw [HE.out]; exact r1
  · have hne : (e == 0) = false := by simpa using he
    by_cases hl : l = []
    · subst hl
      have m0 : m = 0 := by simpa using hm.symm
      subst m0
      clear q4 hm
      go_enter Tryz.func164, Tryz.ntmps164
      go_wp2_with fail
      refine (left_any _ K R _ HR.out).mono ?_; rintro e w1 ⟨rfl, rfl⟩
      go_wp2_with fail
      refine (fail_any _ K R _ 6 HR.out).mono ?_; rintro e w1 ⟨rfl, r1, g1⟩
      have R1 : Hid (Rdr w1 K R ⟨[], n, e⟩) := by unfold failS at r1; rw [if_neg (by simpa using he)] at r1; exact r1
      clear r1
      go_wp2_with fail
      refine (err_any _ K R _ R1.out).mono ?_; rintro e w2 ⟨rfl, rfl⟩
      go_wp2_with fail
      go_ret
      exact ⟨ret_int (by simp [intA, uintA, he]; rfl), by have := R1.out; simpa [intS, uintS, he] using this, g1⟩
    · have hp := List.length_pos_iff.2 hl
      rw [hm] at hp
      have q : ((m : Int) == 0) = false := by simp; omega
      clear hm hl q4
      go_enter Tryz.func164, Tryz.ntmps164
      go_wp2_with fail
      refine (left_any _ K R _ HR.out).mono ?_; simp only; rw [HM.out]; rintro e w1 ⟨rfl, rfl⟩
      go_wp2_with fail
      refine (err_any _ K R _ HR.out).mono ?_; rintro e w2 ⟨rfl, rfl⟩
      go_wp2_with fail
      go_ret
      exact ⟨ret_int (by simp [intA, uintA, he]; rfl), by have := HR.out; simpa [intS, uintS, he] using this, Ch.refl _ _⟩
set_option maxHeartbeats 1000000 in
theorem takeUint (w : World) (K R : Nat) (s : St) (most : Int) (C : Nat) (hc : w.cell? ⟨C, 0, none⟩ = some (.int .u64 most)) (h : Rdr w K R s) : Calls Tryz.prog 162 #[.pointer (some ⟨R, 0, none⟩), .func (.func 188) #[] #[.pointer (some ⟨C, 0, none⟩)]] w fun e w' => e = .returned (.int .u64 (uintA most s)) ∧ Rdr w' K R (uintS most s) ∧ Ch R w w' := by
  have HR : Hid (Rdr w K R s) := h
  obtain ⟨l, n, e⟩ := s
  obtain ⟨v, h⟩ := h
  have HV : Hid (RdrV w K R v ⟨l, n, e⟩) := h
  have c0 := h.c0
  have c1 := h.c1
  have c2 := h.c2
  have f0 := h.f 0
  have f1 := h.f 1
  have n0 := h.n0
  have n1 := h.n1
  have lt := h.lt
  have hlow := h.low
  have HL : Hid (Low w K v l) := h.low
  have HB : Hid (Bytes l) := h.bytes
  clear h
  simp only at c0 c1 c2 n0 n1 hlow
  obtain ⟨m, hm⟩ : ∃ m, l.length = m := ⟨_, rfl⟩
  rw [hm] at n1
  have HM : Hid (l.length = m) := hm
  obtain ⟨ao, cap, rfl, q1, q2, q3, q4⟩ := hlow
  rw [hm] at c0 q1
  clear q3
  by_cases he : e = 0
  · subst he
    by_cases hl : l = []
    · subst hl
      have m0 : m = 0 := by simpa using hm.symm
      subst m0
      clear q4 hm
      go_enter Tryz.func162, Tryz.ntmps162
      go_wp2_with fail
      refine (left_any _ K R _ HR.out).mono ?_; rintro e w1 ⟨rfl, rfl⟩
      go_wp2_with fail
      refine (fail_any _ K R _ 6 HR.out).mono ?_; rintro e w1 ⟨rfl, r1, g1⟩
      have R1 : Hid (Rdr w1 K R ⟨[], n, 6⟩) := r1
      clear r1
      go_wp2_with fail
      refine (err_any _ K R _ R1.out).mono ?_; rintro e w2 ⟨rfl, rfl⟩
      go_wp2_with fail
      go_ret
      exact ⟨ret_int (by simp [uintA, uintE]), by have := R1.out; simpa [uintS, uintE] using this, g1⟩
    · have hp := List.length_pos_iff.2 hl
      rw [hm] at hp
      have q : ((m : Int) == 0) = false := by simp; omega
      obtain ⟨b, o, rfl, hbK, hat⟩ := q4.resolve_left hl
      have HL2 : Hid (l ≠ []) := hl
      rw [hm] at HL
      clear hm hl hat q4
      have hbd := got_bd l
      have hgl := got_len HB.out
      rw [HM.out] at hgl
      obtain ⟨g, hg⟩ : ∃ g, got l = g := ⟨_, rfl⟩
      have HG : Hid (got l = g) := hg
      rw [hg] at hbd hgl
      obtain ⟨x, kI, er⟩ := g
      obtain ⟨x0, x1, k0, k1, e0, e1⟩ := hbd
      simp only at x0 x1 k0 k1 e0 e1 hgl
      obtain ⟨k, rfl⟩ : ∃ k : Nat, kI = k := ⟨kI.toNat, by omega⟩
      clear hg
      obtain ⟨z, hzz⟩ : ∃ z, upE most (x, (k : Int), er) = z := ⟨_, rfl⟩
      have HT : Hid (uintE most l = z) := by show uintE most l = z; unfold uintE; rw [if_neg HL2.out, HG.out]; exact hzz
      have HU : Hid (upE most (x, (k : Int), er) = z) := hzz
      have HZ0 : Hid (z = 0 → er = 0 ∧ True) := fun h => by
        refine ⟨?_, trivial⟩
        unfold upE at hzz
        simp only at hzz
        split at hzz
        · assumption
        · omega
      have HZ1 : Hid (z = 0 → uintE most l = 0) := fun h => HT.out.trans h
      have HZ2 : Hid (z ≠ 0 → uintE most l = z) := fun _ => HT.out
      clear hzz
      by_cases hz : z = 0
      · subst hz
        obtain ⟨he, hx⟩ := HZ0.out rfl
        subst he
        obtain ⟨g1, g2, g3⟩ := hgl rfl
        have g4 : ¬ (m : Int) < (k : Int) := by omega
        have g5 : 1 ≤ k := by omega
        have g6 : k ≤ m := by omega
        have HE : Hid (uintE most l = 0) := HZ1.out rfl
        clear hgl
        go_enter Tryz.func162, Tryz.ntmps162
        go_wp2_with fail
        refine (left_any _ K R _ HR.out).mono ?_; simp only; rw [HM.out]; rintro e w1 ⟨rfl, rfl⟩
        go_wp2_with fail
        refine (err_any _ K R _ HR.out).mono ?_; rintro e w1 ⟨rfl, rfl⟩
        go_wp2_with (go_at_call 188; refine (upTo1_any _ _ l most C HB.out HL.out.rd hc).mono ?_; rw [HG.out, HU.out]; rintro e w1 ⟨rfl, rfl⟩)
        all_goals
          go_ret
          refine ⟨ret_int (by unfold uintA; simp [HE.out, HG.out]), ?_, ((Ch.refl _ _).set 0 _).set 1 _⟩
          unfold uintS; rw [if_pos rfl, if_pos HE.out, HG.out]
          exact ⟨_, HV.out.take k (by have := HM.out; omega) _ rfl (low_cut HL.out HM.out HL2.out (by omega) (by omega) (by omega) (by first | (right; rfl) | (left; omega)))⟩
      · have hzz : (z == 0) = false := by simpa using hz
        have HE : Hid (uintE most l = z) := HZ2.out hz
        clear hgl
        go_enter Tryz.func162, Tryz.ntmps162
        go_wp2_with fail
        refine (left_any _ K R _ HR.out).mono ?_; simp only; rw [HM.out]; rintro e w1 ⟨rfl, rfl⟩
        go_wp2_with fail
        refine (err_any _ K R _ HR.out).mono ?_; rintro e w1 ⟨rfl, rfl⟩
        go_wp2_with (go_at_call 188; refine (upTo1_any _ _ l most C HB.out HL.out.rd hc).mono ?_; rw [HG.out, HU.out]; rintro e w1 ⟨rfl, rfl⟩)
        refine (fail_any _ K R _ z HR.out).mono ?_; rintro e w1 ⟨rfl, r1, g1⟩
        go_wp2_with fail
        go_ret
        refine ⟨ret_int (by unfold uintA; simp [HE.out, hz]; try rfl), ?_, g1⟩
        unfold uintS; rw [if_pos rfl, if_neg (by rw [HE.out]; exact hz)]; rw [HE.out]; exact r1
  · have hne : (e == 0) = false := by simpa using he
    by_cases hl : l = []
    · subst hl
      have m0 : m = 0 := by simpa using hm.symm
      subst m0
      clear q4 hm
      go_enter Tryz.func162, Tryz.ntmps162
      go_wp2_with fail
      refine (left_any _ K R _ HR.out).mono ?_; rintro e w1 ⟨rfl, rfl⟩
      go_wp2_with fail
      refine (fail_any _ K R _ 6 HR.out).mono ?_; rintro e w1 ⟨rfl, r1, g1⟩
      have R1 : Hid (Rdr w1 K R ⟨[], n, e⟩) := by unfold failS at r1; rw [if_neg (by simpa using he)] at r1; exact r1
      clear r1
      go_wp2_with fail
      refine (err_any _ K R _ R1.out).mono ?_; rintro e w2 ⟨rfl, rfl⟩
      go_wp2_with fail
      go_ret
      exact ⟨ret_int (by simp [uintA, he]), by have := R1.out; simpa [uintS, he] using this, g1⟩
    · have hp := List.length_pos_iff.2 hl
      rw [hm] at hp
      have q : ((m : Int) == 0) = false := by simp; omega
      clear hm hl q4
      go_enter Tryz.func162, Tryz.ntmps162
      go_wp2_with fail
      refine (left_any _ K R _ HR.out).mono ?_; simp only; rw [HM.out]; rintro e w1 ⟨rfl, rfl⟩
      go_wp2_with fail
      refine (err_any _ K R _ HR.out).mono ?_; rintro e w2 ⟨rfl, rfl⟩
      go_wp2_with fail
      go_ret
      exact ⟨ret_int (by simp [uintA, he]), by have := HR.out; simpa [uintS, he] using this, Ch.refl _ _⟩
end Go.Proofs.YtokegpajjicehaaGreat

namespace Go.Proofs.YtokegpajjicehaaGreat
open Go.RowKit
set_option linter.unusedVariables false
theorem Blk.ch {R : Nat} {w w' : World} {b : Nat} {cs : List Value} (h : Blk w b cs) (k : Ch R w w') (hb : b ≠ R) : Blk w' b cs :=
  ⟨Nat.lt_of_lt_of_le h.lt k.size, fun o ho => (k.cell (p := ⟨b, o, none⟩) hb h.lt).trans (h.all o ho), fun o => (k.frozen (p := ⟨b, o, none⟩) hb h.lt).trans (h.froz o)⟩

theorem takeByte_nil (w : World) : Calls Tryz.prog 186 #[.pointer none, .func (.func 187) #[] #[]] w fun e w' => e = .returned (.int .u8 0) ∧ w' = w := by
  go_enter Tryz.func186, Tryz.ntmps186
  go_wp2_with fail
  refine (left_nil _).mono ?_; rintro e w1 ⟨rfl, rfl⟩
  go_wp2_with fail
  refine (fail_nil _ 6).mono ?_; rintro e w1 ⟨rfl, rfl⟩
  go_wp2_with fail
  refine (err_nil _).mono ?_; rintro e w1 ⟨rfl, rfl⟩
  go_wp2_with fail
  go_ret
  exact ⟨rfl, rfl⟩
theorem takeInt_nil (w : World) : Calls Tryz.prog 164 #[.pointer none, .func (.func 165) #[] #[]] w fun e w' => e = .returned (.int .i64 0) ∧ w' = w := by
  go_enter Tryz.func164, Tryz.ntmps164
  go_wp2_with fail
  refine (left_nil _).mono ?_; rintro e w1 ⟨rfl, rfl⟩
  go_wp2_with fail
  refine (fail_nil _ 6).mono ?_; rintro e w1 ⟨rfl, rfl⟩
  go_wp2_with fail
  refine (err_nil _).mono ?_; rintro e w1 ⟨rfl, rfl⟩
  go_wp2_with fail
  go_ret
  exact ⟨rfl, rfl⟩
theorem takeUint_nil (w : World) (c : Array Value) : Calls Tryz.prog 162 #[.pointer none, .func (.func 188) #[] c] w fun e w' => e = .returned (.int .u64 0) ∧ w' = w := by
  go_enter Tryz.func162, Tryz.ntmps162
  go_wp2_with fail
  refine (left_nil _).mono ?_; rintro e w1 ⟨rfl, rfl⟩
  go_wp2_with fail
  refine (fail_nil _ 6).mono ?_; rintro e w1 ⟨rfl, rfl⟩
  go_wp2_with fail
  refine (err_nil _).mono ?_; rintro e w1 ⟨rfl, rfl⟩
  go_wp2_with fail
  go_ret
  exact ⟨rfl, rfl⟩
theorem byte_any (w : World) (K R : Nat) (s : St) (h : Rdr w K R s) : Calls Tryz.prog 161 #[.pointer (some ⟨R, 0, none⟩)] w fun e w' => e = .returned (.int .u8 (byteA s)) ∧ Rdr w' K R (byteS s) ∧ Ch R w w' := by
  have HR : Hid (Rdr w K R s) := h
  clear h
  go_enter Tryz.func161, Tryz.ntmps161
  go_wp2_with fail
  refine (takeByte _ K R _ HR.out).mono ?_; rintro e w1 ⟨rfl, r1, g1⟩
  go_wp2_with fail
  go_ret
  exact ⟨rfl, r1, g1⟩
theorem byte_nil (w : World) : Calls Tryz.prog 161 #[.pointer none] w fun e w' => e = .returned (.int .u8 0) ∧ w' = w := by
  go_enter Tryz.func161, Tryz.ntmps161
  go_wp2_with fail
  refine (takeByte_nil _).mono ?_; rintro e w1 ⟨rfl, rfl⟩
  go_wp2_with fail
  go_ret
  exact ⟨rfl, rfl⟩
theorem int_any (w : World) (K R : Nat) (s : St) (h : Rdr w K R s) : Calls Tryz.prog 123 #[.pointer (some ⟨R, 0, none⟩)] w fun e w' => e = .returned (.int .i64 (intA s)) ∧ Rdr w' K R (intS s) ∧ Ch R w w' := by
  have HR : Hid (Rdr w K R s) := h
  clear h
  go_enter Tryz.func123, Tryz.ntmps123
  go_wp2_with fail
  refine (takeInt _ K R _ HR.out).mono ?_; rintro e w1 ⟨rfl, r1, g1⟩
  go_wp2_with fail
  go_ret
  exact ⟨rfl, r1, g1⟩
theorem int_nil (w : World) : Calls Tryz.prog 123 #[.pointer none] w fun e w' => e = .returned (.int .i64 0) ∧ w' = w := by
  go_enter Tryz.func123, Tryz.ntmps123
  go_wp2_with fail
  refine (takeInt_nil _).mono ?_; rintro e w1 ⟨rfl, rfl⟩
  go_wp2_with fail
  go_ret
  exact ⟨rfl, rfl⟩
theorem uint_any (w : World) (K R : Nat) (s : St) (most : Int) (h : Rdr w K R s) : Calls Tryz.prog 122 #[.pointer (some ⟨R, 0, none⟩), .int .u64 most] w fun e w' => e = .returned (.int .u64 (uintA most s)) ∧ Rdr w' K R (uintS most s) ∧ Ch R w w' := by
  have HR : Hid (Rdr w K R s) := h
  have lt := h.lt
  clear h
  go_enter Tryz.func122, Tryz.ntmps122
  go_wp2_with fail
  refine (upTo_any _ most).mono ?_; rintro e w1 ⟨rfl, b1, s1, c1⟩
  have R1 : Hid (Rdr w1 K R s) := HR.out.below b1 lt
  have g0 : Ch R w w1 := Ch.of b1 (by omega)
  go_wp2_with fail
  refine (takeUint _ K R _ most _ c1 R1.out).mono ?_; rintro e w2 ⟨rfl, r2, g2⟩
  go_wp2_with fail
  go_ret
  exact ⟨rfl, r2, g0.trans g2⟩
theorem uint_nil (w : World) (most : Int) : Calls Tryz.prog 122 #[.pointer none, .int .u64 most] w fun e w' => e = .returned (.int .u64 0) ∧ Below w.heap.size w w' := by
  go_enter Tryz.func122, Tryz.ntmps122
  go_wp2_with fail
  refine (upTo_any _ most).mono ?_; rintro e w1 ⟨rfl, b1, s1, c1⟩
  go_wp2_with fail
  refine (takeUint_nil _ _).mono ?_; rintro e w2 ⟨rfl, rfl⟩
  go_wp2_with fail
  go_ret
  exact ⟨rfl, b1⟩
set_option maxHeartbeats 1000000 in
theorem vec_any (w : World) (K R : Nat) (s : St) (h : Rdr w K R s) : Calls Tryz.prog 181 #[.pointer (some ⟨R, 0, none⟩)] w fun e w' => e = .returned (.agg #[.int .i64 (intA s), .int .i64 (intA (intS s)), .int .i64 (intA (intS (intS s)))]) ∧ Rdr w' K R (vecS s) ∧ Ch R w w' := by
  have HR : Hid (Rdr w K R s) := h
  have lt := h.lt
  have hK := h.hK
  clear h
  go_enter Tryz.func181, Tryz.ntmps181
  go_wp2_with fail
  have X0 : Blk ((w.alloc (.cells #[.int .i64 0, .int .i64 0, .int .i64 0] 37)).alloc (.cells #[.int .i64 0, .int .i64 0, .int .i64 0] 37)) w.heap.size [.int .i64 0, .int .i64 0, .int .i64 0] := (Blk.new w _ _ rfl).alloc _
  have Y0 : Blk ((w.alloc (.cells #[.int .i64 0, .int .i64 0, .int .i64 0] 37)).alloc (.cells #[.int .i64 0, .int .i64 0, .int .i64 0] 37)) (w.heap.size + 1) [.int .i64 0, .int .i64 0, .int .i64 0] := Blk.new _ _ _ (by simp)
  have B0 : Below w.heap.size w ((w.alloc (.cells #[.int .i64 0, .int .i64 0, .int .i64 0] 37)).alloc (.cells #[.int .i64 0, .int .i64 0, .int .i64 0] 37)) := ((Below.refl _ _).alloc (Nat.le_refl _) _).alloc (by simp) _
  have G0 : Ch R w ((w.alloc (.cells #[.int .i64 0, .int .i64 0, .int .i64 0] 37)).alloc (.cells #[.int .i64 0, .int .i64 0, .int .i64 0] 37)) := Ch.of B0 (by omega)
  have RR := HR.out.below B0 lt
  clear B0 HR
  obtain ⟨W0, hW⟩ : ∃ W, ((w.alloc (.cells #[.int .i64 0, .int .i64 0, .int .i64 0] 37)).alloc (.cells #[.int .i64 0, .int .i64 0, .int .i64 0] 37)) = W := ⟨_, rfl⟩
  rw [hW] at X0 Y0 G0 RR
  rw [hW]
  clear hW
  obtain ⟨H, hH⟩ : ∃ H, w.heap.size = H := ⟨_, rfl⟩
  rw [hH] at X0 Y0 lt
  rw [hH]
  have R0 : Hid (Rdr W0 K R s) := RR
  clear RR
  refine wp_loop_rounds 4 ?_
  rw [rounds_succ]
  have y := Y0.cell 0 _ rfl
  have yf := Y0.froz 0
  have yl := Y0.lt
  go_wp2_with fail
  refine (int_any _ K R _ R0.out).mono ?_; rintro e w1 ⟨rfl, r, g⟩
  have Y := Y0.ch g (by omega)
  have X := X0.ch g (by omega)
  have G := G0.trans g
  clear y yf yl
  have y := Y.cell 0 _ rfl
  have yf := Y.froz 0
  have yl := Y.lt
  go_wp2_with fail
  have Y' := Y.set 0 (.int .i64 (intA s)) (by simp)
  have X' := X.other (p := ⟨H + 1, 0, none⟩) (fun h => by have h' : H + 1 = H := h; omega) (.int .i64 (intA s))
  simp only [List.set] at Y'
  have G' := G.setNew (p := ⟨H + 1, 0, none⟩) (by omega) (show w.heap.size ≤ H + 1 by omega) (.int .i64 (intA s))
  have r' := r.ch ((Ch.refl (H + 1) _).set 0 (.int .i64 (intA s))) (by omega) (by omega)
  obtain ⟨W1, hW⟩ : ∃ W, (w1.setCell ⟨H + 1, 0, none⟩ (.int .i64 (intA s))) = W := ⟨_, rfl⟩
  rw [hW] at Y' X' G' r'
  rw [hW]
  have R1 : Hid (Rdr W1 K R (intS s)) := r'
  clear r' r G X Y g R0
  clear hW y yf yl Y0 X0 G0
  have Y1 := Y'; have X1 := X'; have G1 := G'
  clear Y' X' G'
  rw [rounds_succ]
  have y := Y1.cell 1 _ rfl
  have yf := Y1.froz 1
  have yl := Y1.lt
  go_wp2_with fail
  refine (int_any _ K R _ R1.out).mono ?_; rintro e w2 ⟨rfl, r, g⟩
  have Y := Y1.ch g (by omega)
  have X := X1.ch g (by omega)
  have G := G1.trans g
  clear y yf yl
  have y := Y.cell 1 _ rfl
  have yf := Y.froz 1
  have yl := Y.lt
  go_wp2_with fail
  have Y' := Y.set 1 (.int .i64 (intA (intS s))) (by simp)
  have X' := X.other (p := ⟨H + 1, 1, none⟩) (fun h => by have h' : H + 1 = H := h; omega) (.int .i64 (intA (intS s)))
  simp only [List.set] at Y'
  have G' := G.setNew (p := ⟨H + 1, 1, none⟩) (by omega) (show w.heap.size ≤ H + 1 by omega) (.int .i64 (intA (intS s)))
  have r' := r.ch ((Ch.refl (H + 1) _).set 1 (.int .i64 (intA (intS s)))) (by omega) (by omega)
  obtain ⟨W2, hW⟩ : ∃ W, (w2.setCell ⟨H + 1, 1, none⟩ (.int .i64 (intA (intS s)))) = W := ⟨_, rfl⟩
  rw [hW] at Y' X' G' r'
  rw [hW]
  have R2 : Hid (Rdr W2 K R (intS (intS s))) := r'
  clear r' r G X Y g R1
  clear hW y yf yl Y1 X1 G1
  have Y2 := Y'; have X2 := X'; have G2 := G'
  clear Y' X' G'
  rw [rounds_succ]
  have y := Y2.cell 2 _ rfl
  have yf := Y2.froz 2
  have yl := Y2.lt
  go_wp2_with fail
  refine (int_any _ K R _ R2.out).mono ?_; rintro e w3 ⟨rfl, r, g⟩
  have Y := Y2.ch g (by omega)
  have X := X2.ch g (by omega)
  have G := G2.trans g
  clear y yf yl
  have y := Y.cell 2 _ rfl
  have yf := Y.froz 2
  have yl := Y.lt
  go_wp2_with fail
  have Y' := Y.set 2 (.int .i64 (intA (intS (intS s)))) (by simp)
  have X' := X.other (p := ⟨H + 1, 2, none⟩) (fun h => by have h' : H + 1 = H := h; omega) (.int .i64 (intA (intS (intS s))))
  simp only [List.set] at Y'
  have G' := G.setNew (p := ⟨H + 1, 2, none⟩) (by omega) (show w.heap.size ≤ H + 1 by omega) (.int .i64 (intA (intS (intS s))))
  have r' := r.ch ((Ch.refl (H + 1) _).set 2 (.int .i64 (intA (intS (intS s))))) (by omega) (by omega)
  obtain ⟨W3, hW⟩ : ∃ W, (w3.setCell ⟨H + 1, 2, none⟩ (.int .i64 (intA (intS (intS s))))) = W := ⟨_, rfl⟩
  rw [hW] at Y' X' G' r'
  rw [hW]
  have R3 : Hid (Rdr W3 K R (intS (intS (intS s)))) := r'
  clear r' r G X Y g R2
  clear hW y yf yl Y2 X2 G2
  have Y3 := Y'; have X3 := X'; have G3 := G'
  clear Y' X' G'
  rw [rounds_succ]
  have x0 := Y3.cell 0 _ rfl
  have y0 := X3.cell 0 _ rfl
  have v0 := X3.froz 0
  have x1 := Y3.cell 1 _ rfl
  have y1 := X3.cell 1 _ rfl
  have v1 := X3.froz 1
  have x2 := Y3.cell 2 _ rfl
  have y2 := X3.cell 2 _ rfl
  have v2 := X3.froz 2
  have xl := X3.lt
  have yl := Y3.lt
  go_wp2_with fail
  refine bodyPost_ret (v := .agg #[.int .i64 (intA s), .int .i64 (intA (intS s)), .int .i64 (intA (intS (intS s)))]) (by simp [results, Tryz.results181, go_sem, y0, y1, y2]) rfl ?_
  refine ⟨rfl, ?_, ?_⟩
  · refine R3.out.ch (M := H) ?_ (by omega) (by omega)
    repeat' (first | exact Ch.refl _ _ | refine Ch.set ?_ _ _)
  · repeat' (first | exact G3 | refine Ch.setNew ?_ (by omega) (show w.heap.size ≤ H by omega) _)
set_option maxHeartbeats 1000000 in
theorem vec_nil (w : World) : Calls Tryz.prog 181 #[.pointer none] w fun e w' => e = .returned (.agg #[.int .i64 0, .int .i64 0, .int .i64 0]) ∧ Below w.heap.size w w' := by
  go_enter Tryz.func181, Tryz.ntmps181
  go_wp2_with fail
  have X0 : Blk ((w.alloc (.cells #[.int .i64 0, .int .i64 0, .int .i64 0] 37)).alloc (.cells #[.int .i64 0, .int .i64 0, .int .i64 0] 37)) w.heap.size [.int .i64 0, .int .i64 0, .int .i64 0] := (Blk.new w _ _ rfl).alloc _
  have Y0 : Blk ((w.alloc (.cells #[.int .i64 0, .int .i64 0, .int .i64 0] 37)).alloc (.cells #[.int .i64 0, .int .i64 0, .int .i64 0] 37)) (w.heap.size + 1) [.int .i64 0, .int .i64 0, .int .i64 0] := Blk.new _ _ _ (by simp)
  have G0 : Below w.heap.size w ((w.alloc (.cells #[.int .i64 0, .int .i64 0, .int .i64 0] 37)).alloc (.cells #[.int .i64 0, .int .i64 0, .int .i64 0] 37)) := ((Below.refl _ _).alloc (Nat.le_refl _) _).alloc (by simp) _
  obtain ⟨W0, hW⟩ : ∃ W, ((w.alloc (.cells #[.int .i64 0, .int .i64 0, .int .i64 0] 37)).alloc (.cells #[.int .i64 0, .int .i64 0, .int .i64 0] 37)) = W := ⟨_, rfl⟩
  rw [hW] at X0 Y0 G0
  rw [hW]
  clear hW
  obtain ⟨H, hH⟩ : ∃ H, w.heap.size = H := ⟨_, rfl⟩
  rw [hH] at X0 Y0 G0
  rw [hH]
  have hH2 : H ≤ w.heap.size := by omega
  refine wp_loop_rounds 4 ?_
  rw [rounds_succ]
  have y := Y0.cell 0 _ rfl
  have yf := Y0.froz 0
  have yl := Y0.lt
  go_wp2_with fail
  refine (int_nil _).mono ?_; rintro e w1 ⟨rfl, rfl⟩
  go_wp2_with fail
  have Y' := Y0.set 0 (.int .i64 0) (by simp)
  have X' := X0.other (p := ⟨H + 1, 0, none⟩) (fun h => by have h' : H + 1 = H := h; omega) (.int .i64 0)
  simp only [List.set] at Y'
  have G' := G0.setCell (p := ⟨H + 1, 0, none⟩) (show H ≤ H + 1 by omega) (.int .i64 0)
  obtain ⟨W1, hW⟩ : ∃ W, (w1.setCell ⟨H + 1, 0, none⟩ (.int .i64 0)) = W := ⟨_, rfl⟩
  rw [hW] at Y' X' G'
  rw [hW]
  clear hW y yf yl Y0 X0 G0
  have Y1 := Y'; have X1 := X'; have G1 := G'
  clear Y' X' G'
  rw [rounds_succ]
  have y := Y1.cell 1 _ rfl
  have yf := Y1.froz 1
  have yl := Y1.lt
  go_wp2_with fail
  refine (int_nil _).mono ?_; rintro e w2 ⟨rfl, rfl⟩
  go_wp2_with fail
  have Y' := Y1.set 1 (.int .i64 0) (by simp)
  have X' := X1.other (p := ⟨H + 1, 1, none⟩) (fun h => by have h' : H + 1 = H := h; omega) (.int .i64 0)
  simp only [List.set] at Y'
  have G' := G1.setCell (p := ⟨H + 1, 1, none⟩) (show H ≤ H + 1 by omega) (.int .i64 0)
  obtain ⟨W2, hW⟩ : ∃ W, (w2.setCell ⟨H + 1, 1, none⟩ (.int .i64 0)) = W := ⟨_, rfl⟩
  rw [hW] at Y' X' G'
  rw [hW]
  clear hW y yf yl Y1 X1 G1
  have Y2 := Y'; have X2 := X'; have G2 := G'
  clear Y' X' G'
  rw [rounds_succ]
  have y := Y2.cell 2 _ rfl
  have yf := Y2.froz 2
  have yl := Y2.lt
  go_wp2_with fail
  refine (int_nil _).mono ?_; rintro e w3 ⟨rfl, rfl⟩
  go_wp2_with fail
  have Y' := Y2.set 2 (.int .i64 0) (by simp)
  have X' := X2.other (p := ⟨H + 1, 2, none⟩) (fun h => by have h' : H + 1 = H := h; omega) (.int .i64 0)
  simp only [List.set] at Y'
  have G' := G2.setCell (p := ⟨H + 1, 2, none⟩) (show H ≤ H + 1 by omega) (.int .i64 0)
  obtain ⟨W3, hW⟩ : ∃ W, (w3.setCell ⟨H + 1, 2, none⟩ (.int .i64 0)) = W := ⟨_, rfl⟩
  rw [hW] at Y' X' G'
  rw [hW]
  clear hW y yf yl Y2 X2 G2
  have Y3 := Y'; have X3 := X'; have G3 := G'
  clear Y' X' G'
  rw [rounds_succ]
  have x0 := Y3.cell 0 _ rfl
  have y0 := X3.cell 0 _ rfl
  have v0 := X3.froz 0
  have x1 := Y3.cell 1 _ rfl
  have y1 := X3.cell 1 _ rfl
  have v1 := X3.froz 1
  have x2 := Y3.cell 2 _ rfl
  have y2 := X3.cell 2 _ rfl
  have v2 := X3.froz 2
  have xl := X3.lt
  have yl := Y3.lt
  go_wp2_with fail
  refine bodyPost_ret (v := .agg #[.int .i64 0, .int .i64 0, .int .i64 0]) (by simp [results, Tryz.results181, go_sem, y0, y1, y2]) rfl ?_
  refine ⟨rfl, ?_⟩
  rw [hH]
  exact ((G3.setCell (p := ⟨H, 0, none⟩) (Nat.le_refl _) _).setCell (p := ⟨H, 1, none⟩) (Nat.le_refl _) _).setCell (p := ⟨H, 2, none⟩) (Nat.le_refl _) _
end Go.Proofs.YtokegpajjicehaaGreat
