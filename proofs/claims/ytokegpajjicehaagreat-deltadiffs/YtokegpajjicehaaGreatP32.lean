/-
  Texts Dl23, Dl25, Stp, Dl26 in one.
-/
import Derived.Shelf.Abstract
import Derived.Test.YtokegpajjicehaaGreatP31
namespace Go.Proofs.YtokegpajjicehaaGreat
open Go.RowKit
set_option linter.unusedVariables false
set_option maxRecDepth 20000

theorem lastE_pre (A : Nat → En) (j : Nat) : lastE (-1) (preE A (j + 1)) = (A j).i := by rw [preE_succ, lastE_snoc]
set_option maxHeartbeats 2000000 in
theorem dsn_check (w : World) (t m : Int) (v : Value) (n : Nat) (A : Nat → En) (hv : RdE w v n A) :
    Calls Tryz.prog 18 #[snV t m v] w fun e w' => e = .returned (.int .i64 (snE t m (preE A n))) ∧ Below w.heap.size w w' := by
  have HR : Hid (RdE w v n A) := hv
  obtain ⟨E, hE⟩ : ∃ E, snE t m (preE A n) = E := ⟨_, rfl⟩
  have HT : Hid (t < 0 ∨ 4294967295 < t ∨ m < -2305843009213693952 ∨ 2305843009213693952 < m → E = 3) := fun h => by
    rw [← hE]; unfold snE; rw [if_pos]
    rcases h with h | h | h | h
    · exact Or.inl h
    · exact Or.inr (Or.inl h)
    · refine Or.inr (Or.inr ?_); unfold timB; simp; omega
    · refine Or.inr (Or.inr ?_); unfold timB; simp; omega
  have HN : ¬ (t < 0 ∨ 4294967295 < t ∨ m < -2305843009213693952 ∨ 2305843009213693952 < m) → E = if 64 < n then 4 else idsE (-1) (preE A n) := fun h => by
    rw [← hE]; unfold snE; rw [if_neg, preE_len]
    intro h'
    rcases h' with h' | h' | h'
    · omega
    · omega
    · unfold timB at h'; simp at h'; omega
  rw [hE]
  clear hE
  obtain ⟨ao, cap, rfl, hc, hm, _⟩ := hv
  have B0 : ∀ c T, Below w.heap.size w (w.alloc (.cells c T)) := fun c T => (Below.refl _ _).alloc (Nat.le_refl _) _
  by_cases h1 : t < 0
  · have e := HT.out (Or.inl h1)
    subst e
    clear HT HN HR
    go_enter Tryz.func18, Tryz.ntmps18
    go_wp2_with fail
    go_ret
    exact ⟨rfl, B0 _ _⟩
  by_cases h2 : 4294967295 < t
  · have e := HT.out (Or.inr (Or.inl h2))
    subst e
    clear HT HN HR
    go_enter Tryz.func18, Tryz.ntmps18
    go_wp2_with fail
    go_ret
    exact ⟨rfl, B0 _ _⟩
  by_cases h3 : m < -2305843009213693952
  · have e := HT.out (Or.inr (Or.inr (Or.inl h3)))
    subst e
    clear HT HN HR
    go_enter Tryz.func18, Tryz.ntmps18
    go_wp2_with fail
    go_ret
    exact ⟨rfl, B0 _ _⟩
  by_cases h4 : 2305843009213693952 < m
  · have e := HT.out (Or.inr (Or.inr (Or.inr h4)))
    subst e
    clear HT HN HR
    go_enter Tryz.func18, Tryz.ntmps18
    go_wp2_with fail
    go_ret
    exact ⟨rfl, B0 _ _⟩
  have e := HN (by omega)
  clear HT HN
  by_cases h5 : 64 < n
  · rw [if_pos h5] at e
    subst e
    clear HR
    go_enter Tryz.func18, Tryz.ntmps18
    go_wp2_with fail
    go_ret
    exact ⟨rfl, B0 _ _⟩
  rw [if_neg h5] at e
  obtain ⟨s1, s2, s3, s4⟩ := ids_steps A n E e.symm
  have S1 : Hid (∀ k, k < n → rise (-1) (preE A k) → ((A k).i < 0 ∨ 65535 < (A k).i) → E = 3) := s1
  have S2 : Hid (∀ k, k < n → rise (-1) (preE A k) → ¬ ((A k).i < 0 ∨ 65535 < (A k).i) → (A k).i ≤ lastE (-1) (preE A k) → E = 10) := s2
  have S3 : Hid (∀ k, k < n → rise (-1) (preE A k) → ¬ ((A k).i < 0 ∨ 65535 < (A k).i) → ¬ (A k).i ≤ lastE (-1) (preE A k) → rise (-1) (preE A (k + 1))) := fun k a b c d => (s3 k a b c d).1
  have S4 : Hid (rise (-1) (preE A n) → E = 0) := s4
  clear e s1 s2 s3 s4
  go_enter Tryz.func18, Tryz.ntmps18
  go_wp2_with fail
  generalize hW : w.alloc (.cells #[.int .i64 t, .int .i64 m, .slice ao n cap] 24) = W
  obtain ⟨A0, b0, _⟩ := boxed hW
  obtain ⟨H, hH⟩ : ∃ x, w.heap.size = x := ⟨_, rfl⟩
  have HH : Hid (w.heap.size = H) := hH
  have R0 : Hid (RdE W (.slice ao n cap) n A) := HR.out.below b0
  rw [hH] at A0 b0 ⊢
  clear hW HR B0 hH
  go_loopw [3] (fun i wr => ∃ k : Nat, k ≤ n ∧ i = .int .i64 k ∧ rise (-1) (preE A k) ∧ RdE wr (.slice ao n cap) n A ∧ Blk wr H [.int .i64 t, .int .i64 m, .slice ao n cap] ∧ Below H w wr) (fun i _ => n - (intOf i).toNat)
  case atStart => exact ⟨0, by omega, rfl, trivial, R0.out, A0, b0⟩
  case round =>
    clear A0 b0 R0
    obtain ⟨k, hk, rfl, q1, q3, q5, q4⟩ := hrel
    have Q3 : Hid (RdE wr (.slice ao n cap) n A) := q3
    have Q1 : Hid (rise (-1) (preE A k)) := q1
    have c0 := q5.cell 2 _ rfl
    have lH := q5.lt
    by_cases hlt : k < n
    · obtain ⟨g1, o1, e1, l1, c1⟩ := rdE_at q3 hlt
      have T1 := S1.out k hlt q1
      have T2 := S2.out k hlt q1
      have T3 := S3.out k hlt q1
      have LP : ∀ j, k = j + 1 → lastE (-1) (preE A k) = (A j).i := fun j h => by rw [h, lastE_pre]
      have L0 : k = 0 → lastE (-1) (preE A k) = -1 := fun h => by rw [h]; rfl
      have CP : ∀ j, k = j + 1 → wr.cell? ⟨g1, o1 + j * 9, none⟩ = some (.int .i64 (A j).i) := fun j h => by
        obtain ⟨g2, o2, e2, _, c2⟩ := rdE_at q3 (show j < n by omega)
        rw [e1] at e2; injection e2 with e2; injection e2 with e2 e3 _; subst e2 e3
        exact c2 0 _ rfl
      subst e1
      have x0 := c1 0 _ rfl
      simp only [Nat.add_zero] at x0
      obtain ⟨ls, hls⟩ : ∃ x, lastE (-1) (preE A k) = x := ⟨_, rfl⟩
      obtain ⟨r0, hr0⟩ : ∃ x, (A k).i = x := ⟨_, rfl⟩
      rw [hr0] at T1 T2 T3 x0
      rw [hls] at T2 T3 LP L0
      have U1 : Hid (r0 < 0 ∨ 65535 < r0 → E = 3) := T1
      have U2 : Hid (¬ (r0 < 0 ∨ 65535 < r0) → r0 ≤ ls → E = 10) := T2
      have U3 : Hid (¬ (r0 < 0 ∨ 65535 < r0) → ¬ r0 ≤ ls → rise (-1) (preE A (k + 1))) := fun a b => T3 a (by omega)
      have HLP : Hid (∀ j, k = j + 1 → ls = (A j).i) := LP
      have HL0 : Hid (k = 0 → ls = -1) := L0
      have HCP : Hid (∀ j, k = j + 1 → wr.cell? ⟨g1, o1 + j * 9, none⟩ = some (.int .i64 (A j).i)) := CP
      clear c1 q1 q3 hls hr0 T1 T2 T3 S1 S2 S3 S4 LP L0 CP
      by_cases g1' : r0 < 0
      · have e := U1.out (Or.inl g1')
        subst e
        clear U1 U2 U3 HLP HL0 HCP
        go_wp2_with fail
        go_ret
        exact ⟨rfl, by rw [HH.out]; exact q4⟩
      by_cases g2 : 65535 < r0
      · have e := U1.out (Or.inr g2)
        subst e
        clear U1 U2 U3 HLP HL0 HCP
        go_wp2_with fail
        go_ret
        exact ⟨rfl, by rw [HH.out]; exact q4⟩
      by_cases hk0 : k = 0
      · have E3 : Hid (rise (-1) (preE A (k + 1))) := U3.out (by omega) (by have := HL0.out hk0; omega)
        subst hk0
        simp only [Nat.zero_mul, Nat.add_zero] at x0
        clear U1 U2 U3 HLP HL0 HCP
        go_wp2_with fail
        go_quiet (fail)
        go_wp2_with fail
        go_roundw
        case rel => exact ⟨0 + 1, by omega, by go_num, E3.out, Q3.out, q5.drewN _, below_drewN q4 _⟩
        case measure => simp [intOf]; omega
      · obtain ⟨j, hj⟩ : ∃ j, k = j + 1 := ⟨k - 1, by omega⟩
        have y0 := HCP.out j hj
        have hw1 : IntKind.i64.wrap ((k : Int) - 1) = (j : Int) := by rw [IntKind.wrap_i64]; omega
        have hjn : j < n := by omega
        have d0 : decide ((0 : Int) < (k : Int)) = true := by simp; omega
        have hkp : 0 < k := by omega
        have hlp := HLP.out j hj
        rw [hlp] at U2 U3
        obtain ⟨p0, hp0⟩ : ∃ x, (A j).i = x := ⟨_, rfl⟩
        rw [hp0] at U2 U3 y0
        clear HLP HL0 HCP hlp hp0 hj
        by_cases g3 : r0 ≤ p0
        · have e := U2.out (by omega) g3
          subst e
          clear U1 U2 U3
          go_wp2_with fail
          go_quiet (fail)
          go_wp2_with fail
          go_ret
          exact ⟨rfl, by rw [HH.out]; exact below_drewN q4 _⟩
        have E3 : Hid (rise (-1) (preE A (k + 1))) := U3.out (by omega) g3
        clear U1 U2 U3
        go_wp2_with fail
        go_quiet (fail)
        go_wp2_with fail
        go_roundw
        case rel => exact ⟨k + 1, by omega, by go_num, E3.out, Q3.out, q5.drewN _, below_drewN q4 _⟩
        case measure => simp [intOf]; omega
    · obtain rfl : k = n := by omega
      have e := S4.out q1
      subst e
      clear S1 S2 S3 S4 q1 q3
      go_wp2_with fail
      go_ret
      exact ⟨rfl, by rw [HH.out]; exact q4⟩
end Go.Proofs.YtokegpajjicehaaGreat

namespace Go.Proofs.YtokegpajjicehaaGreat
open Go.RowKit
set_option linter.unusedVariables false
set_option maxRecDepth 20000

set_option maxHeartbeats 2000000 in
theorem dsn_find (w : World) (t m id : Int) (v : Value) (n : Nat) (A : Nat → En) (hv : RdE w v n A) :
    Calls Tryz.prog 15 #[snV t m v, .int .i64 id] w fun e w' => e = .returned (.tuple #[entV (getE (findE id (preE A n))), .bool (isO (findE id (preE A n)))]) ∧ Below w.heap.size w w' := by
  have HR : Hid (RdE w v n A) := hv
  obtain ⟨f1, f2⟩ := find_steps A n id
  obtain ⟨O, hO⟩ : ∃ O, findE id (preE A n) = O := ⟨_, rfl⟩
  have F1 : Hid (∀ k, k < n → findE id (preE A k) = none → (A k).i = id → O = some (A k)) := fun k hk h hi => by rw [← hO]; exact f1 k hk h hi
  have F2 : Hid (∀ k, k < n → findE id (preE A k) = none → (A k).i ≠ id → findE id (preE A (k + 1)) = none) := f2
  have HO : Hid (findE id (preE A n) = O) := hO
  rw [hO]
  clear hO f1 f2
  obtain ⟨ao, cap, rfl, hc, hm, _⟩ := hv
  go_enter Tryz.func15, Tryz.ntmps15
  go_wp2_with fail
  generalize hW : (w.alloc (.cells #[.int .i64 t, .int .i64 m, .slice ao n cap] 24)).alloc (.cells #[.int .i64 0, .int .i64 0, .int .i64 0, .int .i64 0, .int .i64 0, .int .i64 0, .int .i64 0, .int .u16 0, .int .u8 0] 40) = W
  obtain ⟨A0, A1, b0⟩ := boxed2 hW
  have R0 : Hid (RdE W (.slice ao n cap) n A) := HR.out.below b0
  obtain ⟨H, hH⟩ : ∃ H, w.heap.size = H := ⟨_, rfl⟩
  have HH : Hid (w.heap.size = H) := hH
  rw [hH] at A0 A1 b0
  rw [hH]
  clear hW hH HR
  go_loopw [6] (fun i wr => ∃ k : Nat, k ≤ n ∧ i = .int .i64 k ∧ findE id (preE A k) = none ∧ RdE wr (.slice ao n cap) n A ∧ Blk wr H [.int .i64 t, .int .i64 m, .slice ao n cap] ∧ Blk wr (H + 1) [.int .i64 0, .int .i64 0, .int .i64 0, .int .i64 0, .int .i64 0, .int .i64 0, .int .i64 0, .int .u16 0, .int .u8 0] ∧ Below H w wr) (fun i _ => n - (intOf i).toNat)
  case atStart => exact ⟨0, by omega, rfl, rfl, R0.out, A0, A1, b0⟩
  case round =>
    obtain ⟨k, hk, rfl, q1, q3, q6, q5, q4⟩ := hrel
    have s2 := q6.cell 2 _ rfl
    have ls := q6.lt
    have Q3 : Hid (RdE wr (.slice ao n cap) n A) := q3
    have Q1 : Hid (findE id (preE A k) = none) := q1
    have lb := q5.lt
    have s4 := q4.size
    rw [HH.out] at s4
    by_cases hlt : k < n
    · obtain ⟨g1, o1, e1, l1, c1⟩ := rdE_at q3 hlt
      have U1 : Hid ((A k).i = id → O = some (A k)) := F1.out k hlt q1
      have U2 : Hid ((A k).i ≠ id → findE id (preE A (k + 1)) = none) := F2.out k hlt q1
      obtain ⟨r, hr⟩ : ∃ r, A k = r := ⟨_, rfl⟩
      rw [hr] at U1 U2 c1
      subst e1
      have x0 := c1 0 _ rfl
      have x1 := c1 1 _ rfl
      have x2 := c1 2 _ rfl
      have x3 := c1 3 _ rfl
      have x4 := c1 4 _ rfl
      have x5 := c1 5 _ rfl
      have x6 := c1 6 _ rfl
      have x7 := c1 7 _ rfl
      have x8 := c1 8 _ rfl
      simp only [Nat.add_zero] at x0
      clear c1 q1 q3 hr F1 F2
      obtain ⟨r0, r1, r2, r3, r4, r5, r6, r7, r8⟩ := r
      simp only at U1 U2
      clear s4 l1
      by_cases g1 : r0 = id
      · have e := U1.out g1
        subst e g1
        clear U1 U2
        have d0 := q5.cell 0 _ rfl
        have f0 := q5.froz 0
        have d1 := q5.cell 1 _ rfl
        have f1 := q5.froz 1
        have d2 := q5.cell 2 _ rfl
        have f2 := q5.froz 2
        have d3 := q5.cell 3 _ rfl
        have f3 := q5.froz 3
        have d4 := q5.cell 4 _ rfl
        have f4 := q5.froz 4
        have d5 := q5.cell 5 _ rfl
        have f5 := q5.froz 5
        have d6 := q5.cell 6 _ rfl
        have f6 := q5.froz 6
        have d7 := q5.cell 7 _ rfl
        have f7 := q5.froz 7
        have d8 := q5.cell 8 _ rfl
        have f8 := q5.froz 8
        go_wp2_with fail
        have RB := Blk.nine (x0 := .int .i64 r0) (x1 := .int .i64 r1) (x2 := .int .i64 r2) (x3 := .int .i64 r3) (x4 := .int .i64 r4) (x5 := .int .i64 r5) (x6 := .int .i64 r6) (x7 := .int .u16 r7) (x8 := .int .u8 r8) q5
        have LB := below_nine (x0 := .int .i64 r0) (x1 := .int .i64 r1) (x2 := .int .i64 r2) (x3 := .int .i64 r3) (x4 := .int .i64 r4) (x5 := .int .i64 r5) (x6 := .int .i64 r6) (x7 := .int .u16 r7) (x8 := .int .u8 r8) q4 (show H ≤ H + 1 by omega)
        generalize ((((((((wr.setCell ⟨H + 1, 0, none⟩ (.int .i64 r0)).setCell ⟨H + 1, 1, none⟩ (.int .i64 r1)).setCell ⟨H + 1, 2, none⟩ (.int .i64 r2)).setCell ⟨H + 1, 3, none⟩ (.int .i64 r3)).setCell ⟨H + 1, 4, none⟩ (.int .i64 r4)).setCell ⟨H + 1, 5, none⟩ (.int .i64 r5)).setCell ⟨H + 1, 6, none⟩ (.int .i64 r6)).setCell ⟨H + 1, 7, none⟩ (.int .u16 r7)).setCell ⟨H + 1, 8, none⟩ (.int .u8 r8) = W9 at RB LB ⊢
        have e0 := RB.cell 0 _ rfl
        have e1 := RB.cell 1 _ rfl
        have e2 := RB.cell 2 _ rfl
        have e3 := RB.cell 3 _ rfl
        have e4 := RB.cell 4 _ rfl
        have e5 := RB.cell 5 _ rfl
        have e6 := RB.cell 6 _ rfl
        have e7 := RB.cell 7 _ rfl
        have e8 := RB.cell 8 _ rfl
        refine bodyPost_ret (v := .tuple #[entV ⟨r0, r1, r2, r3, r4, r5, r6, r7, r8⟩, .bool true]) (by simp [results, Tryz.results15, go_sem, e0, e1, e2, e3, e4, e5, e6, e7, e8]) rfl ⟨rfl, by rw [HH.out]; exact LB⟩
      · have N1 : Hid (findE id (preE A (k + 1)) = none) := U2.out g1
        clear U1 U2
        go_wp2_with fail
        go_roundw
        case rel => exact ⟨k + 1, by omega, by go_num, N1.out, Q3.out, q6, q5, q4⟩
        case measure => simp [intOf]; omega
    · obtain rfl : k = n := by omega
      have e : O = none := by rw [← HO.out]; exact q1
      subst e
      clear F1 F2 q1 q3
      have d0 := q5.cell 0 _ rfl
      have f0 := q5.froz 0
      have d1 := q5.cell 1 _ rfl
      have f1 := q5.froz 1
      have d2 := q5.cell 2 _ rfl
      have f2 := q5.froz 2
      have d3 := q5.cell 3 _ rfl
      have f3 := q5.froz 3
      have d4 := q5.cell 4 _ rfl
      have f4 := q5.froz 4
      have d5 := q5.cell 5 _ rfl
      have f5 := q5.froz 5
      have d6 := q5.cell 6 _ rfl
      have f6 := q5.froz 6
      have d7 := q5.cell 7 _ rfl
      have f7 := q5.froz 7
      have d8 := q5.cell 8 _ rfl
      have f8 := q5.froz 8
      go_wp2_with fail
      have RB := Blk.nine (x0 := .int .i64 0) (x1 := .int .i64 0) (x2 := .int .i64 0) (x3 := .int .i64 0) (x4 := .int .i64 0) (x5 := .int .i64 0) (x6 := .int .i64 0) (x7 := .int .u16 0) (x8 := .int .u8 0) q5
      have LB := below_nine (x0 := .int .i64 0) (x1 := .int .i64 0) (x2 := .int .i64 0) (x3 := .int .i64 0) (x4 := .int .i64 0) (x5 := .int .i64 0) (x6 := .int .i64 0) (x7 := .int .u16 0) (x8 := .int .u8 0) q4 (show H ≤ H + 1 by omega)
      generalize ((((((((wr.setCell ⟨H + 1, 0, none⟩ (.int .i64 0)).setCell ⟨H + 1, 1, none⟩ (.int .i64 0)).setCell ⟨H + 1, 2, none⟩ (.int .i64 0)).setCell ⟨H + 1, 3, none⟩ (.int .i64 0)).setCell ⟨H + 1, 4, none⟩ (.int .i64 0)).setCell ⟨H + 1, 5, none⟩ (.int .i64 0)).setCell ⟨H + 1, 6, none⟩ (.int .i64 0)).setCell ⟨H + 1, 7, none⟩ (.int .u16 0)).setCell ⟨H + 1, 8, none⟩ (.int .u8 0) = W9 at RB LB ⊢
      have e0 := RB.cell 0 _ rfl
      have e1 := RB.cell 1 _ rfl
      have e2 := RB.cell 2 _ rfl
      have e3 := RB.cell 3 _ rfl
      have e4 := RB.cell 4 _ rfl
      have e5 := RB.cell 5 _ rfl
      have e6 := RB.cell 6 _ rfl
      have e7 := RB.cell 7 _ rfl
      have e8 := RB.cell 8 _ rfl
      refine bodyPost_ret (v := .tuple #[entV noEnt, .bool false]) (by simp [results, Tryz.results15, go_sem, noEnt, e0, e1, e2, e3, e4, e5, e6, e7, e8]) rfl ⟨rfl, by rw [HH.out]; exact LB⟩
set_option maxHeartbeats 2000000 in
theorem dsn_put (w : World) (x : En) : Calls Tryz.prog 36 #[entV x] w fun e w' => e = .returned (recV (putR x)) ∧ Below w.heap.size w w' := by
  obtain ⟨r0, r1, r2, r3, r4, r5, r6, r7, r8⟩ := x
  go_enter Tryz.func36, Tryz.ntmps36
  go_upto_region 1 with fail
  generalize hW : (w.alloc (.cells #[.int .i64 r0, .int .i64 r1, .int .i64 r2, .int .i64 r3, .int .i64 r4, .int .i64 r5, .int .i64 r6, .int .u16 r7, .int .u8 r8] 40)).alloc (.cells #[.int .i64 0, .int .i64 0, .int .i64 0, .int .i64 0, .int .i64 0, .int .i64 0, .int .i64 0, .int .i64 0, .int .u16 0] 79) = W
  obtain ⟨A0, A1, b0⟩ := boxed2 hW
  obtain ⟨H, hH⟩ : ∃ H, w.heap.size = H := ⟨_, rfl⟩
  have HH : Hid (w.heap.size = H) := hH
  rw [hH] at A0 A1 b0
  rw [hH]
  clear hW hH
  have y0 := A0.cell 0 _ rfl
  have y1 := A0.cell 1 _ rfl
  have y2 := A0.cell 2 _ rfl
  have y3 := A0.cell 3 _ rfl
  have y4 := A0.cell 4 _ rfl
  have y5 := A0.cell 5 _ rfl
  have y6 := A0.cell 6 _ rfl
  have y7 := A0.cell 7 _ rfl
  have ly := A0.lt
  have lz := A1.lt
  have d0 := A1.cell 0 _ rfl
  have f0 := A1.froz 0
  have d1 := A1.cell 1 _ rfl
  have f1 := A1.froz 1
  have d2 := A1.cell 2 _ rfl
  have f2 := A1.froz 2
  have d3 := A1.cell 3 _ rfl
  have f3 := A1.froz 3
  have d4 := A1.cell 4 _ rfl
  have f4 := A1.froz 4
  have d5 := A1.cell 5 _ rfl
  have f5 := A1.froz 5
  have d6 := A1.cell 6 _ rfl
  have f6 := A1.froz 6
  have d7 := A1.cell 7 _ rfl
  have f7 := A1.froz 7
  have d8 := A1.cell 8 _ rfl
  have f8 := A1.froz 8
  go_wp2_with fail
  have RB := Blk.nine (x0 := .int .i64 0) (x1 := .int .i64 r0) (x2 := .int .i64 r1) (x3 := .int .i64 r2) (x4 := .int .i64 r3) (x5 := .int .i64 r4) (x6 := .int .i64 r5) (x7 := .int .i64 r6) (x8 := .int .u16 r7) A1
  have LB := below_nine (x0 := .int .i64 0) (x1 := .int .i64 r0) (x2 := .int .i64 r1) (x3 := .int .i64 r2) (x4 := .int .i64 r3) (x5 := .int .i64 r4) (x6 := .int .i64 r5) (x7 := .int .i64 r6) (x8 := .int .u16 r7) b0 (show H ≤ H + 1 by omega)
  generalize (((((((((W.setCell ⟨H + 1, 0, none⟩ (.int .i64 0)).setCell ⟨H + 1, 1, none⟩ (.int .i64 r0)).setCell ⟨H + 1, 2, none⟩ (.int .i64 r1)).setCell ⟨H + 1, 3, none⟩ (.int .i64 r2)).setCell ⟨H + 1, 4, none⟩ (.int .i64 r3)).setCell ⟨H + 1, 5, none⟩ (.int .i64 r4)).setCell ⟨H + 1, 6, none⟩ (.int .i64 r5)).setCell ⟨H + 1, 7, none⟩ (.int .i64 r6)).setCell ⟨H + 1, 8, none⟩ (.int .u16 r7)) = W9 at RB LB ⊢
  have e0 := RB.cell 0 _ rfl
  have e1 := RB.cell 1 _ rfl
  have e2 := RB.cell 2 _ rfl
  have e3 := RB.cell 3 _ rfl
  have e4 := RB.cell 4 _ rfl
  have e5 := RB.cell 5 _ rfl
  have e6 := RB.cell 6 _ rfl
  have e7 := RB.cell 7 _ rfl
  have e8 := RB.cell 8 _ rfl
  refine bodyPost_ret (v := recV ⟨0, r0, r1, r2, r3, r4, r5, r6, r7⟩) (by simp [results, Tryz.results36, go_sem, e0, e1, e2, e3, e4, e5, e6, e7, e8]) rfl ⟨rfl, by rw [HH.out]; exact LB⟩
end Go.Proofs.YtokegpajjicehaaGreat

namespace Go.Proofs.YtokegpajjicehaaGreat
open Go.RowKit
set_option linter.unusedVariables false
set_option maxRecDepth 20000

theorem call_step {P : Program} {ops : Array Oper} {o : Oper} {a : Act} {w : World} {K : Act → World → Prop} {Q : Exit → Act → World → Prop} {E : Prop} (hgd : o.guard = none) (d : Option Nat) (hd : o.dst = d) (F : Nat) (x : Operand) (t : TypeId) (ho : o.op = .call { callee := .value (.func F), args := #[x], argTypes := #[t] }) (hF : ∀ args w, (callFunc F args).run P w = .ok (.enter F args) w) (y : Value) (hx : a.eval x = y)
    (h : Calls P F #[y] w fun e w' => ∃ v, e = .returned v ∧ K (a.put d v) w') : if Region.wanted o (yielded ops a.tmps) = true then Oper.wp P o a w K Q else E := by
  subst hd
  have hw : Region.wanted o (yielded ops a.tmps) = true := by simp [Region.wanted, hgd]
  rw [if_pos hw]
  have hrun : (execOp a.eval o).run P w = .ok (.enter F #[y]) w := by
    have e1 : a.eval (.func F) = .func (.func F) #[] #[] := rfl
    simp [execOp, ho, resolve, invoke, hx, e1, Deferred.ofValue, hF]
  unfold Oper.wp
  rw [hrun, Oper.upon_enter]
  exact h.mono (by rintro e w' ⟨v, rfl, hk⟩; exact hk)
end Go.Proofs.YtokegpajjicehaaGreat

namespace Go.Proofs.YtokegpajjicehaaGreat
open Go.RowKit
set_option linter.unusedVariables false
set_option maxRecDepth 20000

theorem blk4 {w : World} {b : Nat} {c0 c1 c2 c3 x0 x1 x2 x3 : Value} (h : Blk w b [c0, c1, c2, c3]) :
    Blk ((((w.setCell ⟨b, 0, none⟩ x0).setCell ⟨b, 1, none⟩ x1).setCell ⟨b, 2, none⟩ x2).setCell ⟨b, 3, none⟩ x3) b [x0, x1, x2, x3] :=
  (((h.set 0 x0 (by simp)).set 1 x1 (by simp)).set 2 x2 (by simp)).set 3 x3 (by simp)
theorem below4 {B : Nat} {a w : World} {b : Nat} {x0 x1 x2 x3 : Value} (h : Below B a w) (hb : B ≤ b) :
    Below B a ((((w.setCell ⟨b, 0, none⟩ x0).setCell ⟨b, 1, none⟩ x1).setCell ⟨b, 2, none⟩ x2).setCell ⟨b, 3, none⟩ x3) :=
  (((h.setCell hb _).setCell hb _).setCell hb _).setCell hb _
theorem ful_cases {t m : Int} {n : Nat} {A : Nat → En} (h : snE t m (preE A n) = 0) :
    (∀ k, k < n → (A k).g ≠ 0 → fulE t m (preE A n) = 15 ∧ fulG t m (preE A n) = ⟨0, 0, 0⟩ ∧ fulL t m (preE A n) = []) ∧
    ((∀ k, k < n → (A k).g = 0) → fulE t m (preE A n) = 0 ∧ fulG t m (preE A n) = ⟨t, m, -1⟩ ∧ fulL t m (preE A n) = (preE A n).map putR) := by
  constructor
  · intro k hk hg
    have hx : ∃ x ∈ preE A n, x.g ≠ 0 := ⟨A k, by unfold preE; exact List.mem_map.2 ⟨k, List.mem_range.2 hk, rfl⟩, hg⟩
    have e : fulE t m (preE A n) = 15 := by unfold fulE; rw [if_pos h, if_pos hx]
    refine ⟨e, by unfold fulG; rw [if_neg (by rw [e]; decide)], by unfold fulL; rw [if_neg (by rw [e]; decide)]⟩
  · intro hz
    have hx : ¬ ∃ x ∈ preE A n, x.g ≠ 0 := by
      rintro ⟨x, hx, hg⟩
      unfold preE at hx
      obtain ⟨k, hk, rfl⟩ := List.mem_map.1 hx
      exact hg (hz k (List.mem_range.1 hk))
    have e : fulE t m (preE A n) = 0 := by unfold fulE; rw [if_pos h, if_neg hx]
    exact ⟨e, by unfold fulG; rw [if_pos e], by unfold fulL; rw [if_pos e]⟩
set_option maxHeartbeats 4000000 in
theorem dsn_full (w : World) (t m : Int) (v : Value) (n : Nat) (A : Nat → En) (hv : RdE w v n A) :
    Calls Tryz.prog 13 #[snV t m v] w fun e w' => ∃ u, e = .returned (.tuple #[gmV (fulG t m (preE A n)) u, .int .i64 (fulE t m (preE A n))]) ∧ OwnR w' w.heap.size u (fulL t m (preE A n)) ∧ Below w.heap.size w w' := by
  have HR : Hid (RdE w v n A) := hv
  have HC : Hid (∀ w', Below w.heap.size w w' → Calls Tryz.prog 18 #[snV t m v] w' fun e w'' => e = .returned (.int .i64 (snE t m (preE A n))) ∧ Below w'.heap.size w' w'') := fun w' h => dsn_check w' t m v n A (hv.below h)
  have F1 : Hid (snE t m (preE A n) ≠ 0 → fulE t m (preE A n) = snE t m (preE A n) ∧ fulG t m (preE A n) = ⟨0, 0, 0⟩ ∧ fulL t m (preE A n) = []) := ful_no t m _
  have F2 : Hid (snE t m (preE A n) = 0 → ∀ k, k < n → (A k).g ≠ 0 → fulE t m (preE A n) = 15 ∧ fulG t m (preE A n) = ⟨0, 0, 0⟩ ∧ fulL t m (preE A n) = []) := fun h => (ful_cases h).1
  have F3 : Hid (snE t m (preE A n) = 0 → (∀ k, k < n → (A k).g = 0) → fulE t m (preE A n) = 0 ∧ fulG t m (preE A n) = ⟨t, m, -1⟩ ∧ fulL t m (preE A n) = (preE A n).map putR) := fun h => (ful_cases h).2
  have FN : Hid (snE t m (preE A n) = 0 → n ≤ 64) := fun h => by have := (sn_ok h).2.2.2.1; rwa [preE_len] at this
  obtain ⟨s, hs⟩ : ∃ s, snE t m (preE A n) = s := ⟨_, rfl⟩
  obtain ⟨E, hE⟩ : ∃ E, fulE t m (preE A n) = E := ⟨_, rfl⟩
  obtain ⟨G, hG⟩ : ∃ G, fulG t m (preE A n) = G := ⟨_, rfl⟩
  obtain ⟨TL, hL⟩ : ∃ L, fulL t m (preE A n) = L := ⟨_, rfl⟩
  rw [hs, hE, hG, hL] at F1 F2 F3
  rw [hs] at HC FN
  rw [hE, hG, hL]
  clear hs hE hG hL hv
  obtain ⟨ao, cap, e0, hc, hm, _⟩ := HR.out
  subst e0
  go_enter Tryz.func13, Tryz.ntmps13
  go_wp2_with fail
  generalize hW : (w.alloc (.cells #[.int .i64 t, .int .i64 m, .slice ao n cap] 24)).alloc (.cells #[.int .i64 0, .int .i64 0, .int .i64 0, .slice none 0 0] 29) = W
  obtain ⟨X0, Z0, b0⟩ := boxed2 hW
  obtain ⟨H, hH⟩ : ∃ H, w.heap.size = H := ⟨_, rfl⟩
  have HH : Hid (w.heap.size = H) := hH
  clear hW
  refine (HC.out _ b0).mono ?_; rintro e w1 ⟨rfl, b1⟩
  rw [hH] at X0 Z0 b0
  rw [hH]
  have X1 := X0.below b1 X0.lt
  have Z1 := Z0.below b1 Z0.lt
  have B1 : Below H w w1 := bup b0 (Nat.le_of_eq hH.symm) b1
  clear hH HC X0 Z0 b0 b1
  by_cases hz : s = 0
  · subst hz
    have N64 := FN.out (by trivial)
    have P2 : Hid (∀ k, k < n → (A k).g ≠ 0 → E = 15 ∧ G = ⟨0, 0, 0⟩ ∧ TL = []) := F2.out (by trivial)
    have P3 : Hid ((∀ k, k < n → (A k).g = 0) → E = 0 ∧ G = ⟨t, m, -1⟩ ∧ TL = (preE A n).map putR) := F3.out (by trivial)
    clear F1 F2 F3 FN
    have x0 := X1.cell 0 _ rfl
    have x1 := X1.cell 1 _ rfl
    have lx := X1.lt
    go_upto_region 5 with fail
    generalize hV : w1.alloc (.cells #[.int .i64 t, .int .i64 m, .int .i64 (-1), .slice none 0 0] 29) = W2
    obtain ⟨K2, bn, -⟩ := boxed hV
    obtain ⟨K, hK⟩ : ∃ x, w1.heap.size = x := ⟨_, rfl⟩
    have hHK : H + 1 < K := by rw [← hK]; exact Z1.lt
    rw [hK] at K2
    rw [hK]
    have X2 := X1.below bn X1.lt
    have Z2 := Z1.below bn Z1.lt
    have B2 := bup B1 (Nat.le_of_eq HH.out.symm) bn
    clear x0 x1 lx hV hK bn X1 Z1 B1
    go_wp2_with fail
    go_loopw [6] (fun i wr => ∃ (k : Nat) (ov : Value), k ≤ n ∧ i = .int .i64 k ∧ (∀ j, j < k → (A j).g = 0) ∧ Blk wr K [.int .i64 t, .int .i64 m, .int .i64 (-1), ov] ∧ OwnR wr (K + 1) ov ((preE A k).map putR) ∧ Blk wr H [.int .i64 t, .int .i64 m, .slice ao n cap] ∧ Blk wr (H + 1) [.int .i64 0, .int .i64 0, .int .i64 0, .slice none 0 0] ∧ Below H w wr) (fun i _ => n - (intOf i).toNat)
    case atStart => exact ⟨0, _, by omega, rfl, fun j hj => by omega, K2, OwnR.nil _ _, X2, Z2, B2⟩
    case round =>
      obtain ⟨k, ov, hk, rfl, q0, K3, q3, X3, Z3, B3⟩ := hrel
      clear K2 X2 Z2 B2
      have Q0 : Hid (∀ j, j < k → (A j).g = 0) := q0
      have O3 : Hid (OwnR wr (K + 1) ov ((preE A k).map putR)) := q3
      have RW : Hid (RdE wr (.slice ao n cap) n A) := HR.out.below (by rw [HH.out]; exact B3)
      clear q0 q3
      have s2 := X3.cell 2 _ rfl
      have ls := X3.lt
      by_cases hlt : k < n
      · obtain ⟨g1, o1, e1, l1, c0⟩ := rdE_at HR.out hlt
        rw [HH.out] at l1
        have c1 : ∀ j x, (entC (A k))[j]? = some x → wr.cell? ⟨g1, o1 + k * 9 + j, none⟩ = some x := fun j x h => (B3.cell (p := ⟨g1, o1 + k * 9 + j, none⟩) l1).trans (c0 j x h)
        clear c0
        have U2 : Hid ((A k).g ≠ 0 → E = 15 ∧ G = ⟨0, 0, 0⟩ ∧ TL = []) := P2.out k hlt
        have U3 : Hid ((A k).g = 0 → (∀ j, j < k + 1 → (A j).g = 0)) := fun h j hj => by
          rcases (show j < k ∨ j = k by omega) with h' | rfl
          · exact Q0.out j h'
          · exact h
        have U4 : Hid ((preE A (k + 1)).map putR = (preE A k).map putR ++ [putR (A k)]) := by
          show _ = _
          rw [preE_succ, List.map_append]; rfl
        obtain ⟨L, hL⟩ : ∃ L, (preE A k).map putR = L := ⟨_, rfl⟩
        have hLn : L.length = k := by rw [← hL, List.length_map, preE_len]
        rw [hL] at O3 U4
        obtain ⟨r, hr⟩ : ∃ r, A k = r := ⟨_, rfl⟩
        rw [hr] at U2 U3 U4 c1
        subst e1
        clear hr hL RW
        obtain ⟨r0, r1, r2, r3, r4, r5, r6, r7, r8⟩ := r
        have PU : Hid (∀ w', Calls Tryz.prog 36 #[entV ⟨r0, r1, r2, r3, r4, r5, r6, r7, r8⟩] w' fun e w'' => e = .returned (recV ⟨0, r0, r1, r2, r3, r4, r5, r6, r7⟩) ∧ Below w'.heap.size w' w'') := fun w' => dsn_put w' _
        have HPR : putR ⟨r0, r1, r2, r3, r4, r5, r6, r7, r8⟩ = ⟨0, r0, r1, r2, r3, r4, r5, r6, r7⟩ := rfl
        rw [HPR] at U4
        clear HPR
        have y0 := c1 0 _ rfl
        have y1 := c1 1 _ rfl
        have y2 := c1 2 _ rfl
        have y3 := c1 3 _ rfl
        have y4 := c1 4 _ rfl
        have y5 := c1 5 _ rfl
        have y6 := c1 6 _ rfl
        have y7 := c1 7 _ rfl
        have y8 := c1 8 _ rfl
        simp only [Nat.add_zero] at y0
        clear c1
        by_cases hg : r8 = 0
        · subst hg
          have V3 : Hid (∀ j, j < k + 1 → (A j).g = 0) := U3.out rfl
          clear U2 U3
          obtain ⟨oa, oc, rfl⟩ := O3.out.form
          rw [hLn] at O3 K3
          have HLN : Hid (L.length = k) := hLn
          clear hLn
          have k3 := K3.cell 3 _ rfl
          have kf3 := K3.froz 3
          have lk := K3.lt
          go_upto_region 10 with fail
          have hH : H < wr.drew.heap.size := X3.lt
          have hG : g1 < wr.drew.heap.size := by have := X3.lt; show g1 < wr.heap.size; omega
          have gK : K ≠ g1 := by omega
          have gH : K ≠ H := by omega
          go_region_law
            (first
            | (refine call_step rfl (some 40) rfl 36 (.tmp 39) 40 rfl (enters_of Tryz.func36 (by kernel_rfl) rfl) (entV ⟨r0, r1, r2, r3, r4, r5, r6, r7, 0⟩) rfl ((PU.out wr.drew).mono ?_); rintro e w5 ⟨rfl, b5⟩; refine ⟨_, rfl, ?_⟩; (try simp only [Act.put, List.setIfInBounds_toArray, List.set_cons_zero, List.set_cons_succ]); have K5 := Blk.below K3.drew b5 K3.drew.lt; have X5 := Blk.below X3.drew b5 X3.drew.lt; have Z5 := Blk.below Z3.drew b5 Z3.drew.lt; have B5 : Below H w w5 := bup B3.drew (Nat.le_of_eq HH.out.symm) b5; have O5 : Hid (OwnR w5 (K + 1) (.slice oa k oc) L) := OwnR.below (w := wr.drew) O3.out b5; have s2_b := (b5.cell (p := ⟨H, 2, none⟩) hH).trans s2; have y0_b := (b5.cell (p := ⟨g1, o1 + k * 9, none⟩) hG).trans y0; have y1_b := (b5.cell (p := ⟨g1, o1 + k * 9 + 1, none⟩) hG).trans y1; have y2_b := (b5.cell (p := ⟨g1, o1 + k * 9 + 2, none⟩) hG).trans y2; have y3_b := (b5.cell (p := ⟨g1, o1 + k * 9 + 3, none⟩) hG).trans y3; have y4_b := (b5.cell (p := ⟨g1, o1 + k * 9 + 4, none⟩) hG).trans y4; have y5_b := (b5.cell (p := ⟨g1, o1 + k * 9 + 5, none⟩) hG).trans y5; have y6_b := (b5.cell (p := ⟨g1, o1 + k * 9 + 6, none⟩) hG).trans y6; have y7_b := (b5.cell (p := ⟨g1, o1 + k * 9 + 7, none⟩) hG).trans y7; have y8_b := (b5.cell (p := ⟨g1, o1 + k * 9 + 8, none⟩) hG).trans y8; have hH_b : H < w5.heap.size := X5.lt; have hG_b : g1 < w5.heap.size := (by have := X5.lt; omega); have a5 := (Below.refl w5.heap.size w5).alloc (Nat.le_refl _) (.cells (recA (⟨0, r0, r1, r2, r3, r4, r5, r6, r7⟩ : Rc)) 79); have s2_c := (a5.cell (p := ⟨H, 2, none⟩) hH_b).trans s2_b; have y0_c := (a5.cell (p := ⟨g1, o1 + k * 9, none⟩) hG_b).trans y0_b; have y1_c := (a5.cell (p := ⟨g1, o1 + k * 9 + 1, none⟩) hG_b).trans y1_b; have y2_c := (a5.cell (p := ⟨g1, o1 + k * 9 + 2, none⟩) hG_b).trans y2_b; have y3_c := (a5.cell (p := ⟨g1, o1 + k * 9 + 3, none⟩) hG_b).trans y3_b; have y4_c := (a5.cell (p := ⟨g1, o1 + k * 9 + 4, none⟩) hG_b).trans y4_b; have y5_c := (a5.cell (p := ⟨g1, o1 + k * 9 + 5, none⟩) hG_b).trans y5_b; have y6_c := (a5.cell (p := ⟨g1, o1 + k * 9 + 6, none⟩) hG_b).trans y6_b; have y7_c := (a5.cell (p := ⟨g1, o1 + k * 9 + 7, none⟩) hG_b).trans y7_b; have y8_c := (a5.cell (p := ⟨g1, o1 + k * 9 + 8, none⟩) hG_b).trans y8_b; have k3_b := K5.cell 3 _ rfl; have kf3_b := K5.froz 3; have lk_b := K5.lt; have k3_c := (K5.alloc (.cells (recA (⟨0, r0, r1, r2, r3, r4, r5, r6, r7⟩ : Rc)) 79)).cell 3 _ rfl)
            | (refine growR_step rfl (some 42) rfl _ _ rfl (K + 1) _ L rfl (OwnR.below (w := w5) O5.out ((Below.refl _ _).alloc (Nat.le_refl _) _)) _ (⟨0, r0, r1, r2, r3, r4, r5, r6, r7⟩ : Rc) rfl (fun j u hu => (Blk.new w5 (recA (⟨0, r0, r1, r2, r3, r4, r5, r6, r7⟩ : Rc)) 79 rfl).cell j u hu) (by rw [HLN.out]; omega) (by first | omega | (simp; omega)) ?_; intro u6 w6 own6 gr6; obtain ⟨ao6, cap6, e6⟩ := own6.form; obtain ⟨n6, hn6⟩ : ∃ n6, (L ++ [(⟨0, r0, r1, r2, r3, r4, r5, r6, r7⟩ : Rc)]).length = n6 := ⟨_, rfl⟩; rw [hn6] at e6; clear hn6; subst e6; (try simp only [Act.put, List.setIfInBounds_toArray, List.set_cons_zero, List.set_cons_succ]); have K6 := (K5.alloc _).below gr6.below (by omega); have X6 := (X5.alloc _).below gr6.below (by omega); have Z6 := (Z5.alloc _).below gr6.below (by omega); have B6 : Below H w w6 := (B5.alloc (by have := B5.size; rw [HH.out] at this; exact this) _).trans (gr6.below.mono (by omega)); have O6 : Hid (OwnR w6 (K + 1) (Value.slice ao6 n6 cap6) (L ++ [(⟨0, r0, r1, r2, r3, r4, r5, r6, r7⟩ : Rc)])) := own6; have s2_d := (gr6.below.cell (p := ⟨H, 2, none⟩) (show H < K + 1 by omega)).trans s2_c; have y0_d := (gr6.below.cell (p := ⟨g1, o1 + k * 9, none⟩) (show g1 < K + 1 by omega)).trans y0_c; have y1_d := (gr6.below.cell (p := ⟨g1, o1 + k * 9 + 1, none⟩) (show g1 < K + 1 by omega)).trans y1_c; have y2_d := (gr6.below.cell (p := ⟨g1, o1 + k * 9 + 2, none⟩) (show g1 < K + 1 by omega)).trans y2_c; have y3_d := (gr6.below.cell (p := ⟨g1, o1 + k * 9 + 3, none⟩) (show g1 < K + 1 by omega)).trans y3_c; have y4_d := (gr6.below.cell (p := ⟨g1, o1 + k * 9 + 4, none⟩) (show g1 < K + 1 by omega)).trans y4_c; have y5_d := (gr6.below.cell (p := ⟨g1, o1 + k * 9 + 5, none⟩) (show g1 < K + 1 by omega)).trans y5_c; have y6_d := (gr6.below.cell (p := ⟨g1, o1 + k * 9 + 6, none⟩) (show g1 < K + 1 by omega)).trans y6_c; have y7_d := (gr6.below.cell (p := ⟨g1, o1 + k * 9 + 7, none⟩) (show g1 < K + 1 by omega)).trans y7_c; have y8_d := (gr6.below.cell (p := ⟨g1, o1 + k * 9 + 8, none⟩) (show g1 < K + 1 by omega)).trans y8_c; clear own6 gr6; have k63 := K6.cell 3 _ rfl; have kf63 := K6.froz 3; have lk6 := K6.lt))
          all_goals (go_wp2_with fail)
          all_goals (go_roundw
                     case rel => exact ⟨k + 1, _, by omega, by go_num, V3.out, K6.set 3 _ (by simp), by rw [U4.out]; exact OwnR.set O6.out (by omega), X6.other (p := ⟨K, 3, none⟩) (fun h' => by have h2 : K = H := h'; omega) _, Z6.other (p := ⟨K, 3, none⟩) (fun h' => by have h2 : K = H + 1 := h'; omega) _, B6.setCell (by show H ≤ K; omega) _⟩
                     case measure => simp [intOf]; omega)
        · have hq : (r8 != 0) = true := by simpa using hg
          obtain ⟨e1, e2, e3⟩ := U2.out hg
          subst e1 e2 e3
          clear U2 U3 U4 P2 P3
          have d0 := Z3.cell 0 _ rfl
          have f0 := Z3.froz 0
          have d1 := Z3.cell 1 _ rfl
          have f1 := Z3.froz 1
          have d2 := Z3.cell 2 _ rfl
          have f2 := Z3.froz 2
          have d3 := Z3.cell 3 _ rfl
          have f3 := Z3.froz 3
          have lr := Z3.lt
          go_wp2_with fail
          have RB := blk4 (x0 := .int .i64 0) (x1 := .int .i64 0) (x2 := .int .i64 0) (x3 := .slice none 0 0) Z3
          have LB := below4 (x0 := .int .i64 0) (x1 := .int .i64 0) (x2 := .int .i64 0) (x3 := .slice none 0 0) B3 (show H ≤ H + 1 by omega)
          generalize (((wr.setCell ⟨H + 1, 0, none⟩ (.int .i64 0)).setCell ⟨H + 1, 1, none⟩ (.int .i64 0)).setCell ⟨H + 1, 2, none⟩ (.int .i64 0)).setCell ⟨H + 1, 3, none⟩ (.slice none 0 0) = W9 at RB LB ⊢
          have h0 := RB.cell 0 _ rfl
          have h1 := RB.cell 1 _ rfl
          have h2 := RB.cell 2 _ rfl
          have h3 := RB.cell 3 _ rfl
          refine bodyPost_ret (v := .tuple #[gmV ⟨0, 0, 0⟩ (.slice none 0 0), .int .i64 15]) (by simp [results, Tryz.results13, go_sem, h0, h1, h2, h3]) rfl ⟨_, rfl, OwnR.nil _ _, by rw [HH.out]; exact LB⟩
      · obtain rfl : k = n := by omega
        obtain ⟨e1, e2, e3⟩ := P3.out Q0.out
        subst e1 e2 e3
        clear P2 P3
        obtain ⟨L, hL⟩ : ∃ L, (preE A k).map putR = L := ⟨_, rfl⟩
        have HL : Hid ((preE A k).map putR = L) := hL
        rw [hL] at O3
        clear hL
        obtain ⟨oa, oc, rfl⟩ := O3.out.form
        have k0 := K3.cell 0 _ rfl
        have k1 := K3.cell 1 _ rfl
        have k2 := K3.cell 2 _ rfl
        have k3 := K3.cell 3 _ rfl
        have lk := K3.lt
        have d0 := Z3.cell 0 _ rfl
        have f0 := Z3.froz 0
        have d1 := Z3.cell 1 _ rfl
        have f1 := Z3.froz 1
        have d2 := Z3.cell 2 _ rfl
        have f2 := Z3.froz 2
        have d3 := Z3.cell 3 _ rfl
        have f3 := Z3.froz 3
        have lr := Z3.lt
        go_wp2_with fail
        have RB := blk4 (x0 := .int .i64 t) (x1 := .int .i64 m) (x2 := .int .i64 (-1)) (x3 := .slice oa L.length oc) Z3
        have LB := below4 (x0 := .int .i64 t) (x1 := .int .i64 m) (x2 := .int .i64 (-1)) (x3 := .slice oa L.length oc) B3 (show H ≤ H + 1 by omega)
        have OB := (((OwnR.set (b := H + 1) (o := 0) (x := .int .i64 t) O3.out (by omega)).set (b := H + 1) (o := 1) (x := .int .i64 m) (by omega)).set (b := H + 1) (o := 2) (x := .int .i64 (-1)) (by omega)).set (b := H + 1) (o := 3) (x := .slice oa L.length oc) (by omega)
        generalize (((wr.setCell ⟨H + 1, 0, none⟩ (.int .i64 t)).setCell ⟨H + 1, 1, none⟩ (.int .i64 m)).setCell ⟨H + 1, 2, none⟩ (.int .i64 (-1))).setCell ⟨H + 1, 3, none⟩ (.slice oa L.length oc) = W9 at RB LB OB ⊢
        have h0 := RB.cell 0 _ rfl
        have h1 := RB.cell 1 _ rfl
        have h2 := RB.cell 2 _ rfl
        have h3 := RB.cell 3 _ rfl
        refine bodyPost_ret (v := .tuple #[gmV ⟨t, m, -1⟩ (.slice oa L.length oc), .int .i64 0]) (by simp [results, Tryz.results13, go_sem, h0, h1, h2, h3]) rfl ⟨_, rfl, by rw [HL.out]; exact OB.mono (by rw [HH.out]; omega), by rw [HH.out]; exact LB⟩
  · obtain ⟨e1, e2, e3⟩ := F1.out hz
    subst e1 e2 e3
    clear F1 F2 F3 FN
    have hq : (E != 0) = true := by simpa using hz
    have d0 := Z1.cell 0 _ rfl
    have f0 := Z1.froz 0
    have d1 := Z1.cell 1 _ rfl
    have f1 := Z1.froz 1
    have d2 := Z1.cell 2 _ rfl
    have f2 := Z1.froz 2
    have d3 := Z1.cell 3 _ rfl
    have f3 := Z1.froz 3
    have lr := Z1.lt
    go_wp2_with fail
    have RB := blk4 (x0 := .int .i64 0) (x1 := .int .i64 0) (x2 := .int .i64 0) (x3 := .slice none 0 0) Z1
    have LB := below4 (x0 := .int .i64 0) (x1 := .int .i64 0) (x2 := .int .i64 0) (x3 := .slice none 0 0) B1 (show H ≤ H + 1 by omega)
    generalize (((w1.setCell ⟨H + 1, 0, none⟩ (.int .i64 0)).setCell ⟨H + 1, 1, none⟩ (.int .i64 0)).setCell ⟨H + 1, 2, none⟩ (.int .i64 0)).setCell ⟨H + 1, 3, none⟩ (.slice none 0 0) = W9 at RB LB ⊢
    have h0 := RB.cell 0 _ rfl
    have h1 := RB.cell 1 _ rfl
    have h2 := RB.cell 2 _ rfl
    have h3 := RB.cell 3 _ rfl
    refine bodyPost_ret (v := .tuple #[gmV ⟨0, 0, 0⟩ (.slice none 0 0), .int .i64 E]) (by simp [results, Tryz.results13, go_sem, h0, h1, h2, h3]) rfl ⟨_, rfl, OwnR.nil _ _, by rw [HH.out]; exact LB⟩
end Go.Proofs.YtokegpajjicehaaGreat
