/-
  Layer 15 (delay): the contracts of the document's numbers, of what an estimate asks for, and of a delay's calls.
-/
import Derived.Test.YtmclcoaicngodaaDy2
namespace Go.Proofs.Ytmclcoaicngodaa
open Go.RowKit
set_option linter.unusedVariables false
set_option maxRecDepth 20000

def fineN (n : Int) : Bool := decide (0 ≤ n ∧ n ≤ 2305843009213693952)
theorem fineN_iff (n : Int) : fineN n = true ↔ 0 ≤ n ∧ n ≤ 2305843009213693952 := by unfold fineN; simp
theorem fineN_not (n : Int) : fineN n = false ↔ ¬(0 ≤ n ∧ n ≤ 2305843009213693952) := by unfold fineN; simp
theorem dd_fine (w : World) (n : Int) : Calls Try.prog 19 #[.int .i64 n] w fun e w' => e = .returned (.bool (fineN n)) ∧ w' = w := by
  go_enter Try.func19, Try.ntmps19
  by_cases h1 : 0 ≤ n
  · go_wp2_with fail
    go_ret
    exact ⟨ret_bool (by unfold fineN; exact decide_eq_decide.2 (by omega)), rfl⟩
  · go_wp2_with fail
    go_ret
    exact ⟨ret_bool (by unfold fineN; symm; exact decide_eq_false (by omega)), rfl⟩
theorem cf_bad {c : Cfg} (h : ¬(0 ≤ c.base ∧ c.base ≤ 2305843009213693952 ∧ 0 ≤ c.least ∧ c.least ≤ 2305843009213693952 ∧ 0 ≤ c.most ∧ c.most ≤ 2305843009213693952 ∧ 0 ≤ c.slack ∧ c.slack ≤ 2305843009213693952 ∧ 0 ≤ c.gain ∧ c.gain ≤ 68719476736)) : cfE c.cf = 3 := by
  unfold cfE Cfg.cf
  exact if_neg h
theorem cf_good {c : Cfg} (h : 0 ≤ c.base ∧ c.base ≤ 2305843009213693952 ∧ 0 ≤ c.least ∧ c.least ≤ 2305843009213693952 ∧ 0 ≤ c.most ∧ c.most ≤ 2305843009213693952 ∧ 0 ≤ c.slack ∧ c.slack ≤ 2305843009213693952 ∧ 0 ≤ c.gain ∧ c.gain ≤ 68719476736) : cfE c.cf = if c.most < c.least then 10 else 0 := by
  unfold cfE Cfg.cf
  exact if_pos h
theorem dd_check (w : World) (c : Cfg) : Calls Try.prog 9 #[cfgV c] w fun e w' => e = .returned (.int .i64 (cfE c.cf)) ∧ Below w.heap.size w w' := by
  go_enter Try.func9, Try.ntmps9
  go_wp2_with fail
  generalize hW : w.alloc (.cells (cfgA c) 23) = W
  obtain ⟨A0, B0, Z0⟩ := boxed hW
  clear hW Z0
  have a2 := A0.cell 2 _ rfl
  have a3 := A0.cell 3 _ rfl
  have a4 := A0.cell 4 _ rfl
  have a5 := A0.cell 5 _ rfl
  have a6 := A0.cell 6 _ rfl
  have B0' : Hid _ := B0
  clear A0 B0
  obtain ⟨H, hH⟩ : ∃ H, w.heap.size = H := ⟨_, rfl⟩
  rw [hH] at a2 a3 a4 a5 a6
  rw [hH]
  cases q0 : fineN c.base
  · refine (dd_fine _ _).mono ?_; rw [q0]; rintro e w1 ⟨rfl, rfl⟩
    go_wp2_with fail
    go_ret
    exact ⟨ret_int (cf_bad (by have := (fineN_not _).1 q0; omega)).symm, hH ▸ B0'.out⟩
  refine (dd_fine _ _).mono ?_; rw [q0]; rintro e w1 ⟨rfl, rfl⟩
  go_wp2_with fail
  cases q1 : fineN c.least
  · refine (dd_fine _ _).mono ?_; rw [q1]; rintro e w2 ⟨rfl, rfl⟩
    go_wp2_with fail
    go_ret
    exact ⟨ret_int (cf_bad (by have := (fineN_not _).1 q1; omega)).symm, hH ▸ B0'.out⟩
  refine (dd_fine _ _).mono ?_; rw [q1]; rintro e w2 ⟨rfl, rfl⟩
  go_wp2_with fail
  cases q2 : fineN c.most
  · refine (dd_fine _ _).mono ?_; rw [q2]; rintro e w3 ⟨rfl, rfl⟩
    go_wp2_with fail
    go_ret
    exact ⟨ret_int (cf_bad (by have := (fineN_not _).1 q2; omega)).symm, hH ▸ B0'.out⟩
  refine (dd_fine _ _).mono ?_; rw [q2]; rintro e w3 ⟨rfl, rfl⟩
  go_wp2_with fail
  cases q3 : fineN c.slack
  · refine (dd_fine _ _).mono ?_; rw [q3]; rintro e w4 ⟨rfl, rfl⟩
    go_wp2_with fail
    go_ret
    exact ⟨ret_int (cf_bad (by have := (fineN_not _).1 q3; omega)).symm, hH ▸ B0'.out⟩
  refine (dd_fine _ _).mono ?_; rw [q3]; rintro e w4 ⟨rfl, rfl⟩
  have r0 := (fineN_iff _).1 q0
  have r1 := (fineN_iff _).1 q1
  have r2 := (fineN_iff _).1 q2
  have r3 := (fineN_iff _).1 q3
  by_cases q4 : c.gain < 0
  · go_wp2_with fail
    go_ret
    exact ⟨ret_int (cf_bad (by omega)).symm, hH ▸ B0'.out⟩
  by_cases q5 : 68719476736 < c.gain
  · go_wp2_with fail
    go_ret
    exact ⟨ret_int (cf_bad (by omega)).symm, hH ▸ B0'.out⟩
  by_cases q6 : c.most < c.least
  · go_wp2_with fail
    go_ret
    exact ⟨ret_int (by rw [cf_good (by omega), if_pos q6]), hH ▸ B0'.out⟩
  · go_wp2_with fail
    go_ret
    exact ⟨ret_int (by rw [cf_good (by omega), if_neg (by omega)]), hH ▸ B0'.out⟩

/-- The numbers that what is asked for is reckoned by are of 64 bits. -/
structure Cfg.R (c : Cfg) : Prop where
  base : R64 c.base
  gain : R64 c.gain
theorem Cfg.ok.R {c : Cfg} (h : c.ok) : c.R := ⟨h.base, h.gain⟩
theorem R64_zero : R64 0 := by unfold R64; omega
theorem R64_max {j : Int} (h : R64 j) : R64 (max j 0) := by unfold R64 at *; omega
set_option maxHeartbeats 2000000 in
theorem dy_asked (w : World) (c : Cfg) (hc : c.R) (j : Int) (hj : R64 j) : Calls Try.prog 18 #[cfgV c, .int .i64 j] w fun e w' => e = .returned (.int .i64 (askI c.cf j)) ∧ Below w.heap.size w w' := by
  obtain ⟨h1, h2⟩ := hc
  have HA : Hid (askI c.cf j = clampI (sat (c.base + sat (c.gain * max j 0 / 65536))) c.least c.most) := rfl
  obtain ⟨z, hz⟩ : ∃ z, sat (c.gain * max j 0 / 65536) = z := ⟨_, rfl⟩
  have h4 : R64 z := hz ▸ sat_bd _
  rw [hz] at HA
  go_enter Try.func18, Try.ntmps18
  go_upto_region 1 with fail
  generalize hW : w.alloc (.cells (cfgA c) 23) = W
  obtain ⟨A0, B0, Z0⟩ := boxed hW
  clear hW
  obtain ⟨H, hH⟩ : ∃ H, w.heap.size = H := ⟨_, rfl⟩
  rw [hH] at A0 B0
  rw [hH]
  have x0_0 := A0.cell 2 _ rfl
  have x1_0 := A0.cell 3 _ rfl
  have x2_0 := A0.cell 4 _ rfl
  have x3_0 := A0.cell 5 _ rfl
  have la := A0.lt
  have M : ∀ w1 : World, Calls Try.prog 26 #[.int .i64 c.gain, .int .i64 (max j 0)] w1 (fun e w' => e = .returned (.int .i64 z) ∧ Gr w1.heap.size w1 w') := fun w1 => by
    have h := mul_any c.gain (max j 0) h2 (R64_max hj) w1
    rw [hz] at h
    exact h
  clear hz
  go_region_held3 (fun w' => w'.cell? ⟨H, 2, none⟩ = some (.int .i64 c.base) ∧ w'.cell? ⟨H, 3, none⟩ = some (.int .i64 c.gain) ∧ w'.cell? ⟨H, 4, none⟩ = some (.int .i64 c.least) ∧ w'.cell? ⟨H, 5, none⟩ = some (.int .i64 c.most)) (first | with_reducible exact ⟨x0_2, x1_2, x2_2, x3_2⟩ | with_reducible exact ⟨x0_1, x1_1, x2_1, x3_1⟩ | with_reducible exact ⟨x0_0, x1_0, x2_0, x3_0⟩ | go_keep)
    (first
      | (go_at_call 26; (with_reducible refine (M _).mono ?_); rintro e w1 ⟨rfl, g1⟩; have b1 := g1.below; have B1 := B0.drew.trans (b1.mono (Nat.le_of_lt A0.drew.lt)); have A1 := A0.drew.below b1 A0.lt; have x0_1 := A1.cell 2 _ rfl; have x1_1 := A1.cell 3 _ rfl; have x2_1 := A1.cell 4 _ rfl; have x3_1 := A1.cell 5 _ rfl)
      | (go_at_call 25; (with_reducible refine (add_any c.base z h1 h4 _).mono ?_); rintro e w2 ⟨rfl, g2⟩; have b2 := g2.below; have B2 := B1.trans (b2.mono (Nat.le_of_lt A1.lt)); have A2 := A1.below b2 A1.lt; have x0_2 := A2.cell 2 _ rfl; have x1_2 := A2.cell 3 _ rfl; have x2_2 := A2.cell 4 _ rfl; have x3_2 := A2.cell 5 _ rfl))
  go_wp2_with fail
  refine (clamp_any _ _ _ _).mono ?_; rintro e w3 ⟨rfl, rfl⟩
  go_wp2_with fail
  go_ret
  exact ⟨ret_int HA.out.symm, by rw [hH]; exact B2⟩
set_option maxHeartbeats 2000000 in
theorem dd_target (w : World) (c : Cfg) (hc : c.R) (j : Int) (hj : R64 j) : Calls Try.prog 13 #[cfgV c, .int .i64 j] w fun e w' => e = .returned (.int .i64 (askI c.cf j)) ∧ Below w.heap.size w w' := by
  obtain ⟨h1, h2⟩ := hc
  have HA : Hid (askI c.cf j = clampI (sat (c.base + sat (c.gain * max j 0 / 65536))) c.least c.most) := rfl
  obtain ⟨z, hz⟩ : ∃ z, sat (c.gain * max j 0 / 65536) = z := ⟨_, rfl⟩
  have h4 : R64 z := hz ▸ sat_bd _
  rw [hz] at HA
  go_enter Try.func13, Try.ntmps13
  go_upto_region 1 with fail
  generalize hW : w.alloc (.cells (cfgA c) 23) = W
  obtain ⟨A0, B0, Z0⟩ := boxed hW
  clear hW
  obtain ⟨H, hH⟩ : ∃ H, w.heap.size = H := ⟨_, rfl⟩
  rw [hH] at A0 B0
  rw [hH]
  have x0_0 := A0.cell 2 _ rfl
  have x1_0 := A0.cell 3 _ rfl
  have x2_0 := A0.cell 4 _ rfl
  have x3_0 := A0.cell 5 _ rfl
  have la := A0.lt
  by_cases q : j < 0
  · have e0 : max j 0 = 0 := by omega
    have M : ∀ w1 : World, Calls Try.prog 24 #[.int .i64 c.gain, .int .i64 0] w1 (fun e w' => e = .returned (.int .i64 z) ∧ w' = w1) := fun w1 => by
      have h := refMul_any c.gain 0 h2 R64_zero w1
      rw [e0] at hz
      rw [hz] at h
      exact h
    clear hz e0
    go_upto_region 3 with fail
    go_region_held3 (fun w' => w'.cell? ⟨H, 2, none⟩ = some (.int .i64 c.base) ∧ w'.cell? ⟨H, 3, none⟩ = some (.int .i64 c.gain) ∧ w'.cell? ⟨H, 4, none⟩ = some (.int .i64 c.least) ∧ w'.cell? ⟨H, 5, none⟩ = some (.int .i64 c.most)) (first | with_reducible exact ⟨x0_2, x1_2, x2_2, x3_2⟩ | with_reducible exact ⟨x0_1, x1_1, x2_1, x3_1⟩ | with_reducible exact ⟨x0_0, x1_0, x2_0, x3_0⟩ | go_keep)
      (first
        | (go_at_call 24; (with_reducible refine (M _).mono ?_); rintro e w1 ⟨rfl, rfl⟩)
        | (go_at_call 23; (with_reducible refine (refAdd_any c.base z h1 h4 _).mono ?_); rintro e w2 ⟨rfl, rfl⟩)
        | (go_at_call 22; (with_reducible refine (refClamp_any _ _ _ _).mono ?_); rintro e w3 ⟨rfl, rfl⟩))
    go_wp2_with fail
    go_ret
    exact ⟨ret_int HA.out.symm, by rw [hH]; exact B0.drew⟩
  · have e0 : max j 0 = j := by omega
    have M : ∀ w1 : World, Calls Try.prog 24 #[.int .i64 c.gain, .int .i64 j] w1 (fun e w' => e = .returned (.int .i64 z) ∧ w' = w1) := fun w1 => by
      have h := refMul_any c.gain j h2 hj w1
      rw [e0] at hz
      rw [hz] at h
      exact h
    clear hz e0
    go_upto_region 3 with fail
    go_region_held3 (fun w' => w'.cell? ⟨H, 2, none⟩ = some (.int .i64 c.base) ∧ w'.cell? ⟨H, 3, none⟩ = some (.int .i64 c.gain) ∧ w'.cell? ⟨H, 4, none⟩ = some (.int .i64 c.least) ∧ w'.cell? ⟨H, 5, none⟩ = some (.int .i64 c.most)) (first | with_reducible exact ⟨x0_2, x1_2, x2_2, x3_2⟩ | with_reducible exact ⟨x0_1, x1_1, x2_1, x3_1⟩ | with_reducible exact ⟨x0_0, x1_0, x2_0, x3_0⟩ | go_keep)
      (first
        | (go_at_call 24; (with_reducible refine (M _).mono ?_); rintro e w1 ⟨rfl, rfl⟩)
        | (go_at_call 23; (with_reducible refine (refAdd_any c.base z h1 h4 _).mono ?_); rintro e w2 ⟨rfl, rfl⟩)
        | (go_at_call 22; (with_reducible refine (refClamp_any _ _ _ _).mono ?_); rintro e w3 ⟨rfl, rfl⟩))
    go_wp2_with fail
    go_ret
    exact ⟨ret_int HA.out.symm, by rw [hH]; exact B0.drew⟩
end Go.Proofs.Ytmclcoaicngodaa
