/-
  Layer 15 (delay): the contracts of a delay's calls, and of the document's step.
-/
import Derived.Test.YtmclcoaicngodaaDy3
namespace Go.Proofs.Ytmclcoaicngodaa
open Go.RowKit
set_option linter.unusedVariables false
set_option maxRecDepth 20000

theorem cfg_R {c : Cfg} (h : cfE c.cf = 0) : c.R := by
  have := cf_ok h
  simp only [Cfg.cf] at this
  exact ⟨by unfold R64; omega, by unfold R64; omega⟩
/-- What is asked for, and the limits, are times. -/
theorem ask_time {c : Cfg} (h : cfE c.cf = 0) (j : Int) : 0 ≤ askI c.cf j ∧ askI c.cf j ≤ 2305843009213693952 := by
  have h1 := cf_ok h
  have h2 := ask_bd h j
  omega
def Within (c : Cfg) (n : Int) : Prop := c.least ≤ n ∧ n ≤ c.most
theorem ask_in {c : Cfg} (h : cfE c.cf = 0) (j : Int) : Within c (askI c.cf j) := ask_bd h j
theorem upd_in {c : Cfg} (h : cfE c.cf = 0) {n : Int} (hn : Within c n) (j : Int) : Within c (updI c.cf n j) := upd_bd h hn j
theorem in_time {c : Cfg} (h : cfE c.cf = 0) {n : Int} (hn : Within c n) : 0 ≤ n ∧ n ≤ 2305843009213693952 := by
  have h1 := cf_ok h
  have h2 : c.least ≤ n ∧ n ≤ c.most := hn
  have e1 : c.cf.least = c.least := rfl
  have e2 : c.cf.most = c.most := rfl
  omega
theorem slack_time {c : Cfg} (h : cfE c.cf = 0) : 0 ≤ c.slack ∧ c.slack ≤ 2305843009213693952 := (cf_ok h).2.2.2.1

theorem dy_target (w : World) (c : Cfg) (j : Int) (hj : R64 j) : Calls Try.prog 8 #[cfgV c, .int .i64 j] w fun e w' => e = .returned (.int .i64 (if cfE c.cf = 0 then askI c.cf j else 0)) ∧ Below w.heap.size w w' := by
  obtain ⟨e, he⟩ : ∃ e, cfE c.cf = e := ⟨_, rfl⟩
  have HE : Hid (cfE c.cf = e) := he
  rw [he]
  clear he
  go_enter Try.func8, Try.ntmps8
  go_wp2_with fail
  generalize hW : w.alloc (.cells (cfgA c) 23) = W
  obtain ⟨A0, B0, Z0⟩ := boxed hW
  clear hW
  refine (dy_check _ c).mono ?_; rw [HE.out]; rintro e1 w1 ⟨rfl, b1⟩
  have A1 := A0.below b1 (by omega)
  have B1 := bthen B0 b1
  clear A0 B0 Z0 b1
  have x0 := A1.cell 0 _ rfl
  have x1 := A1.cell 1 _ rfl
  have x2 := A1.cell 2 _ rfl
  have x3 := A1.cell 3 _ rfl
  have x4 := A1.cell 4 _ rfl
  have x5 := A1.cell 5 _ rfl
  have x6 := A1.cell 6 _ rfl
  have x7 := A1.cell 7 _ rfl
  have x8 := A1.cell 8 _ rfl
  have x9 := A1.cell 9 _ rfl
  have x10 := A1.cell 10 _ rfl
  by_cases q : e = 0
  · subst q
    go_wp2_with fail
    refine (dy_asked _ c (cfg_R HE.out) j hj).mono ?_; rintro e2 w2 ⟨rfl, b2⟩
    go_wp2_with fail
    go_ret
    exact ⟨rfl, bthen B1 b2⟩
  · go_wp2_with fail
    go_ret
    exact ⟨rfl, B1⟩
theorem Blk.drewN {w : World} {b : Nat} {cs : List Value} (h : Blk w b cs) (n : Nat) : Blk (w.drewN n) b cs := h.below (below_drewN (Below.refl _ w) n) h.lt
abbrev dlyC (c : Cfg) (n k : Int) : List Value := [.int .i64 c.ring, .int .i64 c.win, .int .i64 c.base, .int .i64 c.gain, .int .i64 c.least, .int .i64 c.most, .int .i64 c.slack, .int .i64 c.num, .int .i64 c.den, .int .i64 c.ext, .bool c.curved, .int .i64 n, .int .i64 k]
theorem dy_new_no (w : World) (c : Cfg) (h : cfE c.cf ≠ 0) : Calls Try.prog 10 #[cfgV c] w fun e w' => e = .returned (.tuple #[.pointer none, .int .i64 (cfE c.cf)]) ∧ Below w.heap.size w w' := by
  obtain ⟨e, he⟩ : ∃ e, cfE c.cf = e := ⟨_, rfl⟩
  have HE : Hid (cfE c.cf = e) := he
  rw [he] at h ⊢
  clear he
  go_enter Try.func10, Try.ntmps10
  go_wp2_with fail
  generalize hW : w.alloc (.cells (cfgA c) 23) = W
  obtain ⟨A0, B0, Z0⟩ := boxed hW
  clear hW
  refine (dy_check _ c).mono ?_; rw [HE.out]; rintro e1 w1 ⟨rfl, b1⟩
  have B1 := bthen B0 b1
  go_wp2_with fail
  go_ret2
  exact ⟨rfl, B1⟩
theorem dy_new (w : World) (c : Cfg) (h : cfE c.cf = 0) : Calls Try.prog 10 #[cfgV c] w fun e w' => ∃ D, w.heap.size ≤ D ∧ e = .returned (.tuple #[.pointer (some ⟨D, 0, none⟩), .int .i64 0]) ∧ Blk w' D (dlyC c (askI c.cf 0) 0) ∧ Below w.heap.size w w' := by
  have HE : Hid (cfE c.cf = 0) := h
  go_enter Try.func10, Try.ntmps10
  go_wp2_with fail
  generalize hW : w.alloc (.cells (cfgA c) 23) = W
  obtain ⟨A0, B0, Z0⟩ := boxed hW
  clear hW
  refine (dy_check _ c).mono ?_; rw [HE.out]; rintro e1 w1 ⟨rfl, b1⟩
  have A1 := A0.below b1 (by omega)
  have B1 := bthen B0 b1
  clear A0 B0 Z0 b1
  obtain ⟨H, hH⟩ : ∃ H, w.heap.size = H := ⟨_, rfl⟩
  rw [hH] at A1 B1
  rw [hH]
  have x0_0 := A1.cell 0 _ rfl
  have x1_0 := A1.cell 1 _ rfl
  have x2_0 := A1.cell 2 _ rfl
  have x3_0 := A1.cell 3 _ rfl
  have x4_0 := A1.cell 4 _ rfl
  have x5_0 := A1.cell 5 _ rfl
  have x6_0 := A1.cell 6 _ rfl
  have x7_0 := A1.cell 7 _ rfl
  have x8_0 := A1.cell 8 _ rfl
  have x9_0 := A1.cell 9 _ rfl
  have x10_0 := A1.cell 10 _ rfl
  have la := A1.lt
  go_upto_region 4 with fail
  go_region_held3 (fun w' => w'.cell? ⟨H, 0, none⟩ = some (.int .i64 c.ring) ∧ w'.cell? ⟨H, 1, none⟩ = some (.int .i64 c.win) ∧ w'.cell? ⟨H, 2, none⟩ = some (.int .i64 c.base) ∧ w'.cell? ⟨H, 3, none⟩ = some (.int .i64 c.gain) ∧ w'.cell? ⟨H, 4, none⟩ = some (.int .i64 c.least) ∧ w'.cell? ⟨H, 5, none⟩ = some (.int .i64 c.most) ∧ w'.cell? ⟨H, 6, none⟩ = some (.int .i64 c.slack) ∧ w'.cell? ⟨H, 7, none⟩ = some (.int .i64 c.num) ∧ w'.cell? ⟨H, 8, none⟩ = some (.int .i64 c.den) ∧ w'.cell? ⟨H, 9, none⟩ = some (.int .i64 c.ext) ∧ w'.cell? ⟨H, 10, none⟩ = some (.bool c.curved)) (first | with_reducible exact ⟨x0_1, x1_1, x2_1, x3_1, x4_1, x5_1, x6_1, x7_1, x8_1, x9_1, x10_1⟩ | with_reducible exact ⟨x0_0, x1_0, x2_0, x3_0, x4_0, x5_0, x6_0, x7_0, x8_0, x9_0, x10_0⟩ | go_keep)
    (first | (go_at_call 18; (with_reducible refine (dy_asked _ c (cfg_R HE.out) 0 R64_zero).mono ?_); rintro e w2 ⟨rfl, b2⟩; have B2 := B1.drew.trans (b2.mono (Nat.le_of_lt A1.drew.lt)); have A2 := A1.drew.below b2 A1.lt; have l2 := A2.lt; have x0_1 := A2.cell 0 _ rfl; have x1_1 := A2.cell 1 _ rfl; have x2_1 := A2.cell 2 _ rfl; have x3_1 := A2.cell 3 _ rfl; have x4_1 := A2.cell 4 _ rfl; have x5_1 := A2.cell 5 _ rfl; have x6_1 := A2.cell 6 _ rfl; have x7_1 := A2.cell 7 _ rfl; have x8_1 := A2.cell 8 _ rfl; have x9_1 := A2.cell 9 _ rfl; have x10_1 := A2.cell 10 _ rfl))
  go_wp2_with fail
  go_ret2
  obtain ⟨X3, B3, Z3⟩ := boxed (w := w2) (cs := #[.int .i64 c.ring, .int .i64 c.win, .int .i64 c.base, .int .i64 c.gain, .int .i64 c.least, .int .i64 c.most, .int .i64 c.slack, .int .i64 c.num, .int .i64 c.den, .int .i64 c.ext, .bool c.curved, .int .i64 (askI c.cf 0), .int .i64 0]) (t := 42) rfl
  exact ⟨w2.heap.size, by omega, rfl, X3, by rw [hH]; exact B2.trans (B3.mono (by omega))⟩

theorem dy_now_nil (w : World) : Calls Try.prog 14 #[.pointer none] w fun e w' => e = .returned (.int .i64 0) ∧ w' = w := by
  go_enter Try.func14, Try.ntmps14
  go_wp2_with fail
  go_ret
  exact ⟨rfl, rfl⟩
theorem dy_changes_nil (w : World) : Calls Try.prog 15 #[.pointer none] w fun e w' => e = .returned (.int .i64 0) ∧ w' = w := by
  go_enter Try.func15, Try.ntmps15
  go_wp2_with fail
  go_ret
  exact ⟨rfl, rfl⟩
theorem dy_update_nil (j : Int) (w : World) : Calls Try.prog 16 #[.pointer none, .int .i64 j] w fun e w' => e = .returned (.int .i64 0) ∧ w' = w := by
  go_enter Try.func16, Try.ntmps16
  go_wp2_with fail
  go_ret
  exact ⟨rfl, rfl⟩
theorem dy_now (w : World) (D : Nat) (c : Cfg) (n k : Int) (h : Blk w D (dlyC c n k)) : Calls Try.prog 14 #[.pointer (some ⟨D, 0, none⟩)] w fun e w' => e = .returned (.int .i64 n) ∧ w' = w := by
  have c0 := h.cell 11 _ rfl
  go_enter Try.func14, Try.ntmps14
  go_wp2_with fail
  go_ret
  exact ⟨rfl, rfl⟩
theorem dy_changes (w : World) (D : Nat) (c : Cfg) (n k : Int) (h : Blk w D (dlyC c n k)) : Calls Try.prog 15 #[.pointer (some ⟨D, 0, none⟩)] w fun e w' => e = .returned (.int .i64 k) ∧ w' = w := by
  have c0 := h.cell 12 _ rfl
  go_enter Try.func15, Try.ntmps15
  go_wp2_with fail
  go_ret
  exact ⟨rfl, rfl⟩
/-- How many changes there were behind an estimate. -/
def cntU (c : Cfg) (n k j : Int) : Int := if updI c.cf n j = n then k else k + 1
theorem dy_update (w : World) (D : Nat) (c : Cfg) (n k j : Int) (hc : cfE c.cf = 0) (hn : Within c n) (hk : -9223372036854775808 ≤ k ∧ k < 9223372036854775807) (hj : R64 j) (h : Blk w D (dlyC c n k)) :
    Calls Try.prog 16 #[.pointer (some ⟨D, 0, none⟩), .int .i64 j] w fun e w' => e = .returned (.int .i64 (updI c.cf n j)) ∧
      Blk w' D (dlyC c (updI c.cf n j) (cntU c n k j)) ∧ Below D w w' := by
  have ht := ask_time hc j
  have hm := in_time hc hn
  have hs := slack_time hc
  have HF : Hid _ := upd_far hc n j
  have HW : Hid (Within c n) := hn
  have HC : Hid (cfE c.cf = 0) := hc
  obtain ⟨t, hT⟩ : ∃ t, askI c.cf j = t := ⟨_, rfl⟩
  have HT : Hid (askI c.cf j = t) := hT
  rw [hT] at ht HF
  clear hT hn hc
  have x0_0 := h.cell 0 _ rfl
  have x1_0 := h.cell 1 _ rfl
  have x2_0 := h.cell 2 _ rfl
  have x3_0 := h.cell 3 _ rfl
  have x4_0 := h.cell 4 _ rfl
  have x5_0 := h.cell 5 _ rfl
  have x6_0 := h.cell 6 _ rfl
  have x7_0 := h.cell 7 _ rfl
  have x8_0 := h.cell 8 _ rfl
  have x9_0 := h.cell 9 _ rfl
  have x10_0 := h.cell 10 _ rfl
  go_enter Try.func16, Try.ntmps16
  go_wp2_with fail
  refine (dy_asked _ c (cfg_R HC.out) j hj).mono ?_; rw [HT.out]; rintro e w1 ⟨rfl, b1⟩
  have X1 := h.below b1 h.lt
  have B1 : Below D w w1 := b1.mono (Nat.le_of_lt h.lt)
  clear x0_0 x1_0 x2_0 x3_0 x4_0 x5_0 x6_0 x7_0 x8_0 x9_0 x10_0
  have y0 := X1.cell 6 _ rfl
  have y1 := X1.cell 11 _ rfl
  have y2 := X1.cell 12 _ rfl
  have f1 := X1.froz 11
  have f2 := X1.froz 12
  by_cases q : c.slack < max (t - n) (n - t)
  · obtain ⟨e1, e2⟩ := HF.out.1 q
    go_wp2_with fail
    go_quiet (fail)
    go_wp2_with fail
    go_ret
    refine ⟨ret_int e1.symm, ?_, ((below_drewN B1 nq).setCell (p := ⟨D, 11, none⟩) (Nat.le_refl _) _).setCell (p := ⟨D, 12, none⟩) (Nat.le_refl _) _⟩
    have hcnt : cntU c n k j = k + 1 := if_neg e2
    rw [hcnt, e1]
    exact ((X1.drewN nq).set 11 (.int .i64 t) (by simp)).set 12 (.int .i64 (k + 1)) (by simp)
  · have e1 := HF.out.2 (by first | exact q | exact Int.not_lt.1 q)
    go_wp2_with fail
    go_quiet (fail)
    go_wp2_with fail
    go_ret
    refine ⟨ret_int e1.symm, ?_, below_drewN B1 nq⟩
    have hcnt : cntU c n k j = k := if_pos e1
    rw [hcnt, e1]
    exact X1.drewN nq
theorem dd_update (w : World) (c : Cfg) (n j : Int) (hc : cfE c.cf = 0) (hn : Within c n) (hj : R64 j) :
    Calls Try.prog 17 #[cfgV c, .int .i64 n, .int .i64 j] w fun e w' => e = .returned (.int .i64 (updI c.cf n j)) ∧ Below w.heap.size w w' := by
  have ht := ask_time hc j
  have hm := in_time hc hn
  have hs := slack_time hc
  have HF : Hid (updI c.cf n j = if c.slack < askI c.cf j - n ∨ c.slack < n - askI c.cf j then askI c.cf j else n) := rfl
  have HC : Hid (cfE c.cf = 0) := hc
  obtain ⟨t, hT⟩ : ∃ t, askI c.cf j = t := ⟨_, rfl⟩
  have HT : Hid (askI c.cf j = t) := hT
  rw [hT] at ht HF
  clear hT hn hc
  go_enter Try.func17, Try.ntmps17
  go_wp2_with fail
  generalize hW : w.alloc (.cells (cfgA c) 23) = W
  obtain ⟨A0, B0, Z0⟩ := boxed hW
  clear hW
  refine (dd_target _ c (cfg_R HC.out) j hj).mono ?_; rw [HT.out]; rintro e w1 ⟨rfl, b1⟩
  have A1 := A0.below b1 (by omega)
  have B1 := bthen B0 b1
  clear A0 B0 Z0 b1
  have y0 := A1.cell 6 _ rfl
  by_cases q1 : c.slack < t - n
  · go_wp2_with fail
    go_ret
    exact ⟨ret_int (by rw [HF.out, if_pos (Or.inl q1)]), B1⟩
  by_cases q2 : c.slack < n - t
  · go_wp2_with fail
    go_ret
    exact ⟨ret_int (by rw [HF.out, if_pos (Or.inr q2)]), B1⟩
  · go_wp2_with fail
    go_ret
    exact ⟨ret_int (by rw [HF.out, if_neg (by omega)]), B1⟩

/-- The document's example. -/
def exC : Cfg := ⟨0, 0, 10, 131072, 5, 100, 8, 0, 0, 0, false⟩
theorem dy_example (w : World) : Calls Try.prog 21 #[] w fun e w' => e = .returned (cfgV exC) ∧ Below w.heap.size w w' := by
  go_enter Try.func21, Try.ntmps21
  go_wp2_with fail
  refine bodyPost_ret (v := cfgV exC) (by simp [results, Try.results21, go_sem, exC]) rfl ⟨rfl, (Below.refl _ _).alloc (Nat.le_refl _) _⟩
theorem dy_alive (w : World) : Calls Try.prog 12 #[] w fun e w' => e = .returned (.bool true) ∧ Below w.heap.size w w' := by
  have hc : cfE exC.cf = 0 := by decide
  have e0 : askI exC.cf 0 = 10 := by decide
  have u1 : updI exC.cf 10 4 = 10 := by decide
  have u2 : updI exC.cf 10 5 = 20 := by decide
  have k1 : cntU exC 10 0 4 = 0 := by decide
  have k2 : cntU exC 10 0 5 = 1 := by decide
  have HC : Hid _ := hc
  have HU1 : Hid _ := u1
  have HU2 : Hid _ := u2
  have HK1 : Hid _ := k1
  have HK2 : Hid _ := k2
  have H0 : Hid _ := e0
  clear hc u1 u2 k1 k2 e0
  go_enter Try.func12, Try.ntmps12
  go_wp2_with fail
  refine (dy_example _).mono ?_; rintro e w1 ⟨rfl, b1⟩
  go_wp2_with fail
  refine (dy_new _ exC HC.out).mono ?_; rintro e w2 ⟨D, hD, rfl, x2, b2⟩
  rw [H0.out] at x2
  have B2 := bthen b1 b2
  have hD' : w.heap.size ≤ D := Nat.le_trans b1.size hD
  clear b1 b2 hD
  go_wp2_with fail
  refine (dy_now _ D exC _ _ x2).mono ?_; rintro e w3 ⟨rfl, rfl⟩
  go_wp2_with fail
  refine (dy_update _ D exC 10 0 4 HC.out (by unfold Within; decide) (by omega) (by unfold R64; omega) x2).mono ?_; rintro e w4 ⟨rfl, x4, b4⟩
  rw [HU1.out, HK1.out] at x4
  rw [HU1.out]
  have B4 := B2.trans (b4.mono hD')
  go_wp2_with fail
  refine (dy_update _ D exC 10 0 5 HC.out (by unfold Within; decide) (by omega) (by unfold R64; omega) x4).mono ?_; rintro e w5 ⟨rfl, x5, b5⟩
  rw [HU2.out, HK2.out] at x5
  rw [HU2.out]
  have B5 := B4.trans (b5.mono hD')
  go_wp2_with fail
  refine (dy_changes _ D exC _ _ x5).mono ?_; rintro e w6 ⟨rfl, rfl⟩
  go_wp2_with fail
  go_ret
  exact ⟨rfl, B5⟩
end Go.Proofs.Ytmclcoaicngodaa
