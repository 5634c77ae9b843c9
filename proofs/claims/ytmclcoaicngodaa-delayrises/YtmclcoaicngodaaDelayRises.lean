/-
  Proved: a greater estimate never asks for less; without gain all ask for the same, and without slack a delay is what the last one asks for (the law DelayRises answers true at every input).
  Conditions: none.
-/
import Derived.Test.YtmclcoaicngodaaRows
import Derived.Test.YtmclcoaicngodaaFr15
import Derived.Test.YtmclcoaicngodaaDy4
namespace Go.Proofs.Ytmclcoaicngodaa
open Go.ChangeShapes Go.WideShapes Go.ChangeAt Go.RowKit
set_option linter.unusedVariables false

namespace DelayRisesL
theorem own : ownKnob Try.prog.godebug = none := by kernel_rfl

/-- The config without slack; and without gain. -/
def z0 (c : Cfg) : Cfg := ⟨c.ring, c.win, c.base, c.gain, c.least, c.most, 0, c.num, c.den, c.ext, c.curved⟩
def zf (c : Cfg) : Cfg := ⟨c.ring, c.win, c.base, 0, c.least, c.most, 0, c.num, c.den, c.ext, c.curved⟩
theorem z0_ok {c : Cfg} (h : cfE c.cf = 0) : cfE (z0 c).cf = 0 := by
  have h1 := cf_ok h
  simp only [Cfg.cf] at h1
  unfold cfE
  exact (if_pos (by simp only [z0, Cfg.cf]; omega)).trans (if_neg (by simp only [z0, Cfg.cf]; omega))
theorem zf_ok {c : Cfg} (h : cfE c.cf = 0) : cfE (zf c).cf = 0 := by
  have h1 := cf_ok h
  simp only [Cfg.cf] at h1
  unfold cfE
  exact (if_pos (by simp only [zf, Cfg.cf]; omega)).trans (if_neg (by simp only [zf, Cfg.cf]; omega))
theorem z_target (w : World) (c : Cfg) (j p : Int) (h : cfE (z0 c).cf = 0) (hj : R64 j) (hp : askI (z0 c).cf j = p) : Calls Try.prog 8 #[.agg #[.int .i64 c.ring, .int .i64 c.win, .int .i64 c.base, .int .i64 c.gain, .int .i64 c.least, .int .i64 c.most, .int .i64 0, .int .i64 c.num, .int .i64 c.den, .int .i64 c.ext, .bool c.curved], .int .i64 j] w fun e w' => e = .returned (.int .i64 p) ∧ Below w.heap.size w w' := by
  have := dy_target w (z0 c) j hj
  rw [if_pos h, hp] at this
  exact this
theorem zf_target (w : World) (c : Cfg) (j p : Int) (h : cfE (zf c).cf = 0) (hj : R64 j) (hp : askI (zf c).cf j = p) : Calls Try.prog 8 #[.agg #[.int .i64 c.ring, .int .i64 c.win, .int .i64 c.base, .int .i64 0, .int .i64 c.least, .int .i64 c.most, .int .i64 0, .int .i64 c.num, .int .i64 c.den, .int .i64 c.ext, .bool c.curved], .int .i64 j] w fun e w' => e = .returned (.int .i64 p) ∧ Below w.heap.size w w' := by
  have := dy_target w (zf c) j hj
  rw [if_pos h, hp] at this
  exact this
abbrev zD (c : Cfg) (n k : Int) : List Value := [.int .i64 c.ring, .int .i64 c.win, .int .i64 c.base, .int .i64 c.gain, .int .i64 c.least, .int .i64 c.most, .int .i64 0, .int .i64 c.num, .int .i64 c.den, .int .i64 c.ext, .bool c.curved, .int .i64 n, .int .i64 k]
theorem z_new (w : World) (c : Cfg) (h : cfE (z0 c).cf = 0) : Calls Try.prog 10 #[.agg #[.int .i64 c.ring, .int .i64 c.win, .int .i64 c.base, .int .i64 c.gain, .int .i64 c.least, .int .i64 c.most, .int .i64 0, .int .i64 c.num, .int .i64 c.den, .int .i64 c.ext, .bool c.curved]] w fun e w' => ∃ D n, w.heap.size ≤ D ∧ e = .returned (.tuple #[.pointer (some ⟨D, 0, none⟩), .int .i64 0]) ∧ Within (z0 c) n ∧ Blk w' D (zD c n 0) ∧ Below w.heap.size w w' := by
  refine (dy_new w (z0 c) h).mono ?_
  rintro e w' ⟨D, h1, h2, h3, h4⟩
  exact ⟨D, _, h1, h2, ask_in h 0, h3, h4⟩
theorem z_update (w : World) (D : Nat) (c : Cfg) (n k j p : Int) (h : cfE (z0 c).cf = 0) (hn : Within (z0 c) n) (hk : 0 ≤ k ∧ k ≤ 1) (hj : R64 j) (hp : askI (z0 c).cf j = p) (hD : Blk w D (zD c n k)) :
    Calls Try.prog 16 #[.pointer (some ⟨D, 0, none⟩), .int .i64 j] w fun e w' => e = .returned (.int .i64 p) ∧ (∃ k', (0 ≤ k' ∧ k' ≤ k + 1) ∧ Blk w' D (zD c p k')) ∧ Below D w w' := by
  have hu : updI (z0 c).cf n j = p := (upd_zero rfl n j).trans hp
  refine (dy_update w D (z0 c) n k j h hn (by omega) hj hD).mono ?_
  rw [hu]
  rintro e w' ⟨h1, h2, h3⟩
  refine ⟨h1, ⟨_, ?_, h2⟩, h3⟩
  unfold cntU
  split <;> omega
set_option maxRecDepth 20000 in
set_option maxHeartbeats 8000000 in
theorem walk (w : World) (c : Cfg) (hok : c.ok) (a : Int) (ha : (Lit.int .i64 a).wf = true) (b : Int) (hb : (Lit.int .i64 b).wf = true) :
    Calls Try.prog 6 #[cfgV c, .int .i64 a, .int .i64 b] w fun e w' => e = .returned (.bool true) ∧ Below w.heap.size w w' := by
  have ra : R64 a := wf_i64 ha
  have rb : R64 b := wf_i64 hb
  clear ha hb
  by_cases hc : cfE c.cf = 0
  · have HC : Hid (cfE c.cf = 0) := hc
    have C0 : Hid (cfE (z0 c).cf = 0) := z0_ok hc
    have CF : Hid (cfE (zf c).cf = 0) := zf_ok hc
    clear hc
    have rmin : R64 (min a b) := by unfold R64 at *; omega
    have rmax : R64 (max a b) := by unfold R64 at *; omega
    have up : askI c.cf (min a b) ≤ askI c.cf (max a b) := ask_up HC.out (by omega)
    obtain ⟨p1, hp1⟩ : ∃ y, askI c.cf (min a b) = y := ⟨_, rfl⟩
    obtain ⟨p2, hp2⟩ : ∃ y, askI c.cf (max a b) = y := ⟨_, rfl⟩
    rw [hp1, hp2] at up
    have HP1 : Hid (askI c.cf (min a b) = p1) := hp1
    have HP2 : Hid (askI c.cf (max a b) = p2) := hp2
    obtain ⟨qa, hqa⟩ : ∃ y, askI (z0 c).cf a = y := ⟨_, rfl⟩
    obtain ⟨qb, hqb⟩ : ∃ y, askI (z0 c).cf b = y := ⟨_, rfl⟩
    obtain ⟨f, hfa⟩ : ∃ y, askI (zf c).cf a = y := ⟨_, rfl⟩
    have hfb : askI (zf c).cf b = f := (ask_flat rfl b a).trans hfa
    have wa : Within (z0 c) qa := hqa ▸ ask_in C0.out a
    have HQA : Hid (askI (z0 c).cf a = qa) := hqa
    have HQB : Hid (askI (z0 c).cf b = qb) := hqb
    have HFA : Hid (askI (zf c).cf a = f) := hfa
    have HFB : Hid (askI (zf c).cf b = f) := hfb
    clear hp1 hp2 hqa hqb hfa hfb
    go_enter Try.func6, Try.ntmps6
    go_wp2_with fail
    generalize hW : w.alloc (.cells (cfgA c) 23) = W
    obtain ⟨A0, B0, Z0⟩ := boxed hW
    clear hW
    obtain ⟨H, hH⟩ : ∃ H, w.heap.size = H := ⟨_, rfl⟩
    rw [hH] at A0 B0
    rw [hH]
    have HH : Hid (w.heap.size = H) := hH
    clear hH Z0
    have l0 := A0.lt
    have x0_0 := A0.cell 0 _ rfl
    have x1_0 := A0.cell 1 _ rfl
    have x2_0 := A0.cell 2 _ rfl
    have x3_0 := A0.cell 3 _ rfl
    have x4_0 := A0.cell 4 _ rfl
    have x5_0 := A0.cell 5 _ rfl
    have x6_0 := A0.cell 6 _ rfl
    have x7_0 := A0.cell 7 _ rfl
    have x8_0 := A0.cell 8 _ rfl
    have x9_0 := A0.cell 9 _ rfl
    have x10_0 := A0.cell 10 _ rfl
    refine (dy_check _ c).mono ?_; rw [HC.out]; rintro e w1 ⟨rfl, b1⟩
    have A1 := A0.below b1 A0.lt
    have B1 := B0.trans (b1.mono (Nat.le_of_lt A0.lt))
    have l1 := A1.lt
    clear x0_0 x1_0 x2_0 x3_0 x4_0 x5_0 x6_0 x7_0 x8_0 x9_0 x10_0 A0 B0 l0
    have x0_1 := A1.cell 0 _ rfl
    have x1_1 := A1.cell 1 _ rfl
    have x2_1 := A1.cell 2 _ rfl
    have x3_1 := A1.cell 3 _ rfl
    have x4_1 := A1.cell 4 _ rfl
    have x5_1 := A1.cell 5 _ rfl
    have x6_1 := A1.cell 6 _ rfl
    have x7_1 := A1.cell 7 _ rfl
    have x8_1 := A1.cell 8 _ rfl
    have x9_1 := A1.cell 9 _ rfl
    have x10_1 := A1.cell 10 _ rfl
    clear b1
    go_upto_region 3 with fail
    go_cut [24] (fun p wx => p = .bool false ∧ ∃ w4, w4 = wx ∧ Blk w4 H (cfgC c) ∧ Below H w w4)
    case first =>
      go_region_held3 (fun w' => w'.cell? ⟨H, 0, none⟩ = some (.int .i64 c.ring) ∧ w'.cell? ⟨H, 1, none⟩ = some (.int .i64 c.win) ∧ w'.cell? ⟨H, 2, none⟩ = some (.int .i64 c.base) ∧ w'.cell? ⟨H, 3, none⟩ = some (.int .i64 c.gain) ∧ w'.cell? ⟨H, 4, none⟩ = some (.int .i64 c.least) ∧ w'.cell? ⟨H, 5, none⟩ = some (.int .i64 c.most) ∧ w'.cell? ⟨H, 6, none⟩ = some (.int .i64 c.slack) ∧ w'.cell? ⟨H, 7, none⟩ = some (.int .i64 c.num) ∧ w'.cell? ⟨H, 8, none⟩ = some (.int .i64 c.den) ∧ w'.cell? ⟨H, 9, none⟩ = some (.int .i64 c.ext) ∧ w'.cell? ⟨H, 10, none⟩ = some (.bool c.curved)) (first | with_reducible exact ⟨x0_3, x1_3, x2_3, x3_3, x4_3, x5_3, x6_3, x7_3, x8_3, x9_3, x10_3⟩ | with_reducible exact ⟨x0_2, x1_2, x2_2, x3_2, x4_2, x5_2, x6_2, x7_2, x8_2, x9_2, x10_2⟩ | with_reducible exact ⟨x0_1, x1_1, x2_1, x3_1, x4_1, x5_1, x6_1, x7_1, x8_1, x9_1, x10_1⟩ | go_keep)
        (first
          | (go_at_call 8; (with_reducible refine (dy_target _ c (min a b) rmin).mono ?_); rw [if_pos HC.out, HP1.out]; rintro e w2 ⟨rfl, b2⟩; have A2 := A1.drew.below b2 A1.drew.lt; have B2 := B1.drew.trans (b2.mono (Nat.le_of_lt A1.drew.lt)); have l2 := A2.lt; have x0_2 := A2.cell 0 _ rfl; have x1_2 := A2.cell 1 _ rfl; have x2_2 := A2.cell 2 _ rfl; have x3_2 := A2.cell 3 _ rfl; have x4_2 := A2.cell 4 _ rfl; have x5_2 := A2.cell 5 _ rfl; have x6_2 := A2.cell 6 _ rfl; have x7_2 := A2.cell 7 _ rfl; have x8_2 := A2.cell 8 _ rfl; have x9_2 := A2.cell 9 _ rfl; have x10_2 := A2.cell 10 _ rfl)
          | (go_at_call 8; (with_reducible refine (dy_target _ c (max a b) rmax).mono ?_); rw [if_pos HC.out, HP2.out]; rintro e w3 ⟨rfl, b3⟩; have A3 := A2.below b3 A2.lt; have B3 := B2.trans (b3.mono (Nat.le_of_lt A2.lt)); have l3 := A3.lt; have x0_3 := A3.cell 0 _ rfl; have x1_3 := A3.cell 1 _ rfl; have x2_3 := A3.cell 2 _ rfl; have x3_3 := A3.cell 3 _ rfl; have x4_3 := A3.cell 4 _ rfl; have x5_3 := A3.cell 5 _ rfl; have x6_3 := A3.cell 6 _ rfl; have x7_3 := A3.cell 7 _ rfl; have x8_3 := A3.cell 8 _ rfl; have x9_3 := A3.cell 9 _ rfl; have x10_3 := A3.cell 10 _ rfl))
      all_goals
        go_wp2_with fail
        go_meet
        exact ⟨by simp; omega, _, rfl, A3, B3⟩
    case rest =>
      clear x0_1 x1_1 x2_1 x3_1 x4_1 x5_1 x6_1 x7_1 x8_1 x9_1 x10_1 A1 B1 l1
      obtain ⟨rfl, w4, rfl, A4, B4⟩ := hcut
      have l4 := A4.lt
      have f6 := A4.froz 6
      have x0_4 := A4.cell 0 _ rfl
      have x1_4 := A4.cell 1 _ rfl
      have x2_4 := A4.cell 2 _ rfl
      have x3_4 := A4.cell 3 _ rfl
      have x4_4 := A4.cell 4 _ rfl
      have x5_4 := A4.cell 5 _ rfl
      have x6_4 := A4.cell 6 _ rfl
      have x7_4 := A4.cell 7 _ rfl
      have x8_4 := A4.cell 8 _ rfl
      have x9_4 := A4.cell 9 _ rfl
      have x10_4 := A4.cell 10 _ rfl
      go_wp2_with fail
      obtain ⟨W5, hW5⟩ : ∃ W, (w4.setCell ⟨H, 6, none⟩ (.int .i64 0)).alloc (.cells #[.int .i64 c.ring, .int .i64 c.win, .int .i64 c.base, .int .i64 0, .int .i64 c.least, .int .i64 c.most, .int .i64 0, .int .i64 c.num, .int .i64 c.den, .int .i64 c.ext, .bool c.curved] 23) = W := ⟨_, rfl⟩
      obtain ⟨F, hF⟩ : ∃ F, w4.heap.size = F := ⟨_, rfl⟩
      have hHF : H < F := hF ▸ l4
      have A5 : Blk W5 H [.int .i64 c.ring, .int .i64 c.win, .int .i64 c.base, .int .i64 c.gain, .int .i64 c.least, .int .i64 c.most, .int .i64 0, .int .i64 c.num, .int .i64 c.den, .int .i64 c.ext, .bool c.curved] := by rw [← hW5]; exact (A4.set 6 _ (by simp)).alloc _
      have E5 : Blk W5 F [.int .i64 c.ring, .int .i64 c.win, .int .i64 c.base, .int .i64 0, .int .i64 c.least, .int .i64 c.most, .int .i64 0, .int .i64 c.num, .int .i64 c.den, .int .i64 c.ext, .bool c.curved] := by rw [← hW5]; exact Blk.new _ _ _ (by simp [hF])
      have B5 : Below H w W5 := by rw [← hW5]; exact (B4.setCell (Nat.le_refl _) _).alloc (by simp; omega) _
      rw [hW5, hF]
      clear hW5 hF A4 B4 l4 f6 x0_4 x1_4 x2_4 x3_4 x4_4 x5_4 x6_4 x7_4 x8_4 x9_4 x10_4
      refine (z_new _ c C0.out).mono ?_; rintro e w6 ⟨D, n, hD, rfl, hn, D6, b6⟩
      have hFD : F < D := Nat.lt_of_lt_of_le E5.lt hD
      have hHD : H < D := Nat.lt_trans hHF hFD
      have A6 := A5.below b6 A5.lt
      have E6 := E5.below b6 E5.lt
      have B6 := B5.trans (b6.mono (Nat.le_of_lt A5.lt))
      clear A5 E5 B5 b6 hD
      have l6 := A6.lt
      have m6 := E6.lt
      have d6 := D6.lt
      have y0_6 := E6.cell 0 _ rfl
      have y1_6 := E6.cell 1 _ rfl
      have y2_6 := E6.cell 2 _ rfl
      have y3_6 := E6.cell 3 _ rfl
      have y4_6 := E6.cell 4 _ rfl
      have y5_6 := E6.cell 5 _ rfl
      have y6_6 := E6.cell 6 _ rfl
      have y7_6 := E6.cell 7 _ rfl
      have y8_6 := E6.cell 8 _ rfl
      have y9_6 := E6.cell 9 _ rfl
      have y10_6 := E6.cell 10 _ rfl
      go_upto_region 9 with fail
      go_region_held3 (fun w' => w'.cell? ⟨F, 0, none⟩ = some (.int .i64 c.ring) ∧ w'.cell? ⟨F, 1, none⟩ = some (.int .i64 c.win) ∧ w'.cell? ⟨F, 2, none⟩ = some (.int .i64 c.base) ∧ w'.cell? ⟨F, 3, none⟩ = some (.int .i64 0) ∧ w'.cell? ⟨F, 4, none⟩ = some (.int .i64 c.least) ∧ w'.cell? ⟨F, 5, none⟩ = some (.int .i64 c.most) ∧ w'.cell? ⟨F, 6, none⟩ = some (.int .i64 0) ∧ w'.cell? ⟨F, 7, none⟩ = some (.int .i64 c.num) ∧ w'.cell? ⟨F, 8, none⟩ = some (.int .i64 c.den) ∧ w'.cell? ⟨F, 9, none⟩ = some (.int .i64 c.ext) ∧ w'.cell? ⟨F, 10, none⟩ = some (.bool c.curved)) (first | with_reducible exact ⟨y0_8, y1_8, y2_8, y3_8, y4_8, y5_8, y6_8, y7_8, y8_8, y9_8, y10_8⟩ | with_reducible exact ⟨y0_7, y1_7, y2_7, y3_7, y4_7, y5_7, y6_7, y7_7, y8_7, y9_7, y10_7⟩ | with_reducible exact ⟨y0_6, y1_6, y2_6, y3_6, y4_6, y5_6, y6_6, y7_6, y8_6, y9_6, y10_6⟩ | go_keep)
        (first
          | (go_at_call 8; (with_reducible refine (zf_target _ c a f CF.out ra HFA.out).mono ?_); rintro e w7 ⟨rfl, b7⟩; have A7 := A6.drew.below b7 A6.drew.lt; have E7 := E6.drew.below b7 E6.drew.lt; have D7 := D6.drew.below b7 D6.drew.lt; have B7 := B6.drew.trans (b7.mono (Nat.le_of_lt A6.drew.lt)); have l7 := A7.lt; have m7 := E7.lt; have d7 := D7.lt; have y0_7 := E7.cell 0 _ rfl; have y1_7 := E7.cell 1 _ rfl; have y2_7 := E7.cell 2 _ rfl; have y3_7 := E7.cell 3 _ rfl; have y4_7 := E7.cell 4 _ rfl; have y5_7 := E7.cell 5 _ rfl; have y6_7 := E7.cell 6 _ rfl; have y7_7 := E7.cell 7 _ rfl; have y8_7 := E7.cell 8 _ rfl; have y9_7 := E7.cell 9 _ rfl; have y10_7 := E7.cell 10 _ rfl)
          | (go_at_call 8; (with_reducible refine (zf_target _ c b f CF.out rb HFB.out).mono ?_); rintro e w8 ⟨rfl, b8⟩; have A8 := A7.below b8 A7.lt; have E8 := E7.below b8 E7.lt; have D8 := D7.below b8 D7.lt; have B8 := B7.trans (b8.mono (Nat.le_of_lt A7.lt)); have l8 := A8.lt; have m8 := E8.lt; have d8 := D8.lt; have y0_8 := E8.cell 0 _ rfl; have y1_8 := E8.cell 1 _ rfl; have y2_8 := E8.cell 2 _ rfl; have y3_8 := E8.cell 3 _ rfl; have y4_8 := E8.cell 4 _ rfl; have y5_8 := E8.cell 5 _ rfl; have y6_8 := E8.cell 6 _ rfl; have y7_8 := E8.cell 7 _ rfl; have y8_8 := E8.cell 8 _ rfl; have y9_8 := E8.cell 9 _ rfl; have y10_8 := E8.cell 10 _ rfl))
      go_wp2_with fail
      clear y0_6 y1_6 y2_6 y3_6 y4_6 y5_6 y6_6 y7_6 y8_6 y9_6 y10_6 y0_7 y1_7 y2_7 y3_7 y4_7 y5_7 y6_7 y7_7 y8_7 y9_7 y10_7 y0_8 y1_8 y2_8 y3_8 y4_8 y5_8 y6_8 y7_8 y8_8 y9_8 y10_8 A6 A7 E6 E7 E8 D6 D7 B6 B7 l6 l7 m6 m7 m8 d6 d7 b7 b8
      have x0_8 := A8.cell 0 _ rfl
      have x1_8 := A8.cell 1 _ rfl
      have x2_8 := A8.cell 2 _ rfl
      have x3_8 := A8.cell 3 _ rfl
      have x4_8 := A8.cell 4 _ rfl
      have x5_8 := A8.cell 5 _ rfl
      have x6_8 := A8.cell 6 _ rfl
      have x7_8 := A8.cell 7 _ rfl
      have x8_8 := A8.cell 8 _ rfl
      have x9_8 := A8.cell 9 _ rfl
      have x10_8 := A8.cell 10 _ rfl
      go_upto_region 11 with fail
      go_region_held3 (fun w' => w'.cell? ⟨H, 0, none⟩ = some (.int .i64 c.ring) ∧ w'.cell? ⟨H, 1, none⟩ = some (.int .i64 c.win) ∧ w'.cell? ⟨H, 2, none⟩ = some (.int .i64 c.base) ∧ w'.cell? ⟨H, 3, none⟩ = some (.int .i64 c.gain) ∧ w'.cell? ⟨H, 4, none⟩ = some (.int .i64 c.least) ∧ w'.cell? ⟨H, 5, none⟩ = some (.int .i64 c.most) ∧ w'.cell? ⟨H, 6, none⟩ = some (.int .i64 0) ∧ w'.cell? ⟨H, 7, none⟩ = some (.int .i64 c.num) ∧ w'.cell? ⟨H, 8, none⟩ = some (.int .i64 c.den) ∧ w'.cell? ⟨H, 9, none⟩ = some (.int .i64 c.ext) ∧ w'.cell? ⟨H, 10, none⟩ = some (.bool c.curved)) (first | with_reducible exact ⟨x0_13, x1_13, x2_13, x3_13, x4_13, x5_13, x6_13, x7_13, x8_13, x9_13, x10_13⟩ | with_reducible exact ⟨x0_12, x1_12, x2_12, x3_12, x4_12, x5_12, x6_12, x7_12, x8_12, x9_12, x10_12⟩ | with_reducible exact ⟨x0_11, x1_11, x2_11, x3_11, x4_11, x5_11, x6_11, x7_11, x8_11, x9_11, x10_11⟩ | with_reducible exact ⟨x0_10, x1_10, x2_10, x3_10, x4_10, x5_10, x6_10, x7_10, x8_10, x9_10, x10_10⟩ | with_reducible exact ⟨x0_9, x1_9, x2_9, x3_9, x4_9, x5_9, x6_9, x7_9, x8_9, x9_9, x10_9⟩ | with_reducible exact ⟨x0_8, x1_8, x2_8, x3_8, x4_8, x5_8, x6_8, x7_8, x8_8, x9_8, x10_8⟩ | go_keep)
        (first
          | (go_at_call 12; (with_reducible refine (dy_alive _).mono ?_); rintro e w9 ⟨rfl, b9⟩; have A9 := A8.drew.below b9 A8.drew.lt; have D9 := D8.drew.below b9 D8.drew.lt; have B9 := B8.drew.trans (b9.mono (Nat.le_of_lt A8.drew.lt)); have l9 := A9.lt; have d9 := D9.lt; have x0_9 := A9.cell 0 _ rfl; have x1_9 := A9.cell 1 _ rfl; have x2_9 := A9.cell 2 _ rfl; have x3_9 := A9.cell 3 _ rfl; have x4_9 := A9.cell 4 _ rfl; have x5_9 := A9.cell 5 _ rfl; have x6_9 := A9.cell 6 _ rfl; have x7_9 := A9.cell 7 _ rfl; have x8_9 := A9.cell 8 _ rfl; have x9_9 := A9.cell 9 _ rfl; have x10_9 := A9.cell 10 _ rfl)
          | (go_at_call 16; (with_reducible refine (z_update _ D c n 0 a qa C0.out hn (by omega) ra HQA.out D9).mono ?_); rintro e w10 ⟨rfl, ⟨k10, hk10, D10⟩, b10⟩; have A10 := A9.below b10 hHD; have B10 := B9.trans (b10.mono (Nat.le_of_lt hHD)); have l10 := A10.lt; have d10 := D10.lt; have x0_10 := A10.cell 0 _ rfl; have x1_10 := A10.cell 1 _ rfl; have x2_10 := A10.cell 2 _ rfl; have x3_10 := A10.cell 3 _ rfl; have x4_10 := A10.cell 4 _ rfl; have x5_10 := A10.cell 5 _ rfl; have x6_10 := A10.cell 6 _ rfl; have x7_10 := A10.cell 7 _ rfl; have x8_10 := A10.cell 8 _ rfl; have x9_10 := A10.cell 9 _ rfl; have x10_10 := A10.cell 10 _ rfl)
          | (go_at_call 8; (with_reducible refine (z_target _ c a qa C0.out ra HQA.out).mono ?_); rintro e w11 ⟨rfl, b11⟩; have A11 := A10.below b11 A10.lt; have D11 := D10.below b11 D10.lt; have B11 := B10.trans (b11.mono (Nat.le_of_lt A10.lt)); have l11 := A11.lt; have d11 := D11.lt; have x0_11 := A11.cell 0 _ rfl; have x1_11 := A11.cell 1 _ rfl; have x2_11 := A11.cell 2 _ rfl; have x3_11 := A11.cell 3 _ rfl; have x4_11 := A11.cell 4 _ rfl; have x5_11 := A11.cell 5 _ rfl; have x6_11 := A11.cell 6 _ rfl; have x7_11 := A11.cell 7 _ rfl; have x8_11 := A11.cell 8 _ rfl; have x9_11 := A11.cell 9 _ rfl; have x10_11 := A11.cell 10 _ rfl)
          | (go_at_call 16; (with_reducible refine (z_update _ D c qa k10 b qb C0.out wa (by omega) rb HQB.out D11).mono ?_); rintro e w12 ⟨rfl, ⟨k12, hk12, D12⟩, b12⟩; have A12 := A11.below b12 hHD; have B12 := B11.trans (b12.mono (Nat.le_of_lt hHD)); have l12 := A12.lt; have d12 := D12.lt; have x0_12 := A12.cell 0 _ rfl; have x1_12 := A12.cell 1 _ rfl; have x2_12 := A12.cell 2 _ rfl; have x3_12 := A12.cell 3 _ rfl; have x4_12 := A12.cell 4 _ rfl; have x5_12 := A12.cell 5 _ rfl; have x6_12 := A12.cell 6 _ rfl; have x7_12 := A12.cell 7 _ rfl; have x8_12 := A12.cell 8 _ rfl; have x9_12 := A12.cell 9 _ rfl; have x10_12 := A12.cell 10 _ rfl)
          | (go_at_call 8; (with_reducible refine (z_target _ c b qb C0.out rb HQB.out).mono ?_); rintro e w13 ⟨rfl, b13⟩; have A13 := A12.below b13 A12.lt; have D13 := D12.below b13 D12.lt; have B13 := B12.trans (b13.mono (Nat.le_of_lt A12.lt)); have l13 := A13.lt; have d13 := D13.lt; have x0_13 := A13.cell 0 _ rfl; have x1_13 := A13.cell 1 _ rfl; have x2_13 := A13.cell 2 _ rfl; have x3_13 := A13.cell 3 _ rfl; have x4_13 := A13.cell 4 _ rfl; have x5_13 := A13.cell 5 _ rfl; have x6_13 := A13.cell 6 _ rfl; have x7_13 := A13.cell 7 _ rfl; have x8_13 := A13.cell 8 _ rfl; have x9_13 := A13.cell 9 _ rfl; have x10_13 := A13.cell 10 _ rfl))
      go_wp2_with fail
      go_ret
      exact ⟨rfl, by rw [HH.out]; exact B13⟩
  · have HN : Hid (cfE c.cf ≠ 0) := hc
    obtain ⟨q, hq⟩ : ∃ q, cfE c.cf = q := ⟨_, rfl⟩
    have HQ : Hid (cfE c.cf = q) := hq
    have hq0 : q ≠ 0 := hq ▸ hc
    have hq1 : (q != 0) = true := by simpa using hq0
    clear hc hq
    go_enter Try.func6, Try.ntmps6
    go_wp2_with fail
    generalize hW : w.alloc (.cells (cfgA c) 23) = W
    obtain ⟨A0, B0, Z0⟩ := boxed hW
    clear hW
    obtain ⟨H, hH⟩ : ∃ H, w.heap.size = H := ⟨_, rfl⟩
    rw [hH] at A0 B0
    rw [hH]
    have HH : Hid (w.heap.size = H) := hH
    clear hH Z0
    have l0 := A0.lt
    have x0_0 := A0.cell 0 _ rfl
    have x1_0 := A0.cell 1 _ rfl
    have x2_0 := A0.cell 2 _ rfl
    have x3_0 := A0.cell 3 _ rfl
    have x4_0 := A0.cell 4 _ rfl
    have x5_0 := A0.cell 5 _ rfl
    have x6_0 := A0.cell 6 _ rfl
    have x7_0 := A0.cell 7 _ rfl
    have x8_0 := A0.cell 8 _ rfl
    have x9_0 := A0.cell 9 _ rfl
    have x10_0 := A0.cell 10 _ rfl
    refine (dy_check _ c).mono ?_; rw [HQ.out]; rintro e w1 ⟨rfl, b1⟩
    have A1 := A0.below b1 A0.lt
    have B1 := B0.trans (b1.mono (Nat.le_of_lt A0.lt))
    have l1 := A1.lt
    clear x0_0 x1_0 x2_0 x3_0 x4_0 x5_0 x6_0 x7_0 x8_0 x9_0 x10_0 A0 B0 l0
    have x0_1 := A1.cell 0 _ rfl
    have x1_1 := A1.cell 1 _ rfl
    have x2_1 := A1.cell 2 _ rfl
    have x3_1 := A1.cell 3 _ rfl
    have x4_1 := A1.cell 4 _ rfl
    have x5_1 := A1.cell 5 _ rfl
    have x6_1 := A1.cell 6 _ rfl
    have x7_1 := A1.cell 7 _ rfl
    have x8_1 := A1.cell 8 _ rfl
    have x9_1 := A1.cell 9 _ rfl
    have x10_1 := A1.cell 10 _ rfl
    clear b1
    go_wp2_with fail
    refine (dy_alive _).mono ?_; rintro e w2 ⟨rfl, b2⟩
    have A2 := A1.below b2 A1.lt
    have B2 := B1.trans (b2.mono (Nat.le_of_lt A1.lt))
    have l2 := A2.lt
    clear x0_1 x1_1 x2_1 x3_1 x4_1 x5_1 x6_1 x7_1 x8_1 x9_1 x10_1 A1 B1 l1
    have x0_2 := A2.cell 0 _ rfl
    have x1_2 := A2.cell 1 _ rfl
    have x2_2 := A2.cell 2 _ rfl
    have x3_2 := A2.cell 3 _ rfl
    have x4_2 := A2.cell 4 _ rfl
    have x5_2 := A2.cell 5 _ rfl
    have x6_2 := A2.cell 6 _ rfl
    have x7_2 := A2.cell 7 _ rfl
    have x8_2 := A2.cell 8 _ rfl
    have x9_2 := A2.cell 9 _ rfl
    have x10_2 := A2.cell 10 _ rfl
    clear b2
    go_wp2_with fail
    go_ret
    exact ⟨rfl, by rw [HH.out]; exact B2⟩

set_option maxRecDepth 100000 in
theorem lifted (os : Os) (started : os.Started) (H : Type) (enc : TypeId × Value → H) :
    ReturnsInHanded {} Try.checked os 6 .any (Rows.delayRisesSpec.pre6 enc Try.prog Try.f6 Rows.delayRisesRow.domain false) (Rows.delayRisesSpec.post enc Try.prog Try.f6 false true false false) := by
  refine returnsInHanded_of_change (C := Try.checked) own started (by kernel_rfl) Try.func6
    (ChangeSpec.witness6 (enc := enc) (C := Try.checked) false ⟨#[], #[.agg #[.int .i64 0, .int .i64 0, .int .i64 0, .int .i64 0, .int .i64 0, .int .i64 0, .int .i64 0, .int .i64 0, .int .i64 0, .int .i64 0, .bool false], .int .i64 0, .int .i64 0], []⟩ 8 (by kernel_rfl) (by kernel_rfl) (by kernel_rfl) (by kernel_rfl)) ?_
  intro W base args ds gs before hval0 hW hcnd _
  have hval : ∀ (j : Nat) t v, Try.f6.params[j]? = some t → args[j]? = some v → Value.okWide Try.prog W .any base t v := hval0
  have hW' := hW
  obtain ⟨p, q, hA0, hV, rfl, hfz, hnd⟩ := hW
  have hA : DataW.TrodAll enc Try.prog W 0 (fun _ => true) true Try.f6.params.toList args.toList ds p := hA0
  rw [Try.params6] at hA hval
  obtain ⟨v0, vs0, d0, ds0, p0, q0, hargs, rfl, rfl, h0, r0⟩ := trodAll_cons hA
  obtain ⟨v1, vs1, d1, ds1, p1, q1, rfl, rfl, rfl, h1, r1⟩ := trodAll_cons r0
  obtain ⟨v2, vs2, d2, ds2, p2, q2, rfl, rfl, rfl, h2, r2⟩ := trodAll_cons r1
  obtain ⟨rfl, rfl, rfl⟩ := trodAll_nil r2
  obtain rfl : args = #[v0, v1, v2] := by cases args; simp_all
  obtain ⟨rfl, rfl⟩ := trodVars_none hV
  have hlt := hW'.lt
  have k0 := h0
  obtain ⟨rc0, e0, b0⟩ := open_cfg (hval 0 23 v0 rfl rfl) h0
  subst e0
  have k1 := h1
  obtain ⟨a1, rfl, rfl, rfl, w1⟩ := open_int Try.underlying2 (hval 1 2 v1 rfl rfl) h1
  have k2 := h2
  obtain ⟨a2, rfl, rfl, rfl, w2⟩ := open_int Try.underlying2 (hval 2 2 v2 rfl rfl) h2
  clear hA0 hval0
  refine (walk W rc0 b0 a1 w1 a2 w2).mono fun e W' ⟨he, hg⟩ => ?_
  subst he
  exact ⟨_, rfl, post_of_below hW' (fun _ _ _ => (trodAll_cons_mk (shut_bool Try.underlying4 _) trodAll_mk0)) (trodAll_cons_mk (Below.trod laidOut (by kernel_rfl) (of_decide_eq_true (by kernel_rfl)) k0 hg (fun x hx => by first | exact absurd hx (by simp) | exact hlt x (by simp [hx]))) (trodAll_cons_mk (Below.trod laidOut (by kernel_rfl) (of_decide_eq_true (by kernel_rfl)) k1 hg (fun x hx => by first | exact absurd hx (by simp) | exact hlt x (by simp [hx]))) (trodAll_cons_mk (Below.trod laidOut (by kernel_rfl) (of_decide_eq_true (by kernel_rfl)) k2 hg (fun x hx => by first | exact absurd hx (by simp) | exact hlt x (by simp [hx]))) trodAll_mk0))) rfl hg⟩

theorem over : Rows.delayRisesRow.holds Try.pinned (OpenSpec.ofChange Rows.delayRisesSpec) :=
  OpenClaim.holds_of_wide 6 Try.f6 rfl rfl rfl rfl rfl rfl rfl ⟨rfl, rfl, rfl, rfl, rfl⟩ rfl rfl rfl rfl rfl (by kernel_rfl) Try.func6 (by kernel_rfl)
    (of_decide_eq_true (by kernel_rfl)) (by unfold Func.isWrapper; first | (rw [if_pos (by decide +kernel)]; kernel_rfl) | (rw [if_neg (by decide +kernel)]; exact ⟨rfl, rfl⟩))
    (fun os started H enc _ => lifted os started H enc)
end DelayRisesL

theorem delayRises_proved : Rows.DelayRisesSaid := DelayRisesL.over
#print axioms delayRises_proved
end Go.Proofs.Ytmclcoaicngodaa
