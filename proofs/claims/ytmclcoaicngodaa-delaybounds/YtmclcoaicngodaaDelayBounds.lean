/-
  Proved: a delay is between its limits, and near what the last estimate asks for (the law DelayBounds answers true at every input).
  Conditions: none.
-/
import Derived.Test.YtmclcoaicngodaaRows
import Derived.Test.YtmclcoaicngodaaFr15
import Derived.Test.YtmclcoaicngodaaDy4
namespace Go.Proofs.Ytmclcoaicngodaa
open Go.ChangeShapes Go.WideShapes Go.ChangeAt Go.RowKit
set_option linter.unusedVariables false

namespace DelayBoundsL
theorem own : ownKnob Try.prog.godebug = none := by kernel_rfl

set_option maxRecDepth 20000 in
set_option maxHeartbeats 8000000 in
theorem walk (w : World) (c : Cfg) (hok : c.ok) (va : Value) (l : List Int) (hb : ∀ n ∈ l, -9223372036854775808 ≤ n ∧ n ≤ 9223372036854775807) (hl : RdI w va l) :
    Calls Try.prog 5 #[cfgV c, va] w fun e w' => e = .returned (.bool true) ∧ Below w.heap.size w w' := by
  obtain ⟨ao, cap, rfl, h1, h2, h3⟩ := hl
  have P3 : Hid _ := h3
  obtain ⟨M, hm⟩ : ∃ m, l.length = m := ⟨_, rfl⟩
  have HM : Hid (l.length = M) := hm
  rw [hm] at h1 P3
  rw [hm]
  have HB : Hid (∀ k, R64 (l.getD k 0)) := fun k => dy_getD hb k
  clear hb h3 hm
  by_cases hc : cfE c.cf = 0
  · have HC : Hid (cfE c.cf = 0) := hc
    clear hc
    go_enter Try.func5, Try.ntmps5
    go_wp2_with fail
    generalize hW : w.alloc (.cells (cfgA c) 23) = W
    obtain ⟨A0, B0, Z0⟩ := boxed hW
    clear hW
    obtain ⟨H, hH⟩ : ∃ H, w.heap.size = H := ⟨_, rfl⟩
    rw [hH] at A0 B0
    rw [hH]
    have HH : Hid (w.heap.size = H) := hH
    clear hH Z0
    have l0 := A0.lt
    have x0_0 := A0.cell 0 _ rfl
    have x1_0 := A0.cell 1 _ rfl
    have x2_0 := A0.cell 2 _ rfl
    have x3_0 := A0.cell 3 _ rfl
    have x4_0 := A0.cell 4 _ rfl
    have x5_0 := A0.cell 5 _ rfl
    have x6_0 := A0.cell 6 _ rfl
    have x7_0 := A0.cell 7 _ rfl
    have x8_0 := A0.cell 8 _ rfl
    have x9_0 := A0.cell 9 _ rfl
    have x10_0 := A0.cell 10 _ rfl
    refine (dy_new _ c HC.out).mono ?_; rintro e w1 ⟨D, hD, rfl, D1, b1⟩
    have hHD : H < D := Nat.lt_of_lt_of_le A0.lt hD
    clear hD
    have d1 := D1.lt
    have A1 := A0.below b1 A0.lt
    have B1 := B0.trans (b1.mono (Nat.le_of_lt A0.lt))
    have l1 := A1.lt
    clear x0_0 x1_0 x2_0 x3_0 x4_0 x5_0 x6_0 x7_0 x8_0 x9_0 x10_0 A0 B0 l0
    have x0_1 := A1.cell 0 _ rfl
    have x1_1 := A1.cell 1 _ rfl
    have x2_1 := A1.cell 2 _ rfl
    have x3_1 := A1.cell 3 _ rfl
    have x4_1 := A1.cell 4 _ rfl
    have x5_1 := A1.cell 5 _ rfl
    have x6_1 := A1.cell 6 _ rfl
    have x7_1 := A1.cell 7 _ rfl
    have x8_1 := A1.cell 8 _ rfl
    have x9_1 := A1.cell 9 _ rfl
    have x10_1 := A1.cell 10 _ rfl
    clear b1
    by_cases hbig : 500 < M
    · have d1 : decide ((500 : Int) < (M : Int)) = true := by simp; omega
      go_wp2_with fail
      refine (dy_alive _).mono ?_; rintro e w2 ⟨rfl, b2⟩
      have A2 := A1.below b2 A1.lt
      have B2 := B1.trans (b2.mono (Nat.le_of_lt A1.lt))
      have l2 := A2.lt
      have D2 := D1.below b2 D1.lt
      have d2 := D2.lt
      clear x0_1 x1_1 x2_1 x3_1 x4_1 x5_1 x6_1 x7_1 x8_1 x9_1 x10_1 A1 B1 l1
      clear D1 d1
      have x0_2 := A2.cell 0 _ rfl
      have x1_2 := A2.cell 1 _ rfl
      have x2_2 := A2.cell 2 _ rfl
      have x3_2 := A2.cell 3 _ rfl
      have x4_2 := A2.cell 4 _ rfl
      have x5_2 := A2.cell 5 _ rfl
      have x6_2 := A2.cell 6 _ rfl
      have x7_2 := A2.cell 7 _ rfl
      have x8_2 := A2.cell 8 _ rfl
      have x9_2 := A2.cell 9 _ rfl
      have x10_2 := A2.cell 10 _ rfl
      clear b2
      go_wp2_with fail
      refine (dy_check _ c).mono ?_; rw [HC.out]; rintro e w3 ⟨rfl, b3⟩
      have A3 := A2.below b3 A2.lt
      have B3 := B2.trans (b3.mono (Nat.le_of_lt A2.lt))
      have l3 := A3.lt
      have D3 := D2.below b3 D2.lt
      have d3 := D3.lt
      clear x0_2 x1_2 x2_2 x3_2 x4_2 x5_2 x6_2 x7_2 x8_2 x9_2 x10_2 A2 B2 l2
      clear D2 d2
      have x0_3 := A3.cell 0 _ rfl
      have x1_3 := A3.cell 1 _ rfl
      have x2_3 := A3.cell 2 _ rfl
      have x3_3 := A3.cell 3 _ rfl
      have x4_3 := A3.cell 4 _ rfl
      have x5_3 := A3.cell 5 _ rfl
      have x6_3 := A3.cell 6 _ rfl
      have x7_3 := A3.cell 7 _ rfl
      have x8_3 := A3.cell 8 _ rfl
      have x9_3 := A3.cell 9 _ rfl
      have x10_3 := A3.cell 10 _ rfl
      clear b3
      go_wp2_with fail
      go_ret
      exact ⟨rfl, by rw [HH.out]; exact B3⟩
    have d1 : decide ((500 : Int) < (M : Int)) = false := by simp; omega
    go_wp2_with fail
    go_loopg [37] M (fun g i wr => ∃ (k : Nat) (n ch : Int), k + g = M ∧ i = .int .i64 k ∧ Within c n ∧ (0 ≤ ch ∧ ch ≤ k) ∧ Blk wr D (dlyC c n ch) ∧ Below D w1 wr)
    case atStart => exact ⟨0, _, 0, by omega, rfl, ask_in HC.out 0, ⟨by omega, by omega⟩, D1, Below.refl _ _⟩
    case round =>
      obtain ⟨k, n, ch, hk, rfl, hn, hch, D2, L2⟩ := hrel
      have A2 := A1.below L2 hHD
      have B2 := B1.trans (L2.mono (Nat.le_of_lt hHD))
      have l2 := A2.lt
      have d2 := D2.lt
      clear x0_1 x1_1 x2_1 x3_1 x4_1 x5_1 x6_1 x7_1 x8_1 x9_1 x10_1 A1 B1 l1
      clear D1 d1
      have x0_2 := A2.cell 0 _ rfl
      have x1_2 := A2.cell 1 _ rfl
      have x2_2 := A2.cell 2 _ rfl
      have x3_2 := A2.cell 3 _ rfl
      have x4_2 := A2.cell 4 _ rfl
      have x5_2 := A2.cell 5 _ rfl
      have x6_2 := A2.cell 6 _ rfl
      have x7_2 := A2.cell 7 _ rfl
      have x8_2 := A2.cell 8 _ rfl
      have x9_2 := A2.cell 9 _ rfl
      have x10_2 := A2.cell 10 _ rfl
      by_cases hlt : k < M
      · obtain ⟨b, o, rfl, hat⟩ := P3.out.resolve_left (by intro h; have := HM.out; rw [h] at this; simp at this; omega)
        have c0 := hat k hlt
        have hb0 : b < H := by have := World.block_lt_of_cell? w _ c0; have := HH.out; simp only at *; omega
        have e0 := (B2.cell (p := ⟨b, o + k, none⟩) hb0).trans c0
        have hx := HB.out k
        obtain ⟨x, hxk⟩ : ∃ x, l.getD k 0 = x := ⟨_, rfl⟩
        rw [hxk] at e0 hx
        have HXK : Hid (l.getD k 0 = x) := hxk
        clear c0 hat hxk
        obtain ⟨n1, hn1⟩ : ∃ y, updI c.cf n x = y := ⟨_, rfl⟩
        obtain ⟨c1, hc1⟩ : ∃ y, cntU c n ch x = y := ⟨_, rfl⟩
        obtain ⟨t, ht⟩ : ∃ y, askI c.cf x = y := ⟨_, rfl⟩
        have HN1 : Hid (updI c.cf n x = n1) := hn1
        have HC1 : Hid (cntU c n ch x = c1) := hc1
        have HT : Hid (askI c.cf x = t) := ht
        have w1' : Within c n1 := hn1 ▸ upd_in HC.out hn x
        have c1' : 0 ≤ c1 ∧ c1 ≤ ch + 1 := by rw [← hc1]; unfold cntU; split <;> omega
        have near : n1 - t ≤ c.slack ∧ t - n1 ≤ c.slack := by rw [← hn1, ← ht]; exact upd_near HC.out n x
        have HAg : Hid (updI c.cf n1 x = n1) := by show updI c.cf n1 x = n1; rw [← hn1]; exact upd_again HC.out n x
        have HAc : Hid (cntU c n1 c1 x = c1) := if_pos HAg.out
        have lim : c.least ≤ n1 ∧ n1 ≤ c.most := w1'
        have tn := in_time HC.out w1'
        have tt : 0 ≤ t ∧ t ≤ 2305843009213693952 := ht ▸ ask_time HC.out x
        clear hn1 hc1 ht
        go_wp2_with fail
        refine (dy_update _ D c n ch x HC.out (by assumption) (by omega) hx D2).mono ?_; rintro e w3 ⟨rfl, D3, b3⟩
        rw [HN1.out, HC1.out] at D3
        have A3 := A2.below b3 hHD
        have B3 := B2.trans (b3.mono (Nat.le_of_lt hHD))
        have l3 := A3.lt
        have d3 := D3.lt
        have L3 := L2.trans b3
        clear L2
        clear x0_2 x1_2 x2_2 x3_2 x4_2 x5_2 x6_2 x7_2 x8_2 x9_2 x10_2 A2 B2 l2
        clear D2 d2
        have x0_3 := A3.cell 0 _ rfl
        have x1_3 := A3.cell 1 _ rfl
        have x2_3 := A3.cell 2 _ rfl
        have x3_3 := A3.cell 3 _ rfl
        have x4_3 := A3.cell 4 _ rfl
        have x5_3 := A3.cell 5 _ rfl
        have x6_3 := A3.cell 6 _ rfl
        have x7_3 := A3.cell 7 _ rfl
        have x8_3 := A3.cell 8 _ rfl
        have x9_3 := A3.cell 9 _ rfl
        have x10_3 := A3.cell 10 _ rfl
        clear b3
        rw [HN1.out]
        go_wp2_with fail
        refine (dy_target _ c x hx).mono ?_; rw [if_pos HC.out, HT.out]; rintro e w4 ⟨rfl, b4⟩
        have A4 := A3.below b4 A3.lt
        have B4 := B3.trans (b4.mono (Nat.le_of_lt A3.lt))
        have l4 := A4.lt
        have D4 := D3.below b4 D3.lt
        have d4 := D4.lt
        have L4 := L3.trans (b4.mono (Nat.le_of_lt D3.lt))
        clear L3
        clear x0_3 x1_3 x2_3 x3_3 x4_3 x5_3 x6_3 x7_3 x8_3 x9_3 x10_3 A3 B3 l3
        clear D3 d3
        have x0_4 := A4.cell 0 _ rfl
        have x1_4 := A4.cell 1 _ rfl
        have x2_4 := A4.cell 2 _ rfl
        have x3_4 := A4.cell 3 _ rfl
        have x4_4 := A4.cell 4 _ rfl
        have x5_4 := A4.cell 5 _ rfl
        have x6_4 := A4.cell 6 _ rfl
        have x7_4 := A4.cell 7 _ rfl
        have x8_4 := A4.cell 8 _ rfl
        have x9_4 := A4.cell 9 _ rfl
        have x10_4 := A4.cell 10 _ rfl
        clear b4
        go_wp2_with fail
        refine (dy_changes _ D c n1 c1 D4).mono ?_; rintro e w4s ⟨rfl, rfl⟩
        go_wp2_with fail
        refine (dy_update _ D c n1 c1 x HC.out (by assumption) (by omega) hx D4).mono ?_; rintro e w5 ⟨rfl, D5, b5⟩
        rw [HAg.out, HAc.out] at D5
        have A5 := A4.below b5 hHD
        have B5 := B4.trans (b5.mono (Nat.le_of_lt hHD))
        have l5 := A5.lt
        have d5 := D5.lt
        have L5 := L4.trans b5
        clear L4
        clear x0_4 x1_4 x2_4 x3_4 x4_4 x5_4 x6_4 x7_4 x8_4 x9_4 x10_4 A4 B4 l4
        clear D4 d4
        have x0_5 := A5.cell 0 _ rfl
        have x1_5 := A5.cell 1 _ rfl
        have x2_5 := A5.cell 2 _ rfl
        have x3_5 := A5.cell 3 _ rfl
        have x4_5 := A5.cell 4 _ rfl
        have x5_5 := A5.cell 5 _ rfl
        have x6_5 := A5.cell 6 _ rfl
        have x7_5 := A5.cell 7 _ rfl
        have x8_5 := A5.cell 8 _ rfl
        have x9_5 := A5.cell 9 _ rfl
        have x10_5 := A5.cell 10 _ rfl
        clear b5
        rw [HAg.out]
        go_wp2_with fail
        refine (dy_changes _ D c n1 c1 D5).mono ?_; rintro e w5s ⟨rfl, rfl⟩
        go_wp2_with fail
        go_roundg (M - (k + 1))
        case measure => omega
        case rel => exact ⟨k + 1, n1, c1, by omega, by go_num, w1', ⟨by omega, by omega⟩, D5, L5⟩
      · obtain rfl : k = M := by omega
        go_wp2_with fail
        refine (dy_alive _).mono ?_; rintro e w3 ⟨rfl, b3⟩
        have A3 := A2.below b3 A2.lt
        have B3 := B2.trans (b3.mono (Nat.le_of_lt A2.lt))
        have l3 := A3.lt
        have D3 := D2.below b3 D2.lt
        have d3 := D3.lt
        have L3 := L2.trans (b3.mono (Nat.le_of_lt D2.lt))
        clear L2
        clear x0_2 x1_2 x2_2 x3_2 x4_2 x5_2 x6_2 x7_2 x8_2 x9_2 x10_2 A2 B2 l2
        clear D2 d2
        have x0_3 := A3.cell 0 _ rfl
        have x1_3 := A3.cell 1 _ rfl
        have x2_3 := A3.cell 2 _ rfl
        have x3_3 := A3.cell 3 _ rfl
        have x4_3 := A3.cell 4 _ rfl
        have x5_3 := A3.cell 5 _ rfl
        have x6_3 := A3.cell 6 _ rfl
        have x7_3 := A3.cell 7 _ rfl
        have x8_3 := A3.cell 8 _ rfl
        have x9_3 := A3.cell 9 _ rfl
        have x10_3 := A3.cell 10 _ rfl
        clear b3
        go_wp2_with fail
        go_ret
        exact ⟨rfl, by rw [HH.out]; exact B3⟩
  · have HN : Hid (cfE c.cf ≠ 0) := hc
    obtain ⟨q, hq⟩ : ∃ q, cfE c.cf = q := ⟨_, rfl⟩
    have HQ : Hid (cfE c.cf = q) := hq
    have hq0 : q ≠ 0 := hq ▸ hc
    have hq1 : (q != 0) = true := by simpa using hq0
    clear hc hq
    go_enter Try.func5, Try.ntmps5
    go_wp2_with fail
    generalize hW : w.alloc (.cells (cfgA c) 23) = W
    obtain ⟨A0, B0, Z0⟩ := boxed hW
    clear hW
    obtain ⟨H, hH⟩ : ∃ H, w.heap.size = H := ⟨_, rfl⟩
    rw [hH] at A0 B0
    rw [hH]
    have HH : Hid (w.heap.size = H) := hH
    clear hH Z0
    have l0 := A0.lt
    have x0_0 := A0.cell 0 _ rfl
    have x1_0 := A0.cell 1 _ rfl
    have x2_0 := A0.cell 2 _ rfl
    have x3_0 := A0.cell 3 _ rfl
    have x4_0 := A0.cell 4 _ rfl
    have x5_0 := A0.cell 5 _ rfl
    have x6_0 := A0.cell 6 _ rfl
    have x7_0 := A0.cell 7 _ rfl
    have x8_0 := A0.cell 8 _ rfl
    have x9_0 := A0.cell 9 _ rfl
    have x10_0 := A0.cell 10 _ rfl
    refine (dy_new_no _ c HN.out).mono ?_; rw [HQ.out]; rintro e w1 ⟨rfl, b1⟩
    have A1 := A0.below b1 A0.lt
    have B1 := B0.trans (b1.mono (Nat.le_of_lt A0.lt))
    have l1 := A1.lt
    clear x0_0 x1_0 x2_0 x3_0 x4_0 x5_0 x6_0 x7_0 x8_0 x9_0 x10_0 A0 B0 l0
    have x0_1 := A1.cell 0 _ rfl
    have x1_1 := A1.cell 1 _ rfl
    have x2_1 := A1.cell 2 _ rfl
    have x3_1 := A1.cell 3 _ rfl
    have x4_1 := A1.cell 4 _ rfl
    have x5_1 := A1.cell 5 _ rfl
    have x6_1 := A1.cell 6 _ rfl
    have x7_1 := A1.cell 7 _ rfl
    have x8_1 := A1.cell 8 _ rfl
    have x9_1 := A1.cell 9 _ rfl
    have x10_1 := A1.cell 10 _ rfl
    clear b1
    go_wp2_with fail
    refine (dy_alive _).mono ?_; rintro e w2 ⟨rfl, b2⟩
    have A2 := A1.below b2 A1.lt
    have B2 := B1.trans (b2.mono (Nat.le_of_lt A1.lt))
    have l2 := A2.lt
    clear x0_1 x1_1 x2_1 x3_1 x4_1 x5_1 x6_1 x7_1 x8_1 x9_1 x10_1 A1 B1 l1
    have x0_2 := A2.cell 0 _ rfl
    have x1_2 := A2.cell 1 _ rfl
    have x2_2 := A2.cell 2 _ rfl
    have x3_2 := A2.cell 3 _ rfl
    have x4_2 := A2.cell 4 _ rfl
    have x5_2 := A2.cell 5 _ rfl
    have x6_2 := A2.cell 6 _ rfl
    have x7_2 := A2.cell 7 _ rfl
    have x8_2 := A2.cell 8 _ rfl
    have x9_2 := A2.cell 9 _ rfl
    have x10_2 := A2.cell 10 _ rfl
    clear b2
    go_wp2_with fail
    refine (dy_check _ c).mono ?_; rw [HQ.out]; rintro e w3 ⟨rfl, b3⟩
    have A3 := A2.below b3 A2.lt
    have B3 := B2.trans (b3.mono (Nat.le_of_lt A2.lt))
    have l3 := A3.lt
    clear x0_2 x1_2 x2_2 x3_2 x4_2 x5_2 x6_2 x7_2 x8_2 x9_2 x10_2 A2 B2 l2
    have x0_3 := A3.cell 0 _ rfl
    have x1_3 := A3.cell 1 _ rfl
    have x2_3 := A3.cell 2 _ rfl
    have x3_3 := A3.cell 3 _ rfl
    have x4_3 := A3.cell 4 _ rfl
    have x5_3 := A3.cell 5 _ rfl
    have x6_3 := A3.cell 6 _ rfl
    have x7_3 := A3.cell 7 _ rfl
    have x8_3 := A3.cell 8 _ rfl
    have x9_3 := A3.cell 9 _ rfl
    have x10_3 := A3.cell 10 _ rfl
    clear b3
    go_wp2_with fail
    go_ret
    exact ⟨rfl, by rw [HH.out]; exact B3⟩

set_option maxRecDepth 100000 in
theorem lifted (os : Os) (started : os.Started) (H : Type) (enc : TypeId × Value → H) :
    ReturnsInHanded {} Try.checked os 5 .any (Rows.delayBoundsSpec.pre6 enc Try.prog Try.f5 Rows.delayBoundsRow.domain false) (Rows.delayBoundsSpec.post enc Try.prog Try.f5 false true false false) := by
  refine returnsInHanded_of_change (C := Try.checked) own started (by kernel_rfl) Try.func5
    (ChangeSpec.witness6 (enc := enc) (C := Try.checked) false ⟨#[], #[.agg #[.int .i64 0, .int .i64 0, .int .i64 0, .int .i64 0, .int .i64 0, .int .i64 0, .int .i64 0, .int .i64 0, .int .i64 0, .int .i64 0, .bool false], .slice none 0 0], []⟩ 8 (by kernel_rfl) (by kernel_rfl) (by kernel_rfl) (by kernel_rfl)) ?_
  intro W base args ds gs before hval0 hW hcnd _
  have hval : ∀ (j : Nat) t v, Try.f5.params[j]? = some t → args[j]? = some v → Value.okWide Try.prog W .any base t v := hval0
  have hW' := hW
  obtain ⟨p, q, hA0, hV, rfl, hfz, hnd⟩ := hW
  have hA : DataW.TrodAll enc Try.prog W 0 (fun _ => true) true Try.f5.params.toList args.toList ds p := hA0
  rw [Try.params5] at hA hval
  obtain ⟨v0, vs0, d0, ds0, p0, q0, hargs, rfl, rfl, h0, r0⟩ := trodAll_cons hA
  obtain ⟨v1, vs1, d1, ds1, p1, q1, rfl, rfl, rfl, h1, r1⟩ := trodAll_cons r0
  obtain ⟨rfl, rfl, rfl⟩ := trodAll_nil r1
  obtain rfl : args = #[v0, v1] := by cases args; simp_all
  obtain ⟨rfl, rfl⟩ := trodVars_none hV
  have hlt := hW'.lt
  have k0 := h0
  obtain ⟨rc0, e0, b0⟩ := open_cfg (hval 0 23 v0 rfl rfl) h0
  subst e0
  have k1 := h1
  obtain ⟨l1, b1, e1⟩ := open_i64s (hval 1 35 v1 rfl rfl) h1
  clear hA0 hval0
  refine (walk W rc0 b0 v1 l1 b1 e1).mono fun e W' ⟨he, hg⟩ => ?_
  subst he
  exact ⟨_, rfl, post_of_below hW' (fun _ _ _ => (trodAll_cons_mk (shut_bool Try.underlying4 _) trodAll_mk0)) (trodAll_cons_mk (Below.trod laidOut (by kernel_rfl) (of_decide_eq_true (by kernel_rfl)) k0 hg (fun x hx => by first | exact absurd hx (by simp) | exact hlt x (by simp [hx]))) (trodAll_cons_mk (Below.trod laidOut (by kernel_rfl) (of_decide_eq_true (by kernel_rfl)) k1 hg (fun x hx => by first | exact absurd hx (by simp) | exact hlt x (by simp [hx]))) trodAll_mk0)) rfl hg⟩

theorem over : Rows.delayBoundsRow.holds Try.pinned (OpenSpec.ofChange Rows.delayBoundsSpec) :=
  OpenClaim.holds_of_wide 5 Try.f5 rfl rfl rfl rfl rfl rfl rfl ⟨rfl, rfl, rfl, rfl, rfl⟩ rfl rfl rfl rfl rfl (by kernel_rfl) Try.func5 (by kernel_rfl)
    (of_decide_eq_true (by kernel_rfl)) (by unfold Func.isWrapper; first | (rw [if_pos (by decide +kernel)]; kernel_rfl) | (rw [if_neg (by decide +kernel)]; exact ⟨rfl, rfl⟩))
    (fun os started H enc _ => lifted os started H enc)
end DelayBoundsL

theorem delayBounds_proved : Rows.DelayBoundsSaid := DelayBoundsL.over
#print axioms delayBounds_proved
end Go.Proofs.Ytmclcoaicngodaa
