/-
  Proved: a delay changes just when what is asked for is too far away (the law DelaySlack answers true at every input).
  Conditions: none.
-/
import Derived.Test.YtmclcoaicngodaaRows
import Derived.Test.YtmclcoaicngodaaFr15
import Derived.Test.YtmclcoaicngodaaDy4
namespace Go.Proofs.Ytmclcoaicngodaa
open Go.ChangeShapes Go.WideShapes Go.ChangeAt Go.RowKit
set_option linter.unusedVariables false

namespace DelaySlackL
theorem own : ownKnob Try.prog.godebug = none := by kernel_rfl

set_option maxRecDepth 20000 in
set_option maxHeartbeats 8000000 in
theorem walk (w : World) (c : Cfg) (hok : c.ok) (va : Value) (l : List Int) (hb : ∀ n ∈ l, -9223372036854775808 ≤ n ∧ n ≤ 9223372036854775807) (hl : RdI w va l) :
    Calls Try.prog 7 #[cfgV c, va] w fun e w' => e = .returned (.bool true) ∧ Below w.heap.size w w' := by
  obtain ⟨ao, cap, rfl, h1, h2, h3⟩ := hl
  have P3 : Hid _ := h3
  obtain ⟨M, hm⟩ : ∃ m, l.length = m := ⟨_, rfl⟩
  have HM : Hid (l.length = M) := hm
  rw [hm] at h1 P3
  rw [hm]
  have HB : Hid (∀ k, R64 (l.getD k 0)) := fun k => dy_getD hb k
  clear hb h3 hm
  by_cases hc : cfE c.cf = 0
  · have HC : Hid (cfE c.cf = 0) := hc
    clear hc
    go_enter Try.func7, Try.ntmps7
    go_wp2_with fail
    generalize hW : w.alloc (.cells (cfgA c) 23) = W
    obtain ⟨A0, B0, Z0⟩ := boxed hW
    clear hW
    obtain ⟨H, hH⟩ : ∃ H, w.heap.size = H := ⟨_, rfl⟩
    rw [hH] at A0 B0
    rw [hH]
    have HH : Hid (w.heap.size = H) := hH
    clear hH Z0
    have l0 := A0.lt
    have x0_0 := A0.cell 0 _ rfl
    have x1_0 := A0.cell 1 _ rfl
    have x2_0 := A0.cell 2 _ rfl
    have x3_0 := A0.cell 3 _ rfl
    have x4_0 := A0.cell 4 _ rfl
    have x5_0 := A0.cell 5 _ rfl
    have x6_0 := A0.cell 6 _ rfl
    have x7_0 := A0.cell 7 _ rfl
    have x8_0 := A0.cell 8 _ rfl
    have x9_0 := A0.cell 9 _ rfl
    have x10_0 := A0.cell 10 _ rfl
    refine (dy_new _ c HC.out).mono ?_; rintro e w1 ⟨D, hD, rfl, D1, b1⟩
    have hHD : H < D := Nat.lt_of_lt_of_le A0.lt hD
    clear hD
    have d1 := D1.lt
    have A1 := A0.below b1 A0.lt
    have B1 := B0.trans (b1.mono (Nat.le_of_lt A0.lt))
    have l1 := A1.lt
    clear x0_0 x1_0 x2_0 x3_0 x4_0 x5_0 x6_0 x7_0 x8_0 x9_0 x10_0 A0 B0 l0
    have x0_1 := A1.cell 0 _ rfl
    have x1_1 := A1.cell 1 _ rfl
    have x2_1 := A1.cell 2 _ rfl
    have x3_1 := A1.cell 3 _ rfl
    have x4_1 := A1.cell 4 _ rfl
    have x5_1 := A1.cell 5 _ rfl
    have x6_1 := A1.cell 6 _ rfl
    have x7_1 := A1.cell 7 _ rfl
    have x8_1 := A1.cell 8 _ rfl
    have x9_1 := A1.cell 9 _ rfl
    have x10_1 := A1.cell 10 _ rfl
    clear b1
    by_cases hbig : 300 < M
    · have d1 : decide ((300 : Int) < (M : Int)) = true := by simp; omega
      go_wp2_with fail
      refine (dy_alive _).mono ?_; rintro e w2 ⟨rfl, b2⟩
      have A2 := A1.below b2 A1.lt
      have B2 := B1.trans (b2.mono (Nat.le_of_lt A1.lt))
      have l2 := A2.lt
      have D2 := D1.below b2 D1.lt
      have d2 := D2.lt
      clear x0_1 x1_1 x2_1 x3_1 x4_1 x5_1 x6_1 x7_1 x8_1 x9_1 x10_1 A1 B1 l1
      clear D1 d1
      have x0_2 := A2.cell 0 _ rfl
      have x1_2 := A2.cell 1 _ rfl
      have x2_2 := A2.cell 2 _ rfl
      have x3_2 := A2.cell 3 _ rfl
      have x4_2 := A2.cell 4 _ rfl
      have x5_2 := A2.cell 5 _ rfl
      have x6_2 := A2.cell 6 _ rfl
      have x7_2 := A2.cell 7 _ rfl
      have x8_2 := A2.cell 8 _ rfl
      have x9_2 := A2.cell 9 _ rfl
      have x10_2 := A2.cell 10 _ rfl
      clear b2
      go_wp2_with fail
      go_ret
      exact ⟨rfl, by rw [HH.out]; exact B2⟩
    have d1 : decide ((300 : Int) < (M : Int)) = false := by simp; omega
    go_wp2_with fail
    go_loopg [7, 33] M (fun g u i wr => ∃ (k : Nat) (n ch : Int), k + g = M ∧ u = .int .i64 ch ∧ i = .int .i64 k ∧ Within c n ∧ (0 ≤ ch ∧ ch ≤ k) ∧ Blk wr D (dlyC c n ch) ∧ Below D w1 wr)
    case atStart => exact ⟨0, _, 0, by omega, rfl, rfl, ask_in HC.out 0, ⟨by omega, by omega⟩, D1, Below.refl _ _⟩
    case round =>
      obtain ⟨k, n, ch, hk, rfl, rfl, hn, hch, D2, L2⟩ := hrel
      have A2 := A1.below L2 hHD
      have B2 := B1.trans (L2.mono (Nat.le_of_lt hHD))
      have l2 := A2.lt
      have d2 := D2.lt
      clear x0_1 x1_1 x2_1 x3_1 x4_1 x5_1 x6_1 x7_1 x8_1 x9_1 x10_1 A1 B1 l1
      clear D1 d1
      have x0_2 := A2.cell 0 _ rfl
      have x1_2 := A2.cell 1 _ rfl
      have x2_2 := A2.cell 2 _ rfl
      have x3_2 := A2.cell 3 _ rfl
      have x4_2 := A2.cell 4 _ rfl
      have x5_2 := A2.cell 5 _ rfl
      have x6_2 := A2.cell 6 _ rfl
      have x7_2 := A2.cell 7 _ rfl
      have x8_2 := A2.cell 8 _ rfl
      have x9_2 := A2.cell 9 _ rfl
      have x10_2 := A2.cell 10 _ rfl
      by_cases hlt : k < M
      · obtain ⟨b, o, rfl, hat⟩ := P3.out.resolve_left (by intro h; have := HM.out; rw [h] at this; simp at this; omega)
        have c0 := hat k hlt
        have hb0 : b < H := by have := World.block_lt_of_cell? w _ c0; have := HH.out; simp only at *; omega
        have e0 := (B2.cell (p := ⟨b, o + k, none⟩) hb0).trans c0
        have hx := HB.out k
        obtain ⟨x, hxk⟩ : ∃ x, l.getD k 0 = x := ⟨_, rfl⟩
        rw [hxk] at e0 hx
        have HXK : Hid (l.getD k 0 = x) := hxk
        clear c0 hat hxk
        obtain ⟨t, ht⟩ : ∃ y, askI c.cf x = y := ⟨_, rfl⟩
        have HT : Hid (askI c.cf x = t) := ht
        have hs := slack_time HC.out
        have tn := in_time HC.out hn
        have tw : Within c t := ht ▸ ask_in HC.out x
        have tt : 0 ≤ t ∧ t ≤ 2305843009213693952 := ht ▸ ask_time HC.out x
        have HF : Hid _ := upd_far HC.out n x
        rw [ht] at HF
        clear ht
        go_upto_region 8 with fail
        go_region_held3 (fun w' => w'.cell? ⟨H, 0, none⟩ = some (.int .i64 c.ring) ∧ w'.cell? ⟨H, 1, none⟩ = some (.int .i64 c.win) ∧ w'.cell? ⟨H, 2, none⟩ = some (.int .i64 c.base) ∧ w'.cell? ⟨H, 3, none⟩ = some (.int .i64 c.gain) ∧ w'.cell? ⟨H, 4, none⟩ = some (.int .i64 c.least) ∧ w'.cell? ⟨H, 5, none⟩ = some (.int .i64 c.most) ∧ w'.cell? ⟨H, 6, none⟩ = some (.int .i64 c.slack) ∧ w'.cell? ⟨H, 7, none⟩ = some (.int .i64 c.num) ∧ w'.cell? ⟨H, 8, none⟩ = some (.int .i64 c.den) ∧ w'.cell? ⟨H, 9, none⟩ = some (.int .i64 c.ext) ∧ w'.cell? ⟨H, 10, none⟩ = some (.bool c.curved)) (first | with_reducible exact ⟨x0_3, x1_3, x2_3, x3_3, x4_3, x5_3, x6_3, x7_3, x8_3, x9_3, x10_3⟩ | with_reducible exact ⟨x0_2, x1_2, x2_2, x3_2, x4_2, x5_2, x6_2, x7_2, x8_2, x9_2, x10_2⟩ | go_keep)
          (first
            | (go_at_call 14; (with_reducible refine (dy_now _ D c n ch D2.drew).mono ?_); rintro e w2s ⟨rfl, rfl⟩)
            | (go_at_call 8; (with_reducible refine (dy_target _ c x hx).mono ?_); rw [if_pos HC.out, HT.out]; rintro e w3 ⟨rfl, b3⟩; have A3 := A2.drew.below b3 A2.drew.lt; have B3 := B2.drew.trans (b3.mono (Nat.le_of_lt A2.drew.lt)); have l3 := A3.lt; have L3 := L2.drew.trans (b3.mono (Nat.le_of_lt D2.drew.lt)); have D3 := D2.drew.below b3 D2.drew.lt; have d3 := D3.lt; have x0_3 := A3.cell 0 _ rfl; have x1_3 := A3.cell 1 _ rfl; have x2_3 := A3.cell 2 _ rfl; have x3_3 := A3.cell 3 _ rfl; have x4_3 := A3.cell 4 _ rfl; have x5_3 := A3.cell 5 _ rfl; have x6_3 := A3.cell 6 _ rfl; have x7_3 := A3.cell 7 _ rfl; have x8_3 := A3.cell 8 _ rfl; have x9_3 := A3.cell 9 _ rfl; have x10_3 := A3.cell 10 _ rfl))
        go_wp2_with fail
        by_cases q : c.slack < max (t - n) (n - t)
        · obtain ⟨e1, e2⟩ := HF.out.1 q
          have HN1 : Hid (updI c.cf n x = t) := e1
          have HC1 : Hid (cntU c n ch x = ch + 1) := if_neg e2
          clear e1 e2 HF
          refine (dy_update _ D c n ch x HC.out (by assumption) (by omega) hx D3).mono ?_; rintro e w4 ⟨rfl, D4, b4⟩
          rw [HN1.out, HC1.out] at D4
          have A4 := A3.below b4 hHD
          have B4 := B3.trans (b4.mono (Nat.le_of_lt hHD))
          have l4 := A4.lt
          have d4 := D4.lt
          have L4 := L3.trans b4
          clear L3
          clear x0_3 x1_3 x2_3 x3_3 x4_3 x5_3 x6_3 x7_3 x8_3 x9_3 x10_3 A3 B3 l3
          clear D3 d3
          have x0_4 := A4.cell 0 _ rfl
          have x1_4 := A4.cell 1 _ rfl
          have x2_4 := A4.cell 2 _ rfl
          have x3_4 := A4.cell 3 _ rfl
          have x4_4 := A4.cell 4 _ rfl
          have x5_4 := A4.cell 5 _ rfl
          have x6_4 := A4.cell 6 _ rfl
          have x7_4 := A4.cell 7 _ rfl
          have x8_4 := A4.cell 8 _ rfl
          have x9_4 := A4.cell 9 _ rfl
          have x10_4 := A4.cell 10 _ rfl
          clear b4
          rw [HN1.out]
          go_wp2_with fail
          refine (dy_changes _ D c t (ch + 1) D4).mono ?_; rintro e w4s ⟨rfl, rfl⟩
          go_wp2_with fail
          go_roundg (M - (k + 1))
          case measure => omega
          case rel => exact ⟨k + 1, t, ch + 1, by omega, by go_num, by go_num, tw, ⟨by omega, by omega⟩, D4, L4⟩
        · have e1 := HF.out.2 (by first | exact q | exact Int.not_lt.1 q)
          have HN1 : Hid (updI c.cf n x = n) := e1
          have HC1 : Hid (cntU c n ch x = ch) := if_pos e1
          clear e1 HF
          refine (dy_update _ D c n ch x HC.out (by assumption) (by omega) hx D3).mono ?_; rintro e w4 ⟨rfl, D4, b4⟩
          rw [HN1.out, HC1.out] at D4
          have A4 := A3.below b4 hHD
          have B4 := B3.trans (b4.mono (Nat.le_of_lt hHD))
          have l4 := A4.lt
          have d4 := D4.lt
          have L4 := L3.trans b4
          clear L3
          clear x0_3 x1_3 x2_3 x3_3 x4_3 x5_3 x6_3 x7_3 x8_3 x9_3 x10_3 A3 B3 l3
          clear D3 d3
          have x0_4 := A4.cell 0 _ rfl
          have x1_4 := A4.cell 1 _ rfl
          have x2_4 := A4.cell 2 _ rfl
          have x3_4 := A4.cell 3 _ rfl
          have x4_4 := A4.cell 4 _ rfl
          have x5_4 := A4.cell 5 _ rfl
          have x6_4 := A4.cell 6 _ rfl
          have x7_4 := A4.cell 7 _ rfl
          have x8_4 := A4.cell 8 _ rfl
          have x9_4 := A4.cell 9 _ rfl
          have x10_4 := A4.cell 10 _ rfl
          clear b4
          rw [HN1.out]
          go_wp2_with fail
          refine (dy_changes _ D c n ch D4).mono ?_; rintro e w4s ⟨rfl, rfl⟩
          go_wp2_with fail
          go_roundg (M - (k + 1))
          case measure => omega
          case rel => exact ⟨k + 1, n, ch, by omega, by go_num, by go_num, hn, ⟨by omega, by omega⟩, D4, L4⟩
      · obtain rfl : k = M := by omega
        go_wp2_with fail
        refine (dy_alive _).mono ?_; rintro e w3 ⟨rfl, b3⟩
        have A3 := A2.below b3 A2.lt
        have B3 := B2.trans (b3.mono (Nat.le_of_lt A2.lt))
        have l3 := A3.lt
        have D3 := D2.below b3 D2.lt
        have d3 := D3.lt
        have L3 := L2.trans (b3.mono (Nat.le_of_lt D2.lt))
        clear L2
        clear x0_2 x1_2 x2_2 x3_2 x4_2 x5_2 x6_2 x7_2 x8_2 x9_2 x10_2 A2 B2 l2
        clear D2 d2
        have x0_3 := A3.cell 0 _ rfl
        have x1_3 := A3.cell 1 _ rfl
        have x2_3 := A3.cell 2 _ rfl
        have x3_3 := A3.cell 3 _ rfl
        have x4_3 := A3.cell 4 _ rfl
        have x5_3 := A3.cell 5 _ rfl
        have x6_3 := A3.cell 6 _ rfl
        have x7_3 := A3.cell 7 _ rfl
        have x8_3 := A3.cell 8 _ rfl
        have x9_3 := A3.cell 9 _ rfl
        have x10_3 := A3.cell 10 _ rfl
        clear b3
        go_wp2_with fail
        go_ret
        exact ⟨rfl, by rw [HH.out]; exact B3⟩
  · have HN : Hid (cfE c.cf ≠ 0) := hc
    obtain ⟨q, hq⟩ : ∃ q, cfE c.cf = q := ⟨_, rfl⟩
    have HQ : Hid (cfE c.cf = q) := hq
    have hq0 : q ≠ 0 := hq ▸ hc
    have hq1 : (q != 0) = true := by simpa using hq0
    clear hc hq
    go_enter Try.func7, Try.ntmps7
    go_wp2_with fail
    generalize hW : w.alloc (.cells (cfgA c) 23) = W
    obtain ⟨A0, B0, Z0⟩ := boxed hW
    clear hW
    obtain ⟨H, hH⟩ : ∃ H, w.heap.size = H := ⟨_, rfl⟩
    rw [hH] at A0 B0
    rw [hH]
    have HH : Hid (w.heap.size = H) := hH
    clear hH Z0
    have l0 := A0.lt
    have x0_0 := A0.cell 0 _ rfl
    have x1_0 := A0.cell 1 _ rfl
    have x2_0 := A0.cell 2 _ rfl
    have x3_0 := A0.cell 3 _ rfl
    have x4_0 := A0.cell 4 _ rfl
    have x5_0 := A0.cell 5 _ rfl
    have x6_0 := A0.cell 6 _ rfl
    have x7_0 := A0.cell 7 _ rfl
    have x8_0 := A0.cell 8 _ rfl
    have x9_0 := A0.cell 9 _ rfl
    have x10_0 := A0.cell 10 _ rfl
    refine (dy_new_no _ c HN.out).mono ?_; rw [HQ.out]; rintro e w1 ⟨rfl, b1⟩
    have A1 := A0.below b1 A0.lt
    have B1 := B0.trans (b1.mono (Nat.le_of_lt A0.lt))
    have l1 := A1.lt
    clear x0_0 x1_0 x2_0 x3_0 x4_0 x5_0 x6_0 x7_0 x8_0 x9_0 x10_0 A0 B0 l0
    have x0_1 := A1.cell 0 _ rfl
    have x1_1 := A1.cell 1 _ rfl
    have x2_1 := A1.cell 2 _ rfl
    have x3_1 := A1.cell 3 _ rfl
    have x4_1 := A1.cell 4 _ rfl
    have x5_1 := A1.cell 5 _ rfl
    have x6_1 := A1.cell 6 _ rfl
    have x7_1 := A1.cell 7 _ rfl
    have x8_1 := A1.cell 8 _ rfl
    have x9_1 := A1.cell 9 _ rfl
    have x10_1 := A1.cell 10 _ rfl
    clear b1
    go_wp2_with fail
    refine (dy_alive _).mono ?_; rintro e w2 ⟨rfl, b2⟩
    have A2 := A1.below b2 A1.lt
    have B2 := B1.trans (b2.mono (Nat.le_of_lt A1.lt))
    have l2 := A2.lt
    clear x0_1 x1_1 x2_1 x3_1 x4_1 x5_1 x6_1 x7_1 x8_1 x9_1 x10_1 A1 B1 l1
    have x0_2 := A2.cell 0 _ rfl
    have x1_2 := A2.cell 1 _ rfl
    have x2_2 := A2.cell 2 _ rfl
    have x3_2 := A2.cell 3 _ rfl
    have x4_2 := A2.cell 4 _ rfl
    have x5_2 := A2.cell 5 _ rfl
    have x6_2 := A2.cell 6 _ rfl
    have x7_2 := A2.cell 7 _ rfl
    have x8_2 := A2.cell 8 _ rfl
    have x9_2 := A2.cell 9 _ rfl
    have x10_2 := A2.cell 10 _ rfl
    clear b2
    go_wp2_with fail
    go_ret
    exact ⟨rfl, by rw [HH.out]; exact B2⟩

set_option maxRecDepth 100000 in
theorem lifted (os : Os) (started : os.Started) (H : Type) (enc : TypeId × Value → H) :
    ReturnsInHanded {} Try.checked os 7 .any (Rows.delaySlackSpec.pre6 enc Try.prog Try.f7 Rows.delaySlackRow.domain false) (Rows.delaySlackSpec.post enc Try.prog Try.f7 false true false false) := by
  refine returnsInHanded_of_change (C := Try.checked) own started (by kernel_rfl) Try.func7
    (ChangeSpec.witness6 (enc := enc) (C := Try.checked) false ⟨#[], #[.agg #[.int .i64 0, .int .i64 0, .int .i64 0, .int .i64 0, .int .i64 0, .int .i64 0, .int .i64 0, .int .i64 0, .int .i64 0, .int .i64 0, .bool false], .slice none 0 0], []⟩ 8 (by kernel_rfl) (by kernel_rfl) (by kernel_rfl) (by kernel_rfl)) ?_
  intro W base args ds gs before hval0 hW hcnd _
  have hval : ∀ (j : Nat) t v, Try.f7.params[j]? = some t → args[j]? = some v → Value.okWide Try.prog W .any base t v := hval0
  have hW' := hW
  obtain ⟨p, q, hA0, hV, rfl, hfz, hnd⟩ := hW
  have hA : DataW.TrodAll enc Try.prog W 0 (fun _ => true) true Try.f7.params.toList args.toList ds p := hA0
  rw [Try.params7] at hA hval
  obtain ⟨v0, vs0, d0, ds0, p0, q0, hargs, rfl, rfl, h0, r0⟩ := trodAll_cons hA
  obtain ⟨v1, vs1, d1, ds1, p1, q1, rfl, rfl, rfl, h1, r1⟩ := trodAll_cons r0
  obtain ⟨rfl, rfl, rfl⟩ := trodAll_nil r1
  obtain rfl : args = #[v0, v1] := by cases args; simp_all
  obtain ⟨rfl, rfl⟩ := trodVars_none hV
  have hlt := hW'.lt
  have k0 := h0
  obtain ⟨rc0, e0, b0⟩ := open_cfg (hval 0 23 v0 rfl rfl) h0
  subst e0
  have k1 := h1
  obtain ⟨l1, b1, e1⟩ := open_i64s (hval 1 35 v1 rfl rfl) h1
  clear hA0 hval0
  refine (walk W rc0 b0 v1 l1 b1 e1).mono fun e W' ⟨he, hg⟩ => ?_
  subst he
  exact ⟨_, rfl, post_of_below hW' (fun _ _ _ => (trodAll_cons_mk (shut_bool Try.underlying4 _) trodAll_mk0)) (trodAll_cons_mk (Below.trod laidOut (by kernel_rfl) (of_decide_eq_true (by kernel_rfl)) k0 hg (fun x hx => by first | exact absurd hx (by simp) | exact hlt x (by simp [hx]))) (trodAll_cons_mk (Below.trod laidOut (by kernel_rfl) (of_decide_eq_true (by kernel_rfl)) k1 hg (fun x hx => by first | exact absurd hx (by simp) | exact hlt x (by simp [hx]))) trodAll_mk0)) rfl hg⟩

theorem over : Rows.delaySlackRow.holds Try.pinned (OpenSpec.ofChange Rows.delaySlackSpec) :=
  OpenClaim.holds_of_wide 7 Try.f7 rfl rfl rfl rfl rfl rfl rfl ⟨rfl, rfl, rfl, rfl, rfl⟩ rfl rfl rfl rfl rfl (by kernel_rfl) Try.func7 (by kernel_rfl)
    (of_decide_eq_true (by kernel_rfl)) (by unfold Func.isWrapper; first | (rw [if_pos (by decide +kernel)]; kernel_rfl) | (rw [if_neg (by decide +kernel)]; exact ⟨rfl, rfl⟩))
    (fun os started H enc _ => lifted os started H enc)
end DelaySlackL

theorem delaySlack_proved : Rows.DelaySlackSaid := DelaySlackL.over
#print axioms delaySlack_proved
end Go.Proofs.Ytmclcoaicngodaa
