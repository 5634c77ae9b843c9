/-
  Layer 1's numbers of 128 bits (fix.wide), walked: each does what whole numbers do.
-/
import Derived.Test.YtmclcoaicngodaaDiv64
import Derived.Test.YtmclcoaicngodaaMath4
namespace Go.Proofs.Ytmclcoaicngodaa
open Go.RowKit

theorem widen_any (x : Int) (h : R64 x) (w : World) :
    Calls Try.prog 32 #[.int .i64 x] w fun e w' => e = .returned (.agg #[.int .i64 (hi x), .int .u64 (lo x)]) ∧ Gr w.heap.size w w' := by
  obtain ⟨h0, h1⟩ := h
  have e1 : x / 9223372036854775808 = hi x := by unfold hi; omega
  have e2 : IntKind.u64.wrap x = lo x := by rw [IntKind.wrap_u64]; rfl
  go_enter Try.func32, Try.ntmps32
  go_wp2
  exact bodyPost_ret (v := .agg #[.int .i64 (hi x), .int .u64 (lo x)]) (by simp [results, Try.results32, go_sem]) rfl ⟨rfl, (Gr.refl _ _).alloc (Nat.le_refl _) _ _⟩

theorem gr3 (w : World) (a b c : Array Value) (t u v : TypeId) : Gr w.heap.size w (((w.alloc (.cells a t)).alloc (.cells b u)).alloc (.cells c v)) :=
  (((Gr.refl _ _).alloc (Nat.le_refl _) _ _).alloc (by simp) _ _).alloc (by simp; omega) _ _

theorem plus_any (X Y : Int) (hX : R128 X) (hY : R128 Y) (hXY : R128 (X + Y)) (w : World) :
    Calls Try.prog 33 #[.agg #[.int .i64 (hi X), .int .u64 (lo X)], .agg #[.int .i64 (hi Y), .int .u64 (lo Y)]] w fun e w' => e = .returned (.agg #[.int .i64 (hi (X + Y)), .int .u64 (lo (X + Y))]) ∧ Gr w.heap.size w w' := by
  obtain ⟨a1, a2⟩ := hi_bd hX
  obtain ⟨b1, b2⟩ := hi_bd hY
  obtain ⟨c1, c2⟩ := lo_bd X
  obtain ⟨d1, d2⟩ := lo_bd Y
  go_enter Try.func33, Try.ntmps33
  go_wp2_with (simp only [add64_0 (lo X) (lo Y) c1 d1])
  rw [plus_hi X Y hXY, plus_lo X Y]
  exact bodyPost_ret (v := .agg #[.int .i64 (hi (X + Y)), .int .u64 (lo (X + Y))]) (by simp [results, Try.results33, go_sem]) rfl ⟨rfl, gr3 _ _ _ _ _ _ _⟩

theorem times_any (X Y : Int) (hX : R128 X) (hY : R128 Y) (hXY : R128 (X * Y)) (w : World) :
    Calls Try.prog 34 #[.agg #[.int .i64 (hi X), .int .u64 (lo X)], .agg #[.int .i64 (hi Y), .int .u64 (lo Y)]] w fun e w' => e = .returned (.agg #[.int .i64 (hi (X * Y)), .int .u64 (lo (X * Y))]) ∧ Gr w.heap.size w w' := by
  obtain ⟨a1, a2⟩ := hi_bd hX
  obtain ⟨b1, b2⟩ := hi_bd hY
  have hc := lo_bd X
  have hd := lo_bd Y
  have hx := (show Hid _ from hc)
  have hy := (show Hid _ from hd)
  obtain ⟨c1, c2⟩ := hc
  obtain ⟨d1, d2⟩ := hd
  go_enter Try.func34, Try.ntmps34
  go_wp2_with (go_at_call 37; refine (mul64_any (lo X) (lo Y) hx.out hy.out _).mono ?_; rintro e w' ⟨rfl, rfl⟩)
  rw [times_hi X Y hXY, times_lo X Y]
  exact bodyPost_ret (v := .agg #[.int .i64 (hi (X * Y)), .int .u64 (lo (X * Y))]) (by simp [results, Try.results34, go_sem]) rfl ⟨rfl, gr3 _ _ _ _ _ _ _⟩

set_option maxHeartbeats 1000000 in
theorem over_sign (X d : Int) (hX : R128 X) (hd0 : 1 ≤ d) (hd : d ≤ 18446744073709551615) (k u : Int) (hk : (0 ≤ X ∧ k = 0 ∧ u = 0) ∨ (X < 0 ∧ k = -1 ∧ u = 18446744073709551615)) (w : World) :
    Calls Try.prog 35 #[.agg #[.int .i64 (hi X), .int .u64 (lo X)], .int .u64 d] w fun e w' => e = .returned (.agg #[.int .i64 (hi (X / d)), .int .u64 (lo (X / d))]) ∧ Gr w.heap.size w w' := by
  obtain ⟨a1, a2⟩ := hi_bd hX
  obtain ⟨c1, c2⟩ := lo_bd X
  have c0 : (d == 0) = false := by simp; omega
  have s0 : hi X / 9223372036854775808 = k := by unfold hi at *; omega
  have s1 : IntKind.u64.wrap k = u := by rw [u64_eq]; omega
  obtain ⟨h, l, e1, e2, h0, h1, l0, l1, q0, q1, r0, r1, e3, e4⟩ := over_all X d hX hd0 k u hk
  clear hk
  go_enter Try.func35, Try.ntmps35
  go_wp2
  go_quiet (fail)
  go_wp2
  go_quiet (fail)
  go_wp2_with (go_at_call 38; refine (div64_any (h % d) l d hd0 hd r0 r1 l0 l1 _).mono ?_; rintro e w' ⟨⟨z, rfl⟩, n, rfl⟩)
  exact bodyPost_ret (v := .agg #[.int .i64 (hi (X / d)), .int .u64 (lo (X / d))]) (by simp [results, Try.results35, go_sem]) rfl ⟨rfl, (((((Gr.refl _ _).alloc (Nat.le_refl _) _ _).alloc (by simp) _ _).drewN _).setCell (by simp) _).setCell (by simp) _⟩
theorem over_any (X d : Int) (hX : R128 X) (hd0 : 1 ≤ d) (hd : d ≤ 18446744073709551615) (w : World) :
    Calls Try.prog 35 #[.agg #[.int .i64 (hi X), .int .u64 (lo X)], .int .u64 d] w fun e w' => e = .returned (.agg #[.int .i64 (hi (X / d)), .int .u64 (lo (X / d))]) ∧ Gr w.heap.size w w' := by
  by_cases h : 0 ≤ X
  · exact over_sign X d hX hd0 hd 0 0 (.inl ⟨h, rfl, rfl⟩) w
  · exact over_sign X d hX hd0 hd (-1) 18446744073709551615 (.inr ⟨by omega, rfl, rfl⟩) w

end Go.Proofs.Ytmclcoaicngodaa
