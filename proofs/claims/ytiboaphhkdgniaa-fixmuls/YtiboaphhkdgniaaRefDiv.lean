/-
  The document's answer for quotients (afterimageref01), walked: Div, bit by bit.
-/
import Derived.Test.YtiboaphhkdgniaaRefMul
import Derived.Test.YtiboaphhkdgniaaDiv
namespace Go.Proofs.Ytiboaphhkdgniaa
open Go.RowKit

/-- Behind k bits of N (and noughts behind them), divided by d: q and o tell the quotient, r is the rest, n holds the bits to come. -/
def Long (N d n q r : Int) (o : Bool) (k : Nat) : Prop :=
  ∃ T V : Int, T * d + r = V ∧ 0 ≤ r ∧ r < d ∧ 0 ≤ T ∧ q = T % 18446744073709551616 ∧ o = decide (18446744073709551616 ≤ T) ∧ 0 ≤ n ∧ n < 18446744073709551616 ∧
    (k ≤ 64 → N * 2 ^ k = V * 18446744073709551616 + n) ∧ (64 ≤ k → V = N * 2 ^ (k - 64))
theorem Long.start {N d : Int} (h0 : 0 ≤ N) (h1 : N ≤ 9223372036854775808) (hd : 1 ≤ d) : Long N d N 0 0 false 0 :=
  ⟨0, 0, by omega, by omega, by omega, by omega, by omega, by simp, h0, by omega, fun _ => by simp, fun h => by omega⟩
theorem Long.bds {N d n q r : Int} {o : Bool} {k : Nat} (h : Long N d n q r o k) : 0 ≤ r ∧ r < d ∧ 0 ≤ q ∧ q ≤ 18446744073709551615 ∧ 0 ≤ n ∧ n ≤ 18446744073709551615 := by
  obtain ⟨T, V, h1, h2, h3, h4, h5, h6, h7, h8, h9, h10⟩ := h
  omega
theorem Long.step {N d n q r : Int} {o : Bool} {k : Nat} (h : Long N d n q r o k) (bit n' b q' r' : Int) (o' : Bool)
    (hb : (k < 64 ∧ bit = n / 9223372036854775808 ∧ n' = n * 2 % 18446744073709551616) ∨ (64 ≤ k ∧ bit = 0 ∧ n' = n))
    (hs : (b = 1 ∧ d ≤ r * 2 + bit ∧ r' = r * 2 + bit - d) ∨ (b = 0 ∧ r * 2 + bit < d ∧ r' = r * 2 + bit))
    (hq : q' = (q * 2 + b) % 18446744073709551616)
    (ho : (9223372036854775808 ≤ q ∧ o' = true) ∨ (q < 9223372036854775808 ∧ o' = o)) : Long N d n' q' r' o' (k + 1) := by
  obtain ⟨T, V, h1, h2, h3, h4, h5, h6, h7, h8, h9, h10⟩ := h
  have hbit : 0 ≤ bit ∧ bit ≤ 1 := by omega
  have e1 : (2 * T + b) * d = 2 * (T * d) + b * d := by rw [Int.add_mul, Int.mul_assoc]
  have e2 : b * d = 0 ∨ b * d = d := by
    rcases hs with ⟨rfl, _, _⟩ | ⟨rfl, _, _⟩
    · right; rw [Int.one_mul]
    · left; rw [Int.zero_mul]
  refine ⟨2 * T + b, 2 * V + bit, ?_, ?_, ?_, ?_, ?_, ?_, ?_, ?_, ?_, ?_⟩
  · rw [e1]
    generalize T * d = t at *
    rcases hs with ⟨rfl, hs1, hs2⟩ | ⟨rfl, hs1, hs2⟩ <;> omega
  · omega
  · omega
  · omega
  · omega
  · rcases ho with ⟨ho1, rfl⟩ | ⟨ho1, rfl⟩
    · symm; exact decide_eq_true (by omega)
    · rw [h6, decide_eq_decide]; omega
  · omega
  · omega
  · intro hk
    have hk' : k < 64 := by omega
    have := h9 (by omega)
    rw [Int.pow_succ, ← Int.mul_assoc, this]
    omega
  · intro hk
    by_cases hk' : k < 64
    · have hk2 : k = 63 := by omega
      subst hk2
      have := h9 (by omega)
      have e : (63 + 1 - 64 : Nat) = 0 := rfl
      rw [e, Int.pow_zero, Int.mul_one]
      simp only [show (2:Int)^63 = 9223372036854775808 from rfl] at this
      omega
    · have := h10 (by omega)
      have e : k + 1 - 64 = (k - 64) + 1 := by omega
      rw [e, Int.pow_succ, ← Int.mul_assoc, ← this]
      omega
theorem Long.done {N d n q r : Int} {o : Bool} (h : Long N d n q r o 80) :
    r = N * 65536 % d ∧ q = N * 65536 / d % 18446744073709551616 ∧ o = decide (18446744073709551616 ≤ N * 65536 / d) := by
  obtain ⟨T, V, h1, h2, h3, h4, h5, h6, h7, h8, h9, h10⟩ := h
  have hV := h10 (by omega)
  have e : (2 : Int) ^ (80 - 64) = 65536 := rfl
  rw [e] at hV
  have hd : N * 65536 / d = T ∧ N * 65536 % d = r := by
    rw [← hV, ← h1, Int.add_comm, Int.add_mul_ediv_right _ _ (by omega), Int.ediv_eq_zero_of_lt h2 h3, Int.add_mul_emod_self_right, Int.emod_eq_of_lt h2 h3]
    omega
  rw [hd.1, hd.2]
  exact ⟨rfl, h5, h6⟩

theorem refDiv_zero (a : Int) (w : World) :
    Calls Try.prog 23 #[.int .i64 a, .int .i64 0] w fun e w' => e = .returned (.int .i64 (sat (a * 9223372036854775808))) ∧ w' = w := by
  go_enter Try.func23, Try.ntmps23
  go_wp2_with fail
  all_goals (go_ret; exact ⟨ret_int (by unfold sat; split <;> (try split) <;> omega), rfl⟩)

theorem refDiv_fin (a b : Int) (ha : R64 a) (h0 : b ≠ 0) (N d : Int) (hN : (a.natAbs : Int) = N) (hd : (b.natAbs : Int) = d) :
    signedI (N * 65536 / d % 18446744073709551616) (decide (18446744073709551616 ≤ N * 65536 / d)) ((decide (a < 0) != decide (b < 0)) && (a != 0)) (N * 65536 % d != 0) = sat (divI a b) := by
  have d0 : 1 ≤ d := by omega
  have a1 := Int.mul_ediv_add_emod (N * 65536) d
  have a2 := Int.emod_nonneg (N * 65536) (show d ≠ 0 by omega)
  have a3 := Int.emod_lt_of_pos (N * 65536) (show 0 < d by omega)
  have q0 : 0 ≤ N * 65536 / d := Int.ediv_nonneg (by omega) (by omega)
  have hpos : (a < 0 ↔ b < 0) ∨ a = 0 → divI a b = N * 65536 / d := by
    intro h
    unfold divI
    by_cases hb : b < 0
    · rw [if_pos hb, show -(a * 65536) = N * 65536 by omega, show -b = d by omega]
    · rw [if_neg hb, show a * 65536 = N * 65536 by omega, show b = d by omega]
  have hneg : ¬ (a < 0 ↔ b < 0) → a ≠ 0 → divI a b = -(N * 65536) / d := by
    intro h h'
    unfold divI
    by_cases hb : b < 0
    · rw [if_pos hb, show -(a * 65536) = -(N * 65536) by omega, show -b = d by omega]
    · rw [if_neg hb, show a * 65536 = -(N * 65536) by omega, show b = d by omega]
  have hturn : -(N * 65536) / d = -(N * 65536 / d + if N * 65536 % d = 0 then 0 else 1) := by
    have e : -(N * 65536) = -(N * 65536 % d) + -(N * 65536 / d) * d := by rw [Int.neg_mul, Int.mul_comm (N * 65536 / d)]; omega
    conv => lhs; rw [e]
    rw [Int.add_mul_ediv_right _ _ (by omega)]
    by_cases hz : N * 65536 % d = 0
    · rw [if_pos hz, hz]; simp
    · rw [if_neg hz]
      have : -(N * 65536 % d) / d = -1 := by
        rw [show -(N * 65536 % d) = (d - N * 65536 % d) + (-1) * d by omega, Int.add_mul_ediv_right _ _ (by omega), Int.ediv_eq_zero_of_lt (by omega) (by omega)]; omega
      omega
  have nb : N ≤ 9223372036854775808 := by unfold R64 at ha; omega
  have qb : N * 65536 / d ≤ 604462909807314587353088 := by
    have := Int.ediv_le_self d (show 0 ≤ N * 65536 by omega); omega
  generalize N * 65536 / d = T at *
  generalize N * 65536 % d = r at *
  unfold signedI
  by_cases hc : (a < 0 ↔ b < 0) ∨ a = 0
  · have e1 : ((decide (a < 0) != decide (b < 0)) && (a != 0)) = false := by
      rcases hc with hc | hc
      · have : decide (a < 0) = decide (b < 0) := decide_eq_decide.2 hc
        simp [this]
      · simp [hc]
    rw [e1, hpos hc]
    by_cases ho : 18446744073709551616 ≤ T
    · rw [decide_eq_true ho]; simp only [if_true, if_false, Bool.false_eq_true]; unfold sat; split <;> (try split) <;> omega
    · rw [decide_eq_false ho]; simp only [if_false, Bool.false_eq_true]; congr 1; omega
  · have hc1 : ¬ (a < 0 ↔ b < 0) := fun h => hc (.inl h)
    have hc2 : a ≠ 0 := fun h => hc (.inr h)
    have e1 : ((decide (a < 0) != decide (b < 0)) && (a != 0)) = true := by
      have : ¬ decide (a < 0) = decide (b < 0) := fun h => hc1 (decide_eq_decide.1 h)
      simp [hc2]; simpa using this
    rw [e1, hneg hc1 hc2, hturn]
    by_cases hz : r = 0
    · have : (r != 0) = false := by simpa using hz
      rw [this, if_pos hz]
      by_cases ho : 18446744073709551616 ≤ T
      · rw [decide_eq_true ho]; simp only [if_true]; unfold sat; split <;> (try split) <;> omega
      · rw [decide_eq_false ho]; simp only [if_true, if_false, Bool.false_eq_true]; congr 1; omega
    · have : (r != 0) = true := by simpa using hz
      rw [this, if_neg hz]
      by_cases ho : 18446744073709551616 ≤ T
      · rw [decide_eq_true ho]; simp only [if_true]; unfold sat; split <;> (try split) <;> omega
      · rw [decide_eq_false ho]; simp only [if_true, if_false, Bool.false_eq_true]; congr 1; omega

set_option maxHeartbeats 4000000 in
theorem refDiv_walk (a b N d : Int) (ha : R64 a) (hb : R64 b) (h0 : b ≠ 0) (hN : (a.natAbs : Int) = N) (hd : (b.natAbs : Int) = d) (w : World) :
    Calls Try.prog 23 #[.int .i64 a, .int .i64 b] w fun e w' => e = .returned (.int .i64 (sat (divI a b))) ∧ w' = w := by
  have hfin := refDiv_fin a b ha h0 N d hN hd
  have HF := (show Hid _ from hfin)
  have N0 : 0 ≤ N := by omega
  have N1 : N ≤ 9223372036854775808 := by unfold R64 at ha; omega
  have d0 : 1 ≤ d := by omega
  have d1 : d ≤ 9223372036854775808 := by unfold R64 at hb; omega
  have c0 : (b == 0) = false := by simpa using h0
  have HN := (show Hid _ from hN)
  have HD := (show Hid _ from hd)
  clear hfin hN hd
  go_enter Try.func23, Try.ntmps23
  go_wp2_with fail
  refine (size_any b hb _).mono ?_; rw [HD.out]; rintro e w1 ⟨rfl, rfl⟩
  go_wp2_with fail
  refine (size_any a ha _).mono ?_; rw [HN.out]; rintro e w2 ⟨rfl, rfl⟩
  go_wp2_with fail
  go_loop [6, 7, 8, 9, 10] (fun n q r o i => ∃ (n' q' r' : Int) (o' : Bool) (k : Nat), k ≤ 80 ∧ n = .int .u64 n' ∧ q = .int .u64 q' ∧ r = .int .u64 r' ∧ o = .bool o' ∧ i = .int .i64 k ∧ Long N d n' q' r' o' k) (fun _ _ _ _ i => 80 - (intOf i).toNat)
  case atStart => exact ⟨_, _, _, _, 0, by omega, rfl, rfl, rfl, rfl, rfl, Long.start N0 N1 d0⟩
  case round =>
    obtain ⟨n, q, r, o, k, hk, rfl, rfl, rfl, rfl, rfl, hL⟩ := hrel
    obtain ⟨r0, r1, q0, q1, n0, n1⟩ := hL.bds
    by_cases hk2 : k < 80
    · by_cases hk3 : k < 64
      · by_cases hq : 9223372036854775808 ≤ q
        · by_cases hs : d ≤ r * 2 + n / 9223372036854775808
          · go_wp2_with fail
            go_round
            case rel => exact ⟨_, _, _, _, k + 1, by omega, rfl, rfl, rfl, rfl, by go_num, hL.step (n / 9223372036854775808) _ 1 _ _ _ (.inl ⟨hk3, rfl, u64_eq _⟩) (.inl ⟨rfl, by omega, by first | rfl | omega⟩) (by first | (simp only [u64_eq]; omega) | omega) (.inl ⟨hq, rfl⟩)⟩
            case measure => simp [intOf]; omega
          · go_wp2_with fail
            go_round
            case rel => exact ⟨_, _, _, _, k + 1, by omega, rfl, rfl, rfl, rfl, by go_num, hL.step (n / 9223372036854775808) _ 0 _ _ _ (.inl ⟨hk3, rfl, u64_eq _⟩) (.inr ⟨rfl, by omega, by first | rfl | omega⟩) (by first | (simp only [u64_eq]; omega) | omega) (.inl ⟨hq, rfl⟩)⟩
            case measure => simp [intOf]; omega
        · by_cases hs : d ≤ r * 2 + n / 9223372036854775808
          · go_wp2_with fail
            go_round
            case rel => exact ⟨_, _, _, _, k + 1, by omega, rfl, rfl, rfl, rfl, by go_num, hL.step (n / 9223372036854775808) _ 1 _ _ _ (.inl ⟨hk3, rfl, u64_eq _⟩) (.inl ⟨rfl, by omega, by first | rfl | omega⟩) (by first | (simp only [u64_eq]; omega) | omega) (.inr ⟨by omega, rfl⟩)⟩
            case measure => simp [intOf]; omega
          · go_wp2_with fail
            go_round
            case rel => exact ⟨_, _, _, _, k + 1, by omega, rfl, rfl, rfl, rfl, by go_num, hL.step (n / 9223372036854775808) _ 0 _ _ _ (.inl ⟨hk3, rfl, u64_eq _⟩) (.inr ⟨rfl, by omega, by first | rfl | omega⟩) (by first | (simp only [u64_eq]; omega) | omega) (.inr ⟨by omega, rfl⟩)⟩
            case measure => simp [intOf]; omega
      · by_cases hq : 9223372036854775808 ≤ q
        · by_cases hs : d ≤ r * 2
          · go_wp2_with fail
            go_round
            case rel => exact ⟨_, _, _, _, k + 1, by omega, rfl, rfl, rfl, rfl, by go_num, hL.step (0) _ 1 _ _ _ (.inr ⟨by omega, rfl, rfl⟩) (.inl ⟨rfl, by omega, by first | rfl | omega⟩) (by first | (simp only [u64_eq]; omega) | omega) (.inl ⟨hq, rfl⟩)⟩
            case measure => simp [intOf]; omega
          · go_wp2_with fail
            go_round
            case rel => exact ⟨_, _, _, _, k + 1, by omega, rfl, rfl, rfl, rfl, by go_num, hL.step (0) _ 0 _ _ _ (.inr ⟨by omega, rfl, rfl⟩) (.inr ⟨rfl, by omega, by first | rfl | omega⟩) (by first | (simp only [u64_eq]; omega) | omega) (.inl ⟨hq, rfl⟩)⟩
            case measure => simp [intOf]; omega
        · by_cases hs : d ≤ r * 2
          · go_wp2_with fail
            go_round
            case rel => exact ⟨_, _, _, _, k + 1, by omega, rfl, rfl, rfl, rfl, by go_num, hL.step (0) _ 1 _ _ _ (.inr ⟨by omega, rfl, rfl⟩) (.inl ⟨rfl, by omega, by first | rfl | omega⟩) (by first | (simp only [u64_eq]; omega) | omega) (.inr ⟨by omega, rfl⟩)⟩
            case measure => simp [intOf]; omega
          · go_wp2_with fail
            go_round
            case rel => exact ⟨_, _, _, _, k + 1, by omega, rfl, rfl, rfl, rfl, by go_num, hL.step (0) _ 0 _ _ _ (.inr ⟨by omega, rfl, rfl⟩) (.inr ⟨rfl, by omega, by first | rfl | omega⟩) (by first | (simp only [u64_eq]; omega) | omega) (.inr ⟨by omega, rfl⟩)⟩
            case measure => simp [intOf]; omega
    · have hk80 : k = 80 := by omega
      subst hk80
      obtain ⟨f1, f2, f3⟩ := hL.done
      rw [← f1, ← f2, ← f3] at HF
      clear f1 f2 f3
      have fin : ∀ (M x y z : Bool), decide (a < 0) = x → decide (b < 0) = y → (a != 0) = z → ((x != y) && z) = M → signedI q o M (r != 0) = sat (divI a b) := by
        rintro M x y z rfl rfl rfl rfl; exact HF.out
      have FI := (show Hid _ from fin)
      clear fin HF
      by_cases a0 : a < 0
      · have k1 : decide (a < 0) = true := decide_eq_true a0
        have k3 : (a != 0) = true := by simp; omega
        by_cases b0 : b < 0
        · have k2 : decide (b < 0) = true := decide_eq_true b0
          go_wp2_with fail
          refine (signed_any q o _ _ q0 q1 _).mono ?_; rw [FI.out false _ _ _ k1 k2 k3 rfl]; rintro e w3 ⟨rfl, rfl⟩
          go_wp2_with fail
          go_ret
          exact ⟨rfl, rfl⟩
        · have k2 : decide (b < 0) = false := decide_eq_false b0
          go_wp2_with fail
          refine (signed_any q o _ _ q0 q1 _).mono ?_; rw [FI.out true _ _ _ k1 k2 k3 rfl]; rintro e w3 ⟨rfl, rfl⟩
          go_wp2_with fail
          go_ret
          exact ⟨rfl, rfl⟩
      · have k1 : decide (a < 0) = false := decide_eq_false a0
        by_cases a1 : a = 0
        · have k3 : (a != 0) = false := by simpa using a1
          have A1 := (show Hid _ from a1)
          clear a1
          by_cases b0 : b < 0
          · have k2 : decide (b < 0) = true := decide_eq_true b0
            go_wp2_with fail
            refine (signed_any q o _ _ q0 q1 _).mono ?_; rw [FI.out false _ _ _ k1 k2 k3 rfl]; rintro e w3 ⟨rfl, rfl⟩
            go_wp2_with fail
            go_ret
            exact ⟨rfl, rfl⟩
          · have k2 : decide (b < 0) = false := decide_eq_false b0
            go_wp2_with fail
            refine (signed_any q o _ _ q0 q1 _).mono ?_; rw [FI.out false _ _ _ k1 k2 k3 rfl]; rintro e w3 ⟨rfl, rfl⟩
            go_wp2_with fail
            go_ret
            exact ⟨rfl, rfl⟩
        · have k3 : (a != 0) = true := by simpa using a1
          by_cases b0 : b < 0
          · have k2 : decide (b < 0) = true := decide_eq_true b0
            go_wp2_with fail
            refine (signed_any q o _ _ q0 q1 _).mono ?_; rw [FI.out true _ _ _ k1 k2 k3 rfl]; rintro e w3 ⟨rfl, rfl⟩
            go_wp2_with fail
            go_ret
            exact ⟨rfl, rfl⟩
          · have k2 : decide (b < 0) = false := decide_eq_false b0
            go_wp2_with fail
            refine (signed_any q o _ _ q0 q1 _).mono ?_; rw [FI.out false _ _ _ k1 k2 k3 rfl]; rintro e w3 ⟨rfl, rfl⟩
            go_wp2_with fail
            go_ret
            exact ⟨rfl, rfl⟩
theorem refDiv_any (a b : Int) (ha : R64 a) (hb : R64 b) (h0 : b ≠ 0) (w : World) :
    Calls Try.prog 23 #[.int .i64 a, .int .i64 b] w fun e w' => e = .returned (.int .i64 (sat (divI a b))) ∧ w' = w :=
  refDiv_walk a b _ _ ha hb h0 rfl rfl w
end Go.Proofs.Ytiboaphhkdgniaa
