/-
  Layer 5 (varint): Get, by the code and by the document.
-/
import Derived.Test.YticcafmelijngaaVint3
namespace Go.Proofs.Yticcafmelijngaa
open Go.RowKit
set_option linter.unusedVariables false
theorem or_step (l : List Int) (k : Nat) (hk : k < l.length) (h9 : k ≤ 9) : bits .or .u64 (val (l.take k)) (IntKind.u64.wrap (l.getD k 0 % 128 * 2 ^ (7 * k))) = val (l.take k) + l.getD k 0 % 128 * (128 ^ k : Nat) % 18446744073709551616 := by
  have h1 := val_take_lt l k (by omega)
  have h0 := val_nn (l.take k)
  have e64 : (2 : Int) ^ 64 = 18446744073709551616 := by decide
  have dv : (2 : Int) ^ (7 * k) ∣ 2 ^ 64 := ⟨2 ^ (64 - 7 * k), by rw [← Int.pow_add]; congr 1; omega⟩
  have p9 : 128 ^ k ≤ 128 ^ 9 := Nat.pow_le_pow_right (by omega) h9
  have n9 : 128 ^ 9 = 9223372036854775808 := by decide
  rw [IntKind.wrap_u64, ← pow7]
  have hx0 : 0 ≤ l.getD k 0 % 128 * 2 ^ (7 * k) % 18446744073709551616 := by omega
  refine bits_join_low .u64 64 (by decide) wraps_u64 (7 * k) _ _ h0 (by rw [pow7]; exact h1) (by rw [e64]; omega) hx0 ?_ (by rw [e64]; omega)
  rw [← e64, Int.emod_emod_of_dvd _ dv, Int.mul_emod_left]
theorem or_next (l : List Int) (k : Nat) (hk : k < l.length) (h9 : k ≤ 9) :
    0 ≤ bits .or .u64 (val (l.take k)) (IntKind.u64.wrap (l.getD k 0 % 128 * 2 ^ (7 * k))) ∧ bits .or .u64 (val (l.take k)) (IntKind.u64.wrap (l.getD k 0 % 128 * 2 ^ (7 * k))) ≤ 18446744073709551615 ∧ (k + 1 ≤ 9 → bits .or .u64 (val (l.take k)) (IntKind.u64.wrap (l.getD k 0 % 128 * 2 ^ (7 * k))) = val (l.take (k + 1))) := by
  have h1 := val_take_lt l k (by omega)
  have h0 := val_nn (l.take k)
  have h2 := val_take l k hk
  have n9 : 128 ^ 9 = 9223372036854775808 := by decide
  rw [or_step l k hk h9]
  have d0 : 0 ≤ l.getD k 0 % 128 ∧ l.getD k 0 % 128 ≤ 127 := by omega
  generalize l.getD k 0 % 128 = d at *
  by_cases h8 : k ≤ 8
  · have h3 := val_take_lt l (k + 1) (by omega)
    have p9 : 128 ^ (k + 1) ≤ 128 ^ 9 := Nat.pow_le_pow_right (by omega) (by omega)
    have hn : 0 ≤ d * ((128 ^ k : Nat) : Int) := Int.mul_nonneg d0.1 (by omega)
    rw [Int.mul_comm] at h2
    rw [h2] at h3 ⊢
    generalize d * ((128 ^ k : Nat) : Int) = m at *
    rw [n9] at p9
    generalize 128 ^ (k + 1) = q at *
    refine ⟨by omega, by omega, fun _ => by omega⟩
  · have e : k = 9 := by omega
    subst e
    rw [n9] at h1 ⊢
    refine ⟨by omega, by omega, fun h => by omega⟩
theorem got_at (l : List Int) (k : Nat) (hk : k < l.length) (h9 : k ≤ 9) (ha : ∀ j, j < k → 128 ≤ l.getD j 0) (hlo : l.getD k 0 < 128) :
    got l = if 18446744073709551616 ≤ val (l.take (k + 1)) then (0, 0, 8) else if 0 < k ∧ l.getD k 0 = 0 then (0, 0, 7) else (val (l.take (k + 1)), (k : Int) + 1, 0) := by
  have hl := lead_is l k ha hk hlo
  have hne : l ≠ [] := by intro h; rw [h] at hk; simp at hk
  unfold got
  rw [hl, if_neg hne, if_neg (by omega), if_neg (by omega)]
theorem got_ends (l : List Int) (k : Nat) (hk : k < l.length) (h9 : k ≤ 9) (ha : ∀ j, j < k → 128 ≤ l.getD j 0) (hb : Bytes l) (hlo : l.getD k 0 < 128) :
    endedI (bits .or .u64 (val (l.take k)) (IntKind.u64.wrap (l.getD k 0 % 128 * 2 ^ (7 * k)))) ((k : Int) + 1) (l.getD k 0) = got l := by
  have h1 := val_take_lt l k (by omega)
  have h0 := val_nn (l.take k)
  have h2 := val_take l k hk
  have hc := hb.at k
  have n9 : 128 ^ 9 = 9223372036854775808 := by decide
  obtain ⟨_, _, hn⟩ := or_next l k hk h9
  have hs := or_step l k hk h9
  have G := got_at l k hk h9 ha hlo
  by_cases h8 : k ≤ 8
  · have h3 := val_take_lt l (k + 1) (by omega)
    have p9 : 128 ^ (k + 1) ≤ 128 ^ 9 := Nat.pow_le_pow_right (by omega) (by omega)
    have hlt : val (l.take (k + 1)) < 9223372036854775808 := by
      rw [n9] at p9
      generalize 128 ^ (k + 1) = q at *
      omega
    rw [if_neg (by omega)] at G
    rw [hn (by omega), G]
    unfold endedI
    rw [if_neg (by omega)]
    by_cases hz : 0 < k ∧ l.getD k 0 = 0
    · rw [if_pos hz, if_pos (by omega)]
    · rw [if_neg hz, if_neg (by omega)]
  · have e : k = 9 := by omega
    subst e
    rw [n9] at h1 h2 hs
    rw [hs, G, h2]
    clear hs hn G h2
    generalize l.getD 9 0 = c at *
    generalize val (l.take 9) = v at *
    unfold endedI
    by_cases h2' : 2 ≤ c
    · rw [if_pos ⟨by omega, h2'⟩, if_pos (by omega)]
    · rw [if_neg (by omega)]
      by_cases hz : c = 0
      · subst hz
        rw [if_pos (by omega), if_neg (by omega), if_pos (by omega)]
      · have : c = 1 := by omega
        subst this
        rw [if_neg (by omega), if_neg (by omega), if_neg (by omega)]
        congr 1
theorem got_open (l : List Int) (hl : l ≠ []) (k : Nat) (hk : k ≤ l.length) (hk10 : k ≤ 10) (hend : ¬(k < l.length ∧ k < 10)) (ha : ∀ j, j < k → 128 ≤ l.getD j 0) :
    got l = if l.length < 10 then (0, 0, 6) else (0, 0, 8) := by
  have h := lead_all l k ha hk
  have hle := lead_le l
  unfold got
  rw [if_neg hl]
  by_cases h10 : l.length < 10
  · rw [if_pos h10, if_neg (by omega), if_pos (by omega)]
  · rw [if_neg h10, if_pos (by omega)]
set_option maxHeartbeats 400000 in
theorem get_at (b o cap : Nat) (l : List Int) (hb : Bytes l) (hl : l ≠ []) (hc : l.length ≤ cap) (hm : cap ≤ 9223372036854775807) (w : World) (hat : At w b o l) :
    Calls Try.prog 42 #[.slice (some ⟨b, o, none⟩) l.length cap] w fun e w' => e = .returned (.tuple #[.int .u64 (got l).1, .int .i64 (got l).2.1, .int .i64 (got l).2.2]) ∧ w' = w := by
  have n1 := List.length_pos_iff.2 hl
  obtain ⟨r, hr⟩ : ∃ r, got l = r := ⟨_, rfl⟩
  rw [hr]
  have HR := (show Hid _ from hr); clear hr
  obtain ⟨n, hn⟩ : ∃ n, l.length = n := ⟨_, rfl⟩
  have HN := (show Hid _ from hn)
  rw [hn] at n1 hc ⊢
  have ht : ∀ i, i < n → w.cell? ⟨b, o + i, none⟩ = some (.int .u8 (l.getD i 0)) := fun i hi => hat i (by rw [hn]; exact hi)
  have HB := (show Hid _ from hb)
  clear hn hl hat hb
  go_enter Try.func42, Try.ntmps42
  go_wp2_with fail
  go_loop [13, 5] (fun i y => ∃ (k : Nat) (v : Int), k ≤ n ∧ k ≤ 10 ∧ i = .int .i64 k ∧ y = .int .u64 v ∧ 0 ≤ v ∧ v ≤ 18446744073709551615 ∧ (k ≤ 9 → v = val (l.take k)) ∧ ∀ j, j < k → 128 ≤ l.getD j 0) (fun i _ => 10 - (intOf i).toNat)
  case atStart => exact ⟨0, 0, Nat.zero_le _, Nat.zero_le _, rfl, rfl, by omega, by omega, fun _ => by simp [val], fun j hj => by omega⟩
  case round =>
    obtain ⟨k, v, hk, hk10, rfl, rfl, v0, v1, hv, ha⟩ := hrel
    have HV := (show Hid _ from hv)
    have HA := (show Hid _ from ha)
    clear hv ha
    by_cases hlt : k < n ∧ k < 10
    · obtain ⟨hlt, hlt10⟩ := hlt
      obtain ⟨c, hcc⟩ : ∃ c, l.getD k 0 = c := ⟨_, rfl⟩
      have hcell := ht k hlt
      rw [hcc] at hcell
      have c0 := Bytes.at HB.out k
      rw [hcc] at c0
      obtain ⟨c0, c1⟩ := c0
      have HC := (show Hid _ from hcc)
      have HT := (show Hid _ from ht)
      clear hcc ht
      by_cases hlo : c < 128
      · have HG := (show Hid _ from got_ends l k (by rw [HN.out]; exact hlt) (by omega) HA.out HB.out (by rw [HC.out]; exact hlo))
        rw [← HV.out (by omega), HC.out, HR.out] at HG
        go_wp2_with fail
        refine (ended_any _ ((k : Int) + 1) c (by omega) (by omega) _).mono ?_; rw [HG.out]; rintro e w1 ⟨rfl, rfl⟩
        go_wp2_with fail
        go_ret3
        exact ⟨rfl, rfl⟩
      · go_wp2_with fail
        go_round
        case rel =>
          have ho := or_next l k (by rw [HN.out]; exact hlt) (by omega)
          rw [← HV.out (by omega), HC.out] at ho
          obtain ⟨o1, o2, o3⟩ := ho
          refine ⟨k + 1, _, by omega, by omega, by go_num, rfl, o1, o2, o3, fun j hj => ?_⟩
          by_cases hj' : j < k
          · exact HA.out j hj'
          · obtain rfl : j = k := by omega
            rw [HC.out]; omega
        case measure => simp [intOf]; omega
    · have hG := got_open l (by intro h; rw [h] at HN; have := HN.out; simp at this; omega) k (by rw [HN.out]; exact hk) hk10 (by rw [HN.out]; exact hlt) HA.out
      rw [HR.out, HN.out] at hG
      by_cases h10 : n < 10
      · rw [if_pos h10] at hG
        subst hG
        go_wp2_with fail
        go_ret3
        exact ⟨rfl, rfl⟩
      · rw [if_neg h10] at hG
        subst hG
        go_wp2_with fail
        go_ret3
        exact ⟨rfl, rfl⟩
theorem get_none (ao : Option Addr) (cap : Nat) (w : World) :
    Calls Try.prog 42 #[.slice ao 0 cap] w fun e w' => e = .returned (.tuple #[.int .u64 0, .int .i64 0, .int .i64 5]) ∧ w' = w := by
  go_enter Try.func42, Try.ntmps42
  go_wp2_with fail
  go_ret3
  exact ⟨rfl, rfl⟩
theorem get_any (v : Value) (l : List Int) (hb : Bytes l) (w : World) (h : Rd w v l) :
    Calls Try.prog 42 #[v] w fun e w' => e = .returned (.tuple #[.int .u64 (got l).1, .int .i64 (got l).2.1, .int .i64 (got l).2.2]) ∧ w' = w := by
  obtain ⟨ao, cap, rfl, h1, h2, hn, h3⟩ := h
  by_cases hl : l = []
  · subst hl; exact get_none ao cap w
  · rcases h3 with h | ⟨b, o, rfl, h⟩
    · exact absurd h hl
    · exact get_at b o cap l hb hl h1 h2 w h
end Go.Proofs.Yticcafmelijngaa
