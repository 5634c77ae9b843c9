/-
  Layer 5 (varint): Get, by the document.
-/
import Derived.Test.YtjjaodlgnoiheaaVint4
namespace Go.Proofs.Ytjjaodlgnoiheaa
open Go.RowKit
set_option linter.unusedVariables false
set_option maxHeartbeats 400000 in
theorem rget_at (b o cap : Nat) (l : List Int) (hb : Bytes l) (hl : l ≠ []) (hc : l.length ≤ cap) (hm : cap ≤ 9223372036854775807) (w : World) (hat : At w b o l) :
    Calls Try.prog 57 #[.slice (some ⟨b, o, none⟩) l.length cap] w fun e w' => e = .returned (.tuple #[.int .u64 (got l).1, .int .i64 (got l).2.1, .int .i64 (got l).2.2]) ∧ w' = w := by
  have n1 := List.length_pos_iff.2 hl
  obtain ⟨r, hr⟩ : ∃ r, got l = r := ⟨_, rfl⟩
  rw [hr]
  have HR := (show Hid _ from hr); clear hr
  obtain ⟨n, hn⟩ : ∃ n, l.length = n := ⟨_, rfl⟩
  have HN := (show Hid _ from hn)
  rw [hn] at n1 hc ⊢
  have ht : ∀ i, i < n → w.cell? ⟨b, o + i, none⟩ = some (.int .u8 (l.getD i 0)) := fun i hi => hat i (by rw [hn]; exact hi)
  have HB := (show Hid _ from hb)
  clear hn hat hb
  go_enter Try.func57, Try.ntmps57
  go_wp2_with fail
  go_loop [5] (fun i => ∃ (k : Nat), k ≤ n ∧ k ≤ 10 ∧ i = .int .i64 k ∧ ∀ j, j < k → 128 ≤ l.getD j 0) (fun i => 10 - (intOf i).toNat)
  case atStart => exact ⟨0, Nat.zero_le _, Nat.zero_le _, rfl, fun j hj => by omega⟩
  case round =>
    obtain ⟨k, hk, hk10, rfl, ha⟩ := hrel
    have HA := (show Hid _ from ha)
    have HT := (show Hid _ from ht)
    clear ha ht
    by_cases hlt : k < n ∧ k < 10
    · obtain ⟨hlt, hlt10⟩ := hlt
      obtain ⟨c, hcc⟩ : ∃ c, l.getD k 0 = c := ⟨_, rfl⟩
      have hcell := HT.out k hlt
      rw [hcc] at hcell
      have c0 := Bytes.at HB.out k
      rw [hcc] at c0
      obtain ⟨c0, c1⟩ := c0
      have HC := (show Hid _ from hcc)
      clear hcc
      by_cases hlo : 127 < c
      · go_wp2_with fail
        go_round
        case rel =>
          refine ⟨k + 1, by omega, by omega, by go_num, fun j hj => ?_⟩
          by_cases hj' : j < k
          · exact HA.out j hj'
          · obtain rfl : j = k := by omega
            show 128 ≤ l.getD j 0
            rw [HC.out]; omega
        case measure => simp [intOf]; omega
      · have hn10 : ¬ k = 10 := by omega
        have hnn : ¬ k = n := by omega
        have hG := got_at l k (by rw [HN.out]; exact hlt) (by omega) HA.out (by rw [HC.out]; omega)
        rw [HR.out, HC.out] at hG
        have HG := (show Hid _ from hG)
        clear hG
        have htk : (l.take (k + 1)).length = k + 1 := List.length_take_of_le (by rw [HN.out]; omega)
        have HTK := (show Hid _ from htk)
        clear htk
        go_wp2_with fail
        go_loop [7, 6] (fun i y => ∃ (m : Nat) (v : Int), m ≤ k + 1 ∧ i = .int .i64 ((m : Int) - 1) ∧ y = .int .u64 v ∧ 0 ≤ v ∧ v ≤ 18446744073709551615 ∧ v = val ((l.take (k + 1)).drop m)) (fun i _ => (intOf i + 1).toNat)
        case atStart =>
          refine ⟨k + 1, 0, Nat.le_refl _, by go_num, rfl, by omega, by omega, ?_⟩
          rw [List.drop_of_length_le (by rw [HTK.out]; omega)]; rfl
        case round =>
          obtain ⟨m, v, hm1, rfl, rfl, v0, v1, hv⟩ := hrel
          have HV := (show Hid _ from hv)
          clear hv
          rcases m with _ | m
          · have hv := HV.out
            rw [List.drop_zero] at hv
            have hG := HG.out
            rw [← hv, if_neg (by omega)] at hG
            by_cases hz : 0 < k ∧ c = 0
            · rw [if_pos hz] at hG
              obtain ⟨hz1, rfl⟩ := hz
              subst hG
              clear hv
              go_wp2_with fail
              go_ret3
              exact ⟨ret_three rfl (by first | rfl | omega) rfl, rfl⟩
            · rw [if_neg hz] at hG
              subst hG
              clear hv
              by_cases hk0 : 0 < k
              · have hc0 : ¬ c = 0 := fun h => hz ⟨hk0, h⟩
                go_wp2_with fail
                go_ret3
                exact ⟨ret_three rfl (by first | rfl | omega) rfl, rfl⟩
              · obtain rfl : k = 0 := by omega
                go_wp2_with fail
                go_ret3
                exact ⟨ret_three rfl (by first | rfl | omega) rfl, rfl⟩
          · have hcm := HT.out m (by omega)
            obtain ⟨d, hdd⟩ : ∃ d, l.getD m 0 = d := ⟨_, rfl⟩
            rw [hdd] at hcm
            have d0 := Bytes.at HB.out m
            rw [hdd] at d0
            obtain ⟨d0, d1⟩ := d0
            have HD := (show Hid _ from hdd)
            clear hdd
            have hge : (0 : Int) ≤ ((m + 1 : Nat) : Int) - 1 := by omega
            by_cases hov : 144115188075855871 < v
            · have hover := val_over (l.take (k + 1)) m (by rw [HTK.out]; omega) (by rw [← HV.out]; exact hov)
              have hG := HG.out
              rw [if_pos hover] at hG
              subst hG
              clear hover
              go_wp2_with fail
              go_ret3
              exact ⟨ret_three rfl (by first | rfl | omega) rfl, rfl⟩
            · go_wp2_with fail
              go_round
              case rel =>
                refine ⟨m, _, by omega, rfl, rfl, by omega, by omega, ?_⟩
                have h := val_at (l.take (k + 1)) m (by rw [HTK.out]; omega)
                rw [h, ← HV.out]
                have e : (l.take (k + 1)).getD m 0 = d := by rw [← HD.out]; simp [List.getD, show m < k + 1 by omega]
                rw [e]; omega
              case measure => simp [intOf]
    · have hG := got_open l hl k (by rw [HN.out]; exact hk) hk10 (by rw [HN.out]; exact hlt) HA.out
      rw [HR.out, HN.out] at hG
      by_cases h10 : k = 10
      · subst h10
        rw [if_neg (by omega)] at hG
        subst hG
        go_wp2_with fail
        go_ret3
        exact ⟨rfl, rfl⟩
      · have : k = n := by omega
        subst this
        rw [if_pos (by omega)] at hG
        subst hG
        go_wp2_with fail
        go_ret3
        exact ⟨rfl, rfl⟩
theorem rget_none (ao : Option Addr) (cap : Nat) (w : World) :
    Calls Try.prog 57 #[.slice ao 0 cap] w fun e w' => e = .returned (.tuple #[.int .u64 0, .int .i64 0, .int .i64 5]) ∧ w' = w := by
  go_enter Try.func57, Try.ntmps57
  go_wp2_with fail
  go_ret3
  exact ⟨rfl, rfl⟩
theorem rget_any (v : Value) (l : List Int) (hb : Bytes l) (w : World) (h : Rd w v l) :
    Calls Try.prog 57 #[v] w fun e w' => e = .returned (.tuple #[.int .u64 (got l).1, .int .i64 (got l).2.1, .int .i64 (got l).2.2]) ∧ w' = w := by
  obtain ⟨ao, cap, rfl, h1, h2, hn, h3⟩ := h
  by_cases hl : l = []
  · subst hl; exact rget_none ao cap w
  · rcases h3 with h | ⟨b, o, rfl, h⟩
    · exact absurd h hl
    · exact rget_at b o cap l hb hl h1 h2 w h
end Go.Proofs.Ytjjaodlgnoiheaa
