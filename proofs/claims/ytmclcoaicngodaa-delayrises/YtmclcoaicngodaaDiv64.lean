/-
  math/bits.Div64 at this seat (Go's text, walked): the quotient, by two digits of 32 bits.
-/
import Derived.Test.YtmclcoaicngodaaBits2
import Derived.Test.YtmclcoaicngodaaMath3
namespace Go.Proofs.Ytmclcoaicngodaa
open Go.RowKit

set_option maxHeartbeats 4000000 in
theorem div64_pos (h l y : Int) (hy0 : 1 ≤ y) (hy : y ≤ 18446744073709551615) (hh0 : 1 ≤ h) (hh : h < y) (hl0 : 0 ≤ l) (hl : l ≤ 18446744073709551615) (w : World) :
    Calls Try.prog 38 #[.int .u64 h, .int .u64 l, .int .u64 y] w fun e w' => (∃ r : Int, e = .returned (.tuple #[.int .u64 ((h * 18446744073709551616 + l) / y), .int .u64 r])) ∧ w' = w := by
  have c1 : (y == 0) = false := by simp; omega
  have c2 : (h == 0) = false := by simp; omega
  go_enter Try.func38, Try.ntmps38
  go_wp2_with (go_at_call 39; refine (lead_any y hy0 hy _).mono ?_; rintro e w' ⟨⟨s, rfl, h1, h2, h3⟩, rfl⟩; obtain ⟨Y, U, V, n1, n2, n3, n4, n5, Y0, Y1, U0, U1, V0, V1, hq'⟩ := norm_fin h l y s h1 h2 h3 (by omega) hh hl0 hl; have hq := (show Hid _ from hq'); have n6 := start_rest U (Y / 4294967296) (by omega) (by omega); clear h1 h2 hq')
  have D : Dom Y U (V / 4294967296) := ⟨Y0, Y1, U0, U1, by omega, by omega⟩
  go_loop [15, 16] (fun a b => ∃ q r : Int, a = .int .u64 q ∧ b = .int .u64 r ∧ Dig Y U (V / 4294967296) q r) (fun a _ => (intOf a).toNat)
  case atStart => exact ⟨_, _, rfl, rfl, Dig.start D⟩
  case round =>
    obtain ⟨q, r, rfl, rfl, hD⟩ := hrel
    have q0 := hD.q0 D
    have q1 := hD.q1
    have r0 := hD.r0
    have r1 := hD.r1
    clear n1 n2 n3 n4 n5 n6 c1 c2
    by_cases t1 : 4294967296 ≤ q
    · by_cases t3 : 4294967296 ≤ r + Y / 4294967296
      · obtain ⟨T, hT⟩ : ∃ T, q - 1 = T := ⟨_, rfl⟩
        have e1 := (hD.out D (.inl t1) t3).trans hT
        obtain ⟨U2, m1, m2, m3, D2, m4, m5, T0, T1⟩ := after_fin D (V % 4294967296) T e1 (by omega) (by omega)
        have M3 := (show Hid _ from m3)
        have E1 := (show Hid _ from e1)
        clear m3 e1 hD
        go_wp2_with fail
        go_loop [18, 16] (fun a b => ∃ q r : Int, a = .int .u64 q ∧ b = .int .u64 r ∧ Dig Y U2 (V % 4294967296) q r) (fun a _ => (intOf a).toNat)
        case atStart => exact ⟨_, _, rfl, rfl, Dig.start D2⟩
        case round =>
          obtain ⟨p, z, rfl, rfl, hE⟩ := hrel
          have p0 := hE.q0 D2
          have p1 := hE.q1
          have z0 := hE.r0
          have z1 := hE.r1
          clear m1 m2
          by_cases s1 : 4294967296 ≤ p
          · by_cases s3 : 4294967296 ≤ z + Y / 4294967296
            · have f1 := fin_fin D M3.out E1.out (hE.out D2 (.inl s1) s3) hq.out
              have f2 := D2.digit
              rw [hE.out D2 (.inl s1) s3] at f2
              obtain ⟨f3, f4⟩ := f2
              have F1 := (show Hid _ from f1)
              clear f1
              go_wp2_with fail
              rw [F1.out]
              go_ret2
              exact ⟨⟨_, rfl⟩, rfl⟩
            · go_wp2_with fail
              go_round
              case rel => exact ⟨p - 1, z + Y / 4294967296, rfl, rfl, hE.step D2 (.inl s1) (by omega)⟩
              case measure => simp [intOf]; omega
          · obtain ⟨b1, b2⟩ := y0_bd (Y := Y) (q := p) p0 (by omega)
            have w1 : IntKind.u64.wrap (p * (Y % 4294967296)) = p * (Y % 4294967296) := by rw [u64_eq]; omega
            by_cases s2 : 4294967296 * z + V % 4294967296 < p * (Y % 4294967296)
            · by_cases s3 : 4294967296 ≤ z + Y / 4294967296
              · have f1 := fin_fin D M3.out E1.out (hE.out D2 (.inr s2) s3) hq.out
                have f2 := D2.digit
                rw [hE.out D2 (.inr s2) s3] at f2
                obtain ⟨f3, f4⟩ := f2
                have F1 := (show Hid _ from f1)
                clear f1
                go_wp2_with fail
                rw [F1.out]
                go_ret2
                exact ⟨⟨_, rfl⟩, rfl⟩
              · have f2 := hE.down D2 (.inr s2)
                have f3 := D2.digit.1
                have f4 : 0 ≤ p - 1 := by omega
                clear f2 f3
                go_wp2_with fail
                go_round
                case rel => exact ⟨p - 1, z + Y / 4294967296, rfl, rfl, hE.step D2 (.inr s2) (by omega)⟩
                case measure => simp [intOf]; omega
            · have f1 := fin_fin D M3.out E1.out (hE.stop D2 (by omega)) hq.out
              have F1 := (show Hid _ from f1)
              clear f1
              go_wp2_with fail
              rw [F1.out]
              go_ret2
              exact ⟨⟨_, rfl⟩, rfl⟩
      · go_wp2_with fail
        go_round
        case rel => exact ⟨q - 1, r + Y / 4294967296, rfl, rfl, hD.step D (.inl t1) (by omega)⟩
        case measure => simp [intOf]; omega
    · obtain ⟨b1, b2⟩ := y0_bd (Y := Y) (q := q) q0 (by omega)
      have w1 : IntKind.u64.wrap (q * (Y % 4294967296)) = q * (Y % 4294967296) := by rw [u64_eq]; omega
      by_cases t2 : 4294967296 * r + V / 4294967296 < q * (Y % 4294967296)
      · by_cases t3 : 4294967296 ≤ r + Y / 4294967296
        · obtain ⟨T, hT⟩ : ∃ T, q - 1 = T := ⟨_, rfl⟩
          have e1 := (hD.out D (.inr t2) t3).trans hT
          obtain ⟨U2, m1, m2, m3, D2, m4, m5, T0, T1⟩ := after_fin D (V % 4294967296) T e1 (by omega) (by omega)
          have M3 := (show Hid _ from m3)
          have E1 := (show Hid _ from e1)
          clear m3 e1 hD
          go_wp2_with fail
          go_loop [18, 16] (fun a b => ∃ q r : Int, a = .int .u64 q ∧ b = .int .u64 r ∧ Dig Y U2 (V % 4294967296) q r) (fun a _ => (intOf a).toNat)
          case atStart => exact ⟨_, _, rfl, rfl, Dig.start D2⟩
          case round =>
            obtain ⟨p, z, rfl, rfl, hE⟩ := hrel
            have p0 := hE.q0 D2
            have p1 := hE.q1
            have z0 := hE.r0
            have z1 := hE.r1
            clear m1 m2
            by_cases s1 : 4294967296 ≤ p
            · by_cases s3 : 4294967296 ≤ z + Y / 4294967296
              · have f1 := fin_fin D M3.out E1.out (hE.out D2 (.inl s1) s3) hq.out
                have f2 := D2.digit
                rw [hE.out D2 (.inl s1) s3] at f2
                obtain ⟨f3, f4⟩ := f2
                have F1 := (show Hid _ from f1)
                clear f1
                go_wp2_with fail
                rw [F1.out]
                go_ret2
                exact ⟨⟨_, rfl⟩, rfl⟩
              · go_wp2_with fail
                go_round
                case rel => exact ⟨p - 1, z + Y / 4294967296, rfl, rfl, hE.step D2 (.inl s1) (by omega)⟩
                case measure => simp [intOf]; omega
            · obtain ⟨b1, b2⟩ := y0_bd (Y := Y) (q := p) p0 (by omega)
              have w1 : IntKind.u64.wrap (p * (Y % 4294967296)) = p * (Y % 4294967296) := by rw [u64_eq]; omega
              by_cases s2 : 4294967296 * z + V % 4294967296 < p * (Y % 4294967296)
              · by_cases s3 : 4294967296 ≤ z + Y / 4294967296
                · have f1 := fin_fin D M3.out E1.out (hE.out D2 (.inr s2) s3) hq.out
                  have f2 := D2.digit
                  rw [hE.out D2 (.inr s2) s3] at f2
                  obtain ⟨f3, f4⟩ := f2
                  have F1 := (show Hid _ from f1)
                  clear f1
                  go_wp2_with fail
                  rw [F1.out]
                  go_ret2
                  exact ⟨⟨_, rfl⟩, rfl⟩
                · have f2 := hE.down D2 (.inr s2)
                  have f3 := D2.digit.1
                  have f4 : 0 ≤ p - 1 := by omega
                  clear f2 f3
                  go_wp2_with fail
                  go_round
                  case rel => exact ⟨p - 1, z + Y / 4294967296, rfl, rfl, hE.step D2 (.inr s2) (by omega)⟩
                  case measure => simp [intOf]; omega
              · have f1 := fin_fin D M3.out E1.out (hE.stop D2 (by omega)) hq.out
                have F1 := (show Hid _ from f1)
                clear f1
                go_wp2_with fail
                rw [F1.out]
                go_ret2
                exact ⟨⟨_, rfl⟩, rfl⟩
        · have f2 := hD.down D (.inr t2)
          have f3 := D.digit.1
          have f4 : 0 ≤ q - 1 := by omega
          clear f2 f3
          go_wp2_with fail
          go_round
          case rel => exact ⟨q - 1, r + Y / 4294967296, rfl, rfl, hD.step D (.inr t2) (by omega)⟩
          case measure => simp [intOf]; omega
      · obtain ⟨T, rfl⟩ : ∃ T, T = q := ⟨_, rfl⟩
        have e1 := hD.stop D (by omega)
        obtain ⟨U2, m1, m2, m3, D2, m4, m5, T0, T1⟩ := after_fin D (V % 4294967296) T e1 (by omega) (by omega)
        have M3 := (show Hid _ from m3)
        have E1 := (show Hid _ from e1)
        clear m3 e1 hD
        go_wp2_with fail
        go_loop [18, 16] (fun a b => ∃ q r : Int, a = .int .u64 q ∧ b = .int .u64 r ∧ Dig Y U2 (V % 4294967296) q r) (fun a _ => (intOf a).toNat)
        case atStart => exact ⟨_, _, rfl, rfl, Dig.start D2⟩
        case round =>
          obtain ⟨p, z, rfl, rfl, hE⟩ := hrel
          have p0 := hE.q0 D2
          have p1 := hE.q1
          have z0 := hE.r0
          have z1 := hE.r1
          clear m1 m2
          by_cases s1 : 4294967296 ≤ p
          · by_cases s3 : 4294967296 ≤ z + Y / 4294967296
            · have f1 := fin_fin D M3.out E1.out (hE.out D2 (.inl s1) s3) hq.out
              have f2 := D2.digit
              rw [hE.out D2 (.inl s1) s3] at f2
              obtain ⟨f3, f4⟩ := f2
              have F1 := (show Hid _ from f1)
              clear f1
              go_wp2_with fail
              rw [F1.out]
              go_ret2
              exact ⟨⟨_, rfl⟩, rfl⟩
            · go_wp2_with fail
              go_round
              case rel => exact ⟨p - 1, z + Y / 4294967296, rfl, rfl, hE.step D2 (.inl s1) (by omega)⟩
              case measure => simp [intOf]; omega
          · obtain ⟨b1, b2⟩ := y0_bd (Y := Y) (q := p) p0 (by omega)
            have w1 : IntKind.u64.wrap (p * (Y % 4294967296)) = p * (Y % 4294967296) := by rw [u64_eq]; omega
            by_cases s2 : 4294967296 * z + V % 4294967296 < p * (Y % 4294967296)
            · by_cases s3 : 4294967296 ≤ z + Y / 4294967296
              · have f1 := fin_fin D M3.out E1.out (hE.out D2 (.inr s2) s3) hq.out
                have f2 := D2.digit
                rw [hE.out D2 (.inr s2) s3] at f2
                obtain ⟨f3, f4⟩ := f2
                have F1 := (show Hid _ from f1)
                clear f1
                go_wp2_with fail
                rw [F1.out]
                go_ret2
                exact ⟨⟨_, rfl⟩, rfl⟩
              · have f2 := hE.down D2 (.inr s2)
                have f3 := D2.digit.1
                have f4 : 0 ≤ p - 1 := by omega
                clear f2 f3
                go_wp2_with fail
                go_round
                case rel => exact ⟨p - 1, z + Y / 4294967296, rfl, rfl, hE.step D2 (.inr s2) (by omega)⟩
                case measure => simp [intOf]; omega
            · have f1 := fin_fin D M3.out E1.out (hE.stop D2 (by omega)) hq.out
              have F1 := (show Hid _ from f1)
              clear f1
              go_wp2_with fail
              rw [F1.out]
              go_ret2
              exact ⟨⟨_, rfl⟩, rfl⟩

theorem div64_zero (l y : Int) (hy0 : 1 ≤ y) (hy : y ≤ 18446744073709551615) (hl0 : 0 ≤ l) (hl : l ≤ 18446744073709551615) (w : World) :
    Calls Try.prog 38 #[.int .u64 0, .int .u64 l, .int .u64 y] w fun e w' => (∃ r : Int, e = .returned (.tuple #[.int .u64 (l / y), .int .u64 r])) ∧ ∃ n, w' = w.drewN n := by
  have c1 : (y == 0) = false := by simp; omega
  go_enter Try.func38, Try.ntmps38
  go_wp2
  go_quiet (fail)
  go_wp2
  go_ret2
  exact ⟨⟨_, rfl⟩, _, rfl⟩

theorem div64_any (h l y : Int) (hy0 : 1 ≤ y) (hy : y ≤ 18446744073709551615) (hh0 : 0 ≤ h) (hh : h < y) (hl0 : 0 ≤ l) (hl : l ≤ 18446744073709551615) (w : World) :
    Calls Try.prog 38 #[.int .u64 h, .int .u64 l, .int .u64 y] w fun e w' => (∃ r : Int, e = .returned (.tuple #[.int .u64 ((h * 18446744073709551616 + l) / y), .int .u64 r])) ∧ ∃ n, w' = w.drewN n := by
  by_cases h0 : h = 0
  · subst h0
    simpa using div64_zero l y hy0 hy hl0 hl w
  · exact (div64_pos h l y hy0 hy (by omega) hh hl0 hl w).mono fun e w' ⟨h1, h2⟩ => ⟨h1, 0, h2⟩
end Go.Proofs.Ytmclcoaicngodaa
