/-
  Plain arithmetic under math/bits' Div64: one digit at a time.
-/
import Derived.Test.YtmclcoaicngodaaMath2
namespace Go.Proofs.Ytmclcoaicngodaa
open Go.RowKit

theorem or_disj (a b s : Nat) (hb : b < 2 ^ s) : (a * 2 ^ s) ||| b = a * 2 ^ s + b := by
  rw [Nat.mul_comm]; exact (Nat.two_pow_add_eq_or_of_lt hb a).symm
/-- What Div64 works on when the divisor's first bit stands at the top. -/
theorem norm_fin (h l y : Int) (s : Nat) (h1 : 9223372036854775808 ≤ y * (2 ^ s : Nat)) (h2 : y * (2 ^ s : Nat) ≤ 18446744073709551615) (h3 : s ≤ 63)
    (hh0 : 0 ≤ h) (hh : h < y) (hl0 : 0 ≤ l) (hl : l ≤ 18446744073709551615) :
    ∃ Y U V : Int, IntKind.u64.wrap (y * 2 ^ s) = Y ∧ bits .or .u64 (IntKind.u64.wrap (h * 2 ^ s)) (l / 2 ^ (64 - s)) = U ∧ IntKind.u64.wrap (l * 2 ^ s) = V ∧
      bits .and .u64 Y 4294967295 = Y % 4294967296 ∧ bits .and .u64 V 4294967295 = V % 4294967296 ∧
      9223372036854775808 ≤ Y ∧ Y ≤ 18446744073709551615 ∧ 0 ≤ U ∧ U < Y ∧ 0 ≤ V ∧ V ≤ 18446744073709551615 ∧ (U * 18446744073709551616 + V) / Y = (h * 18446744073709551616 + l) / y := by
  obtain ⟨h, rfl⟩ := Int.eq_ofNat_of_zero_le hh0
  obtain ⟨l, rfl⟩ := Int.eq_ofNat_of_zero_le hl0
  obtain ⟨y, rfl⟩ := Int.eq_ofNat_of_zero_le (show 0 ≤ y by omega)
  have ep : 2 ^ s * 2 ^ (64 - s) = 18446744073709551616 := by rw [← Nat.pow_add, show s + (64 - s) = 64 by omega]
  have hP0 : 0 < 2 ^ s := Nat.two_pow_pos _
  have hQ0 : 0 < 2 ^ (64 - s) := Nat.two_pow_pos _
  have cP : ((2 : Int) ^ s) = ((2 ^ s : Nat) : Int) := by push_cast; rfl
  have cQ : ((2 : Int) ^ (64 - s)) = ((2 ^ (64 - s) : Nat) : Int) := by push_cast; rfl
  have hor := or_disj h (l / 2 ^ (64 - s)) s
  have hlq : l / 2 ^ (64 - s) < 2 ^ s := by rw [Nat.div_lt_iff_lt_mul hQ0, ep]; omega
  have hlm := Nat.div_add_mod l (2 ^ (64 - s))
  have hlr : l % 2 ^ (64 - s) < 2 ^ (64 - s) := Nat.mod_lt _ hQ0
  rw [cP, cQ]
  generalize 2 ^ s = P at *
  generalize 2 ^ (64 - s) = Q at *
  have hYb : y * P ≤ 18446744073709551615 := by omega
  have hYb' : 9223372036854775808 ≤ y * P := by omega
  have hle : (h + 1) * P ≤ y * P := Nat.mul_le_mul_right _ (by omega)
  rw [Nat.add_mul] at hle
  have eV : l * P = l / Q * 18446744073709551616 + (l % Q) * P := by
    conv => lhs; rw [← hlm]
    rw [Nat.add_mul, ← ep, Nat.mul_comm Q, Nat.mul_assoc, Nat.mul_comm Q]
  have hVb : (l % Q) * P < 18446744073709551616 := by rw [← ep, Nat.mul_comm P]; exact Nat.mul_lt_mul_of_pos_right hlr hP0
  have e1 : IntKind.u64.wrap ((y : Int) * (P : Int)) = ((y * P : Nat) : Int) := by rw [u64_eq]; omega
  have e2 : IntKind.u64.wrap ((h : Int) * (P : Int)) = ((h * P : Nat) : Int) := by rw [u64_eq]; omega
  have e3 : ((l : Int) / (Q : Int)) = ((l / Q : Nat) : Int) := (Int.natCast_ediv l Q).symm
  have e4 : IntKind.u64.wrap ((l : Int) * (P : Int)) = (((l % Q) * P : Nat) : Int) := by
    have : ((l : Int) * (P : Int)) = ((l * P : Nat) : Int) := by push_cast; rfl
    rw [this, eV, u64_eq]; omega
  have e5 := bits_or_u64_nat (h * P) (l / Q) (by omega) (by omega)
  rw [hor hlq] at e5
  refine ⟨((y * P : Nat) : Int), ((h * P + l / Q : Nat) : Int), (((l % Q) * P : Nat) : Int), e1, by rw [e2, e3]; exact e5, e4, mask32 _ (by omega) (by omega), mask32 _ (by omega) (by omega), by omega, by omega, by omega, by omega, by omega, by omega, ?_⟩
  have e6 : ((h * P + l / Q : Nat) : Int) * 18446744073709551616 + (((l % Q) * P : Nat) : Int) = (((h * 18446744073709551616 + l) * P : Nat) : Int) := by
    have a1 : (h * P + l / Q) * 18446744073709551616 + (l % Q) * P = (h * 18446744073709551616 + l) * P := by
      rw [Nat.add_mul (h * 18446744073709551616), eV, Nat.mul_right_comm]
      generalize h * P = a
      generalize l / Q = b
      generalize l % Q * P = c
      omega
    rw [← a1]; omega
  rw [e6]
  have e7 : ((h : Int) * 18446744073709551616 + (l : Int)) = ((h * 18446744073709551616 + l : Nat) : Int) := by omega
  rw [e7, ← Int.natCast_ediv, ← Int.natCast_ediv, Nat.mul_div_mul_right _ _ hP0]

/-- At the head of Div64's loop: q stands at or above the digit, r is what is left. -/
structure Dig (Y U v q r : Int) : Prop where
  eq : q * (Y / 4294967296) + r = U
  above : (U * 4294967296 + v) / Y ≤ q
  q1 : q ≤ 4294967297
  r0 : 0 ≤ r
  r1 : r < 4294967296
structure Dom (Y U v : Int) : Prop where
  Y0 : 9223372036854775808 ≤ Y
  Y1 : Y ≤ 18446744073709551615
  U0 : 0 ≤ U
  U1 : U < Y
  v0 : 0 ≤ v
  v1 : v ≤ 4294967295

theorem Dom.digit {Y U v : Int} (d : Dom Y U v) : 0 ≤ (U * 4294967296 + v) / Y ∧ (U * 4294967296 + v) / Y ≤ 4294967295 := by
  obtain ⟨_, _, _, _, _, _⟩ := d
  constructor
  · exact Int.ediv_nonneg (by omega) (by omega)
  · have := Int.ediv_lt_of_lt_mul (a := U * 4294967296 + v) (b := 4294967296) (c := Y) (by omega) (by omega)
    omega
theorem Dig.q0 {Y U v q r : Int} (d : Dom Y U v) (h : Dig Y U v q r) : 0 ≤ q := by
  have := d.digit; have := h.above; omega
theorem Y_split (Y q : Int) : q * Y = q * (Y / 4294967296) * 4294967296 + q * (Y % 4294967296) := by
  have e : Y = Y / 4294967296 * 4294967296 + Y % 4294967296 := by omega
  conv => lhs; rw [e]
  rw [Int.mul_add, Int.mul_assoc]
theorem y0_bd {Y q : Int} (h0 : 0 ≤ q) (h1 : q ≤ 4294967296) : 0 ≤ q * (Y % 4294967296) ∧ q * (Y % 4294967296) ≤ 18446744069414584320 :=
  le_mul_of h0 (by omega) h1 (show Y % 4294967296 ≤ 4294967295 by omega)
theorem Dig.start {Y U v : Int} (d : Dom Y U v) : Dig Y U v (U / (Y / 4294967296)) (U % (Y / 4294967296)) := by
  obtain ⟨a1, a2, a3, a4, a5, a6⟩ := d
  have hy : 0 < Y / 4294967296 := by omega
  have h1 := Int.mul_ediv_add_emod U (Y / 4294967296)
  have h2 := Int.emod_nonneg U (show Y / 4294967296 ≠ 0 by omega)
  have h3 := Int.emod_lt_of_pos U hy
  have hq : 0 ≤ U / (Y / 4294967296) := Int.ediv_nonneg a3 (by omega)
  refine ⟨by rw [Int.mul_comm]; exact h1, ?_, ?_, h2, by omega⟩
  · have hs := Y_split Y (U / (Y / 4294967296) + 1)
    have hm : 0 ≤ (U / (Y / 4294967296) + 1) * (Y % 4294967296) := Int.mul_nonneg (by omega) (by omega)
    have : (U * 4294967296 + v) / Y < U / (Y / 4294967296) + 1 := by
      apply Int.ediv_lt_of_lt_mul (by omega)
      rw [hs]
      have e : (U / (Y / 4294967296) + 1) * (Y / 4294967296) = U / (Y / 4294967296) * (Y / 4294967296) + Y / 4294967296 := by rw [Int.add_mul, Int.one_mul]
      rw [Int.mul_comm] at h1
      generalize U / (Y / 4294967296) * (Y / 4294967296) = t at *
      generalize (U / (Y / 4294967296) + 1) * (Y % 4294967296) = z at *
      rw [e]; omega
    omega
  · have : U / (Y / 4294967296) < 4294967298 := by
      apply Int.ediv_lt_of_lt_mul hy
      omega
    omega
/-- The test says yes: the digit is below q. -/
theorem Dig.down {Y U v q r : Int} (d : Dom Y U v) (h : Dig Y U v q r) (t : 4294967296 ≤ q ∨ 4294967296 * r + v < q * (Y % 4294967296)) : (U * 4294967296 + v) / Y ≤ q - 1 := by
  have hd := d.digit
  rcases t with t | t
  · omega
  · have hs := Y_split Y q
    have := h.eq
    have : (U * 4294967296 + v) / Y < q := by
      apply Int.ediv_lt_of_lt_mul (by have := d.Y0; omega)
      rw [hs]
      generalize q * (Y / 4294967296) = a at *
      generalize q * (Y % 4294967296) = b at *
      omega
    omega
theorem Dig.step {Y U v q r : Int} (d : Dom Y U v) (h : Dig Y U v q r) (t : 4294967296 ≤ q ∨ 4294967296 * r + v < q * (Y % 4294967296)) (hr : r + Y / 4294967296 < 4294967296) : Dig Y U v (q - 1) (r + Y / 4294967296) := by
  have := h.down d t; have := h.q1; have := h.r0; have := h.eq; have := d.Y0
  refine ⟨?_, by omega, by omega, by omega, hr⟩
  rw [Int.sub_mul, Int.one_mul]; omega
theorem digit_of {Y U v q : Int} (d : Dom Y U v) (h1 : (U * 4294967296 + v) / Y ≤ q) (h2 : q * Y ≤ U * 4294967296 + v) : (U * 4294967296 + v) / Y = q := by
  have := (Int.le_ediv_iff_mul_le (a := q) (b := U * 4294967296 + v) (c := Y) (by have := d.Y0; omega)).2 h2
  omega
theorem Dig.out {Y U v q r : Int} (d : Dom Y U v) (h : Dig Y U v q r) (t : 4294967296 ≤ q ∨ 4294967296 * r + v < q * (Y % 4294967296)) (hr : 4294967296 ≤ r + Y / 4294967296) : (U * 4294967296 + v) / Y = q - 1 := by
  have h1 := h.down d t
  refine digit_of d h1 ?_
  have hd := d.digit
  have hb := y0_bd (Y := Y) (q := q - 1) (by omega) (by have := h.q1; omega)
  rw [Y_split]
  have := h.eq
  have e : (q - 1) * (Y / 4294967296) = q * (Y / 4294967296) - Y / 4294967296 := by rw [Int.sub_mul, Int.one_mul]
  rw [e]
  generalize (q - 1) * (Y % 4294967296) = b at *
  generalize q * (Y / 4294967296) = a at *
  have := d.v0
  omega
theorem Dig.stop {Y U v q r : Int} (d : Dom Y U v) (h : Dig Y U v q r) (t : q * (Y % 4294967296) ≤ 4294967296 * r + v) : (U * 4294967296 + v) / Y = q := by
  refine digit_of d h.above ?_
  rw [Y_split]
  have := h.eq
  generalize q * (Y % 4294967296) = b at *
  generalize q * (Y / 4294967296) = a at *
  omega
/-- What is left behind a digit. -/
theorem rest_fin {Y U v : Int} (d : Dom Y U v) :
    IntKind.u64.wrap (IntKind.u64.wrap (IntKind.u64.wrap (U * 4294967296) + v) - IntKind.u64.wrap ((U * 4294967296 + v) / Y * Y)) = (U * 4294967296 + v) % Y := by
  have h1 := Int.mul_ediv_add_emod (U * 4294967296 + v) Y
  have h2 := Int.emod_nonneg (U * 4294967296 + v) (show Y ≠ 0 by have := d.Y0; omega)
  have h3 := Int.emod_lt_of_pos (U * 4294967296 + v) (show 0 < Y by have := d.Y0; omega)
  rw [Int.mul_comm] at h1
  simp only [u64_eq]
  have := d.Y1
  generalize (U * 4294967296 + v) / Y * Y = t at *
  generalize (U * 4294967296 + v) % Y = z at *
  omega
theorem rest_dom {Y U v v' : Int} (d : Dom Y U v) (h0 : 0 ≤ v') (h1 : v' ≤ 4294967295) : Dom Y ((U * 4294967296 + v) % Y) v' :=
  ⟨d.Y0, d.Y1, Int.emod_nonneg _ (by have := d.Y0; omega), Int.emod_lt_of_pos _ (by have := d.Y0; omega), h0, h1⟩
theorem start_rest (U z : Int) (hz : 0 < z) (hz1 : z ≤ 4294967295) : IntKind.u64.wrap (U - IntKind.u64.wrap (U / z * z)) = U % z := by
  have h1 := Int.mul_ediv_add_emod U z
  have h2 := Int.emod_nonneg U (show z ≠ 0 by omega)
  have h3 := Int.emod_lt_of_pos U hz
  rw [Int.mul_comm] at h1
  simp only [u64_eq]
  generalize U / z * z = t at *
  generalize U % z = r at *
  omega
theorem after_fin {Y U v : Int} (d : Dom Y U v) (v' T : Int) (hT : (U * 4294967296 + v) / Y = T) (h0 : 0 ≤ v') (h1 : v' ≤ 4294967295) :
    ∃ U2 : Int, IntKind.u64.wrap (IntKind.u64.wrap (IntKind.u64.wrap (U * 4294967296) + v) - IntKind.u64.wrap (T * Y)) = U2 ∧
      IntKind.u64.wrap (U2 - IntKind.u64.wrap (U2 / (Y / 4294967296) * (Y / 4294967296))) = U2 % (Y / 4294967296) ∧ (U * 4294967296 + v) % Y = U2 ∧ Dom Y U2 v' ∧ 0 ≤ U2 ∧ U2 < Y ∧ 0 ≤ T ∧ T ≤ 4294967295 := by
  have h2 := rest_dom d h0 h1
  have h3 := d.digit
  have hY := d.Y0; have hY1 := d.Y1
  refine ⟨_, by rw [← hT]; exact rest_fin d, start_rest _ _ (by omega) (by omega), rfl, h2, h2.U0, h2.U1, by omega, by omega⟩
/-- Both digits. -/
theorem both_fin {Y U V : Int} (d : Dom Y U (V / 4294967296)) :
    (U * 4294967296 + V / 4294967296) / Y * 4294967296 + ((U * 4294967296 + V / 4294967296) % Y * 4294967296 + V % 4294967296) / Y = (U * 18446744073709551616 + V) / Y := by
  have h1 := Int.mul_ediv_add_emod (U * 4294967296 + V / 4294967296) Y
  have e : U * 18446744073709551616 + V = ((U * 4294967296 + V / 4294967296) % Y * 4294967296 + V % 4294967296) + (U * 4294967296 + V / 4294967296) / Y * 4294967296 * Y := by
    have e2 : (U * 4294967296 + V / 4294967296) / Y * 4294967296 * Y = Y * ((U * 4294967296 + V / 4294967296) / Y) * 4294967296 := by
      rw [Int.mul_comm Y, Int.mul_right_comm]
    rw [e2]
    generalize Y * ((U * 4294967296 + V / 4294967296) / Y) = t at *
    generalize (U * 4294967296 + V / 4294967296) % Y = z at *
    omega
  rw [e, Int.add_mul_ediv_right _ _ (by have := d.Y0; omega)]
  omega
theorem fin_fin {Y U V U2 T p k : Int} (d : Dom Y U (V / 4294967296)) (h1 : (U * 4294967296 + V / 4294967296) % Y = U2) (h2 : (U * 4294967296 + V / 4294967296) / Y = T)
    (h3 : (U2 * 4294967296 + V % 4294967296) / Y = p) (h4 : (U * 18446744073709551616 + V) / Y = k) : T * 4294967296 + p = k := by
  have h := both_fin d
  rw [h1, h2, h3, h4] at h
  exact h
end Go.Proofs.Ytmclcoaicngodaa
