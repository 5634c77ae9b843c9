/-
  Texts Math, Base, Math2, Bits, Bits2, Blk, Vint in one.
-/
import Derived.WalkKit
import Derived.Test.YtlhfelelgkkblaaRows
import Derived.ProofKit
import Derived.WalkSpells
import Derived.WalkLawsBesides
import Derived.WalkSmall
import Derived.RowKit3
import Derived.BigQuiet
import Derived.Deep.QuietTactic
import Derived.Deep.RegionHeld3
import Derived.Outline
import Derived.Shelf.Spec.BitsCarry
import Derived.Lib.BitFns
import Derived.Laws.Bits64b
import Derived.Lib.Mul64
import Derived.Lib.Strings
import Derived.Lib.Slices
import Derived.Lib.Small
import Derived.Lib.Walk
namespace Go.Proofs.Ytlhfelelgkkblaa
open Go.RowKit

/-- The high half (with sign) and the low half of a number of 128 bits. -/
def hi (X : Int) : Int := X / 18446744073709551616
def lo (X : Int) : Int := X % 18446744073709551616
def R128 (X : Int) : Prop := -170141183460469231731687303715884105728 ≤ X ∧ X < 170141183460469231731687303715884105728
def R64 (x : Int) : Prop := -9223372036854775808 ≤ x ∧ x ≤ 9223372036854775807

theorem hi_bd {X : Int} (h : R128 X) : -9223372036854775808 ≤ hi X ∧ hi X ≤ 9223372036854775807 := by
  unfold R128 at h; unfold hi; omega
theorem lo_bd (X : Int) : 0 ≤ lo X ∧ lo X ≤ 18446744073709551615 := by unfold lo; omega
theorem R64.wide {x : Int} (h : R64 x) : R128 x := by unfold R64 at h; unfold R128; omega
theorem hilo (X : Int) : hi X * 18446744073709551616 + lo X = X := by unfold hi lo; omega

/-- The number, or the end that it is beyond. -/
def sat (X : Int) : Int := if X < -9223372036854775808 then -9223372036854775808 else if X > 9223372036854775807 then 9223372036854775807 else X
theorem sat_bd (X : Int) : R64 (sat X) := by unfold sat R64; split <;> (try split) <;> omega
theorem sat_in {X : Int} (h : R64 X) : sat X = X := by unfold R64 at h; unfold sat; split <;> (try split) <;> omega
theorem sat_mono {X Y : Int} (h : X ≤ Y) : sat X ≤ sat Y := by unfold sat; split <;> (try split) <;> (try split) <;> (try split) <;> omega

/-! numbers that wrap round -/
theorem wrap64_eq (n : Int) : wrap64 n = (n + 9223372036854775808) % 18446744073709551616 - 9223372036854775808 := by
  unfold wrap64; first | rfl | (rw [IntKind.wrap_i64]) | omega
theorem wrap64_mod (n : Int) : ∃ k, wrap64 n = n + k * 18446744073709551616 := ⟨-((n + 9223372036854775808) / 18446744073709551616), by rw [wrap64_eq]; omega⟩
theorem wrap64_of (n m : Int) (k : Int) (h : n = m + k * 18446744073709551616) (hm : R64 m) : wrap64 n = m := by
  unfold R64 at hm; rw [wrap64_eq]; omega
theorem u64_eq (n : Int) : IntKind.u64.wrap n = n % 18446744073709551616 := IntKind.wrap_u64 n

theorem plus_hi (X Y : Int) (h : R128 (X + Y)) : wrap64 (wrap64 (hi X + hi Y) + (lo X + lo Y) / 18446744073709551616) = hi (X + Y) := by
  obtain ⟨k, hk⟩ := wrap64_mod (hi X + hi Y)
  refine wrap64_of _ _ k ?_ (hi_bd h)
  rw [hk]; unfold hi lo; omega
theorem plus_lo (X Y : Int) : (lo X + lo Y) % 18446744073709551616 = lo (X + Y) := by unfold lo; omega
/-- What is borrowed. -/
def bor (x y : Int) : Int := if x < y then 1 else 0
theorem minus_hi (X Y : Int) (h : R128 (X - Y)) : wrap64 (wrap64 (hi X - hi Y) - wrap64 (bor (lo X) (lo Y))) = hi (X - Y) := by
  obtain ⟨k, hk⟩ := wrap64_mod (hi X - hi Y)
  have e : wrap64 (bor (lo X) (lo Y)) = bor (lo X) (lo Y) := by rw [wrap64_eq]; unfold bor; split <;> omega
  refine wrap64_of _ _ k ?_ (hi_bd h)
  rw [hk, e]; unfold bor hi lo; split <;> omega
theorem minus_lo (X Y : Int) : (lo X - lo Y) % 18446744073709551616 = lo (X - Y) := by unfold lo; omega

theorem times_split (X Y : Int) : X * Y = (hi X * hi Y * 18446744073709551616 + hi X * lo Y + lo X * hi Y) * 18446744073709551616 + lo X * lo Y := by
  have e1 : (hi X * 18446744073709551616 + lo X) * (hi Y * 18446744073709551616 + lo Y) = X * Y := by rw [hilo, hilo]
  rw [← e1]
  simp only [Int.add_mul, Int.mul_add]
  have a1 : hi X * 18446744073709551616 * (hi Y * 18446744073709551616) = hi X * hi Y * 18446744073709551616 * 18446744073709551616 := by
    rw [Int.mul_assoc, Int.mul_comm (18446744073709551616 : Int) (hi Y * 18446744073709551616), ← Int.mul_assoc, ← Int.mul_assoc]
  have a2 : hi X * 18446744073709551616 * lo Y = hi X * lo Y * 18446744073709551616 := by rw [Int.mul_assoc, Int.mul_comm (18446744073709551616 : Int) (lo Y), ← Int.mul_assoc]
  have a3 : lo X * (hi Y * 18446744073709551616) = lo X * hi Y * 18446744073709551616 := by rw [← Int.mul_assoc]
  rw [a1, a2, a3]
  generalize hi X * hi Y = p
  generalize hi X * lo Y = q
  generalize lo X * hi Y = r
  generalize lo X * lo Y = s
  omega
theorem times_hi (X Y : Int) (h : R128 (X * Y)) :
    wrap64 (wrap64 (wrap64 (lo X * lo Y / 18446744073709551616) + wrap64 (hi X * wrap64 (lo Y))) + wrap64 (wrap64 (lo X) * hi Y)) = hi (X * Y) := by
  obtain ⟨k1, h1⟩ := wrap64_mod (lo X)
  obtain ⟨k2, h2⟩ := wrap64_mod (lo Y)
  obtain ⟨k3, h3⟩ := wrap64_mod (lo X * lo Y / 18446744073709551616)
  obtain ⟨k4, h4⟩ := wrap64_mod (hi X * wrap64 (lo Y))
  obtain ⟨k5, h5⟩ := wrap64_mod (wrap64 (lo X) * hi Y)
  obtain ⟨k6, h6⟩ := wrap64_mod (wrap64 (lo X * lo Y / 18446744073709551616) + wrap64 (hi X * wrap64 (lo Y)))
  have hs := times_split X Y
  have m1 : hi X * (lo Y + k2 * 18446744073709551616) = hi X * lo Y + hi X * k2 * 18446744073709551616 := by rw [Int.mul_add, Int.mul_assoc]
  have m2 : (lo X + k1 * 18446744073709551616) * hi Y = lo X * hi Y + k1 * hi Y * 18446744073709551616 := by rw [Int.add_mul, Int.mul_assoc, Int.mul_comm (18446744073709551616 : Int), ← Int.mul_assoc]
  have hh : hi (X * Y) = hi X * hi Y * 18446744073709551616 + hi X * lo Y + lo X * hi Y + lo X * lo Y / 18446744073709551616 := by
    have hz : ∀ Z, hi Z = Z / 18446744073709551616 := fun _ => rfl
    rw [hz (X * Y), hs]
    generalize lo X * lo Y = s
    generalize hi X * hi Y * 18446744073709551616 + hi X * lo Y + lo X * hi Y = t
    omega
  refine wrap64_of _ _ (k6 + k3 + k4 + k5 + hi X * k2 + k1 * hi Y - hi X * hi Y) ?_ (hi_bd h)
  rw [h6, h5, h4, h3, h2, h1, m1, m2, hh]
  simp only [Int.add_mul, Int.sub_mul]
  generalize lo X * lo Y / 18446744073709551616 = s
  generalize hi X * hi Y = p
  generalize hi X * lo Y = q
  generalize lo X * hi Y = r
  generalize hi X * k2 = t
  generalize k1 * hi Y = u
  omega
theorem times_lo (X Y : Int) : lo X * lo Y % 18446744073709551616 = lo (X * Y) := by
  have hs := times_split X Y
  have hz : ∀ Z, lo Z = Z % 18446744073709551616 := fun _ => rfl
  rw [hz (X * Y), hs]
  generalize lo X * lo Y = s
  generalize hi X * hi Y * 18446744073709551616 + hi X * lo Y + lo X * hi Y = t
  omega
end Go.Proofs.Ytlhfelelgkkblaa

namespace Go.Proofs.Ytlhfelelgkkblaa
open Go.RowKit

theorem ret_int {k : IntKind} {a b : Int} (h : a = b) : Ending.returned (.int k a) = .returned (.int k b) := by rw [h]
theorem ret_two {k l : IntKind} {a b c d : Int} (h : a = c) (h' : b = d) : Ending.returned (.tuple #[.int k a, .int l b]) = .returned (.tuple #[.int k c, .int l d]) := by rw [h, h']
theorem ret_bool {a b : Bool} (h : a = b) : Ending.returned (.bool a) = .returned (.bool b) := by rw [h]

structure Gr (B : Nat) (w w' : World) : Prop where
  below : Below B w w'
  froz : ∀ a, w'.frozen? a = w.frozen? a

theorem Gr.refl (B : Nat) (w : World) : Gr B w w := ⟨Below.refl _ _, fun _ => rfl⟩
theorem Gr.trans {B : Nat} {a b c : World} (h : Gr B a b) (k : Gr B b c) : Gr B a c := ⟨h.below.trans k.below, fun x => (k.froz x).trans (h.froz x)⟩
theorem Gr.mono {B B' : Nat} {w w' : World} (h : Gr B w w') (hB : B' ≤ B) : Gr B' w w' := ⟨h.below.mono hB, h.froz⟩
theorem Gr.then {w W w' : World} (h1 : Gr w.heap.size w W) (h2 : Gr W.heap.size W w') : Gr w.heap.size w w' := h1.trans (h2.mono h1.below.size)
theorem Gr.drew {B : Nat} {a w : World} (h : Gr B a w) : Gr B a w.drew := ⟨h.below.drew, h.froz⟩
theorem Gr.drewN {B : Nat} {a w : World} (h : Gr B a w) (n : Nat) : Gr B a (w.drewN n) := ⟨below_drewN h.below n, h.froz⟩
theorem Gr.alloc {B : Nat} {a w : World} (h : Gr B a w) (hB : B ≤ w.heap.size) (c : Array Value) (t : TypeId) : Gr B a (w.alloc (.cells c t)) :=
  ⟨h.below.alloc hB _, fun x => (frozen?_alloc_cells _ _ _ x).trans (h.froz x)⟩
theorem Gr.setCell {B : Nat} {a w : World} (h : Gr B a w) {p : Addr} (hp : B ≤ p.block) (u : Value) : Gr B a (w.setCell p u) :=
  ⟨h.below.setCell hp u, fun x => (World.frozen?_setCell _ _ _ _).trans (h.froz x)⟩
theorem Gr.size {B : Nat} {w w' : World} (h : Gr B w w') : w.heap.size ≤ w'.heap.size := h.below.size
theorem Gr.cell {B : Nat} {w w' : World} (h : Gr B w w') : ∀ b o, b < B → w'.cell? ⟨b, o, none⟩ = w.cell? ⟨b, o, none⟩ := fun b o hb => h.below.cell (p := ⟨b, o, none⟩) hb
theorem Gr.frozen {B : Nat} {w w' : World} (h : Gr B w w') : ∀ b o, w'.frozen? ⟨b, o, none⟩ = w.frozen? ⟨b, o, none⟩ := fun b o => h.froz ⟨b, o, none⟩
end Go.Proofs.Ytlhfelelgkkblaa

namespace Go.Proofs.Ytlhfelelgkkblaa
open Go.RowKit

theorem mask32 (a : Int) (h0 : 0 ≤ a) (h1 : a ≤ 18446744073709551615) : bits .and .u64 a 4294967295 = a % 4294967296 := by
  obtain ⟨a, rfl⟩ := Int.eq_ofNat_of_zero_le h0
  have h := bits_and_u64_nat a 4294967295 (by omega) (by omega)
  have e : a &&& 4294967295 = a % 4294967296 := Nat.and_two_pow_sub_one_eq_mod a 32
  rw [e] at h
  exact h

theorem le_mul_of {a b c d : Int} (ha : 0 ≤ a) (hb : 0 ≤ b) (hc : a ≤ c) (hd : b ≤ d) : 0 ≤ a * b ∧ a * b ≤ c * d :=
  ⟨Int.mul_nonneg ha hb, Int.mul_le_mul hc hd hb (Int.le_trans ha hc)⟩

theorem mul64_hi_eq (x y : Int) (hx : 0 ≤ x ∧ x ≤ 18446744073709551615) (hy : 0 ≤ y ∧ y ≤ 18446744073709551615) :
    IntKind.u64.wrap (IntKind.u64.wrap (IntKind.u64.wrap (x / 4294967296 * (y / 4294967296)) +
      IntKind.u64.wrap (IntKind.u64.wrap (x / 4294967296 * bits .and .u64 y 4294967295) + IntKind.u64.wrap (bits .and .u64 x 4294967295 * bits .and .u64 y 4294967295) / 4294967296) / 4294967296) +
      IntKind.u64.wrap (bits .and .u64 (IntKind.u64.wrap (IntKind.u64.wrap (x / 4294967296 * bits .and .u64 y 4294967295) + IntKind.u64.wrap (bits .and .u64 x 4294967295 * bits .and .u64 y 4294967295) / 4294967296)) 4294967295 +
        IntKind.u64.wrap (bits .and .u64 x 4294967295 * (y / 4294967296))) / 4294967296) = x * y / 18446744073709551616 := by
  rw [mask32 x hx.1 hx.2, mask32 y hy.1 hy.2]
  have ex : x = x / 4294967296 * 4294967296 + x % 4294967296 := by omega
  have ey : y = y / 4294967296 * 4294967296 + y % 4294967296 := by omega
  have bx1 : 0 ≤ x / 4294967296 ∧ x / 4294967296 ≤ 4294967295 := by omega
  have by1 : 0 ≤ y / 4294967296 ∧ y / 4294967296 ≤ 4294967295 := by omega
  have bx0 : 0 ≤ x % 4294967296 ∧ x % 4294967296 ≤ 4294967295 := by omega
  have by0 : 0 ≤ y % 4294967296 ∧ y % 4294967296 ≤ 4294967295 := by omega
  have e : x * y = x / 4294967296 * (y / 4294967296) * 18446744073709551616 + (x / 4294967296 * (y % 4294967296) + x % 4294967296 * (y / 4294967296)) * 4294967296 + x % 4294967296 * (y % 4294967296) := by
    conv => lhs; rw [ex, ey]
    simp only [Int.add_mul, Int.mul_add]
    have a1 : x / 4294967296 * 4294967296 * (y / 4294967296 * 4294967296) = x / 4294967296 * (y / 4294967296) * 18446744073709551616 := by
      rw [Int.mul_assoc, Int.mul_comm (4294967296 : Int) (y / 4294967296 * 4294967296), Int.mul_assoc (y / 4294967296), ← Int.mul_assoc]; rfl
    have a2 : x / 4294967296 * 4294967296 * (y % 4294967296) = x / 4294967296 * (y % 4294967296) * 4294967296 := by rw [Int.mul_assoc, Int.mul_comm (4294967296 : Int) (y % 4294967296), ← Int.mul_assoc]
    have a3 : x % 4294967296 * (y / 4294967296 * 4294967296) = x % 4294967296 * (y / 4294967296) * 4294967296 := by rw [← Int.mul_assoc]
    rw [a1, a2, a3]
    generalize x / 4294967296 * (y / 4294967296) = p
    generalize x / 4294967296 * (y % 4294967296) = q
    generalize x % 4294967296 * (y / 4294967296) = r
    generalize x % 4294967296 * (y % 4294967296) = s
    omega
  have p1 := le_mul_of bx1.1 by1.1 bx1.2 by1.2
  have p2 := le_mul_of bx1.1 by0.1 bx1.2 by0.2
  have p3 := le_mul_of bx0.1 by1.1 bx0.2 by1.2
  have p4 := le_mul_of bx0.1 by0.1 bx0.2 by0.2
  rw [e]
  clear e ex ey bx1 by1 bx0 by0
  generalize x / 4294967296 * (y / 4294967296) = p at *
  generalize x / 4294967296 * (y % 4294967296) = q at *
  generalize x % 4294967296 * (y / 4294967296) = r at *
  generalize x % 4294967296 * (y % 4294967296) = s at *
  have e1 : IntKind.u64.wrap s = s := by rw [u64_eq]; omega
  have e2 : IntKind.u64.wrap q = q := by rw [u64_eq]; omega
  have e3 : IntKind.u64.wrap r = r := by rw [u64_eq]; omega
  have e4 : IntKind.u64.wrap p = p := by rw [u64_eq]; omega
  have e5 : IntKind.u64.wrap (q + s / 4294967296) = q + s / 4294967296 := by rw [u64_eq]; omega
  rw [e1, e2, e3, e4, e5, mask32 _ (by omega) (by omega)]
  simp only [u64_eq]
  omega

/-! Len64 -/
theorem bitLen_small : ∀ i : Fin 256, i.val ≠ 0 → i.val < 2 ^ Lib.bitLen i.val ∧ 2 ^ Lib.bitLen i.val ≤ 2 * i.val ∧ Lib.bitLen i.val ≤ 8 := by decide +kernel
theorem len_fin (y i : Int) (k : Nat) (K : Nat) (hK : 2 ^ k = K) (hi : i = y / K) (h0 : 1 ≤ i) (h1 : i ≤ 255) (hk : k ≤ 56) (hK0 : 0 < K) :
    ∃ s : Nat, (k : Int) + (Lib.bitLen i.toNat : Int) = (s : Int) ∧ y < (2 ^ s : Nat) ∧ ((2 ^ s : Nat) : Int) ≤ 2 * y ∧ s ≤ 64 := by
  obtain ⟨h2, h3, h4⟩ := bitLen_small ⟨i.toNat, by omega⟩ (by show i.toNat ≠ 0; omega)
  simp only at h2 h3 h4
  refine ⟨k + Lib.bitLen i.toNat, by omega, ?_, ?_, by omega⟩
  all_goals
    rw [Nat.pow_add, hK]
    generalize 2 ^ Lib.bitLen i.toNat = P at *
    have hP : (i.toNat : Int) = i := by omega
    have hd : (K : Int) * (y / K) + y % K = y := Int.mul_ediv_add_emod y K
    have hm : 0 ≤ y % K := Int.emod_nonneg _ (by omega)
    have hm2 : y % K < K := Int.emod_lt_of_pos _ (by omega)
    rw [← hi] at hd
    push_cast
  · have : (K : Int) * (i + 1) ≤ K * P := Int.mul_le_mul_of_nonneg_left (by omega) (by omega)
    rw [Int.mul_add] at this; omega
  · have : (K : Int) * P ≤ K * (2 * i) := Int.mul_le_mul_of_nonneg_left (by omega) (by omega)
    have e : (K : Int) * (2 * i) = 2 * (K * i) := by rw [Int.mul_left_comm]
    omega
theorem lead_fin (y : Int) (s : Nat) (h1 : y < (2 ^ s : Nat)) (h2 : ((2 ^ s : Nat) : Int) ≤ 2 * y) (h3 : s ≤ 64) (h0 : 1 ≤ y) :
    9223372036854775808 ≤ y * (2 ^ (64 - s) : Nat) ∧ y * (2 ^ (64 - s) : Nat) ≤ 18446744073709551615 ∧ 64 - s ≤ 63 := by
  have hs : s ≠ 0 := by rintro rfl; simp at h1; omega
  have e : 2 ^ s * 2 ^ (64 - s) = 18446744073709551616 := by rw [← Nat.pow_add, show s + (64 - s) = 64 by omega]
  have hp : 0 < 2 ^ (64 - s) := Nat.two_pow_pos _
  generalize 2 ^ (64 - s) = Q at *
  generalize 2 ^ s = P at *
  have e' : (P : Int) * Q = 18446744073709551616 := by omega
  have a1 : (y + 1) * Q ≤ P * Q := Int.mul_le_mul_of_nonneg_right (by omega) (by omega)
  have a2 : (P : Int) * Q ≤ (2 * y) * Q := Int.mul_le_mul_of_nonneg_right h2 (by omega)
  rw [Int.add_mul] at a1
  rw [Int.mul_assoc] at a2
  refine ⟨by omega, by omega, by omega⟩
end Go.Proofs.Ytlhfelelgkkblaa

namespace Go.Proofs.Ytlhfelelgkkblaa
open Go.RowKit

end Go.Proofs.Ytlhfelelgkkblaa

namespace Go.Proofs.Ytlhfelelgkkblaa
open Go.RowKit

theorem len8_size : Lib.len8tab.size = 256 := by kernel_rfl
theorem len8_at : ∀ i : Fin 256, (Lib.len8tab[i.val]'(by have := i.isLt; rw [len8_size]; omega)).toNat = Lib.bitLen i.val := by decide +kernel
theorem len8_int (z : Int) (h : z.toNat < Lib.len8tab.size) (h0 : 1 ≤ z) (h1 : z ≤ 255) : (Lib.len8tab[z.toNat]'h).toNat = Lib.bitLen z.toNat := len8_at ⟨z.toNat, by omega⟩
theorem len_done (y z : Int) (k K : Nat) (h : z.toNat < Lib.len8tab.size) (hK : 2 ^ k = K) (hz : z = y / K) (h0 : 1 ≤ z) (h1 : z ≤ 255) (hk : k ≤ 56) (hK0 : 0 < K) :
    ∃ s : Nat, Ending.returned (.int .i64 (wrap64 ((k : Int) + wrap64 (((Lib.len8tab[z.toNat]'h).toNat : Nat) : Int)))) = .returned (.int .i64 (s : Int)) ∧ y < (2 ^ s : Nat) ∧ ((2 ^ s : Nat) : Int) ≤ 2 * y ∧ s ≤ 64 := by
  obtain ⟨s, h2, h3, h4, h5⟩ := len_fin y z k K hK hz h0 h1 hk hK0
  have hb : Lib.bitLen z.toNat ≤ 8 := (bitLen_small ⟨z.toNat, by omega⟩ (by show z.toNat ≠ 0; omega)).2.2
  have e1 : wrap64 ((Lib.bitLen z.toNat : Nat) : Int) = (Lib.bitLen z.toNat : Int) := wrap64_of _ _ 0 (by omega) (by unfold R64; omega)
  have e2 : wrap64 ((k : Int) + (Lib.bitLen z.toNat : Int)) = (s : Int) := wrap64_of _ _ 0 (by omega) (by unfold R64; omega)
  refine ⟨s, ?_, h3, h4, h5⟩
  rw [len8_int z h h0 h1, e1, e2]
theorem len_done0 (y : Int) (h : y.toNat < Lib.len8tab.size) (h0 : 1 ≤ y) (h1 : y ≤ 255) :
    ∃ s : Nat, Ending.returned (.int .i64 (wrap64 (wrap64 (((Lib.len8tab[y.toNat]'h).toNat : Nat) : Int)))) = .returned (.int .i64 (s : Int)) ∧ y < (2 ^ s : Nat) ∧ ((2 ^ s : Nat) : Int) ≤ 2 * y ∧ s ≤ 64 := by
  obtain ⟨s, h2, h3, h4, h5⟩ := len_fin y y 0 1 rfl (by omega) h0 h1 (by omega) (by omega)
  have hb : Lib.bitLen y.toNat ≤ 8 := (bitLen_small ⟨y.toNat, by omega⟩ (by show y.toNat ≠ 0; omega)).2.2
  have e1 : wrap64 ((Lib.bitLen y.toNat : Nat) : Int) = (s : Int) := wrap64_of _ _ 0 (by omega) (by unfold R64; omega)
  refine ⟨s, ?_, h3, h4, h5⟩
  have e2 : wrap64 (s : Int) = (s : Int) := wrap64_of _ _ 0 (by omega) (by unfold R64; omega)
  rw [len8_int y h h0 h1, e1, e2]
set_option maxRecDepth 100000 in
set_option maxHeartbeats 1000000 in
theorem len64_any (y : Int) (hy0 : 1 ≤ y) (hy : y ≤ 18446744073709551615) (w : World) :
    Calls Try.prog 86 #[.int .u64 y] w fun e w' => (∃ s : Nat, e = .returned (.int .i64 (s : Int)) ∧ y < (2 ^ s : Nat) ∧ ((2 ^ s : Nat) : Int) ≤ 2 * y ∧ s ≤ 64) ∧ w' = w := by
  have hs : Lib.len8tab.size = 256 := len8_size
  go_enter Try.func86, Try.ntmps86
  go_wp2
  all_goals (go_ret; refine ⟨?_, rfl⟩)
  all_goals first
    | exact len_done0 y _ (by omega) (by omega)
    | exact len_done y _ 8 256 _ rfl (by omega) (by omega) (by omega) (by omega) (by omega)
    | exact len_done y _ 16 65536 _ rfl (by omega) (by omega) (by omega) (by omega) (by omega)
    | exact len_done y _ 24 16777216 _ rfl (by omega) (by omega) (by omega) (by omega) (by omega)
    | exact len_done y _ 32 4294967296 _ rfl (by omega) (by omega) (by omega) (by omega) (by omega)
    | exact len_done y _ 40 1099511627776 _ rfl (by omega) (by omega) (by omega) (by omega) (by omega)
    | exact len_done y _ 48 281474976710656 _ rfl (by omega) (by omega) (by omega) (by omega) (by omega)
    | exact len_done y _ 56 72057594037927936 _ rfl (by omega) (by omega) (by omega) (by omega) (by omega)

end Go.Proofs.Ytlhfelelgkkblaa

namespace Go.Proofs.Ytlhfelelgkkblaa
open Go.RowKit

/-- What a call leaves alone: all cells of old blocks from B on; the marks; no block goes. -/
structure Up (B : Nat) (w w' : World) : Prop where
  size : w.heap.size ≤ w'.heap.size
  cell : ∀ b o, B ≤ b → b < w.heap.size → w'.cell? ⟨b, o, none⟩ = w.cell? ⟨b, o, none⟩
  froz : ∀ b o, w'.frozen? ⟨b, o, none⟩ = w.frozen? ⟨b, o, none⟩
theorem Gr.up {B : Nat} {w w' : World} (h : Gr w.heap.size w w') : Up B w w' := ⟨h.size, fun b o _ hb => h.cell b o hb, h.frozen⟩
theorem Up.mono {B C : Nat} {w w' : World} (h : Up B w w') (hB : B ≤ C) : Up C w w' := ⟨h.size, fun b o h1 h2 => h.cell b o (Nat.le_trans hB h1) h2, h.froz⟩

/-- Block b holds the cells cs, and may be written. -/
structure Blk (w : World) (b : Nat) (cs : List Value) : Prop where
  lt : b < w.heap.size
  all : ∀ o, o < cs.length → w.cell? ⟨b, o, none⟩ = cs[o]?
  froz : ∀ o, w.frozen? ⟨b, o, none⟩ = false
theorem Blk.cell {w : World} {b : Nat} {cs : List Value} (h : Blk w b cs) (o : Nat) (v : Value) (hv : cs[o]? = some v) : w.cell? ⟨b, o, none⟩ = some v := by
  have : o < cs.length := by
    rw [List.getElem?_eq_some_iff] at hv; exact hv.1
  rw [h.all o this, hv]
theorem Blk.new (w : World) (c : Array Value) (t : TypeId) {b : Nat} (hb : b = w.heap.size) : Blk (w.alloc (.cells c t)) b c.toList := by
  subst hb
  refine ⟨by simp, fun o _ => ?_, fun o => by simp⟩
  simp
theorem Blk.alloc {w : World} {b : Nat} {cs : List Value} (h : Blk w b cs) (o : Obj) : Blk (w.alloc o) b cs :=
  ⟨by have := h.lt; simp; omega, fun i hi => (World.cell?_alloc_past o b i h.lt).trans (h.all i hi), fun i => (World.frozen?_alloc_past o b i h.lt).trans (h.froz i)⟩
theorem Blk.drew {w : World} {b : Nat} {cs : List Value} (h : Blk w b cs) : Blk w.drew b cs := ⟨h.lt, h.all, h.froz⟩
theorem Blk.set {w : World} {b : Nat} {cs : List Value} (h : Blk w b cs) (o : Nat) (v : Value) (ho : o < cs.length) : Blk (w.setCell ⟨b, o, none⟩ v) b (cs.set o v) := by
  refine ⟨by simpa using h.lt, fun i hi => ?_, fun i => (World.frozen?_setCell _ _ _ _).trans (h.froz i)⟩
  rw [List.length_set] at hi
  by_cases e : o = i
  · subst e
    rw [World.cell?_setCell_same _ _ _ (u := cs[o]) (by rw [h.all o ho]; exact List.getElem?_eq_getElem ho)]
    simp [ho]
  · rw [World.cell?_setCell_other _ _ _ _ (by intro h'; exact e (by injection h'))]
    rw [h.all i hi, List.getElem?_set_ne e]
theorem Blk.other {w : World} {b : Nat} {cs : List Value} (h : Blk w b cs) {p : Addr} (hp : p.block ≠ b) (v : Value) : Blk (w.setCell p v) b cs := by
  refine ⟨by simpa using h.lt, fun i hi => ?_, fun i => (World.frozen?_setCell _ _ _ _).trans (h.froz i)⟩
  rw [World.cell?_setCell_other _ _ _ _ (by intro h'; exact hp (by rw [h']))]
  exact h.all i hi
theorem Blk.up {B : Nat} {w w' : World} {b : Nat} {cs : List Value} (h : Blk w b cs) (hu : Up B w w') (hB : B ≤ b) : Blk w' b cs :=
  ⟨Nat.lt_of_lt_of_le h.lt hu.size, fun i hi => (hu.cell b i hB h.lt).trans (h.all i hi), fun i => (hu.froz b i).trans (h.froz i)⟩
theorem Blk.gr {B : Nat} {w w' : World} {b : Nat} {cs : List Value} (h : Blk w b cs) (hu : Gr B w w') (hB : b < B) : Blk w' b cs :=
  ⟨Nat.lt_of_lt_of_le h.lt hu.size, fun i hi => (hu.cell b i hB).trans (h.all i hi), fun i => (hu.frozen b i).trans (h.froz i)⟩
/-- A cell behind stores into other blocks. -/
theorem far1 {w : World} {b o : Nat} {v x : Value} {p : Addr} (h : w.cell? ⟨b, o, none⟩ = some v) (hp : p.block ≠ b) : (w.setCell p x).cell? ⟨b, o, none⟩ = some v := by
  rw [World.cell?_setCell_other _ _ _ _ (by intro h'; exact hp (by rw [h']))]; exact h
theorem far1c {w : World} {b o c i : Nat} {v x : Value} (h : w.cell? ⟨b, o, none⟩ = some v) (hp : c ≠ b) : (w.setCell ⟨c, i, none⟩ x).cell? ⟨b, o, none⟩ = some v := far1 h hp
theorem far3 {w : World} {b o c : Nat} {i j k : Nat} {v x y z : Value} (h : w.cell? ⟨b, o, none⟩ = some v) (hp : c ≠ b) :
    (((w.setCell ⟨c, i, none⟩ x).setCell ⟨c, j, none⟩ y).setCell ⟨c, k, none⟩ z).cell? ⟨b, o, none⟩ = some v := far1 (far1 (far1 h hp) hp) hp
theorem far3d {w : World} {b o c : Nat} {i j k : Nat} {v x y z : Value} (h : w.cell? ⟨b, o, none⟩ = some v) (hp : c ≠ b) :
    (((w.setCell ⟨c, i, none⟩ x).setCell ⟨c, j, none⟩ y).setCell ⟨c, k, none⟩ z).drew.cell? ⟨b, o, none⟩ = some v := far3 h hp
end Go.Proofs.Ytlhfelelgkkblaa

namespace Go.Proofs.Ytlhfelelgkkblaa
open Go.RowKit

/-- A number's bytes. -/
def putN : Nat → Int → List Int
  | 0, x => [x]
  | n + 1, x => if x < 128 then [x] else (x % 128 + 128) :: putN n (x / 128)
theorem putN_lo {x : Int} (h : x < 128) : ∀ n, putN n x = [x]
  | 0 => rfl
  | _ + 1 => if_pos h
theorem putN_same : ∀ (n m : Nat) (x : Int), x.toNat ≤ n → x.toNat ≤ m → putN n x = putN m x
  | 0, m, x, h, _ => by rw [putN_lo (by omega) 0, putN_lo (by omega) m]
  | n + 1, 0, x, _, h => by rw [putN_lo (by omega) (n + 1), putN_lo (by omega) 0]
  | n + 1, m + 1, x, h1, h2 => by
    by_cases h : x < 128
    · rw [putN_lo h, putN_lo h]
    · show (if x < 128 then _ else _) = (if x < 128 then _ else _)
      rw [if_neg h, if_neg h, putN_same n m (x / 128) (by omega) (by omega)]
def put (x : Int) : List Int := putN x.toNat x
theorem put_lo {x : Int} (h : x < 128) : put x = [x] := putN_lo h _
theorem put_hi {x : Int} (h : 128 ≤ x) : put x = (x % 128 + 128) :: put (x / 128) := by
  unfold put
  obtain ⟨n, hn⟩ : ∃ n, x.toNat = n + 1 := ⟨x.toNat - 1, by omega⟩
  rw [hn]
  show (if x < 128 then _ else _) = _
  rw [if_neg (by omega), putN_same n (x / 128).toNat (x / 128) (by omega) (Nat.le_refl _)]

/-- The number that bytes stand for. -/
def val : List Int → Int
  | [] => 0
  | b :: r => b % 128 + 128 * val r
/-- How many bytes go on. -/
def lead : List Int → Nat
  | [] => 0
  | b :: r => if 128 ≤ b then lead r + 1 else 0
/-- All of them are bytes. -/
def Bytes (l : List Int) : Prop := ∀ b ∈ l, 0 ≤ b ∧ b ≤ 255

theorem Bytes.cons {b : Int} {l : List Int} : Bytes (b :: l) ↔ (0 ≤ b ∧ b ≤ 255) ∧ Bytes l := by
  unfold Bytes; simp
theorem Bytes.nil : Bytes [] := by unfold Bytes; simp
theorem Bytes.append {l r : List Int} (h : Bytes l) (k : Bytes r) : Bytes (l ++ r) := by
  intro b hb; rcases List.mem_append.1 hb with x | x
  · exact h b x
  · exact k b x
theorem Bytes.take {l : List Int} (h : Bytes l) (n : Nat) : Bytes (l.take n) := fun b hb => h b (List.mem_of_mem_take hb)
theorem Bytes.drop {l : List Int} (h : Bytes l) (n : Nat) : Bytes (l.drop n) := fun b hb => h b (List.mem_of_mem_drop hb)
theorem Bytes.at {l : List Int} (h : Bytes l) (i : Nat) : 0 ≤ l.getD i 0 ∧ l.getD i 0 ≤ 255 := by
  by_cases hi : i < l.length
  · have e : l.getD i 0 = l[i] := by simp [List.getD, hi]
    rw [e]; exact h _ (List.getElem_mem hi)
  · have e : l.getD i 0 = 0 := by simp [List.getD, hi]
    rw [e]; omega

theorem put_bytes : ∀ (n : Nat) (x : Int), x.toNat ≤ n → 0 ≤ x → Bytes (put x) := by
  intro n
  induction n with
  | zero => intro x h h0; rw [put_lo (by omega)]; exact Bytes.cons.2 ⟨by omega, Bytes.nil⟩
  | succ n ih =>
    intro x h h0
    by_cases hx : x < 128
    · rw [put_lo hx]; exact Bytes.cons.2 ⟨by omega, Bytes.nil⟩
    · rw [put_hi (by omega)]; exact Bytes.cons.2 ⟨by omega, ih _ (by omega) (by omega)⟩
theorem put_ok {x : Int} (h : 0 ≤ x) : Bytes (put x) := put_bytes x.toNat x (Nat.le_refl _) h

theorem put_val : ∀ (n : Nat) (x : Int), x.toNat ≤ n → 0 ≤ x → val (put x) = x := by
  intro n
  induction n with
  | zero => intro x h h0; rw [put_lo (by omega)]; simp only [val]; omega
  | succ n ih =>
    intro x h h0
    by_cases hx : x < 128
    · rw [put_lo hx]; simp only [val]; omega
    · rw [put_hi (by omega)]; simp only [val]; rw [ih _ (by omega) (by omega)]; omega
theorem val_put {x : Int} (h : 0 ≤ x) : val (put x) = x := put_val x.toNat x (Nat.le_refl _) h
theorem put_pos (x : Int) : 1 ≤ (put x).length := by
  by_cases h : x < 128
  · rw [put_lo h]; simp
  · rw [put_hi (by omega)]; simp
theorem put_ne (x : Int) : put x ≠ [] := by have := put_pos x; intro h; rw [h] at this; simp at this

/-- How many bytes a number has, by powers. -/
theorem put_len : ∀ (n : Nat) (x : Int), 0 ≤ x → x < (128 ^ (n + 1) : Nat) → (n = 0 ∨ ((128 ^ n : Nat) : Int) ≤ x) → (put x).length = n + 1 := by
  intro n
  induction n with
  | zero => intro x h0 h1 _; rw [put_lo (by simpa using h1)]; rfl
  | succ n ih =>
    intro x h0 h1 h2
    have h3 : ((128 ^ (n + 1) : Nat) : Int) ≤ x := by rcases h2 with h | h; · omega
                                                      · exact h
    have p0 : 0 < 128 ^ n := Nat.pow_pos (by omega)
    have e1 : 128 ^ (n + 1) = 128 ^ n * 128 := Nat.pow_succ ..
    have e2 : 128 ^ (n + 1 + 1) = 128 ^ n * 128 * 128 := by rw [Nat.pow_succ, Nat.pow_succ]
    generalize hp : 128 ^ n = p at *
    rw [put_hi (by omega), List.length_cons, ih (x / 128) (by omega) (by omega) (by right; omega)]
theorem put_le : ∀ (n : Nat) (x : Int), 0 ≤ x → x < (128 ^ (n + 1) : Nat) → (put x).length ≤ n + 1 := by
  intro n
  induction n with
  | zero => intro x h0 h1; rw [put_lo (by simpa using h1)]; simp
  | succ n ih =>
    intro x h0 h1
    by_cases hx : x < 128
    · rw [put_lo hx]; simp
    · have e2 : 128 ^ (n + 1 + 1) = 128 ^ (n + 1) * 128 := Nat.pow_succ ..
      generalize hp : 128 ^ (n + 1) = p at *
      rw [put_hi (by omega), List.length_cons]
      have := ih (x / 128) (by omega) (by omega)
      omega
theorem put_ten {x : Int} (h0 : 0 ≤ x) (h1 : x ≤ 18446744073709551615) : (put x).length ≤ 10 :=
  put_le 9 x h0 (by have : (128 ^ (9 + 1) : Nat) = 1180591620717411303424 := by decide
                    rw [this]; omega)
theorem put_up : ∀ (n : Nat) (x y : Int), x.toNat ≤ n → 0 ≤ x → x ≤ y → (put x).length ≤ (put y).length := by
  intro n
  induction n with
  | zero => intro x y h h0 h1; rw [put_lo (by omega)]; exact put_pos y
  | succ n ih =>
    intro x y h h0 h1
    by_cases hx : x < 128
    · rw [put_lo hx]; exact put_pos y
    · rw [put_hi (x := x) (by omega), put_hi (x := y) (by omega)]
      have := ih (x / 128) (y / 128) (by omega) (by omega) (by omega)
      simp only [List.length_cons]; omega

/-! what goes on, and what stands behind -/
theorem lead_put : ∀ (n : Nat) (x : Int) (r : List Int), x.toNat ≤ n → 0 ≤ x → lead (put x ++ r) + 1 = (put x).length := by
  intro n
  induction n with
  | zero => intro x r h h0; rw [put_lo (by omega)]; simp [lead]; omega
  | succ n ih =>
    intro x r h h0
    by_cases hx : x < 128
    · rw [put_lo hx]; simp [lead]; omega
    · rw [put_hi (by omega)]
      have := ih (x / 128) r (by omega) (by omega)
      simp only [List.cons_append, lead, List.length_cons]
      rw [if_pos (by omega)]; omega
theorem lead_of {x : Int} (h : 0 ≤ x) (r : List Int) : lead (put x ++ r) + 1 = (put x).length := lead_put x.toNat x r (Nat.le_refl _) h
theorem lead_le : ∀ l : List Int, lead l ≤ l.length
  | [] => by simp [lead]
  | b :: r => by simp only [lead]; split <;> have := lead_le r <;> simp <;> omega
theorem lead_at : ∀ (l : List Int) (i : Nat), i < lead l → 128 ≤ l.getD i 0
  | [], i, h => by simp [lead] at h
  | b :: r, i, h => by
    simp only [lead] at h
    split at h
    · cases i with
      | zero => simpa using ‹128 ≤ b›
      | succ i => have := lead_at r i (by omega); simpa using this
    · omega
theorem lead_end : ∀ (l : List Int), lead l < l.length → l.getD (lead l) 0 < 128
  | [], h => by simp [lead] at h
  | b :: r, h => by
    simp only [lead] at h ⊢
    split at h
    · rw [if_pos ‹_›]; have := lead_end r (by simpa using h); simpa using this
    · rw [if_neg ‹_›]; simp; omega
/-- All up to n go on, the one at n doesn't. -/
theorem lead_is : ∀ (l : List Int) (n : Nat), (∀ j, j < n → 128 ≤ l.getD j 0) → n < l.length → l.getD n 0 < 128 → lead l = n
  | [], n, _, h, _ => by simp at h
  | b :: r, n, ha, h, he => by
    cases n with
    | zero => simp only [lead]; rw [if_neg (by simpa using he)]
    | succ n =>
      simp only [lead]
      rw [if_pos (by simpa using ha 0 (by omega)), lead_is r n (fun j hj => by simpa using ha (j + 1) (by omega)) (by simpa using h) (by simpa using he)]
theorem lead_all : ∀ (l : List Int) (n : Nat), (∀ j, j < n → 128 ≤ l.getD j 0) → n ≤ l.length → n ≤ lead l
  | [], n, _, h => by simp at h; omega
  | b :: r, n, ha, h => by
    cases n with
    | zero => omega
    | succ n =>
      simp only [lead]
      rw [if_pos (by simpa using ha 0 (by omega))]
      have := lead_all r n (fun j hj => by simpa using ha (j + 1) (by omega)) (by simpa using h)
      omega

/-! values -/
theorem val_nn : ∀ l : List Int, 0 ≤ val l
  | [] => by simp [val]
  | b :: r => by simp only [val]; have := val_nn r; omega
theorem val_drop : ∀ (k : Nat) (l : List Int), val (l.drop k) ≤ val l := by
  intro k
  induction k with
  | zero => intro l; simp
  | succ k ih =>
    intro l
    cases l with
    | nil => simp
    | cons b r => have := ih r; have := val_nn r; simp only [List.drop_succ_cons, val]; omega
theorem val_at (l : List Int) (k : Nat) (h : k < l.length) : val (l.drop k) = l.getD k 0 % 128 + 128 * val (l.drop (k + 1)) := by
  rw [List.drop_eq_getElem_cons h]
  simp only [val, List.getD, List.getElem?_eq_getElem h, Option.getD_some]
theorem val_over (l : List Int) (k : Nat) (h : k < l.length) (hb : 144115188075855871 < val (l.drop (k + 1))) : 18446744073709551616 ≤ val l := by
  have h1 := val_at l k h
  have h2 := val_drop k l
  omega
theorem val_snoc : ∀ (l : List Int) (b : Int), val (l ++ [b]) = val l + (128 ^ l.length : Nat) * (b % 128)
  | [], b => by simp [val]
  | c :: r, b => by
    simp only [List.cons_append, val, val_snoc r b, List.length_cons]
    have e : ((128 ^ (r.length + 1) : Nat) : Int) = 128 * (128 ^ r.length : Nat) := by rw [Nat.pow_succ]; push_cast; omega
    rw [e, Int.mul_add, ← Int.mul_assoc]; omega
theorem val_lt : ∀ (l : List Int), val l < (128 ^ l.length : Nat)
  | [] => by simp [val]
  | b :: r => by
    have h := val_lt r
    have e : 128 ^ (r.length + 1) = 128 ^ r.length * 128 := Nat.pow_succ ..
    simp only [val, List.length_cons]
    rw [e]
    generalize 128 ^ r.length = p at *
    omega
theorem take_snoc' (l : List Int) (k : Nat) (h : k < l.length) : l.take (k + 1) = l.take k ++ [l.getD k 0] := by
  rw [List.take_succ_eq_append_getElem h]; simp [List.getD, List.getElem?_eq_getElem h]
theorem val_take (l : List Int) (k : Nat) (h : k < l.length) : val (l.take (k + 1)) = val (l.take k) + (128 ^ k : Nat) * (l.getD k 0 % 128) := by
  rw [take_snoc' l k h, val_snoc, List.length_take_of_le (by omega)]
theorem val_take_lt (l : List Int) (k : Nat) (h : k ≤ l.length) : val (l.take k) < (128 ^ k : Nat) := by
  have := val_lt (l.take k); rwa [List.length_take_of_le h] at this

/-! what Get answers -/
def got (l : List Int) : Int × Int × Int :=
  if l = [] then (0, 0, 5)
  else if 10 ≤ lead l then (0, 0, 8)
  else if lead l = l.length then (0, 0, 6)
  else if 18446744073709551616 ≤ val (l.take (lead l + 1)) then (0, 0, 8)
  else if 0 < lead l ∧ l.getD (lead l) 0 = 0 then (0, 0, 7)
  else (val (l.take (lead l + 1)), (lead l : Int) + 1, 0)

theorem put_last : ∀ (n : Nat) (x : Int) (r : List Int), x.toNat ≤ n → 128 ≤ x → (put x ++ r).getD ((put x).length - 1) 0 ≠ 0 := by
  intro n
  induction n with
  | zero => intro x r h h0; omega
  | succ n ih =>
    intro x r h h0
    rw [put_hi h0]
    by_cases hx : x / 128 < 128
    · rw [put_lo hx]; simp; omega
    · have := ih (x / 128) r (by omega) (by omega)
      have hp := put_pos (x / 128)
      simp only [List.length_cons, List.cons_append]
      rw [show (put (x / 128)).length + 1 - 1 = ((put (x / 128)).length - 1) + 1 by omega]
      simpa using this
theorem got_put {x : Int} (h0 : 0 ≤ x) (h1 : x ≤ 18446744073709551615) (r : List Int) : got (put x ++ r) = (x, ((put x).length : Int), 0) := by
  have hl := lead_of h0 r
  have h10 := put_ten h0 h1
  have hp := put_pos x
  have ht : (put x ++ r).take (lead (put x ++ r) + 1) = put x := by rw [hl, List.take_left]
  unfold got
  rw [if_neg (by simp [put_ne]), if_neg (by omega), if_neg (by rw [List.length_append]; omega), ht, val_put h0, if_neg (by omega), if_neg]
  · rw [show ((lead (put x ++ r) : Int) + 1) = ((put x).length : Int) by omega]
  · rintro ⟨a, b⟩
    have e : lead (put x ++ r) = (put x).length - 1 := by omega
    rw [e] at b
    refine put_last x.toNat x r (Nat.le_refl _) ?_ b
    by_cases hx : x < 128
    · have : (put x).length = 1 := by rw [put_lo hx]; rfl
      omega
    · omega
theorem lead_cut : ∀ (n : Nat) (x : Int) (i : Nat), x.toNat ≤ n → 0 ≤ x → i < (put x).length → lead ((put x).take i) = i := by
  intro n
  induction n with
  | zero => intro x i h h0 hi; rw [put_lo (by omega)] at hi ⊢; simp at hi; subst hi; simp [lead]
  | succ n ih =>
    intro x i h h0 hi
    by_cases hx : x < 128
    · rw [put_lo hx] at hi ⊢; simp at hi; subst hi; simp [lead]
    · rw [put_hi (by omega)] at hi ⊢
      cases i with
      | zero => simp [lead]
      | succ i =>
        simp only [List.take_succ_cons, lead]
        rw [if_pos (by omega), ih (x / 128) i (by omega) (by omega) (by simpa using hi)]
theorem got_cut {x : Int} (h0 : 0 ≤ x) (h1 : x ≤ 18446744073709551615) (i : Nat) (hi0 : 1 ≤ i) (hi : i < (put x).length) : got ((put x).take i) = (0, 0, 6) := by
  have hl := lead_cut x.toNat x i (Nat.le_refl _) h0 hi
  have h10 := put_ten h0 h1
  have hlen : ((put x).take i).length = i := List.length_take_of_le (by omega)
  unfold got
  rw [if_neg (by intro h; rw [h] at hlen; simp at hlen; omega), if_neg (by omega), if_pos (by omega)]
/-- A row of bytes of the form is the number's. -/
theorem put_back : ∀ (l : List Int), Bytes l → (∀ i, i + 1 < l.length → 128 ≤ l.getD i 0) → l.getD (l.length - 1) 0 < 128 → l ≠ [] → (1 < l.length → l.getD (l.length - 1) 0 ≠ 0) → put (val l) = l
  | [], _, _, _, h, _ => absurd rfl h
  | [b], hb, _, hl, _, _ => by
    have := (Bytes.cons.1 hb).1
    simp at hl
    simp only [val]; rw [put_lo (by omega)]; congr 1; omega
  | b :: c :: r, hb, ha, hl, _, hz => by
    have h1 := (Bytes.cons.1 hb).1
    have h2 := ha 0 (by simp)
    simp only [List.getD_cons_zero] at h2
    have ih := put_back (c :: r) (Bytes.cons.1 hb).2 (fun i hi => by have := ha (i + 1) (by simpa using hi); simpa using this) (by simpa using hl) (by simp) (fun _ => by have := hz (by simp); simpa using this)
    have hv : 0 < val (c :: r) := by
      have hn := val_nn (c :: r)
      rcases Int.lt_or_eq_of_le hn with h | h
      · exact h
      · exfalso
        rw [← h, put_lo (by omega)] at ih
        injection ih with e1 e2
        have := hz (by simp)
        rw [← e1, ← e2] at this
        simp at this
    simp only [val] at hv ⊢
    rw [put_hi (by omega)]
    have e1 : (b % 128 + 128 * (c % 128 + 128 * val r)) / 128 = c % 128 + 128 * val r := by omega
    rw [e1]
    simp only [val] at ih
    rw [ih]
    congr 1
    omega
theorem put_got {l : List Int} (hb : Bytes l) (z k : Int) (h : got l = (z, k, 0)) : 0 ≤ z ∧ z ≤ 18446744073709551615 ∧ ∃ n : Nat, k = n ∧ 1 ≤ n ∧ n ≤ l.length ∧ put z = l.take n := by
  unfold got at h
  split at h
  · simp at h
  split at h
  · simp at h
  split at h
  · simp at h
  split at h
  · simp at h
  split at h
  · simp at h
  have hle := lead_le l
  simp only [Prod.mk.injEq, and_true] at h
  obtain ⟨rfl, rfl⟩ := h
  refine ⟨val_nn _, by omega, lead l + 1, by omega, by omega, by omega, ?_⟩
  have hlen : (l.take (lead l + 1)).length = lead l + 1 := List.length_take_of_le (by omega)
  have ga : ∀ i, i < lead l + 1 → (l.take (lead l + 1)).getD i 0 = l.getD i 0 := fun i hi => by simp [List.getD, hi]
  refine put_back _ (hb.take _) (fun i hi => ?_) ?_ (by intro h; rw [h] at hlen; simp at hlen) (fun h1 => ?_)
  · rw [ga i (by omega)]; exact lead_at l i (by omega)
  · rw [hlen, ga _ (by omega)]; exact lead_end l (by omega)
  · rw [hlen, ga _ (by omega)]
    intro h; exact ‹¬(0 < lead l ∧ _)› ⟨by omega, h⟩
theorem got_err (l : List Int) : (got l).2.2 = 0 ∨ ((got l).1 = 0 ∧ (got l).2.1 = 0) := by
  unfold got
  split <;> (try split) <;> (try split) <;> (try split) <;> (try split) <;> simp
theorem got_bd (l : List Int) : 0 ≤ (got l).1 ∧ (got l).1 ≤ 18446744073709551615 ∧ 0 ≤ (got l).2.1 ∧ (got l).2.1 ≤ 10 ∧ 0 ≤ (got l).2.2 ∧ (got l).2.2 ≤ 8 := by
  have h := val_nn (l.take (lead l + 1))
  unfold got
  split <;> (try split) <;> (try split) <;> (try split) <;> (try split) <;> simp <;> omega

/-! bytes by their places -/
theorem put_at : ∀ (j : Nat) (x : Int), 0 ≤ x → j < (put x).length → (put x).getD j 0 = x / (128 ^ j : Nat) % 128 + if j + 1 < (put x).length then 128 else 0 := by
  intro j
  induction j with
  | zero =>
    intro x h0 hj
    by_cases hx : x < 128
    · rw [put_lo hx]; simp; omega
    · rw [put_hi (by omega)]
      have := put_pos (x / 128)
      rw [if_pos (by simp; omega)]; simp
  | succ j ih =>
    intro x h0 hj
    by_cases hx : x < 128
    · rw [put_lo hx] at hj; simp at hj
    · rw [put_hi (by omega)] at hj ⊢
      have := ih (x / 128) (by omega) (by simpa using hj)
      have e : x / 128 / ((128 ^ j : Nat) : Int) = x / ((128 ^ (j + 1) : Nat) : Int) := by
        rw [Int.ediv_ediv, if_neg (by omega), Int.sub_zero]; congr 1; rw [Nat.pow_succ, Nat.mul_comm]; rfl
      rw [e] at this
      simp only [List.length_cons] at hj ⊢
      rw [List.getD_cons_succ, this]
      by_cases h2 : j + 1 < (put (x / 128)).length
      · rw [if_pos h2, if_pos (by omega)]
      · rw [if_neg h2, if_neg (by omega)]
/-- What Put has laid down behind k rounds. -/
def stage (x : Int) (n k : Nat) : List Int := (List.range n).map fun j => if j < k then x / (128 ^ j : Nat) % 128 + 128 else 0
theorem stage_len (x : Int) (n k : Nat) : (stage x n k).length = n := by simp [stage]
theorem stage_zero (x : Int) (n : Nat) : stage x n 0 = List.replicate n 0 := by
  apply List.ext_getElem <;> simp [stage]
theorem stage_succ (x : Int) (n k : Nat) : (stage x n k).set k (x / (128 ^ k : Nat) % 128 + 128) = stage x n (k + 1) := by
  apply List.ext_getElem
  · simp [stage]
  · intro i h1 h2
    simp only [stage, List.getElem_set, List.getElem_map, List.getElem_range]
    by_cases hk : k = i
    · subst hk; simp
    · rw [if_neg hk]
      by_cases h : i < k
      · rw [if_pos h, if_pos (by omega)]
      · rw [if_neg h, if_neg (by omega)]
theorem stage_last (x : Int) (n : Nat) (h : 1 ≤ n) : (stage x n n).getD (n - 1) 0 = x / (128 ^ (n - 1) : Nat) % 128 + 128 := by
  simp only [stage, List.getD]
  rw [List.getElem?_map, List.getElem?_range (by omega)]
  simp; omega
theorem stage_end {x : Int} {n : Nat} (h0 : 0 ≤ x) (h : (put x).length = n) : (stage x n n).set (n - 1) (x / (128 ^ (n - 1) : Nat) % 128) = put x := by
  apply List.ext_getElem
  · simp [stage, h]
  · intro i h1 h2
    have hp := put_at i x h0 h2
    have e : (put x).getD i 0 = (put x)[i] := by simp [List.getD, h2]
    rw [e] at hp
    rw [hp]
    simp only [stage, List.getElem_set, List.getElem_map, List.getElem_range]
    by_cases hk : n - 1 = i
    · subst hk; rw [if_pos rfl, if_neg (by omega)]; omega
    · rw [if_neg hk, if_pos (by omega), if_pos (by omega)]

/-! the other sign -/
def zig (x : Int) : Int := if 0 ≤ x then 2 * x else -2 * x - 1
def zag (x : Int) : Int := if x % 2 = 0 then x / 2 else -(x / 2) - 1
theorem zig_bd {x : Int} (h : -9223372036854775808 ≤ x ∧ x ≤ 9223372036854775807) : 0 ≤ zig x ∧ zig x ≤ 18446744073709551615 := by unfold zig; split <;> omega
theorem zag_bd {x : Int} (h : 0 ≤ x ∧ x ≤ 18446744073709551615) : -9223372036854775808 ≤ zag x ∧ zag x ≤ 9223372036854775807 := by unfold zag; split <;> omega
theorem zag_zig (x : Int) : zag (zig x) = x := by unfold zag zig; split <;> split <;> omega
theorem zig_zag {x : Int} (h : 0 ≤ x) : zig (zag x) = x := by unfold zag zig; split <;> split <;> omega
end Go.Proofs.Ytlhfelelgkkblaa
