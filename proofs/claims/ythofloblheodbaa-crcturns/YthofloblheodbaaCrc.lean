/-
  Layer 6 (crc): the sum of bytes (no program in sight): what one bit makes of it, what a byte does, what bytes do; that no two numbers become one.
-/
import Derived.Test.YthofloblheodbaaVint
import Derived.Laws.BitsAllLaws
namespace Go.Proofs.Ythofloblheodbaa
open Go.RowKit

/-- What each bit of a byte makes of s. -/
def half (s : Nat) : Nat := if s % 2 = 1 then s / 2 ^^^ 3988292384 else s / 2
/-- n of them. -/
def halfs : Nat → Nat → Nat
  | 0, s => s
  | n + 1, s => half (halfs n s)
/-- What a byte does. -/
def eat (s : Nat) (c : Int) : Nat := halfs 8 (s ^^^ c.toNat)
/-- What bytes do. -/
def eats (s : Nat) (l : List Int) : Nat := l.foldl eat s
/-- The sum goes on. -/
def more (s : Nat) (l : List Int) : Nat := 4294967295 ^^^ eats (4294967295 ^^^ s) l
/-- The sum. -/
def sum (l : List Int) : Nat := more 0 l
/-- Its bytes, the highest first. -/
def four (s : Nat) : List Int := [((s / 16777216 % 256 : Nat) : Int), ((s / 65536 % 256 : Nat) : Int), ((s / 256 % 256 : Nat) : Int), ((s % 256 : Nat) : Int)]

theorem xor_lt {a b : Nat} (ha : a < 4294967296) (hb : b < 4294967296) : a ^^^ b < 4294967296 := Nat.xor_lt_two_pow (n := 32) ha hb
theorem xor_back (a b : Nat) : a ^^^ (a ^^^ b) = b := by rw [← Nat.xor_assoc, Nat.xor_self, Nat.zero_xor]
theorem xor_inj {a b c : Nat} (h : a ^^^ b = a ^^^ c) : b = c := by rw [← xor_back a b, h, xor_back]
theorem half_lt {s : Nat} (h : s < 4294967296) : half s < 4294967296 := by
  unfold half; split
  · exact xor_lt (by omega) (by omega)
  · omega
theorem halfs_lt {s : Nat} (h : s < 4294967296) : ∀ n, halfs n s < 4294967296
  | 0 => h
  | n + 1 => half_lt (halfs_lt h n)
theorem byte_lt {c : Int} (hc : 0 ≤ c ∧ c ≤ 255) : c.toNat < 256 := by omega
theorem eat_lt {s : Nat} {c : Int} (h : s < 4294967296) (hc : 0 ≤ c ∧ c ≤ 255) : eat s c < 4294967296 := halfs_lt (xor_lt h (by omega)) 8
theorem eats_lt {l : List Int} (hb : Bytes l) : ∀ {s : Nat}, s < 4294967296 → eats s l < 4294967296 := by
  induction l with
  | nil => intro s h; exact h
  | cons c l ih => intro s h; exact ih (Bytes.cons.1 hb).2 (eat_lt h (Bytes.cons.1 hb).1)
theorem more_lt {s : Nat} {l : List Int} (h : s < 4294967296) (hb : Bytes l) : more s l < 4294967296 := xor_lt (by omega) (eats_lt hb (xor_lt (by omega) h))
theorem sum_lt {l : List Int} (hb : Bytes l) : sum l < 4294967296 := more_lt (by omega) hb

theorem eats_append (s : Nat) (l r : List Int) : eats s (l ++ r) = eats (eats s l) r := List.foldl_append ..
theorem more_append (s : Nat) (l r : List Int) : more s (l ++ r) = more (more s l) r := by
  unfold more; rw [eats_append, xor_back]
theorem sum_append (l r : List Int) : sum (l ++ r) = more (sum l) r := more_append 0 l r
theorem more_nil (s : Nat) : more s [] = s := by unfold more eats; simp only [List.foldl_nil]; exact xor_back _ _
theorem eats_snoc (s : Nat) (l : List Int) (k : Nat) (h : k < l.length) : eats s (l.take (k + 1)) = eat (eats s (l.take k)) (l.getD k 0) := by
  have e : l.take (k + 1) = l.take k ++ [l.getD k 0] := by
    rw [List.take_add_one, List.getElem?_eq_getElem h]; simp [List.getD, h]
  rw [e, eats_append]; rfl

/-! no two become one -/
theorem half_inj {a b : Nat} (ha : a < 4294967296) (hb : b < 4294967296) (h : half a = half b) : a = b := by
  have key : ∀ x y : Nat, x < 2147483648 → y < 2147483648 → x ^^^ 3988292384 ≠ y := by
    intro x y hx hy e
    have e2 : x ^^^ y = 3988292384 := by rw [← e, xor_back]
    have : x ^^^ y < 2 ^ 31 := Nat.xor_lt_two_pow hx hy
    omega
  unfold half at h
  split at h <;> split at h
  · rw [Nat.xor_comm, Nat.xor_comm (b / 2)] at h
    have := xor_inj h; omega
  · exact absurd h (key _ _ (by omega) (by omega))
  · exact absurd h.symm (key _ _ (by omega) (by omega))
  · omega
theorem halfs_inj {a b : Nat} (ha : a < 4294967296) (hb : b < 4294967296) : ∀ n, halfs n a = halfs n b → a = b
  | 0, h => h
  | n + 1, h => halfs_inj ha hb n (half_inj (halfs_lt ha n) (halfs_lt hb n) h)
theorem eat_inj {a b : Nat} {c : Int} (ha : a < 4294967296) (hb : b < 4294967296) (hc : 0 ≤ c ∧ c ≤ 255) (h : eat a c = eat b c) : a = b := by
  have := halfs_inj (xor_lt ha (by omega)) (xor_lt hb (by omega)) 8 h
  rw [Nat.xor_comm, Nat.xor_comm b] at this
  exact xor_inj this
theorem eats_inj {l : List Int} (hl : Bytes l) : ∀ {a b : Nat}, a < 4294967296 → b < 4294967296 → eats a l = eats b l → a = b := by
  induction l with
  | nil => intro a b _ _ h; exact h
  | cons c l ih =>
    intro a b ha hb h
    have hc := Bytes.cons.1 hl
    exact eat_inj ha hb hc.1 (ih hc.2 (eat_lt ha hc.1) (eat_lt hb hc.1) h)
theorem more_inj {l : List Int} (hl : Bytes l) {a b : Nat} (ha : a < 4294967296) (hb : b < 4294967296) (h : more a l = more b l) : a = b :=
  xor_inj (eats_inj hl (xor_lt (by omega) ha) (xor_lt (by omega) hb) (xor_inj h))

/-! what lies behind the first byte waits -/
theorem half_xor (x y : Nat) : half (x ^^^ (2 * y)) = half x ^^^ y := by
  have e1 : (x ^^^ (2 * y)) % 2 = x % 2 := by
    have := Nat.xor_mod_two_pow (a := x) (b := 2 * y) (n := 1)
    rw [Nat.pow_one] at this
    rw [this, show 2 * y % 2 = 0 by omega, Nat.xor_zero]
  have e2 : (x ^^^ (2 * y)) / 2 = x / 2 ^^^ y := by rw [Nat.xor_div_two, show 2 * y / 2 = y by omega]
  unfold half
  rw [e1, e2]
  split
  · rw [Nat.xor_assoc, Nat.xor_comm y, ← Nat.xor_assoc]
  · rfl
theorem halfs_xor (x y : Nat) : ∀ n, halfs n (x ^^^ (2 ^ n * y)) = halfs n x ^^^ y := by
  intro n
  induction n generalizing y with
  | zero => simp [halfs]
  | succ n ih =>
    show half (halfs n _) = half (halfs n x) ^^^ y
    rw [show 2 ^ (n + 1) * y = 2 ^ n * (2 * y) by rw [Nat.pow_succ, Nat.mul_assoc], ih, half_xor]
theorem halfs_add (m s : Nat) : ∀ n, halfs (m + n) s = halfs n (halfs m s)
  | 0 => rfl
  | n + 1 => by show half (halfs (m + n) s) = half _; rw [halfs_add m s n]
theorem eat_on (n x : Nat) (c : Int) : eat (halfs n x) c = halfs (n + 8) (x ^^^ 2 ^ n * c.toNat) := by
  unfold eat; rw [← halfs_xor, ← halfs_add]
/-- Four bytes as one number. -/
def quad (a b c d : Int) : Nat := ((a.toNat ^^^ 256 * b.toNat) ^^^ 65536 * c.toNat) ^^^ 16777216 * d.toNat
theorem eats_four (s : Nat) (a b c d : Int) : eats s [a, b, c, d] = halfs 32 (s ^^^ quad a b c d) := by
  show eat (eat (eat (eat s a) b) c) d = _
  rw [show eat s a = halfs 8 (s ^^^ a.toNat) from rfl, eat_on, eat_on, eat_on]
  unfold quad
  rw [Nat.xor_assoc, Nat.xor_assoc, Nat.xor_assoc, Nat.xor_assoc, Nat.xor_assoc]
theorem mul_xor (n a b : Nat) : 2 ^ n * (a ^^^ b) = 2 ^ n * a ^^^ 2 ^ n * b := by
  rw [Nat.mul_comm, Nat.mul_comm _ a, Nat.mul_comm _ b, ← Nat.shiftLeft_eq, ← Nat.shiftLeft_eq, ← Nat.shiftLeft_eq, Nat.shiftLeft_xor_distrib]
theorem quad_lt {a b c d : Int} (ha : 0 ≤ a ∧ a ≤ 255) (hb : 0 ≤ b ∧ b ≤ 255) (hc : 0 ≤ c ∧ c ≤ 255) (hd : 0 ≤ d ∧ d ≤ 255) : quad a b c d < 4294967296 :=
  xor_lt (xor_lt (xor_lt (by omega) (by omega)) (by omega)) (by omega)
end Go.Proofs.Ythofloblheodbaa
