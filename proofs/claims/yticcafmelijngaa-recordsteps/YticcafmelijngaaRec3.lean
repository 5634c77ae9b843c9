/-
  Layer 8 (record): a record's bytes (no function of the program in sight).
-/
import Derived.Test.YticcafmelijngaaRec
namespace Go.Proofs.Yticcafmelijngaa
open Go.RowKit
set_option linter.unusedVariables false

def nums (r : Rc) : List Int := [r.p0, r.p1, r.p2, r.v0, r.v1, r.v2]
theorem nums_len (r : Rc) : (nums r).length = 6 := rfl
theorem Rc.ok.nums {r : Rc} (h : r.ok) : ∀ x ∈ nums r, S64 x := by
  intro x hx
  simp only [Proofs.Yticcafmelijngaa.nums, List.mem_cons, List.not_mem_nil, or_false] at hx
  rcases hx with h' | h' | h' | h' | h' | h' <;> rw [h']
  · exact h.p0
  · exact h.p1
  · exact h.p2
  · exact h.v0
  · exact h.v1
  · exact h.v2
theorem getD_mem {l : List Int} {k : Nat} (h : k < l.length) : l.getD k 0 ∈ l := by
  have e : l.getD k 0 = l[k] := by simp [List.getD, h]
  rw [e]; exact List.getElem_mem h
/-- Numbers of either sign, one behind the other. -/
def zs (l : List Int) : List Int := l.flatMap fun x => put (zig x)
theorem zs_snoc (l : List Int) (k : Nat) (h : k < l.length) : zs (l.take (k + 1)) = zs (l.take k) ++ put (zig (l.getD k 0)) := by
  unfold zs; rw [take_snoc' l k h, List.flatMap_append]; simp
theorem zs_len : ∀ (l : List Int), (∀ n ∈ l, S64 n) → (zs l).length ≤ 10 * l.length
  | [], _ => by simp [zs]
  | x :: r, h => by
    have h1 := zs_len r (fun n hn => h n (by simp [hn]))
    have h2 := zig_bd (h x (by simp))
    have h3 := put_ten h2.1 h2.2
    unfold zs at h1 ⊢
    rw [List.flatMap_cons, List.length_append, List.length_cons]; omega
theorem zs_ok (l : List Int) (h : ∀ n ∈ l, S64 n) : Bytes (zs l) := by
  intro b hb
  simp only [zs, List.mem_flatMap] at hb
  obtain ⟨x, hx, hb⟩ := hb
  exact put_ok (zig_bd (h x hx)).1 b hb
def wholeB (r : Rc) : List Int := zs (nums r) ++ put r.a
/-- Those that aren't 0. -/
def zn (l : List Int) : List Int := l.flatMap fun x => if x = 0 then [] else put (zig x)
theorem zn_snoc (l : List Int) (k : Nat) (h : k < l.length) : zn (l.take (k + 1)) = zn (l.take k) ++ (if l.getD k 0 = 0 then [] else put (zig (l.getD k 0))) := by
  unfold zn; rw [take_snoc' l k h, List.flatMap_append]; simp
theorem zn_len : ∀ (l : List Int), (∀ n ∈ l, S64 n) → (zn l).length ≤ 10 * l.length
  | [], _ => by simp [zn]
  | x :: r, h => by
    have h1 := zn_len r (fun n hn => h n (by simp [hn]))
    have h2 := zig_bd (h x (by simp))
    have h3 := put_ten h2.1 h2.2
    unfold zn at h1 ⊢
    rw [List.flatMap_cons, List.length_append, List.length_cons]
    split
    · rw [List.length_nil]; omega
    · omega
theorem zn_ok (l : List Int) (h : ∀ n ∈ l, S64 n) : Bytes (zn l) := by
  intro b hb
  simp only [zn, List.mem_flatMap] at hb
  obtain ⟨x, hx, hb⟩ := hb
  split at hb
  · simp at hb
  · exact put_ok (zig_bd (h x hx)).1 b hb
def mask : List Int → Int
  | [] => 0
  | x :: r => (if x = 0 then 0 else 1) + 2 * mask r
theorem mask_bd : ∀ l : List Int, 0 ≤ mask l ∧ mask l < 2 ^ l.length
  | [] => by simp [mask]
  | x :: r => by
    have := mask_bd r
    simp only [mask, List.length_cons, Int.pow_succ]
    split <;> omega
theorem mask_app : ∀ (l : List Int) (x : Int), mask (l ++ [x]) = mask l + if x = 0 then 0 else 2 ^ l.length
  | [], x => by simp [mask]
  | y :: r, x => by
    have := mask_app r x
    simp only [List.cons_append, mask, List.length_cons, Int.pow_succ]
    rw [this]
    split <;> split <;> omega
theorem mask_snoc (l : List Int) (k : Nat) (h : k < l.length) : mask (l.take (k + 1)) = mask (l.take k) + if l.getD k 0 = 0 then 0 else 2 ^ k := by
  rw [take_snoc' l k h, mask_app, List.length_take, Nat.min_eq_left (by omega)]
theorem mask_take (l : List Int) (k : Nat) (h : k ≤ l.length) : 0 ≤ mask (l.take k) ∧ mask (l.take k) < 2 ^ k := by
  have := mask_bd (l.take k)
  rwa [List.length_take, Nat.min_eq_left h] at this
def maskR (r : Rc) : Int := mask (nums r) + if r.a = 0 then 0 else 64
def restR (r : Rc) : List Int := zn (nums r) ++ if r.a = 0 then [] else put r.a
def updB (r : Rc) : List Int := maskR r :: restR r
theorem maskR_bd (r : Rc) : 0 ≤ maskR r ∧ maskR r ≤ 127 := by
  have := mask_bd (nums r)
  rw [nums_len] at this
  unfold maskR
  split <;> omega
def bodyB (r : Rc) : List Int := if r.k = 1 then updB r else if r.k = 2 then [] else wholeB r
def wrE (r : Rc) (last : Int) : Int := if chk r = 0 then (if last < -1 ∨ 65535 < last then 3 else if r.i ≤ last then 10 else 0) else chk r
def wrB (r : Rc) (last : Int) : List Int := if wrE r last = 0 then put (r.i - last - 1) ++ r.k :: bodyB r else []
theorem wrE_ok {r : Rc} {last : Int} (h : wrE r last = 0) : chk r = 0 ∧ (-1 ≤ last ∧ last ≤ 65535) ∧ last < r.i := by
  unfold wrE at h
  split at h
  · rename_i hc
    refine ⟨hc, ?_⟩
    split at h
    · omega
    · split at h <;> omega
  · omega
theorem put_a {x : Int} (h : 0 ≤ x ∧ x ≤ 65535) : (put x).length ≤ 3 := put_le 2 x h.1 (by omega)
theorem whole_len {r : Rc} (h : r.ok) : (wholeB r).length ≤ 63 := by
  have h1 := zs_len (nums r) h.nums
  have h2 := put_a h.a
  rw [nums_len] at h1
  unfold wholeB
  rw [List.length_append]; omega
theorem rest_len {r : Rc} (h : r.ok) : (restR r).length ≤ 63 := by
  have h1 := zn_len (nums r) h.nums
  have h2 := put_a h.a
  rw [nums_len] at h1
  unfold restR
  rw [List.length_append]
  split
  · simp; omega
  · omega
theorem body_len {r : Rc} (h : r.ok) : (bodyB r).length ≤ 64 := by
  have h1 := whole_len h
  have h2 := rest_len h
  unfold bodyB updB
  split
  · rw [List.length_cons]; omega
  · split
    · simp
    · omega
theorem whole_ok {r : Rc} (h : r.ok) : Bytes (wholeB r) := (zs_ok _ h.nums).append (put_ok h.a.1)
theorem rest_ok {r : Rc} (h : r.ok) : Bytes (restR r) := by
  refine (zn_ok _ h.nums).append ?_
  split
  · exact Bytes.nil
  · exact put_ok h.a.1
theorem body_ok {r : Rc} (h : r.ok) : Bytes (bodyB r) := by
  unfold bodyB updB
  split
  · have := maskR_bd r
    exact Bytes.cons.2 ⟨by omega, rest_ok h⟩
  · split
    · exact Bytes.nil
    · exact whole_ok h
theorem wr_len {r : Rc} {last : Int} (h : r.ok) : (wrB r last).length ≤ 68 := by
  have h1 := body_len h
  unfold wrB
  split
  · rename_i e
    obtain ⟨c, l, m⟩ := wrE_ok e
    have := (chk_ok c).2.1
    have h2 := put_le 2 (r.i - last - 1) (by omega) (by omega)
    rw [List.length_append, List.length_cons]; omega
  · simp
theorem wr_ok {r : Rc} {last : Int} (h : r.ok) : Bytes (wrB r last) := by
  unfold wrB
  split
  · rename_i e
    obtain ⟨c, l, m⟩ := wrE_ok e
    have := chk_ok c
    exact (put_ok (by omega)).append (Bytes.cons.2 ⟨by omega, body_ok h⟩)
  · exact Bytes.nil
theorem or_bit : ∀ k : Fin 7, ∀ m : Fin 128, m.val < 2 ^ k.val → bits .or .u8 (m.val : Int) (2 ^ k.val) = (m.val : Int) + 2 ^ k.val := by decide +kernel
theorem or_pow {m : Int} {k : Nat} (hk : k ≤ 6) (h0 : 0 ≤ m) (h1 : m < 2 ^ k) : bits .or .u8 m (2 ^ k) = m + 2 ^ k := by
  have hp : (2 : Int) ^ k ≤ 64 := by
    have : (2 : Nat) ^ k ≤ 2 ^ 6 := Nat.pow_le_pow_right (by omega) hk
    have e : ((2 ^ k : Nat) : Int) = (2 : Int) ^ k := by simp
    omega
  obtain ⟨n, rfl⟩ := Int.eq_ofNat_of_zero_le h0
  have e : ((2 ^ k : Nat) : Int) = (2 : Int) ^ k := by simp
  exact or_bit ⟨k, by omega⟩ ⟨n, by omega⟩ (by show n < 2 ^ k; omega)
theorem and_bit : ∀ k : Fin 7, ∀ m : Fin 256, bits .and .u8 (m.val : Int) (2 ^ k.val) = if m.val / 2 ^ k.val % 2 = 1 then 2 ^ k.val else 0 := by decide +kernel
end Go.Proofs.Yticcafmelijngaa
