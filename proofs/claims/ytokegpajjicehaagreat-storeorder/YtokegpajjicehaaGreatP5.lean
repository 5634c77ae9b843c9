/-
  Texts Crc7, Rdr, Rdr2 in one.
-/
import Derived.Test.YtokegpajjicehaaGreatP4
namespace Go.Proofs.YtokegpajjicehaaGreat
open Go.RowKit
def sealed (l : List Int) : List Int := l ++ four (sum l)
theorem sealed_len (l : List Int) : (sealed l).length = l.length + 4 := by simp [sealed, four]
theorem sealed_ok {l : List Int} (h : Bytes l) : Bytes (sealed l) := h.append (four_ok _)
theorem sealed_take (l : List Int) : (sealed l).take l.length = l := by simp [sealed]
theorem sealed_drop (l : List Int) : (sealed l).drop l.length = four (sum l) := by simp [sealed]
theorem sealed_open (l : List Int) : openB (sealed l) = true := by
  rw [open_is (sealed_len l), sealed_take, sealed_drop]; simp
theorem sealed_opened (l : List Int) : opened (sealed l) = l := by rw [opened_yes (sealed_len l) (sealed_open l), sealed_take]
theorem four_inj {a b : Nat} (ha : a < 4294967296) (hb : b < 4294967296) (h : four a = four b) : a = b := by
  simp only [four, List.cons.injEq] at h
  obtain ⟨h1, h2, h3, h4, _⟩ := h
  omega
theorem getD_at (l : List Int) (j : Nat) (h : j < l.length) : l.getD j 0 = l[j] := by simp [List.getD, h]
theorem set_split (l : List Int) (j : Nat) (x : Int) (h : j < l.length) : l.set j x = l.take j ++ x :: l.drop (j + 1) := List.set_eq_take_append_cons_drop .. |>.trans (by rw [if_pos h])
theorem own_split (l : List Int) (j : Nat) (h : j < l.length) : l = l.take j ++ l.getD j 0 :: l.drop (j + 1) := by
  rw [getD_at l j h, ← List.drop_eq_getElem_cons h, List.take_append_drop]
theorem Bytes.set {l : List Int} (h : Bytes l) (j : Nat) {x : Int} (hx : 0 ≤ x ∧ x ≤ 255) : Bytes (l.set j x) := by
  intro b hb
  rcases List.mem_or_eq_of_mem_set hb with k | k
  · exact h b k
  · rw [k]; exact hx
theorem eat_byte {s : Nat} {a b : Int} (hs : s < 4294967296) (ha : 0 ≤ a ∧ a ≤ 255) (hb : 0 ≤ b ∧ b ≤ 255) (h : eat s a = eat s b) : a = b := by
  have := xor_inj (halfs_inj (xor_lt hs (by omega)) (xor_lt hs (by omega)) 8 h)
  omega
/-- One byte other: another sum. -/
theorem sum_set {l : List Int} (hl : Bytes l) {j : Nat} (h : j < l.length) {x : Int} (hx : 0 ≤ x ∧ x ≤ 255) (he : sum (l.set j x) = sum l) : x = l.getD j 0 := by
  unfold sum more at he
  have he := xor_inj he
  rw [set_split l j x h] at he
  conv at he => rhs; rw [own_split l j h]
  rw [eats_append, eats_append] at he
  have h0 : eats (4294967295 ^^^ 0) (l.take j) < 4294967296 := eats_lt (hl.take j) (by decide)
  have hc := hl.at j
  have := eats_inj (hl.drop (j + 1)) (eat_lt h0 hx) (eat_lt h0 hc) he
  exact eat_byte h0 hx hc this
theorem turned_no {l : List Int} (hl : Bytes l) {j : Nat} (h : j < l.length + 4) {x : Int} (hx : 0 ≤ x ∧ x ≤ 255) (hne : x ≠ (sealed l).getD j 0) : openB ((sealed l).set j x) = false := by
  have hlen : ((sealed l).set j x).length = l.length + 4 := by rw [List.length_set, sealed_len]
  rw [open_is hlen]
  refine decide_eq_false fun e => ?_
  by_cases hj : j < l.length
  · have e1 : ((sealed l).set j x).take l.length = l.set j x := by rw [List.take_set, sealed_take]
    have e2 : ((sealed l).set j x).drop l.length = four (sum l) := by
      rw [List.drop_set_of_lt hj, sealed_drop]
    rw [e1, e2] at e
    have := four_inj (sum_lt hl) (sum_lt (hl.set j hx)) e
    have h2 := sum_set hl hj hx this.symm
    refine hne (h2.trans ?_)
    unfold sealed
    rw [List.getD_eq_getElem?_getD, List.getD_eq_getElem?_getD, List.getElem?_append_left hj]
  · have e1 : ((sealed l).set j x).take l.length = l := by
      rw [List.take_set, List.set_eq_of_length_le (by rw [List.length_take, sealed_len]; omega), sealed_take]
    rw [e1] at e
    have := congrArg (fun r => r.getD (j - l.length) 0) e
    simp only [List.getD_eq_getElem?_getD, List.getElem?_drop] at this
    rw [show l.length + (j - l.length) = j by omega, List.getElem?_set_self (by rw [sealed_len]; exact h)] at this
    refine hne (this.trans ?_)
    unfold sealed
    rw [List.getD_eq_getElem?_getD, List.getElem?_append_right (by omega)]
theorem turn_ne (c : Int) (hc : 0 ≤ c) (k : Nat) (hk : k ≠ 0) : ((c.toNat ^^^ k : Nat) : Int) ≠ c := by
  intro h
  have h1 : c.toNat ^^^ k = c.toNat := by omega
  have h2 : c.toNat ^^^ k = c.toNat ^^^ 0 := by rw [h1, Nat.xor_zero]
  exact hk (xor_inj h2)
theorem turn_byte (c : Int) (hc : 0 ≤ c ∧ c ≤ 255) (k : Nat) (hk : k < 256) : 0 ≤ ((c.toNat ^^^ k : Nat) : Int) ∧ ((c.toNat ^^^ k : Nat) : Int) ≤ 255 := by
  have : c.toNat ^^^ k < 2 ^ 8 := Nat.xor_lt_two_pow (by omega) hk
  omega

/-! four neighbours -/
theorem pair_inj {a b x y : Nat} (ha : a < 256) (hb : b < 256) (h : a ^^^ 256 * x = b ^^^ 256 * y) : a = b ∧ x = y := by
  have m : ∀ p q : Nat, p < 256 → (p ^^^ 256 * q) % 256 = p := by
    intro p q hp
    have := Nat.xor_mod_two_pow (a := p) (b := 256 * q) (n := 8)
    rw [show (2 : Nat) ^ 8 = 256 from rfl] at this
    rw [this, show 256 * q % 256 = 0 by omega, Nat.xor_zero]; omega
  have d : ∀ p q : Nat, p < 256 → (p ^^^ 256 * q) / 256 = q := by
    intro p q hp
    have := Nat.xor_div_two_pow (a := p) (b := 256 * q) (n := 8)
    rw [show (2 : Nat) ^ 8 = 256 from rfl] at this
    rw [this, show p / 256 = 0 by omega, Nat.zero_xor]; omega
  have h1 := congrArg (· % 256) h
  have h2 := congrArg (· / 256) h
  simp only [m _ _ ha, m _ _ hb] at h1
  simp only [d _ _ ha, d _ _ hb] at h2
  exact ⟨h1, h2⟩
theorem quad_nest (a b c d : Int) : quad a b c d = a.toNat ^^^ 256 * (b.toNat ^^^ 256 * (c.toNat ^^^ 256 * d.toNat)) := by
  have e := mul_xor 8
  rw [show (2 : Nat) ^ 8 = 256 from rfl] at e
  unfold quad
  rw [e, e, e, ← Nat.mul_assoc, ← Nat.mul_assoc, ← Nat.mul_assoc, Nat.xor_assoc, Nat.xor_assoc]
theorem four_other {s : Nat} (hs : s < 4294967296) {a b c d a' b' c' d' : Int} (ha : 0 ≤ a ∧ a ≤ 255) (hb : 0 ≤ b ∧ b ≤ 255) (hc : 0 ≤ c ∧ c ≤ 255) (hd : 0 ≤ d ∧ d ≤ 255)
    (ha' : 0 ≤ a' ∧ a' ≤ 255) (hb' : 0 ≤ b' ∧ b' ≤ 255) (hc' : 0 ≤ c' ∧ c' ≤ 255) (hd' : 0 ≤ d' ∧ d' ≤ 255) (h : eats s [a, b, c, d] = eats s [a', b', c', d']) : a = a' ∧ b = b' ∧ c = c' ∧ d = d' := by
  rw [eats_four, eats_four] at h
  have h := xor_inj (halfs_inj (xor_lt hs (quad_lt ha hb hc hd)) (xor_lt hs (quad_lt ha' hb' hc' hd')) 32 h)
  rw [quad_nest, quad_nest] at h
  obtain ⟨h1, h⟩ := pair_inj (by omega) (by omega) h
  obtain ⟨h2, h⟩ := pair_inj (by omega) (by omega) h
  obtain ⟨h3, h⟩ := pair_inj (by omega) (by omega) h
  omega
theorem four_of (l : List Int) (i : Nat) (h : i + 4 ≤ l.length) : l = l.take i ++ ([l.getD i 0, l.getD (i + 1) 0, l.getD (i + 2) 0, l.getD (i + 3) 0] ++ l.drop (i + 4)) := by
  have e : l.drop i = [l.getD i 0, l.getD (i + 1) 0, l.getD (i + 2) 0, l.getD (i + 3) 0] ++ l.drop (i + 4) := by
    rw [List.drop_eq_getElem_cons (show i < l.length by omega), List.drop_eq_getElem_cons (show i + 1 < l.length by omega), List.drop_eq_getElem_cons (show i + 1 + 1 < l.length by omega), List.drop_eq_getElem_cons (show i + 1 + 1 + 1 < l.length by omega)]
    rw [getD_at l i (by omega), getD_at l (i + 1) (by omega), getD_at l (i + 2) (by omega), getD_at l (i + 3) (by omega)]
    rfl
  rw [← e, List.take_append_drop]
/-- Bytes that are others in four neighbours at most have one sum only if they are the same. -/
theorem sum_unlike {l t : List Int} (hl : Bytes l) (ht : Bytes t) (hlen : t.length = l.length) {i : Nat} (hi : i + 4 ≤ l.length) (hs : ∀ j, (j < i ∨ i + 4 ≤ j) → t.getD j 0 = l.getD j 0) (h : sum t = sum l) :
    ∀ k, k < 4 → t.getD (i + k) 0 = l.getD (i + k) 0 := by
  have e1 : t.take i = l.take i := by
    apply List.ext_getElem?
    intro j
    rw [List.getElem?_take, List.getElem?_take]
    split
    · have := hs j (Or.inl ‹_›)
      rw [getD_at t j (by omega), getD_at l j (by omega)] at this
      rw [List.getElem?_eq_getElem (by omega), List.getElem?_eq_getElem (by omega), this]
    · rfl
  have e2 : t.drop (i + 4) = l.drop (i + 4) := by
    apply List.ext_getElem?
    intro j
    rw [List.getElem?_drop, List.getElem?_drop]
    by_cases hj : i + 4 + j < l.length
    · have := hs (i + 4 + j) (Or.inr (by omega))
      rw [getD_at t _ (by omega), getD_at l _ (by omega)] at this
      rw [List.getElem?_eq_getElem (by omega), List.getElem?_eq_getElem (by omega), this]
    · rw [List.getElem?_eq_none (by omega), List.getElem?_eq_none (by omega)]
  unfold sum more at h
  have h := xor_inj h
  rw [four_of l i hi, four_of t i (by omega), e1, e2, eats_append, eats_append, eats_append, eats_append] at h
  have h0 : eats (4294967295 ^^^ 0) (l.take i) < 4294967296 := eats_lt (hl.take i) (by decide)
  have hbl : Bytes [l.getD i 0, l.getD (i + 1) 0, l.getD (i + 2) 0, l.getD (i + 3) 0] := by
    intro b hb; simp only [List.mem_cons, List.not_mem_nil, or_false] at hb
    rcases hb with rfl | rfl | rfl | rfl <;> exact hl.at _
  have hbt : Bytes [t.getD i 0, t.getD (i + 1) 0, t.getD (i + 2) 0, t.getD (i + 3) 0] := by
    intro b hb; simp only [List.mem_cons, List.not_mem_nil, or_false] at hb
    rcases hb with rfl | rfl | rfl | rfl <;> exact ht.at _
  have h := eats_inj (hl.drop (i + 4)) (eats_lt hbt h0) (eats_lt hbl h0) h
  obtain ⟨h1, h2, h3, h4⟩ := four_other h0 (ht.at _) (ht.at _) (ht.at _) (ht.at _) (hl.at _) (hl.at _) (hl.at _) (hl.at _) h
  intro k hk
  rcases (show k = 0 ∨ k = 1 ∨ k = 2 ∨ k = 3 by omega) with rfl | rfl | rfl | rfl
  · exact h1
  · exact h2
  · exact h3
  · exact h4
/-- The first k of four neighbours, turned by a number's bytes. -/
def mess (l : List Int) (i y : Nat) : Nat → List Int
  | 0 => l
  | k + 1 => (mess l i y k).set (i + k) ((((mess l i y k).getD (i + k) 0).toNat ^^^ (y / 2 ^ (8 * k) % 256) : Nat) : Int)
theorem mess_len (l : List Int) (i y : Nat) : ∀ k, (mess l i y k).length = l.length
  | 0 => rfl
  | k + 1 => by show ((mess l i y k).set _ _).length = _; rw [List.length_set, mess_len l i y k]
theorem mess_ok {l : List Int} (h : Bytes l) (i y : Nat) : ∀ k, Bytes (mess l i y k)
  | 0 => h
  | k + 1 => (mess_ok h i y k).set _ (turn_byte _ ((mess_ok h i y k).at _) _ (by omega))
theorem mess_at (l : List Int) (i y : Nat) : ∀ (k : Nat), i + k ≤ l.length → ∀ j, (mess l i y k).getD j 0 = if i ≤ j ∧ j < i + k then (((l.getD j 0).toNat ^^^ (y / 2 ^ (8 * (j - i)) % 256) : Nat) : Int) else l.getD j 0
  | 0, _, j => by rw [if_neg (by omega)]; rfl
  | k + 1, h, j => by
    have ih := mess_at l i y k (by omega)
    show ((mess l i y k).set (i + k) _).getD j 0 = _
    by_cases e : j = i + k
    · subst e
      rw [List.getD_eq_getElem?_getD, List.getElem?_set_self (by rw [mess_len]; omega), if_pos (by omega), ih, if_neg (by omega), show i + k - i = k by omega]; rfl
    · rw [List.getD_eq_getElem?_getD, List.getElem?_set_ne (fun h => e h.symm), ← List.getD_eq_getElem?_getD, ih]
      by_cases c : i ≤ j ∧ j < i + k
      · rw [if_pos c, if_pos (by omega)]
      · rw [if_neg c, if_neg (by omega)]
theorem mess_sum {l : List Int} (hl : Bytes l) {i y : Nat} (hi : i + 4 ≤ l.length) (hy : y < 4294967296) (h0 : y ≠ 0) : sum (mess l i y 4) ≠ sum l := by
  intro h
  have hs := sum_unlike hl (mess_ok hl i y 4) (mess_len l i y 4) hi (fun j hj => by rw [mess_at l i y 4 hi j, if_neg (by omega)]) h
  have hk : ∀ k, k < 4 → y / 2 ^ (8 * k) % 256 = 0 := by
    intro k hk
    have := hs k hk
    rw [mess_at l i y 4 hi (i + k), if_pos (by omega), show i + k - i = k by omega] at this
    exact Decidable.byContradiction fun hn => turn_ne _ (hl.at _).1 _ hn this
  have a0 := hk 0 (by omega); have a1 := hk 1 (by omega); have a2 := hk 2 (by omega); have a3 := hk 3 (by omega)
  simp at a0 a1 a2 a3
  omega
end Go.Proofs.YtokegpajjicehaaGreat

namespace Go.Proofs.YtokegpajjicehaaGreat
open Go.RowKit

/-! how a reader stands: the bytes that are left, how many were taken, the error -/
structure St where
  l : List Int
  n : Int
  e : Int
def failS (s : St) (x : Int) : St := if s.e = 0 then ⟨s.l, s.n, x⟩ else s
def byteA (s : St) : Int := if s.e = 0 then s.l.getD 0 0 else 0
def byteS (s : St) : St := if s.e = 0 then (if s.l = [] then ⟨s.l, s.n, 6⟩ else ⟨s.l.drop 1, s.n + 1, 0⟩) else s
/-- Why no number that is at most m is taken. -/
def uintE (m : Int) (l : List Int) : Int := if l = [] then 6 else if (got l).2.2 = 0 then (if m < (got l).1 then 3 else 0) else (got l).2.2
def uintA (m : Int) (s : St) : Int := if s.e = 0 then (if uintE m s.l = 0 then (got s.l).1 else 0) else 0
def uintS (m : Int) (s : St) : St := if s.e = 0 then (if uintE m s.l = 0 then ⟨s.l.drop (got s.l).2.1.toNat, s.n + (got s.l).2.1, 0⟩ else ⟨s.l, s.n, uintE m s.l⟩) else s
def top64 : Int := 18446744073709551615
def intA (s : St) : Int := zag (uintA top64 s)
def intS (s : St) : St := uintS top64 s
def vecS (s : St) : St := intS (intS (intS s))
def doneA (s : St) : Int := if s.e = 0 then (if s.l = [] then 0 else 8) else s.e

theorem uintE_top (l : List Int) : uintE top64 l = if l = [] then 6 else (got l).2.2 := by
  have := got_bd l
  unfold uintE top64
  split
  · rfl
  · split
    · rw [if_neg (by omega)]; omega
    · rfl
theorem got_nil : got [] = (0, 0, 5) := by decide
/-- What is got: as many bytes as there are, at most. -/
theorem got_len {l : List Int} (hb : Bytes l) (h : (got l).2.2 = 0) : 1 ≤ (got l).2.1 ∧ (got l).2.1 ≤ l.length ∧ (got l).2.1 ≤ 10 := by
  obtain ⟨_, _, n, h1, h2, h3, _⟩ := put_got hb (got l).1 (got l).2.1 (by rw [← h])
  have := got_bd l
  omega

/-! memory -/
/-- All but block R is as it was; new blocks may lie behind. -/
structure Ch (R : Nat) (w w' : World) : Prop where
  below : Below R w w'
  past : ∀ g, R < g → g < w.heap.size → w'.heap[g]? = w.heap[g]?
theorem Ch.size {R : Nat} {w w' : World} (h : Ch R w w') : w.heap.size ≤ w'.heap.size := h.below.size
theorem Ch.refl (R : Nat) (w : World) : Ch R w w := ⟨Below.refl _ _, fun _ _ _ => rfl⟩
theorem Ch.trans {R : Nat} {a b c : World} (h : Ch R a b) (k : Ch R b c) : Ch R a c :=
  ⟨h.below.trans k.below, fun g h1 h2 => (k.past g h1 (Nat.lt_of_lt_of_le h2 h.size)).trans (h.past g h1 h2)⟩
theorem Ch.drew {R : Nat} {a w : World} (h : Ch R a w) : Ch R a w.drew := ⟨h.below.drew, h.past⟩
theorem Ch.alloc {R : Nat} {a w : World} (h : Ch R a w) (hR : R ≤ w.heap.size) (o : Obj) : Ch R a (w.alloc o) :=
  ⟨h.below.alloc hR o, fun g h1 h2 => (Below.heap_alloc w o g (Nat.lt_of_lt_of_le h2 h.size)).trans (h.past g h1 h2)⟩
theorem Ch.set {R : Nat} {a w : World} (h : Ch R a w) (o : Nat) (u : Value) : Ch R a (w.setCell ⟨R, o, none⟩ u) :=
  ⟨h.below.setCell (Nat.le_refl _) u, fun g h1 h2 => (Below.heap_setCell w _ u g (by simp only [ne_eq]; omega)).trans (h.past g h1 h2)⟩
/-- A store into a block that is new since. -/
theorem Ch.setNew {R : Nat} {a w : World} (h : Ch R a w) (hR : R ≤ a.heap.size) {p : Addr} (hp : a.heap.size ≤ p.block) (u : Value) : Ch R a (w.setCell p u) :=
  ⟨h.below.setCell (Nat.le_trans hR hp) u, fun g h1 h2 => (Below.heap_setCell w _ u g (by omega)).trans (h.past g h1 h2)⟩
theorem Ch.of {R : Nat} {w w' : World} (h : Below w.heap.size w w') (hR : R ≤ w.heap.size) : Ch R w w' := ⟨h.mono hR, fun g _ h2 => h.block g h2⟩
/-- A block that is another one. -/
theorem Ch.block {R : Nat} {w w' : World} (h : Ch R w w') {g : Nat} (hg : g ≠ R) (hs : g < w.heap.size) : w'.heap[g]? = w.heap[g]? := by
  rcases Nat.lt_or_gt_of_ne hg with k | k
  · exact h.below.block g k
  · exact h.past g k hs
theorem Ch.cell {R : Nat} {w w' : World} (h : Ch R w w') {p : Addr} (hg : p.block ≠ R) (hs : p.block < w.heap.size) : w'.cell? p = w.cell? p := World.cell?_of_block (w := w) (h.block hg hs)
theorem Ch.frozen {R : Nat} {w w' : World} (h : Ch R w w') {p : Addr} (hg : p.block ≠ R) (hs : p.block < w.heap.size) : w'.frozen? p = w.frozen? p := World.frozen?_of_block (w := w) (h.block hg hs)
/-- Over B, if the block lies there. -/
theorem Ch.up {R B : Nat} {a w w' : World} (h : Below B a w) (k : Ch R w w') (hB : B ≤ R) : Below B a w' := h.trans (k.below.mono hB)
theorem Own.ch {R B : Nat} {w w' : World} {v : Value} {l : List Int} (h : Own w B v l) (k : Ch R w w') (hB : R < B) : Own w' B v l := by
  refine ⟨h.1, ?_⟩
  rcases h.2 with hn | ⟨g, cap, cur, hv, hb, hg, rest⟩
  · exact Or.inl hn
  · exact Or.inr ⟨g, cap, cur, hv, hb, (k.past g (by omega) (Array.getElem?_eq_some_iff.1 hg).1).trans hg, rest⟩

/-- A value that reads as these bytes, which lie below K. -/
def Low (w : World) (K : Nat) (v : Value) (l : List Int) : Prop :=
  ∃ ao cap, v = .slice ao l.length cap ∧ l.length ≤ cap ∧ cap ≤ 9223372036854775807 ∧ (ao = none → cap = 0) ∧ (l = [] ∨ ∃ b o, ao = some ⟨b, o, none⟩ ∧ b < K ∧ At w b o l)
theorem Low.rd {w : World} {K : Nat} {v : Value} {l : List Int} (h : Low w K v l) : Rd w v l := by
  obtain ⟨ao, cap, rfl, h1, h2, h3, h4⟩ := h
  refine ⟨ao, cap, rfl, h1, h2, h3, ?_⟩
  rcases h4 with h | ⟨b, o, h, _, k⟩
  · exact Or.inl h
  · exact Or.inr ⟨b, o, h, k⟩
theorem Rd.low {w : World} {v : Value} {l : List Int} (h : Rd w v l) : Low w w.heap.size v l := by
  obtain ⟨ao, cap, rfl, h1, h2, h3, h4⟩ := h
  refine ⟨ao, cap, rfl, h1, h2, h3, ?_⟩
  by_cases hl : l = []
  · exact Or.inl hl
  · obtain ⟨b, o, h, k⟩ := h4.resolve_left hl
    exact Or.inr ⟨b, o, h, k.lt hl, k⟩
theorem Low.below {w w' : World} {K B : Nat} {v : Value} {l : List Int} (h : Low w K v l) (hb : Below B w w') (hB : K ≤ B) : Low w' K v l := by
  obtain ⟨ao, cap, rfl, h1, h2, h3, h4⟩ := h
  refine ⟨ao, cap, rfl, h1, h2, h3, ?_⟩
  rcases h4 with h | ⟨b, o, h, k, hat⟩
  · exact Or.inl h
  · exact Or.inr ⟨b, o, h, k, hat.below hb (by omega)⟩
theorem Low.mono {w : World} {K K' : Nat} {v : Value} {l : List Int} (h : Low w K v l) (hK : K ≤ K') : Low w K' v l := by
  obtain ⟨ao, cap, rfl, h1, h2, h3, h4⟩ := h
  refine ⟨ao, cap, rfl, h1, h2, h3, ?_⟩
  rcases h4 with h | ⟨b, o, h, k, hat⟩
  · exact Or.inl h
  · exact Or.inr ⟨b, o, h, by omega, hat⟩

/-- The reader at block R stands so; its bytes lie below K. -/
structure RdrV (w : World) (K R : Nat) (v : Value) (s : St) : Prop where
  hK : K ≤ R
  lt : R < w.heap.size
  low : Low w K v s.l
  bytes : Bytes s.l
  n0 : 0 ≤ s.n
  n1 : s.n + s.l.length ≤ 9223372036854775807
  c0 : w.cell? ⟨R, 0, none⟩ = some v
  c1 : w.cell? ⟨R, 1, none⟩ = some (.int .i64 s.n)
  c2 : w.cell? ⟨R, 2, none⟩ = some (.int .i64 s.e)
  f : ∀ o, w.frozen? ⟨R, o, none⟩ = false
def Rdr (w : World) (K R : Nat) (s : St) : Prop := ∃ v, RdrV w K R v s
theorem Rdr.lt {w : World} {K R : Nat} {s : St} (h : Rdr w K R s) : R < w.heap.size := by obtain ⟨v, h⟩ := h; exact h.lt
theorem Rdr.hK {w : World} {K R : Nat} {s : St} (h : Rdr w K R s) : K ≤ R := by obtain ⟨v, h⟩ := h; exact h.hK
theorem Rdr.bytes {w : World} {K R : Nat} {s : St} (h : Rdr w K R s) : Bytes s.l := by obtain ⟨v, h⟩ := h; exact h.bytes
theorem Rdr.n0 {w : World} {K R : Nat} {s : St} (h : Rdr w K R s) : 0 ≤ s.n := by obtain ⟨v, h⟩ := h; exact h.n0
theorem Rdr.n1 {w : World} {K R : Nat} {s : St} (h : Rdr w K R s) : s.n + s.l.length ≤ 9223372036854775807 := by obtain ⟨v, h⟩ := h; exact h.n1
/-- Another reader's call, or whatever else leaves this block alone. -/
theorem RdrV.ch {w w' : World} {K R M : Nat} {v : Value} {s : St} (h : RdrV w K R v s) (k : Ch M w w') (hM : M ≠ R) (hK : K ≤ M) : RdrV w' K R v s :=
  ⟨h.hK, Nat.lt_of_lt_of_le h.lt k.size, h.low.below k.below hK, h.bytes, h.n0, h.n1, (k.cell (p := ⟨R, 0, none⟩) (Ne.symm hM) h.lt).trans h.c0, (k.cell (p := ⟨R, 1, none⟩) (Ne.symm hM) h.lt).trans h.c1,
    (k.cell (p := ⟨R, 2, none⟩) (Ne.symm hM) h.lt).trans h.c2, fun o => (k.frozen (p := ⟨R, o, none⟩) (Ne.symm hM) h.lt).trans (h.f o)⟩
theorem Rdr.ch {w w' : World} {K R M : Nat} {s : St} (h : Rdr w K R s) (k : Ch M w w') (hM : M ≠ R) (hK : K ≤ M) : Rdr w' K R s := by
  obtain ⟨v, h⟩ := h; exact ⟨v, h.ch k hM hK⟩
theorem RdrV.below {w w' : World} {K R B : Nat} {v : Value} {s : St} (h : RdrV w K R v s) (k : Below B w w') (hB : R < B) : RdrV w' K R v s :=
  ⟨h.hK, Nat.lt_of_lt_of_le h.lt k.size, h.low.below k (by have := h.hK; omega), h.bytes, h.n0, h.n1, (k.cell (p := ⟨R, 0, none⟩) hB).trans h.c0, (k.cell (p := ⟨R, 1, none⟩) hB).trans h.c1,
    (k.cell (p := ⟨R, 2, none⟩) hB).trans h.c2, fun o => (k.frozen (p := ⟨R, o, none⟩) hB).trans (h.f o)⟩
theorem Rdr.below {w w' : World} {K R B : Nat} {s : St} (h : Rdr w K R s) (k : Below B w w') (hB : R < B) : Rdr w' K R s := by
  obtain ⟨v, h⟩ := h; exact ⟨v, h.below k hB⟩
theorem Rdr.mono {w : World} {K K' R : Nat} {s : St} (h : Rdr w K R s) (hK : K ≤ K') (hR : K' ≤ R) : Rdr w K' R s := by
  obtain ⟨v, h⟩ := h; exact ⟨v, hR, h.lt, h.low.mono hK, h.bytes, h.n0, h.n1, h.c0, h.c1, h.c2, h.f⟩
theorem cell_same {w : World} {p : Addr} {u v : Value} (h : w.cell? p = some u) : (w.setCell p v).cell? p = some v := World.cell?_setCell_same _ _ _ h
theorem cell_off {w : World} {b i j : Nat} {v : Value} (h : i ≠ j) : (w.setCell ⟨b, i, none⟩ v).cell? ⟨b, j, none⟩ = w.cell? ⟨b, j, none⟩ :=
  World.cell?_setCell_other _ _ _ _ (by intro h'; exact h (by injection h'))
/-- The error is laid down. -/
theorem RdrV.fail {w : World} {K R : Nat} {v : Value} {l : List Int} {n e : Int} (h : RdrV w K R v ⟨l, n, e⟩) (x : Int) : RdrV (w.setCell ⟨R, 2, none⟩ (.int .i64 x)) K R v ⟨l, n, x⟩ :=
  ⟨h.hK, by simpa using h.lt, h.low.below ((Below.refl R w).setCell (Nat.le_refl _) _) h.hK, h.bytes, h.n0, h.n1, (cell_off (by omega)).trans h.c0, (cell_off (by omega)).trans h.c1, cell_same h.c2,
    fun o => (World.frozen?_setCell _ _ _ _).trans (h.f o)⟩
/-- What is left of a slice. -/
theorem Low.drop {w : World} {K cap : Nat} {ao : Option Addr} {l : List Int} (h : Low w K (.slice ao l.length cap) l) (k : Nat) (hk : k ≤ l.length) (v : Value)
    (hv : ∀ b o, ao = some ⟨b, o, none⟩ → ∃ a, v = .slice (some a) (l.length - k) (cap - k) ∧ (l.length - k = 0 ∨ a = ⟨b, o + k, none⟩)) (hl : l ≠ []) : Low w K v (l.drop k) := by
  obtain ⟨ao', cap', e, h1, h2, h3, h4⟩ := h
  injection e with e1 e2 e3
  subst e1 e3
  obtain ⟨b, o, rfl, hb, hat⟩ := h4.resolve_left hl
  obtain ⟨a, rfl, ha⟩ := hv b o rfl
  refine ⟨some a, cap - k, by rw [List.length_drop], by rw [List.length_drop]; omega, by omega, fun h => by simp at h, ?_⟩
  rcases ha with ha | rfl
  · left; exact List.eq_nil_of_length_eq_zero (by rw [List.length_drop]; omega)
  · exact Or.inr ⟨b, o + k, rfl, hb, hat.drop k⟩
/-- Bytes are taken. -/
theorem RdrV.take {w : World} {K R : Nat} {v u : Value} {l : List Int} {n e : Int} (h : RdrV w K R v ⟨l, n, e⟩) (k : Nat) (hk : k ≤ l.length) (m : Int) (hm : m = n + k) (hu : Low w K u (l.drop k)) :
    RdrV ((w.setCell ⟨R, 0, none⟩ u).setCell ⟨R, 1, none⟩ (.int .i64 m)) K R u ⟨l.drop k, m, e⟩ := by
  have n0 := h.n0
  have n1 := h.n1
  simp only at n0 n1
  subst hm
  refine ⟨h.hK, by simpa using h.lt, (hu.below ((Below.refl R w).setCell (Nat.le_refl _) _) h.hK).below ((Below.refl R _).setCell (Nat.le_refl _) _) h.hK, h.bytes.drop k, by simp only; omega, by simp only [List.length_drop]; omega, ?_, ?_, ?_, fun o => ?_⟩
  · rw [cell_off (by omega)]; exact cell_same h.c0
  · exact cell_same (u := .int .i64 n) ((cell_off (by omega)).trans h.c1)
  · rw [cell_off (by omega), cell_off (by omega)]; exact h.c2
  · rw [World.frozen?_setCell, World.frozen?_setCell]; exact h.f o
/-- A new one. -/
theorem Rdr.new {w : World} {v : Value} {l : List Int} (h : Rd w v l) (hb : Bytes l) (t : TypeId) : Rdr (w.alloc (.cells #[v, .int .i64 0, .int .i64 0] t)) w.heap.size w.heap.size ⟨l, 0, 0⟩ := by
  have B := Blk.new w #[v, .int .i64 0, .int .i64 0] t rfl
  have hl : l.length ≤ 9223372036854775807 := by obtain ⟨ao, cap, rfl, h1, h2, _⟩ := h; omega
  exact ⟨v, Nat.le_refl _, B.lt, h.low.below ((Below.refl _ w).alloc (Nat.le_refl _) _) (Nat.le_refl _), hb, by simp, by simp only; omega, B.cell 0 _ rfl, B.cell 1 _ rfl, B.cell 2 _ rfl, B.froz⟩
end Go.Proofs.YtokegpajjicehaaGreat

namespace Go.Proofs.YtokegpajjicehaaGreat
open Go.RowKit
set_option linter.unusedVariables false

theorem new_any (w : World) (v : Value) (l : List Int) (hb : Bytes l) (h : Rd w v l) : Calls Tryz.prog 49 #[v] w fun e w' =>
    e = .returned (.pointer (some ⟨w.heap.size, 0, none⟩)) ∧ Rdr w' w.heap.size w.heap.size ⟨l, 0, 0⟩ ∧ Below w.heap.size w w' ∧ w'.heap.size = w.heap.size + 1 := by
  have HR : Hid (Rd w v l) := h
  obtain ⟨ao, cap, rfl, _, _, _, _⟩ := h
  go_enter Tryz.func49, Tryz.ntmps49
  go_wp2_with fail
  go_ret
  exact ⟨rfl, Rdr.new HR.out hb _, (Below.refl _ _).alloc (Nat.le_refl _) _, by simp⟩

theorem err_any (w : World) (K R : Nat) (s : St) (h : Rdr w K R s) : Calls Tryz.prog 89 #[.pointer (some ⟨R, 0, none⟩)] w fun e w' => e = .returned (.int .i64 s.e) ∧ w' = w := by
  obtain ⟨v, h⟩ := h
  have c2 := h.c2
  go_enter Tryz.func89, Tryz.ntmps89
  go_wp2_with fail
  go_ret
  exact ⟨rfl, rfl⟩
theorem err_nil (w : World) : Calls Tryz.prog 89 #[.pointer none] w fun e w' => e = .returned (.int .i64 1) ∧ w' = w := by
  go_enter Tryz.func89, Tryz.ntmps89
  go_wp2_with fail
  go_ret
  exact ⟨rfl, rfl⟩
theorem left_any (w : World) (K R : Nat) (s : St) (h : Rdr w K R s) : Calls Tryz.prog 90 #[.pointer (some ⟨R, 0, none⟩)] w fun e w' => e = .returned (.int .i64 s.l.length) ∧ w' = w := by
  obtain ⟨v, h⟩ := h
  have c0 := h.c0
  obtain ⟨ao, cap, rfl, _, _, _, _⟩ := h.low
  go_enter Tryz.func90, Tryz.ntmps90
  go_wp2_with fail
  go_ret
  exact ⟨rfl, rfl⟩
theorem left_nil (w : World) : Calls Tryz.prog 90 #[.pointer none] w fun e w' => e = .returned (.int .i64 0) ∧ w' = w := by
  go_enter Tryz.func90, Tryz.ntmps90
  go_wp2_with fail
  go_ret
  exact ⟨rfl, rfl⟩
theorem fail_any (w : World) (K R : Nat) (s : St) (x : Int) (h : Rdr w K R s) : Calls Tryz.prog 124 #[.pointer (some ⟨R, 0, none⟩), .int .i64 x] w fun e w' => e = .returned (.tuple #[]) ∧ Rdr w' K R (failS s x) ∧ Ch R w w' := by
  have HR : Hid (Rdr w K R s) := h
  obtain ⟨l, n, e⟩ := s
  obtain ⟨v, h⟩ := h
  have HV : Hid (RdrV w K R v ⟨l, n, e⟩) := h
  have c2 := h.c2
  have f2 := h.f 2
  have lt := h.lt
  clear h
  simp only at c2
  by_cases he : e = 0
  · subst he
    go_enter Tryz.func124, Tryz.ntmps124
    go_wp2_with fail
    refine (err_any _ K R _ HR.out).mono ?_; rintro e w1 ⟨rfl, rfl⟩
    go_wp2_with fail
    go_end0
    exact ⟨rfl, ⟨v, HV.out.fail x⟩, (Ch.refl _ _).set 2 _⟩
  · go_enter Tryz.func124, Tryz.ntmps124
    go_wp2_with fail
    refine (err_any _ K R _ HR.out).mono ?_; rintro e w1 ⟨rfl, rfl⟩
    go_wp2_with fail
    go_end0
    refine ⟨rfl, ?_, Ch.refl _ _⟩
    unfold failS; rw [if_neg (by simpa using he)]; exact HR.out
theorem fail_nil (w : World) (x : Int) : Calls Tryz.prog 124 #[.pointer none, .int .i64 x] w fun e w' => e = .returned (.tuple #[]) ∧ w' = w := by
  go_enter Tryz.func124, Tryz.ntmps124
  go_wp2_with fail
  refine (err_nil _).mono ?_; rintro e w1 ⟨rfl, rfl⟩
  go_wp2_with fail
  go_end0
  exact ⟨rfl, rfl⟩
theorem done_any (w : World) (K R : Nat) (s : St) (h : Rdr w K R s) : Calls Tryz.prog 51 #[.pointer (some ⟨R, 0, none⟩)] w fun e w' => e = .returned (.int .i64 (doneA s)) ∧ w' = w := by
  have HR : Hid (Rdr w K R s) := h
  clear h
  obtain ⟨l, n, e⟩ := s
  obtain ⟨d, hd⟩ : ∃ d, doneA ⟨l, n, e⟩ = d := ⟨_, rfl⟩
  rw [hd]
  have HD := (show Hid _ from hd)
  clear hd
  by_cases he : e = 0
  · subst he
    by_cases hl : l = []
    · subst hl
      go_enter Tryz.func51, Tryz.ntmps51
      go_wp2_with fail
      refine (err_any _ K R _ HR.out).mono ?_; rintro e w1 ⟨rfl, rfl⟩
      go_wp2_with fail
      refine (left_any _ K R _ HR.out).mono ?_; rintro e w1 ⟨rfl, rfl⟩
      go_wp2_with fail
      refine (err_any _ K R _ HR.out).mono ?_; rintro e w1 ⟨rfl, rfl⟩
      go_wp2_with fail
      go_ret
      exact ⟨ret_int (by have := HD.out; simpa [doneA] using this), rfl⟩
    · have hp := List.length_pos_iff.2 hl
      obtain ⟨m, hm⟩ : ∃ m, l.length = m := ⟨_, rfl⟩
      rw [hm] at hp
      have HM := (show Hid _ from hm)
      have q : decide ((0 : Int) < (m : Int)) = true := by simp; omega
      clear hm
      go_enter Tryz.func51, Tryz.ntmps51
      go_wp2_with fail
      refine (err_any _ K R _ HR.out).mono ?_; rintro e w1 ⟨rfl, rfl⟩
      go_wp2_with fail
      refine (left_any _ K R _ HR.out).mono ?_; simp only; rw [HM.out]; rintro e w1 ⟨rfl, rfl⟩
      go_wp2_with fail
      go_ret
      exact ⟨ret_int (by have := HD.out; simpa [doneA, hl] using this), rfl⟩
  · go_enter Tryz.func51, Tryz.ntmps51
    go_wp2_with fail
    refine (err_any _ K R _ HR.out).mono ?_; rintro e w1 ⟨rfl, rfl⟩
    go_wp2_with fail
    refine (err_any _ K R _ HR.out).mono ?_; rintro e w1 ⟨rfl, rfl⟩
    go_wp2_with fail
    go_ret
    exact ⟨ret_int (by have := HD.out; simpa [doneA, he] using this), rfl⟩
theorem done_nil (w : World) : Calls Tryz.prog 51 #[.pointer none] w fun e w' => e = .returned (.int .i64 1) ∧ w' = w := by
  go_enter Tryz.func51, Tryz.ntmps51
  go_wp2_with fail
  refine (err_nil _).mono ?_; rintro e w1 ⟨rfl, rfl⟩
  go_wp2_with fail
  refine (err_nil _).mono ?_; rintro e w1 ⟨rfl, rfl⟩
  go_wp2_with fail
  go_ret
  exact ⟨rfl, rfl⟩
end Go.Proofs.YtokegpajjicehaaGreat
