/-
  Layer 6 (crc): what is sealed is opened, with one bit turned it isn't; bytes that differ in four neighbours have other sums (no program in sight).
-/
import Derived.Test.YthofloblheodbaaCrc6
namespace Go.Proofs.Ythofloblheodbaa
open Go.RowKit
def sealed (l : List Int) : List Int := l ++ four (sum l)
theorem sealed_len (l : List Int) : (sealed l).length = l.length + 4 := by simp [sealed, four]
theorem sealed_ok {l : List Int} (h : Bytes l) : Bytes (sealed l) := h.append (four_ok _)
theorem sealed_take (l : List Int) : (sealed l).take l.length = l := by simp [sealed]
theorem sealed_drop (l : List Int) : (sealed l).drop l.length = four (sum l) := by simp [sealed]
theorem sealed_open (l : List Int) : openB (sealed l) = true := by
  rw [open_is (sealed_len l), sealed_take, sealed_drop]; simp
theorem sealed_opened (l : List Int) : opened (sealed l) = l := by rw [opened_yes (sealed_len l) (sealed_open l), sealed_take]
theorem four_inj {a b : Nat} (ha : a < 4294967296) (hb : b < 4294967296) (h : four a = four b) : a = b := by
  simp only [four, List.cons.injEq] at h
  obtain ⟨h1, h2, h3, h4, _⟩ := h
  omega
theorem getD_at (l : List Int) (j : Nat) (h : j < l.length) : l.getD j 0 = l[j] := by simp [List.getD, h]
theorem set_split (l : List Int) (j : Nat) (x : Int) (h : j < l.length) : l.set j x = l.take j ++ x :: l.drop (j + 1) := List.set_eq_take_append_cons_drop .. |>.trans (by rw [if_pos h])
theorem own_split (l : List Int) (j : Nat) (h : j < l.length) : l = l.take j ++ l.getD j 0 :: l.drop (j + 1) := by
  rw [getD_at l j h, ← List.drop_eq_getElem_cons h, List.take_append_drop]
theorem Bytes.set {l : List Int} (h : Bytes l) (j : Nat) {x : Int} (hx : 0 ≤ x ∧ x ≤ 255) : Bytes (l.set j x) := by
  intro b hb
  rcases List.mem_or_eq_of_mem_set hb with k | k
  · exact h b k
  · rw [k]; exact hx
theorem eat_byte {s : Nat} {a b : Int} (hs : s < 4294967296) (ha : 0 ≤ a ∧ a ≤ 255) (hb : 0 ≤ b ∧ b ≤ 255) (h : eat s a = eat s b) : a = b := by
  have := xor_inj (halfs_inj (xor_lt hs (by omega)) (xor_lt hs (by omega)) 8 h)
  omega
/-- One byte other: another sum. -/
theorem sum_set {l : List Int} (hl : Bytes l) {j : Nat} (h : j < l.length) {x : Int} (hx : 0 ≤ x ∧ x ≤ 255) (he : sum (l.set j x) = sum l) : x = l.getD j 0 := by
  unfold sum more at he
  have he := xor_inj he
  rw [set_split l j x h] at he
  conv at he => rhs; rw [own_split l j h]
  rw [eats_append, eats_append] at he
  have h0 : eats (4294967295 ^^^ 0) (l.take j) < 4294967296 := eats_lt (hl.take j) (by decide)
  have hc := hl.at j
  have := eats_inj (hl.drop (j + 1)) (eat_lt h0 hx) (eat_lt h0 hc) he
  exact eat_byte h0 hx hc this
theorem turned_no {l : List Int} (hl : Bytes l) {j : Nat} (h : j < l.length + 4) {x : Int} (hx : 0 ≤ x ∧ x ≤ 255) (hne : x ≠ (sealed l).getD j 0) : openB ((sealed l).set j x) = false := by
  have hlen : ((sealed l).set j x).length = l.length + 4 := by rw [List.length_set, sealed_len]
  rw [open_is hlen]
  refine decide_eq_false fun e => ?_
  by_cases hj : j < l.length
  · have e1 : ((sealed l).set j x).take l.length = l.set j x := by rw [List.take_set, sealed_take]
    have e2 : ((sealed l).set j x).drop l.length = four (sum l) := by
      rw [List.drop_set_of_lt hj, sealed_drop]
    rw [e1, e2] at e
    have := four_inj (sum_lt hl) (sum_lt (hl.set j hx)) e
    have h2 := sum_set hl hj hx this.symm
    refine hne (h2.trans ?_)
    unfold sealed
    rw [List.getD_eq_getElem?_getD, List.getD_eq_getElem?_getD, List.getElem?_append_left hj]
  · have e1 : ((sealed l).set j x).take l.length = l := by
      rw [List.take_set, List.set_eq_of_length_le (by rw [List.length_take, sealed_len]; omega), sealed_take]
    rw [e1] at e
    have := congrArg (fun r => r.getD (j - l.length) 0) e
    simp only [List.getD_eq_getElem?_getD, List.getElem?_drop] at this
    rw [show l.length + (j - l.length) = j by omega, List.getElem?_set_self (by rw [sealed_len]; exact h)] at this
    refine hne (this.trans ?_)
    unfold sealed
    rw [List.getD_eq_getElem?_getD, List.getElem?_append_right (by omega)]
theorem turn_ne (c : Int) (hc : 0 ≤ c) (k : Nat) (hk : k ≠ 0) : ((c.toNat ^^^ k : Nat) : Int) ≠ c := by
  intro h
  have h1 : c.toNat ^^^ k = c.toNat := by omega
  have h2 : c.toNat ^^^ k = c.toNat ^^^ 0 := by rw [h1, Nat.xor_zero]
  exact hk (xor_inj h2)
theorem turn_byte (c : Int) (hc : 0 ≤ c ∧ c ≤ 255) (k : Nat) (hk : k < 256) : 0 ≤ ((c.toNat ^^^ k : Nat) : Int) ∧ ((c.toNat ^^^ k : Nat) : Int) ≤ 255 := by
  have : c.toNat ^^^ k < 2 ^ 8 := Nat.xor_lt_two_pow (by omega) hk
  omega

/-! four neighbours -/
theorem pair_inj {a b x y : Nat} (ha : a < 256) (hb : b < 256) (h : a ^^^ 256 * x = b ^^^ 256 * y) : a = b ∧ x = y := by
  have m : ∀ p q : Nat, p < 256 → (p ^^^ 256 * q) % 256 = p := by
    intro p q hp
    have := Nat.xor_mod_two_pow (a := p) (b := 256 * q) (n := 8)
    rw [show (2 : Nat) ^ 8 = 256 from rfl] at this
    rw [this, show 256 * q % 256 = 0 by omega, Nat.xor_zero]; omega
  have d : ∀ p q : Nat, p < 256 → (p ^^^ 256 * q) / 256 = q := by
    intro p q hp
    have := Nat.xor_div_two_pow (a := p) (b := 256 * q) (n := 8)
    rw [show (2 : Nat) ^ 8 = 256 from rfl] at this
    rw [this, show p / 256 = 0 by omega, Nat.zero_xor]; omega
  have h1 := congrArg (· % 256) h
  have h2 := congrArg (· / 256) h
  simp only [m _ _ ha, m _ _ hb] at h1
  simp only [d _ _ ha, d _ _ hb] at h2
  exact ⟨h1, h2⟩
theorem quad_nest (a b c d : Int) : quad a b c d = a.toNat ^^^ 256 * (b.toNat ^^^ 256 * (c.toNat ^^^ 256 * d.toNat)) := by
  have e := mul_xor 8
  rw [show (2 : Nat) ^ 8 = 256 from rfl] at e
  unfold quad
  rw [e, e, e, ← Nat.mul_assoc, ← Nat.mul_assoc, ← Nat.mul_assoc, Nat.xor_assoc, Nat.xor_assoc]
theorem four_other {s : Nat} (hs : s < 4294967296) {a b c d a' b' c' d' : Int} (ha : 0 ≤ a ∧ a ≤ 255) (hb : 0 ≤ b ∧ b ≤ 255) (hc : 0 ≤ c ∧ c ≤ 255) (hd : 0 ≤ d ∧ d ≤ 255)
    (ha' : 0 ≤ a' ∧ a' ≤ 255) (hb' : 0 ≤ b' ∧ b' ≤ 255) (hc' : 0 ≤ c' ∧ c' ≤ 255) (hd' : 0 ≤ d' ∧ d' ≤ 255) (h : eats s [a, b, c, d] = eats s [a', b', c', d']) : a = a' ∧ b = b' ∧ c = c' ∧ d = d' := by
  rw [eats_four, eats_four] at h
  have h := xor_inj (halfs_inj (xor_lt hs (quad_lt ha hb hc hd)) (xor_lt hs (quad_lt ha' hb' hc' hd')) 32 h)
  rw [quad_nest, quad_nest] at h
  obtain ⟨h1, h⟩ := pair_inj (by omega) (by omega) h
  obtain ⟨h2, h⟩ := pair_inj (by omega) (by omega) h
  obtain ⟨h3, h⟩ := pair_inj (by omega) (by omega) h
  omega
theorem four_of (l : List Int) (i : Nat) (h : i + 4 ≤ l.length) : l = l.take i ++ ([l.getD i 0, l.getD (i + 1) 0, l.getD (i + 2) 0, l.getD (i + 3) 0] ++ l.drop (i + 4)) := by
  have e : l.drop i = [l.getD i 0, l.getD (i + 1) 0, l.getD (i + 2) 0, l.getD (i + 3) 0] ++ l.drop (i + 4) := by
    rw [List.drop_eq_getElem_cons (show i < l.length by omega), List.drop_eq_getElem_cons (show i + 1 < l.length by omega), List.drop_eq_getElem_cons (show i + 1 + 1 < l.length by omega), List.drop_eq_getElem_cons (show i + 1 + 1 + 1 < l.length by omega)]
    rw [getD_at l i (by omega), getD_at l (i + 1) (by omega), getD_at l (i + 2) (by omega), getD_at l (i + 3) (by omega)]
    rfl
  rw [← e, List.take_append_drop]
/-- Bytes that are others in four neighbours at most have one sum only if they are the same. -/
theorem sum_unlike {l t : List Int} (hl : Bytes l) (ht : Bytes t) (hlen : t.length = l.length) {i : Nat} (hi : i + 4 ≤ l.length) (hs : ∀ j, (j < i ∨ i + 4 ≤ j) → t.getD j 0 = l.getD j 0) (h : sum t = sum l) :
    ∀ k, k < 4 → t.getD (i + k) 0 = l.getD (i + k) 0 := by
  have e1 : t.take i = l.take i := by
    apply List.ext_getElem?
    intro j
    rw [List.getElem?_take, List.getElem?_take]
    split
    · have := hs j (Or.inl ‹_›)
      rw [getD_at t j (by omega), getD_at l j (by omega)] at this
      rw [List.getElem?_eq_getElem (by omega), List.getElem?_eq_getElem (by omega), this]
    · rfl
  have e2 : t.drop (i + 4) = l.drop (i + 4) := by
    apply List.ext_getElem?
    intro j
    rw [List.getElem?_drop, List.getElem?_drop]
    by_cases hj : i + 4 + j < l.length
    · have := hs (i + 4 + j) (Or.inr (by omega))
      rw [getD_at t _ (by omega), getD_at l _ (by omega)] at this
      rw [List.getElem?_eq_getElem (by omega), List.getElem?_eq_getElem (by omega), this]
    · rw [List.getElem?_eq_none (by omega), List.getElem?_eq_none (by omega)]
  unfold sum more at h
  have h := xor_inj h
  rw [four_of l i hi, four_of t i (by omega), e1, e2, eats_append, eats_append, eats_append, eats_append] at h
  have h0 : eats (4294967295 ^^^ 0) (l.take i) < 4294967296 := eats_lt (hl.take i) (by decide)
  have hbl : Bytes [l.getD i 0, l.getD (i + 1) 0, l.getD (i + 2) 0, l.getD (i + 3) 0] := by
    intro b hb; simp only [List.mem_cons, List.not_mem_nil, or_false] at hb
    rcases hb with rfl | rfl | rfl | rfl <;> exact hl.at _
  have hbt : Bytes [t.getD i 0, t.getD (i + 1) 0, t.getD (i + 2) 0, t.getD (i + 3) 0] := by
    intro b hb; simp only [List.mem_cons, List.not_mem_nil, or_false] at hb
    rcases hb with rfl | rfl | rfl | rfl <;> exact ht.at _
  have h := eats_inj (hl.drop (i + 4)) (eats_lt hbt h0) (eats_lt hbl h0) h
  obtain ⟨h1, h2, h3, h4⟩ := four_other h0 (ht.at _) (ht.at _) (ht.at _) (ht.at _) (hl.at _) (hl.at _) (hl.at _) (hl.at _) h
  intro k hk
  rcases (show k = 0 ∨ k = 1 ∨ k = 2 ∨ k = 3 by omega) with rfl | rfl | rfl | rfl
  · exact h1
  · exact h2
  · exact h3
  · exact h4
/-- The first k of four neighbours, turned by a number's bytes. -/
def mess (l : List Int) (i y : Nat) : Nat → List Int
  | 0 => l
  | k + 1 => (mess l i y k).set (i + k) ((((mess l i y k).getD (i + k) 0).toNat ^^^ (y / 2 ^ (8 * k) % 256) : Nat) : Int)
theorem mess_len (l : List Int) (i y : Nat) : ∀ k, (mess l i y k).length = l.length
  | 0 => rfl
  | k + 1 => by show ((mess l i y k).set _ _).length = _; rw [List.length_set, mess_len l i y k]
theorem mess_ok {l : List Int} (h : Bytes l) (i y : Nat) : ∀ k, Bytes (mess l i y k)
  | 0 => h
  | k + 1 => (mess_ok h i y k).set _ (turn_byte _ ((mess_ok h i y k).at _) _ (by omega))
theorem mess_at (l : List Int) (i y : Nat) : ∀ (k : Nat), i + k ≤ l.length → ∀ j, (mess l i y k).getD j 0 = if i ≤ j ∧ j < i + k then (((l.getD j 0).toNat ^^^ (y / 2 ^ (8 * (j - i)) % 256) : Nat) : Int) else l.getD j 0
  | 0, _, j => by rw [if_neg (by omega)]; rfl
  | k + 1, h, j => by
    have ih := mess_at l i y k (by omega)
    show ((mess l i y k).set (i + k) _).getD j 0 = _
    by_cases e : j = i + k
    · subst e
      rw [List.getD_eq_getElem?_getD, List.getElem?_set_self (by rw [mess_len]; omega), if_pos (by omega), ih, if_neg (by omega), show i + k - i = k by omega]; rfl
    · rw [List.getD_eq_getElem?_getD, List.getElem?_set_ne (fun h => e h.symm), ← List.getD_eq_getElem?_getD, ih]
      by_cases c : i ≤ j ∧ j < i + k
      · rw [if_pos c, if_pos (by omega)]
      · rw [if_neg c, if_neg (by omega)]
theorem mess_sum {l : List Int} (hl : Bytes l) {i y : Nat} (hi : i + 4 ≤ l.length) (hy : y < 4294967296) (h0 : y ≠ 0) : sum (mess l i y 4) ≠ sum l := by
  intro h
  have hs := sum_unlike hl (mess_ok hl i y 4) (mess_len l i y 4) hi (fun j hj => by rw [mess_at l i y 4 hi j, if_neg (by omega)]) h
  have hk : ∀ k, k < 4 → y / 2 ^ (8 * k) % 256 = 0 := by
    intro k hk
    have := hs k hk
    rw [mess_at l i y 4 hi (i + k), if_pos (by omega), show i + k - i = k by omega] at this
    exact Decidable.byContradiction fun hn => turn_ne _ (hl.at _).1 _ hn this
  have a0 := hk 0 (by omega); have a1 := hk 1 (by omega); have a2 := hk 2 (by omega); have a3 := hk 3 (by omega)
  simp at a0 a1 a2 a3
  omega
end Go.Proofs.Ythofloblheodbaa
