/-
  Layer 5 (varint): a number's bytes, and the number that bytes begin with (no program in sight).
-/
import Derived.WalkKit
namespace Go.Proofs.Ytmclcoaicngodaa
open Go.RowKit

/-- A number's bytes. -/
def putN : Nat → Int → List Int
  | 0, x => [x]
  | n + 1, x => if x < 128 then [x] else (x % 128 + 128) :: putN n (x / 128)
theorem putN_lo {x : Int} (h : x < 128) : ∀ n, putN n x = [x]
  | 0 => rfl
  | _ + 1 => if_pos h
theorem putN_same : ∀ (n m : Nat) (x : Int), x.toNat ≤ n → x.toNat ≤ m → putN n x = putN m x
  | 0, m, x, h, _ => by rw [putN_lo (by omega) 0, putN_lo (by omega) m]
  | n + 1, 0, x, _, h => by rw [putN_lo (by omega) (n + 1), putN_lo (by omega) 0]
  | n + 1, m + 1, x, h1, h2 => by
    by_cases h : x < 128
    · rw [putN_lo h, putN_lo h]
    · show (if x < 128 then _ else _) = (if x < 128 then _ else _)
      rw [if_neg h, if_neg h, putN_same n m (x / 128) (by omega) (by omega)]
def put (x : Int) : List Int := putN x.toNat x
theorem put_lo {x : Int} (h : x < 128) : put x = [x] := putN_lo h _
theorem put_hi {x : Int} (h : 128 ≤ x) : put x = (x % 128 + 128) :: put (x / 128) := by
  unfold put
  obtain ⟨n, hn⟩ : ∃ n, x.toNat = n + 1 := ⟨x.toNat - 1, by omega⟩
  rw [hn]
  show (if x < 128 then _ else _) = _
  rw [if_neg (by omega), putN_same n (x / 128).toNat (x / 128) (by omega) (Nat.le_refl _)]

/-- The number that bytes stand for. -/
def val : List Int → Int
  | [] => 0
  | b :: r => b % 128 + 128 * val r
/-- How many bytes go on. -/
def lead : List Int → Nat
  | [] => 0
  | b :: r => if 128 ≤ b then lead r + 1 else 0
/-- All of them are bytes. -/
def Bytes (l : List Int) : Prop := ∀ b ∈ l, 0 ≤ b ∧ b ≤ 255

theorem Bytes.cons {b : Int} {l : List Int} : Bytes (b :: l) ↔ (0 ≤ b ∧ b ≤ 255) ∧ Bytes l := by
  unfold Bytes; simp
theorem Bytes.nil : Bytes [] := by unfold Bytes; simp
theorem Bytes.append {l r : List Int} (h : Bytes l) (k : Bytes r) : Bytes (l ++ r) := by
  intro b hb; rcases List.mem_append.1 hb with x | x
  · exact h b x
  · exact k b x
theorem Bytes.take {l : List Int} (h : Bytes l) (n : Nat) : Bytes (l.take n) := fun b hb => h b (List.mem_of_mem_take hb)
theorem Bytes.drop {l : List Int} (h : Bytes l) (n : Nat) : Bytes (l.drop n) := fun b hb => h b (List.mem_of_mem_drop hb)
theorem Bytes.at {l : List Int} (h : Bytes l) (i : Nat) : 0 ≤ l.getD i 0 ∧ l.getD i 0 ≤ 255 := by
  by_cases hi : i < l.length
  · have e : l.getD i 0 = l[i] := by simp [List.getD, hi]
    rw [e]; exact h _ (List.getElem_mem hi)
  · have e : l.getD i 0 = 0 := by simp [List.getD, hi]
    rw [e]; omega

theorem put_bytes : ∀ (n : Nat) (x : Int), x.toNat ≤ n → 0 ≤ x → Bytes (put x) := by
  intro n
  induction n with
  | zero => intro x h h0; rw [put_lo (by omega)]; exact Bytes.cons.2 ⟨by omega, Bytes.nil⟩
  | succ n ih =>
    intro x h h0
    by_cases hx : x < 128
    · rw [put_lo hx]; exact Bytes.cons.2 ⟨by omega, Bytes.nil⟩
    · rw [put_hi (by omega)]; exact Bytes.cons.2 ⟨by omega, ih _ (by omega) (by omega)⟩
theorem put_ok {x : Int} (h : 0 ≤ x) : Bytes (put x) := put_bytes x.toNat x (Nat.le_refl _) h

theorem put_val : ∀ (n : Nat) (x : Int), x.toNat ≤ n → 0 ≤ x → val (put x) = x := by
  intro n
  induction n with
  | zero => intro x h h0; rw [put_lo (by omega)]; simp only [val]; omega
  | succ n ih =>
    intro x h h0
    by_cases hx : x < 128
    · rw [put_lo hx]; simp only [val]; omega
    · rw [put_hi (by omega)]; simp only [val]; rw [ih _ (by omega) (by omega)]; omega
theorem val_put {x : Int} (h : 0 ≤ x) : val (put x) = x := put_val x.toNat x (Nat.le_refl _) h
theorem put_pos (x : Int) : 1 ≤ (put x).length := by
  by_cases h : x < 128
  · rw [put_lo h]; simp
  · rw [put_hi (by omega)]; simp
theorem put_ne (x : Int) : put x ≠ [] := by have := put_pos x; intro h; rw [h] at this; simp at this

/-- How many bytes a number has, by powers. -/
theorem put_len : ∀ (n : Nat) (x : Int), 0 ≤ x → x < (128 ^ (n + 1) : Nat) → (n = 0 ∨ ((128 ^ n : Nat) : Int) ≤ x) → (put x).length = n + 1 := by
  intro n
  induction n with
  | zero => intro x h0 h1 _; rw [put_lo (by simpa using h1)]; rfl
  | succ n ih =>
    intro x h0 h1 h2
    have h3 : ((128 ^ (n + 1) : Nat) : Int) ≤ x := by rcases h2 with h | h; · omega
                                                      · exact h
    have p0 : 0 < 128 ^ n := Nat.pow_pos (by omega)
    have e1 : 128 ^ (n + 1) = 128 ^ n * 128 := Nat.pow_succ ..
    have e2 : 128 ^ (n + 1 + 1) = 128 ^ n * 128 * 128 := by rw [Nat.pow_succ, Nat.pow_succ]
    generalize hp : 128 ^ n = p at *
    rw [put_hi (by omega), List.length_cons, ih (x / 128) (by omega) (by omega) (by right; omega)]
theorem put_le : ∀ (n : Nat) (x : Int), 0 ≤ x → x < (128 ^ (n + 1) : Nat) → (put x).length ≤ n + 1 := by
  intro n
  induction n with
  | zero => intro x h0 h1; rw [put_lo (by simpa using h1)]; simp
  | succ n ih =>
    intro x h0 h1
    by_cases hx : x < 128
    · rw [put_lo hx]; simp
    · have e2 : 128 ^ (n + 1 + 1) = 128 ^ (n + 1) * 128 := Nat.pow_succ ..
      generalize hp : 128 ^ (n + 1) = p at *
      rw [put_hi (by omega), List.length_cons]
      have := ih (x / 128) (by omega) (by omega)
      omega
theorem put_ten {x : Int} (h0 : 0 ≤ x) (h1 : x ≤ 18446744073709551615) : (put x).length ≤ 10 :=
  put_le 9 x h0 (by have : (128 ^ (9 + 1) : Nat) = 1180591620717411303424 := by decide
                    rw [this]; omega)
theorem put_up : ∀ (n : Nat) (x y : Int), x.toNat ≤ n → 0 ≤ x → x ≤ y → (put x).length ≤ (put y).length := by
  intro n
  induction n with
  | zero => intro x y h h0 h1; rw [put_lo (by omega)]; exact put_pos y
  | succ n ih =>
    intro x y h h0 h1
    by_cases hx : x < 128
    · rw [put_lo hx]; exact put_pos y
    · rw [put_hi (x := x) (by omega), put_hi (x := y) (by omega)]
      have := ih (x / 128) (y / 128) (by omega) (by omega) (by omega)
      simp only [List.length_cons]; omega

/-! what goes on, and what stands behind -/
theorem lead_put : ∀ (n : Nat) (x : Int) (r : List Int), x.toNat ≤ n → 0 ≤ x → lead (put x ++ r) + 1 = (put x).length := by
  intro n
  induction n with
  | zero => intro x r h h0; rw [put_lo (by omega)]; simp [lead]; omega
  | succ n ih =>
    intro x r h h0
    by_cases hx : x < 128
    · rw [put_lo hx]; simp [lead]; omega
    · rw [put_hi (by omega)]
      have := ih (x / 128) r (by omega) (by omega)
      simp only [List.cons_append, lead, List.length_cons]
      rw [if_pos (by omega)]; omega
theorem lead_of {x : Int} (h : 0 ≤ x) (r : List Int) : lead (put x ++ r) + 1 = (put x).length := lead_put x.toNat x r (Nat.le_refl _) h
theorem lead_le : ∀ l : List Int, lead l ≤ l.length
  | [] => by simp [lead]
  | b :: r => by simp only [lead]; split <;> have := lead_le r <;> simp <;> omega
theorem lead_at : ∀ (l : List Int) (i : Nat), i < lead l → 128 ≤ l.getD i 0
  | [], i, h => by simp [lead] at h
  | b :: r, i, h => by
    simp only [lead] at h
    split at h
    · cases i with
      | zero => simpa using ‹128 ≤ b›
      | succ i => have := lead_at r i (by omega); simpa using this
    · omega
theorem lead_end : ∀ (l : List Int), lead l < l.length → l.getD (lead l) 0 < 128
  | [], h => by simp [lead] at h
  | b :: r, h => by
    simp only [lead] at h ⊢
    split at h
    · rw [if_pos ‹_›]; have := lead_end r (by simpa using h); simpa using this
    · rw [if_neg ‹_›]; simp; omega
/-- All up to n go on, the one at n doesn't. -/
theorem lead_is : ∀ (l : List Int) (n : Nat), (∀ j, j < n → 128 ≤ l.getD j 0) → n < l.length → l.getD n 0 < 128 → lead l = n
  | [], n, _, h, _ => by simp at h
  | b :: r, n, ha, h, he => by
    cases n with
    | zero => simp only [lead]; rw [if_neg (by simpa using he)]
    | succ n =>
      simp only [lead]
      rw [if_pos (by simpa using ha 0 (by omega)), lead_is r n (fun j hj => by simpa using ha (j + 1) (by omega)) (by simpa using h) (by simpa using he)]
theorem lead_all : ∀ (l : List Int) (n : Nat), (∀ j, j < n → 128 ≤ l.getD j 0) → n ≤ l.length → n ≤ lead l
  | [], n, _, h => by simp at h; omega
  | b :: r, n, ha, h => by
    cases n with
    | zero => omega
    | succ n =>
      simp only [lead]
      rw [if_pos (by simpa using ha 0 (by omega))]
      have := lead_all r n (fun j hj => by simpa using ha (j + 1) (by omega)) (by simpa using h)
      omega

/-! values -/
theorem val_nn : ∀ l : List Int, 0 ≤ val l
  | [] => by simp [val]
  | b :: r => by simp only [val]; have := val_nn r; omega
theorem val_drop : ∀ (k : Nat) (l : List Int), val (l.drop k) ≤ val l := by
  intro k
  induction k with
  | zero => intro l; simp
  | succ k ih =>
    intro l
    cases l with
    | nil => simp
    | cons b r => have := ih r; have := val_nn r; simp only [List.drop_succ_cons, val]; omega
theorem val_at (l : List Int) (k : Nat) (h : k < l.length) : val (l.drop k) = l.getD k 0 % 128 + 128 * val (l.drop (k + 1)) := by
  rw [List.drop_eq_getElem_cons h]
  simp only [val, List.getD, List.getElem?_eq_getElem h, Option.getD_some]
theorem val_over (l : List Int) (k : Nat) (h : k < l.length) (hb : 144115188075855871 < val (l.drop (k + 1))) : 18446744073709551616 ≤ val l := by
  have h1 := val_at l k h
  have h2 := val_drop k l
  omega
theorem val_snoc : ∀ (l : List Int) (b : Int), val (l ++ [b]) = val l + (128 ^ l.length : Nat) * (b % 128)
  | [], b => by simp [val]
  | c :: r, b => by
    simp only [List.cons_append, val, val_snoc r b, List.length_cons]
    have e : ((128 ^ (r.length + 1) : Nat) : Int) = 128 * (128 ^ r.length : Nat) := by rw [Nat.pow_succ]; push_cast; omega
    rw [e, Int.mul_add, ← Int.mul_assoc]; omega
theorem val_lt : ∀ (l : List Int), val l < (128 ^ l.length : Nat)
  | [] => by simp [val]
  | b :: r => by
    have h := val_lt r
    have e : 128 ^ (r.length + 1) = 128 ^ r.length * 128 := Nat.pow_succ ..
    simp only [val, List.length_cons]
    rw [e]
    generalize 128 ^ r.length = p at *
    omega
theorem take_snoc' (l : List Int) (k : Nat) (h : k < l.length) : l.take (k + 1) = l.take k ++ [l.getD k 0] := by
  rw [List.take_succ_eq_append_getElem h]; simp [List.getD, List.getElem?_eq_getElem h]
theorem val_take (l : List Int) (k : Nat) (h : k < l.length) : val (l.take (k + 1)) = val (l.take k) + (128 ^ k : Nat) * (l.getD k 0 % 128) := by
  rw [take_snoc' l k h, val_snoc, List.length_take_of_le (by omega)]
theorem val_take_lt (l : List Int) (k : Nat) (h : k ≤ l.length) : val (l.take k) < (128 ^ k : Nat) := by
  have := val_lt (l.take k); rwa [List.length_take_of_le h] at this

/-! what Get answers -/
def got (l : List Int) : Int × Int × Int :=
  if l = [] then (0, 0, 5)
  else if 10 ≤ lead l then (0, 0, 8)
  else if lead l = l.length then (0, 0, 6)
  else if 18446744073709551616 ≤ val (l.take (lead l + 1)) then (0, 0, 8)
  else if 0 < lead l ∧ l.getD (lead l) 0 = 0 then (0, 0, 7)
  else (val (l.take (lead l + 1)), (lead l : Int) + 1, 0)

theorem put_last : ∀ (n : Nat) (x : Int) (r : List Int), x.toNat ≤ n → 128 ≤ x → (put x ++ r).getD ((put x).length - 1) 0 ≠ 0 := by
  intro n
  induction n with
  | zero => intro x r h h0; omega
  | succ n ih =>
    intro x r h h0
    rw [put_hi h0]
    by_cases hx : x / 128 < 128
    · rw [put_lo hx]; simp; omega
    · have := ih (x / 128) r (by omega) (by omega)
      have hp := put_pos (x / 128)
      simp only [List.length_cons, List.cons_append]
      rw [show (put (x / 128)).length + 1 - 1 = ((put (x / 128)).length - 1) + 1 by omega]
      simpa using this
theorem got_put {x : Int} (h0 : 0 ≤ x) (h1 : x ≤ 18446744073709551615) (r : List Int) : got (put x ++ r) = (x, ((put x).length : Int), 0) := by
  have hl := lead_of h0 r
  have h10 := put_ten h0 h1
  have hp := put_pos x
  have ht : (put x ++ r).take (lead (put x ++ r) + 1) = put x := by rw [hl, List.take_left]
  unfold got
  rw [if_neg (by simp [put_ne]), if_neg (by omega), if_neg (by rw [List.length_append]; omega), ht, val_put h0, if_neg (by omega), if_neg]
  · rw [show ((lead (put x ++ r) : Int) + 1) = ((put x).length : Int) by omega]
  · rintro ⟨a, b⟩
    have e : lead (put x ++ r) = (put x).length - 1 := by omega
    rw [e] at b
    refine put_last x.toNat x r (Nat.le_refl _) ?_ b
    by_cases hx : x < 128
    · have : (put x).length = 1 := by rw [put_lo hx]; rfl
      omega
    · omega
theorem lead_cut : ∀ (n : Nat) (x : Int) (i : Nat), x.toNat ≤ n → 0 ≤ x → i < (put x).length → lead ((put x).take i) = i := by
  intro n
  induction n with
  | zero => intro x i h h0 hi; rw [put_lo (by omega)] at hi ⊢; simp at hi; subst hi; simp [lead]
  | succ n ih =>
    intro x i h h0 hi
    by_cases hx : x < 128
    · rw [put_lo hx] at hi ⊢; simp at hi; subst hi; simp [lead]
    · rw [put_hi (by omega)] at hi ⊢
      cases i with
      | zero => simp [lead]
      | succ i =>
        simp only [List.take_succ_cons, lead]
        rw [if_pos (by omega), ih (x / 128) i (by omega) (by omega) (by simpa using hi)]
theorem got_cut {x : Int} (h0 : 0 ≤ x) (h1 : x ≤ 18446744073709551615) (i : Nat) (hi0 : 1 ≤ i) (hi : i < (put x).length) : got ((put x).take i) = (0, 0, 6) := by
  have hl := lead_cut x.toNat x i (Nat.le_refl _) h0 hi
  have h10 := put_ten h0 h1
  have hlen : ((put x).take i).length = i := List.length_take_of_le (by omega)
  unfold got
  rw [if_neg (by intro h; rw [h] at hlen; simp at hlen; omega), if_neg (by omega), if_pos (by omega)]
/-- A row of bytes of the form is the number's. -/
theorem put_back : ∀ (l : List Int), Bytes l → (∀ i, i + 1 < l.length → 128 ≤ l.getD i 0) → l.getD (l.length - 1) 0 < 128 → l ≠ [] → (1 < l.length → l.getD (l.length - 1) 0 ≠ 0) → put (val l) = l
  | [], _, _, _, h, _ => absurd rfl h
  | [b], hb, _, hl, _, _ => by
    have := (Bytes.cons.1 hb).1
    simp at hl
    simp only [val]; rw [put_lo (by omega)]; congr 1; omega
  | b :: c :: r, hb, ha, hl, _, hz => by
    have h1 := (Bytes.cons.1 hb).1
    have h2 := ha 0 (by simp)
    simp only [List.getD_cons_zero] at h2
    have ih := put_back (c :: r) (Bytes.cons.1 hb).2 (fun i hi => by have := ha (i + 1) (by simpa using hi); simpa using this) (by simpa using hl) (by simp) (fun _ => by have := hz (by simp); simpa using this)
    have hv : 0 < val (c :: r) := by
      have hn := val_nn (c :: r)
      rcases Int.lt_or_eq_of_le hn with h | h
      · exact h
      · exfalso
        rw [← h, put_lo (by omega)] at ih
        injection ih with e1 e2
        have := hz (by simp)
        rw [← e1, ← e2] at this
        simp at this
    simp only [val] at hv ⊢
    rw [put_hi (by omega)]
    have e1 : (b % 128 + 128 * (c % 128 + 128 * val r)) / 128 = c % 128 + 128 * val r := by omega
    rw [e1]
    simp only [val] at ih
    rw [ih]
    congr 1
    omega
theorem put_got {l : List Int} (hb : Bytes l) (z k : Int) (h : got l = (z, k, 0)) : 0 ≤ z ∧ z ≤ 18446744073709551615 ∧ ∃ n : Nat, k = n ∧ 1 ≤ n ∧ n ≤ l.length ∧ put z = l.take n := by
  unfold got at h
  split at h
  · simp at h
  split at h
  · simp at h
  split at h
  · simp at h
  split at h
  · simp at h
  split at h
  · simp at h
  have hle := lead_le l
  simp only [Prod.mk.injEq, and_true] at h
  obtain ⟨rfl, rfl⟩ := h
  refine ⟨val_nn _, by omega, lead l + 1, by omega, by omega, by omega, ?_⟩
  have hlen : (l.take (lead l + 1)).length = lead l + 1 := List.length_take_of_le (by omega)
  have ga : ∀ i, i < lead l + 1 → (l.take (lead l + 1)).getD i 0 = l.getD i 0 := fun i hi => by simp [List.getD, hi]
  refine put_back _ (hb.take _) (fun i hi => ?_) ?_ (by intro h; rw [h] at hlen; simp at hlen) (fun h1 => ?_)
  · rw [ga i (by omega)]; exact lead_at l i (by omega)
  · rw [hlen, ga _ (by omega)]; exact lead_end l (by omega)
  · rw [hlen, ga _ (by omega)]
    intro h; exact ‹¬(0 < lead l ∧ _)› ⟨by omega, h⟩
theorem got_err (l : List Int) : (got l).2.2 = 0 ∨ ((got l).1 = 0 ∧ (got l).2.1 = 0) := by
  unfold got
  split <;> (try split) <;> (try split) <;> (try split) <;> (try split) <;> simp
theorem got_bd (l : List Int) : 0 ≤ (got l).1 ∧ (got l).1 ≤ 18446744073709551615 ∧ 0 ≤ (got l).2.1 ∧ (got l).2.1 ≤ 10 ∧ 0 ≤ (got l).2.2 ∧ (got l).2.2 ≤ 8 := by
  have h := val_nn (l.take (lead l + 1))
  unfold got
  split <;> (try split) <;> (try split) <;> (try split) <;> (try split) <;> simp <;> omega

/-! bytes by their places -/
theorem put_at : ∀ (j : Nat) (x : Int), 0 ≤ x → j < (put x).length → (put x).getD j 0 = x / (128 ^ j : Nat) % 128 + if j + 1 < (put x).length then 128 else 0 := by
  intro j
  induction j with
  | zero =>
    intro x h0 hj
    by_cases hx : x < 128
    · rw [put_lo hx]; simp; omega
    · rw [put_hi (by omega)]
      have := put_pos (x / 128)
      rw [if_pos (by simp; omega)]; simp
  | succ j ih =>
    intro x h0 hj
    by_cases hx : x < 128
    · rw [put_lo hx] at hj; simp at hj
    · rw [put_hi (by omega)] at hj ⊢
      have := ih (x / 128) (by omega) (by simpa using hj)
      have e : x / 128 / ((128 ^ j : Nat) : Int) = x / ((128 ^ (j + 1) : Nat) : Int) := by
        rw [Int.ediv_ediv, if_neg (by omega), Int.sub_zero]; congr 1; rw [Nat.pow_succ, Nat.mul_comm]; rfl
      rw [e] at this
      simp only [List.length_cons] at hj ⊢
      rw [List.getD_cons_succ, this]
      by_cases h2 : j + 1 < (put (x / 128)).length
      · rw [if_pos h2, if_pos (by omega)]
      · rw [if_neg h2, if_neg (by omega)]
/-- What Put has laid down behind k rounds. -/
def stage (x : Int) (n k : Nat) : List Int := (List.range n).map fun j => if j < k then x / (128 ^ j : Nat) % 128 + 128 else 0
theorem stage_len (x : Int) (n k : Nat) : (stage x n k).length = n := by simp [stage]
theorem stage_zero (x : Int) (n : Nat) : stage x n 0 = List.replicate n 0 := by
  apply List.ext_getElem <;> simp [stage]
theorem stage_succ (x : Int) (n k : Nat) : (stage x n k).set k (x / (128 ^ k : Nat) % 128 + 128) = stage x n (k + 1) := by
  apply List.ext_getElem
  · simp [stage]
  · intro i h1 h2
    simp only [stage, List.getElem_set, List.getElem_map, List.getElem_range]
    by_cases hk : k = i
    · subst hk; simp
    · rw [if_neg hk]
      by_cases h : i < k
      · rw [if_pos h, if_pos (by omega)]
      · rw [if_neg h, if_neg (by omega)]
theorem stage_last (x : Int) (n : Nat) (h : 1 ≤ n) : (stage x n n).getD (n - 1) 0 = x / (128 ^ (n - 1) : Nat) % 128 + 128 := by
  simp only [stage, List.getD]
  rw [List.getElem?_map, List.getElem?_range (by omega)]
  simp; omega
theorem stage_end {x : Int} {n : Nat} (h0 : 0 ≤ x) (h : (put x).length = n) : (stage x n n).set (n - 1) (x / (128 ^ (n - 1) : Nat) % 128) = put x := by
  apply List.ext_getElem
  · simp [stage, h]
  · intro i h1 h2
    have hp := put_at i x h0 h2
    have e : (put x).getD i 0 = (put x)[i] := by simp [List.getD, h2]
    rw [e] at hp
    rw [hp]
    simp only [stage, List.getElem_set, List.getElem_map, List.getElem_range]
    by_cases hk : n - 1 = i
    · subst hk; rw [if_pos rfl, if_neg (by omega)]; omega
    · rw [if_neg hk, if_pos (by omega), if_pos (by omega)]

/-! the other sign -/
def zig (x : Int) : Int := if 0 ≤ x then 2 * x else -2 * x - 1
def zag (x : Int) : Int := if x % 2 = 0 then x / 2 else -(x / 2) - 1
theorem zig_bd {x : Int} (h : -9223372036854775808 ≤ x ∧ x ≤ 9223372036854775807) : 0 ≤ zig x ∧ zig x ≤ 18446744073709551615 := by unfold zig; split <;> omega
theorem zag_bd {x : Int} (h : 0 ≤ x ∧ x ≤ 18446744073709551615) : -9223372036854775808 ≤ zag x ∧ zag x ≤ 9223372036854775807 := by unfold zag; split <;> omega
theorem zag_zig (x : Int) : zag (zig x) = x := by unfold zag zig; split <;> split <;> omega
theorem zig_zag {x : Int} (h : 0 ≤ x) : zig (zag x) = x := by unfold zag zig; split <;> split <;> omega
end Go.Proofs.Ytmclcoaicngodaa
