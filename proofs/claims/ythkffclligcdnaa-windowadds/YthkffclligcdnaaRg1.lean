/-
  Layer 11 (ring): the numbers of a ring (no memory, no program in sight).
-/
import GoSem.Claim
namespace Go.Proofs.Ythkffclligcdnaa
open Go
set_option linter.unusedVariables false

/-- A number, and the thing at it. -/
abbrev Pr := Int × Value
def noPr : Pr := (0, .int .i64 0)
/-- The numbers rise. -/
def Rise (L : List Pr) : Prop := L.Pairwise fun p q => p.1 < q.1
/-- How many numbers are no greater. -/
def untl (L : List Pr) (k : Int) : Nat := L.countP fun p => decide (p.1 ≤ k)
def keyAt (L : List Pr) (i : Nat) : Int := (L.getD i noPr).1
def thing (L : List Pr) (i : Nat) : Value := (L.getD i noPr).2
theorem untl_le (L : List Pr) (k : Int) : untl L k ≤ L.length := List.countP_le_length
theorem untl_cons (p : Pr) (L : List Pr) (k : Int) : untl (p :: L) k = untl L k + (if p.1 ≤ k then 1 else 0) := by
  unfold untl; rw [List.countP_cons]; simp
theorem keyAt_zero (p : Pr) (L : List Pr) : keyAt (p :: L) 0 = p.1 := rfl
theorem keyAt_succ (p : Pr) (L : List Pr) (i : Nat) : keyAt (p :: L) (i + 1) = keyAt L i := rfl
theorem thing_zero (p : Pr) (L : List Pr) : thing (p :: L) 0 = p.2 := rfl
theorem thing_succ (p : Pr) (L : List Pr) (i : Nat) : thing (p :: L) (i + 1) = thing L i := rfl
theorem keyAt_mem {L : List Pr} {i : Nat} (h : i < L.length) : ∃ p ∈ L, p.1 = keyAt L i ∧ p.2 = thing L i := by
  refine ⟨L[i], List.getElem_mem h, ?_, ?_⟩ <;> simp [keyAt, thing, List.getD, h]
theorem mem_keyAt {L : List Pr} {p : Pr} (h : p ∈ L) : ∃ i, i < L.length ∧ keyAt L i = p.1 ∧ thing L i = p.2 := by
  obtain ⟨i, hi, rfl⟩ := List.getElem_of_mem h
  exact ⟨i, hi, by simp [keyAt, List.getD, hi], by simp [thing, List.getD, hi]⟩
theorem rise_cons {p : Pr} {L : List Pr} (h : Rise (p :: L)) : (∀ q ∈ L, p.1 < q.1) ∧ Rise L := by
  unfold Rise at h ⊢; rw [List.pairwise_cons] at h; exact h
theorem untl_none {L : List Pr} {k : Int} (h : ∀ q ∈ L, k < q.1) : untl L k = 0 := by
  unfold untl; rw [List.countP_eq_zero]; intro q hq; have := h q hq; simp; omega
/-- Ahead of the place that is sought numbers are no greater, from it on they are. -/
theorem untl_iff : ∀ {L : List Pr} (_ : Rise L) (k : Int) (i : Nat), i < L.length → (i < untl L k ↔ keyAt L i ≤ k)
  | [], _, _, _, h => by simp at h
  | p :: L, hr, k, i, h => by
    obtain ⟨h1, h2⟩ := rise_cons hr
    rw [untl_cons]
    rcases i with _ | i
    · rw [keyAt_zero]
      by_cases hp : p.1 ≤ k
      · simp [hp]
      · rw [untl_none (fun q hq => by have := h1 q hq; omega)]; simp [hp]
    · rw [keyAt_succ]
      have hi : i < L.length := by simpa using h
      have ih := untl_iff h2 k i hi
      obtain ⟨q, hq, hk, _⟩ := keyAt_mem hi
      by_cases hp : p.1 ≤ k
      · simp only [hp, if_true]; rw [← ih]; omega
      · have := h1 q hq
        simp only [hp, if_false]; rw [← ih]; rw [untl_none (fun q hq => by have := h1 q hq; omega)]; omega
theorem keyAt_lt : ∀ {L : List Pr} (_ : Rise L) {i j : Nat}, i < j → j < L.length → keyAt L i < keyAt L j
  | [], _, _, _, _, h => by simp at h
  | p :: L, hr, i, j + 1, hij, h => by
    obtain ⟨h1, h2⟩ := rise_cons hr
    have hj : j < L.length := by simpa using h
    rcases i with _ | i
    · rw [keyAt_zero, keyAt_succ]
      obtain ⟨q, hq, hk, _⟩ := keyAt_mem hj
      rw [← hk]; exact h1 q hq
    · rw [keyAt_succ, keyAt_succ]
      exact keyAt_lt h2 (by omega) hj
  | p :: L, hr, i, 0, hij, h => by omega
/-- A number is there just if it stands ahead of the place that is sought. -/
theorem there_iff {L : List Pr} (hr : Rise L) (k : Int) : (∃ p ∈ L, p.1 = k) ↔ (0 < untl L k ∧ keyAt L (untl L k - 1) = k) := by
  constructor
  · rintro ⟨p, hp, rfl⟩
    obtain ⟨i, hi, hk, _⟩ := mem_keyAt hp
    have h1 := (untl_iff hr p.1 i hi).2 (by omega)
    refine ⟨by omega, ?_⟩
    have hu := untl_le L p.1
    have h2 := (untl_iff hr p.1 (untl L p.1 - 1) (by omega)).1 (by omega)
    rcases Nat.lt_or_ge i (untl L p.1 - 1) with h | h
    · have := keyAt_lt hr h (by omega); omega
    · have e : i = untl L p.1 - 1 := by omega
      rw [← e]; exact hk
  · rintro ⟨h1, h2⟩
    have hu := untl_le L k
    obtain ⟨p, hp, hk, _⟩ := keyAt_mem (L := L) (i := untl L k - 1) (by omega)
    exact ⟨p, hp, hk.trans h2⟩

/-- A ring: how many numbers there may be; they, with their things; the greatest that went; whether one did. -/
structure Rs where
  M : Nat
  L : List Pr
  F : Int
  G : Bool
/-- The number is there. -/
def isAt (L : List Pr) (k : Int) : Bool := decide (0 < untl L k) && decide (keyAt L (untl L k - 1) = k)
/-- The thing at a number, or that of none. -/
def getX (L : List Pr) (k : Int) (z : Value) : Value := if isAt L k then thing L (untl L k - 1) else z
/-- The number laid, with its thing. -/
def laid (L : List Pr) (k : Int) (x : Value) : List Pr := L.take (untl L k) ++ (k, x) :: L.drop (untl L k)
theorem laid_len (L : List Pr) (k : Int) (x : Value) : (laid L k x).length = L.length + 1 := by
  have := untl_le L k
  unfold laid; simp; omega
/-- What Lay answers: the number that goes, whether one does, the error. -/
def layA (s : Rs) (k : Int) : Int × Bool × Int :=
  if isAt s.L k then (0, false, 12)
  else if untl s.L k = 0 ∧ s.L.length = s.M then (0, false, 13)
  else if s.L.length < s.M then (0, false, 0)
  else (keyAt (laid s.L k noPr.2) 0, true, 0)
/-- How the ring stands behind it. -/
def layS (s : Rs) (k : Int) (x : Value) : Rs :=
  if isAt s.L k then s
  else if untl s.L k = 0 ∧ s.L.length = s.M then s
  else if s.L.length < s.M then { s with L := laid s.L k x }
  else { s with L := (laid s.L k x).tail, F := keyAt (laid s.L k x) 0, G := true }
/-- How rings stand. -/
structure Rs.ok (s : Rs) : Prop where
  most : 1 ≤ s.M ∧ s.M ≤ 64
  len : s.L.length ≤ s.M
  rise : Rise s.L
  gone : s.G = true → s.L.length = s.M ∧ ∀ p ∈ s.L, s.F < p.1
  none_ : s.G = false → s.F = 0
  wf : (∀ p ∈ s.L, -9223372036854775808 ≤ p.1 ∧ p.1 ≤ 9223372036854775807) ∧ -9223372036854775808 ≤ s.F ∧ s.F ≤ 9223372036854775807
def emptyR (M : Nat) : Rs := ⟨M, [], 0, false⟩
theorem empty_ok {M : Nat} (h : 1 ≤ M ∧ M ≤ 64) : (emptyR M).ok :=
  ⟨h, by simp [emptyR], List.Pairwise.nil, fun h => by simp [emptyR] at h, fun _ => rfl, fun p hp => by simp [emptyR] at hp, by simp [emptyR], by simp [emptyR]⟩
/-- The numbers that are there when one is laid: it, and the elder ones. -/
theorem mem_laid {L : List Pr} {k : Int} {x : Value} {p : Pr} : p ∈ laid L k x ↔ p = (k, x) ∨ p ∈ L := by
  unfold laid
  rw [List.mem_append, List.mem_cons]
  constructor
  · rintro (h | h | h)
    · exact Or.inr (List.mem_of_mem_take h)
    · exact Or.inl h
    · exact Or.inr (List.mem_of_mem_drop h)
  · rintro (h | h)
    · exact Or.inr (Or.inl h)
    · have e := List.take_append_drop (untl L k) L
      rw [← e, List.mem_append] at h
      rcases h with h | h
      · exact Or.inl h
      · exact Or.inr (Or.inr h)
theorem rise_take {L : List Pr} (h : Rise L) (n : Nat) : Rise (L.take n) := h.sublist (List.take_sublist n L)
theorem rise_drop {L : List Pr} (h : Rise L) (n : Nat) : Rise (L.drop n) := h.sublist (List.drop_sublist n L)
theorem take_le {L : List Pr} (hr : Rise L) (k : Int) : ∀ p ∈ L.take (untl L k), p.1 ≤ k := by
  intro p hp
  obtain ⟨i, hi, rfl⟩ := List.getElem_of_mem hp
  rw [List.length_take] at hi
  have := (untl_iff hr k i (by omega)).1 (by omega)
  rw [List.getElem_take]
  simpa [keyAt, List.getD, show i < L.length by omega] using this
theorem drop_gt {L : List Pr} (hr : Rise L) (k : Int) : ∀ p ∈ L.drop (untl L k), k < p.1 := by
  intro p hp
  obtain ⟨i, hi, rfl⟩ := List.getElem_of_mem hp
  rw [List.length_drop] at hi
  have := mt (untl_iff hr k (untl L k + i) (by omega)).2 (by omega)
  rw [List.getElem_drop]
  have h2 : ¬ (L[untl L k + i]'(by omega)).1 ≤ k := by simpa [keyAt, List.getD, show untl L k + i < L.length by omega] using this
  omega
theorem isAt_iff {L : List Pr} (hr : Rise L) (k : Int) : isAt L k = true ↔ ∃ p ∈ L, p.1 = k := by
  rw [there_iff hr]; simp [isAt]
theorem take_lt {L : List Pr} (hr : Rise L) {k : Int} (h : isAt L k = false) : ∀ p ∈ L.take (untl L k), p.1 < k := by
  intro p hp
  have h1 := take_le hr k p hp
  have h2 : p.1 ≠ k := fun e => by
    have := (isAt_iff hr k).2 ⟨p, List.mem_of_mem_take hp, e⟩
    rw [h] at this; cases this
  omega
theorem rise_laid {L : List Pr} (hr : Rise L) {k : Int} (h : isAt L k = false) (x : Value) : Rise (laid L k x) := by
  unfold laid Rise
  rw [List.pairwise_append, List.pairwise_cons]
  refine ⟨rise_take hr _, ⟨fun q hq => drop_gt hr k q hq, rise_drop hr _⟩, fun p hp q hq => ?_⟩
  have h1 := take_lt hr h p hp
  rcases List.mem_cons.1 hq with rfl | hq
  · exact h1
  · have := drop_gt hr k q hq; omega
theorem keyAt_laid (L : List Pr) (k : Int) (x y : Value) (i : Nat) : keyAt (laid L k x) i = keyAt (laid L k y) i := by
  unfold keyAt laid
  have hl : (L.take (untl L k)).length = untl L k := by have := untl_le L k; simp; omega
  rcases Nat.lt_or_ge i (untl L k) with h | h
  · simp [List.getD, List.getElem?_append_left (show i < (L.take (untl L k)).length by omega)]
  · rw [List.getD, List.getD, List.getElem?_append_right (by omega), List.getElem?_append_right (by omega), hl]
    rcases h' : i - untl L k with _ | j
    · simp
    · simp
theorem tail_mem {L : List Pr} (hr : Rise L) : ∀ p ∈ L.tail, keyAt L 0 < p.1 ∧ p ∈ L := by
  intro p hp
  cases L with
  | nil => simp at hp
  | cons q L => exact ⟨(rise_cons hr).1 p hp, List.mem_cons_of_mem _ hp⟩
/-- Behind Lay a ring stands as rings do. -/
theorem lay_ok {s : Rs} (h : s.ok) {k : Int} (hk : -9223372036854775808 ≤ k ∧ k ≤ 9223372036854775807) (x : Value) : (layS s k x).ok := by
  unfold layS
  by_cases h1 : isAt s.L k = true
  · rw [if_pos h1]; exact h
  rw [if_neg h1]
  have h1' : isAt s.L k = false := by simpa using h1
  by_cases h2 : untl s.L k = 0 ∧ s.L.length = s.M
  · rw [if_pos h2]; exact h
  rw [if_neg h2]
  have hl := laid_len s.L k x
  have hr := rise_laid h.rise h1' x
  have hw : ∀ p ∈ laid s.L k x, -9223372036854775808 ≤ p.1 ∧ p.1 ≤ 9223372036854775807 := fun p hp => by
    rcases mem_laid.1 hp with rfl | hp
    · exact hk
    · exact h.wf.1 p hp
  by_cases h3 : s.L.length < s.M
  · rw [if_pos h3]
    refine ⟨h.most, by show (laid s.L k x).length ≤ s.M; omega, hr, fun hg => ?_, h.none_, hw, h.wf.2⟩
    have := (h.gone hg).1; omega
  · rw [if_neg h3]
    have hlen := h.len
    have hp0 : 0 < (laid s.L k x).length := by omega
    obtain ⟨q, hq, hqk, _⟩ := keyAt_mem hp0
    refine ⟨h.most, by show (laid s.L k x).tail.length ≤ s.M; rw [List.length_tail]; omega, hr.sublist (List.tail_sublist _), fun _ => ⟨by show (laid s.L k x).tail.length = s.M; rw [List.length_tail]; omega, fun p hp => (tail_mem hr p hp).1⟩, fun hg => (by cases hg), fun p hp => hw p (tail_mem hr p hp).2, ?_⟩
    show _ ∧ _
    rw [← hqk]; exact hw q hq
theorem layA_err {s : Rs} {k : Int} : (layA s k).2.2 = 0 ∨ (layA s k).2.2 = 12 ∨ (layA s k).2.2 = 13 := by
  unfold layA
  split
  · simp
  split
  · simp
  split <;> simp
theorem layS_M (s : Rs) (k : Int) (x : Value) : (layS s k x).M = s.M := by
  unfold layS; split
  · rfl
  split
  · rfl
  split <;> rfl

/-- What is found: how many numbers are less. -/
def lessN (L : List Pr) (k : Int) : Nat := L.countP fun p => decide (p.1 < k)
theorem lessN_le (L : List Pr) (k : Int) : lessN L k ≤ L.length := List.countP_le_length
theorem less_untl {L : List Pr} (k : Int) (h : ∀ p ∈ L, p.1 ≠ k) : lessN L k = untl L k := by
  unfold lessN untl
  refine List.countP_congr fun p hp => ?_
  have := h p hp
  simp; omega
end Go.Proofs.Ythkffclligcdnaa
