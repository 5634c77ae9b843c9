/-
  Layer 14 (jitter): what an estimate becomes by a sample, as a number (no function of the program in sight).
-/
import Derived.Test.YtnnfdmglohbgpaaBase
namespace Go.Proofs.Ytnnfdmglohbgpaa
set_option linter.unusedVariables false

/-- What an estimate becomes by a sample. -/
def stepI (n s : Int) : Int := max n 0 + (max s 0 - max n 0) / 16
theorem stepI_nn (n s : Int) : 0 ≤ stepI n s := by unfold stepI; omega
theorem stepI_btw (n s : Int) : min (max n 0) (max s 0) ≤ stepI n s ∧ stepI n s ≤ max (max n 0) (max s 0) := by unfold stepI; omega
theorem stepI_same {x : Int} (h : 0 ≤ x) : stepI x x = x := by unfold stepI; omega
theorem stepI_more {n s t : Int} (h : s ≤ t) : stepI n s ≤ stepI n t := by unfold stepI; omega
theorem stepI_up {n m s : Int} (h : n ≤ m) : stepI n s ≤ stepI m s := by unfold stepI; omega
theorem stepI_bd {n s : Int} (hn : n ≤ 9223372036854775807) (hs : s ≤ 9223372036854775807) : 0 ≤ stepI n s ∧ stepI n s ≤ 9223372036854775807 := by unfold stepI; omega

theorem getD_bd {l : List Int} (hl : ∀ x ∈ l, -9223372036854775808 ≤ x ∧ x ≤ 9223372036854775807) (k : Nat) : -9223372036854775808 ≤ l.getD k 0 ∧ l.getD k 0 ≤ 9223372036854775807 := by
  rw [List.getD_eq_getElem?_getD]
  by_cases hk : k < l.length
  · rw [List.getElem?_eq_getElem hk]; exact hl _ (List.getElem_mem hk)
  · rw [List.getElem?_eq_none (by omega)]; simp
/-- An estimate by the first k samples. -/
def estI (l : List Int) : Nat → Int → Int
  | 0, n => n
  | k + 1, n => stepI (estI l k n) (l.getD k 0)
theorem estI_succ (l : List Int) (k : Nat) (n : Int) : estI l (k + 1) n = stepI (estI l k n) (l.getD k 0) := rfl
theorem estI_bd {l : List Int} {n : Int} (hl : ∀ x ∈ l, x ≤ 9223372036854775807) (hn : 0 ≤ n) (hm : n ≤ 9223372036854775807) : ∀ k, 0 ≤ estI l k n ∧ estI l k n ≤ 9223372036854775807
  | 0 => ⟨hn, hm⟩
  | k + 1 => by
    have h := estI_bd hl hn hm k
    rw [estI_succ]
    refine stepI_bd h.2 ?_
    rw [List.getD_eq_getElem?_getD]
    by_cases hk : k < l.length
    · rw [List.getElem?_eq_getElem hk]; exact hl _ (List.getElem_mem hk)
    · rw [List.getElem?_eq_none (by omega)]; simp
/-- The greatest of the first k samples (0 at the least). -/
def topI (l : List Int) : Nat → Int
  | 0 => 0
  | k + 1 => max (topI l k) (max 0 (l.getD k 0))
theorem topI_nn (l : List Int) : ∀ k, 0 ≤ topI l k
  | 0 => by simp [topI]
  | k + 1 => by have := topI_nn l k; simp only [topI]; omega
theorem est_top (l : List Int) : ∀ k, estI l k 0 ≤ topI l k
  | 0 => by simp [estI, topI]
  | k + 1 => by
    have h := est_top l k
    have h0 := topI_nn l k
    have := (stepI_btw (estI l k 0) (l.getD k 0)).2
    rw [estI_succ]; simp only [topI]; omega
theorem topI_bd {l : List Int} (hl : ∀ x ∈ l, x ≤ 9223372036854775807) : ∀ k, topI l k ≤ 9223372036854775807
  | 0 => by simp [topI]
  | k + 1 => by
    have h := topI_bd hl k
    have : l.getD k 0 ≤ 9223372036854775807 := by
      rw [List.getD_eq_getElem?_getD]
      by_cases hk : k < l.length
      · rw [List.getElem?_eq_getElem hk]; exact hl _ (List.getElem_mem hk)
      · rw [List.getElem?_eq_none (by omega)]; simp
    simp only [topI]; omega

/-- By samples that are the same, k times. -/
def manyI (s : Int) : Nat → Int → Int
  | 0, x => x
  | k + 1, x => stepI (manyI s k x) s
theorem manyI_succ (s x : Int) (k : Nat) : manyI s (k + 1) x = stepI (manyI s k x) s := rfl
/-- How far below the samples one may be at the most; how far above. -/
def farB (B : Nat) : Nat → Nat
  | 0 => B
  | k + 1 => let e := farB B k; e - e / 16
def farA (B : Nat) : Nat → Nat
  | 0 => B
  | k + 1 => let e := farA B k; e - (e + 15) / 16
theorem many_far {s x : Int} (B : Nat) (hs : 0 ≤ s) (hx : 0 ≤ x) (h1 : s - x ≤ B) (h2 : x - s ≤ B) : ∀ k, 0 ≤ manyI s k x ∧ s - manyI s k x ≤ farB B k ∧ manyI s k x - s ≤ farA B k
  | 0 => ⟨hx, h1, h2⟩
  | k + 1 => by
    obtain ⟨a, b, c⟩ := many_far B hs hx h1 h2 k
    rw [manyI_succ]
    simp only [farB, farA]
    generalize farB B k = e at b ⊢
    generalize farA B k = d at c ⊢
    generalize manyI s k x = y at a b c ⊢
    unfold stepI
    omega
theorem farB_end : farB 4294967295 700 = 15 := by decide +kernel
theorem farA_end : farA 4294967295 700 = 0 := by decide +kernel
theorem many_end {s x : Int} (hs : 0 ≤ s) (hs' : s ≤ 4294967295) (hx : 0 ≤ x) (hx' : x ≤ 4294967295) : s - 15 ≤ manyI s 700 x ∧ manyI s 700 x ≤ s := by
  have h := many_far 4294967295 hs hx (by omega) (by omega) 700
  rw [farB_end, farA_end] at h
  omega
theorem many_bd {s x : Int} (hs : 0 ≤ s) (hs' : s ≤ 4294967295) (hx : 0 ≤ x) (hx' : x ≤ 4294967295) : ∀ k, 0 ≤ manyI s k x ∧ manyI s k x ≤ 4294967295
  | 0 => ⟨hx, hx'⟩
  | k + 1 => by
    have h := many_bd hs hs' hx hx' k
    have b := stepI_btw (manyI s k x) s
    have := stepI_nn (manyI s k x) s
    rw [manyI_succ]; omega
/-- The document's: the quotient that cuts towards 0, and one less where a rest is below 0. -/
theorem step_doc (d : Int) : (if d.tmod 16 < 0 then d.tdiv 16 - 1 else d.tdiv 16) = d / 16 := by
  have h1 := Int.mul_tdiv_add_tmod d 16
  have h2 := Int.mul_ediv_add_emod d 16
  have h3 := Int.emod_nonneg d (by decide : (16 : Int) ≠ 0)
  have h4 := Int.emod_lt_of_pos d (by decide : (0 : Int) < 16)
  have h5 : d.tmod 16 < 16 := Int.tmod_lt_of_pos d (by decide)
  have h6 : -16 < d.tmod 16 := Int.lt_tmod_of_pos d (by decide)
  have h7 : 0 ≤ d → 0 ≤ d.tmod 16 := fun h => Int.tmod_nonneg 16 h
  have h8 : d < 0 → d.tmod 16 ≤ 0 := fun h => by
    have := Int.tmod_nonneg (b := 16) (a := -d) (by omega)
    rw [Int.neg_tmod] at this; omega
  split <;> omega
end Go.Proofs.Ytnnfdmglohbgpaa
