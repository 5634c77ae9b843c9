/-
  Layer 15 (delay): what an estimate asks for, and what a delay becomes by it, as numbers (no function of the program in sight).
-/
import Derived.Test.YtmclcoaicngodaaFix
namespace Go.Proofs.Ytmclcoaicngodaa
set_option linter.unusedVariables false

/-- A config's numbers that a delay looks at. -/
structure Cf where
  base : Int
  gain : Int
  least : Int
  most : Int
  slack : Int
def timeI (n : Int) : Prop := 0 ≤ n ∧ n ≤ 2305843009213693952
/-- Check's error. -/
def cfE (c : Cf) : Int :=
  if 0 ≤ c.base ∧ c.base ≤ 2305843009213693952 ∧ 0 ≤ c.least ∧ c.least ≤ 2305843009213693952 ∧ 0 ≤ c.most ∧ c.most ≤ 2305843009213693952 ∧ 0 ≤ c.slack ∧ c.slack ≤ 2305843009213693952 ∧ 0 ≤ c.gain ∧ c.gain ≤ 68719476736 then
    (if c.most < c.least then 10 else 0) else 3
theorem cf_ok {c : Cf} (h : cfE c = 0) : (0 ≤ c.base ∧ c.base ≤ 2305843009213693952) ∧ (0 ≤ c.least ∧ c.least ≤ 2305843009213693952) ∧ (0 ≤ c.most ∧ c.most ≤ 2305843009213693952) ∧ (0 ≤ c.slack ∧ c.slack ≤ 2305843009213693952) ∧ (0 ≤ c.gain ∧ c.gain ≤ 68719476736) ∧ c.least ≤ c.most := by
  unfold cfE at h
  split at h
  · split at h
    · cases h
    · omega
  · cases h
/-- What an estimate asks for. -/
def askI (c : Cf) (j : Int) : Int := clampI (sat (c.base + sat (c.gain * max j 0 / 65536))) c.least c.most
theorem ask_bd {c : Cf} (h : cfE c = 0) (j : Int) : c.least ≤ askI c j ∧ askI c j ≤ c.most := by
  have := cf_ok h
  unfold askI clampI; omega
theorem ask_up {c : Cf} (h : cfE c = 0) {i j : Int} (hij : i ≤ j) : askI c i ≤ askI c j := by
  have hc := cf_ok h
  have h1 : c.gain * max i 0 ≤ c.gain * max j 0 := Int.mul_le_mul_of_nonneg_left (by omega) hc.2.2.2.2.1.1
  have h2 : c.gain * max i 0 / 65536 ≤ c.gain * max j 0 / 65536 := Int.ediv_le_ediv (by omega) h1
  have h3 := sat_mono h2
  have h4 : c.base + sat (c.gain * max i 0 / 65536) ≤ c.base + sat (c.gain * max j 0 / 65536) := by omega
  have h5 := sat_mono h4
  unfold askI clampI
  omega
theorem ask_flat {c : Cf} (h0 : c.gain = 0) (i j : Int) : askI c i = askI c j := by unfold askI; rw [h0]; simp
/-- What a delay becomes by an estimate. -/
def updI (c : Cf) (now j : Int) : Int := if c.slack < askI c j - now ∨ c.slack < now - askI c j then askI c j else now
theorem upd_bd {c : Cf} (h : cfE c = 0) {now : Int} (hn : c.least ≤ now ∧ now ≤ c.most) (j : Int) : c.least ≤ updI c now j ∧ updI c now j ≤ c.most := by
  have := ask_bd h j
  unfold updI; split <;> omega
theorem upd_near {c : Cf} (h : cfE c = 0) (now j : Int) : updI c now j - askI c j ≤ c.slack ∧ askI c j - updI c now j ≤ c.slack := by
  have := cf_ok h
  unfold updI; split <;> omega
theorem upd_again {c : Cf} (h : cfE c = 0) (now j : Int) : updI c (updI c now j) j = updI c now j := by
  have := upd_near h now j
  generalize updI c now j = x at this ⊢
  unfold updI; rw [if_neg (by omega)]
theorem upd_zero {c : Cf} (h : c.slack = 0) (now j : Int) : updI c now j = askI c j := by
  unfold updI; rw [h]; split <;> omega
/-- A delay by the first k estimates; how many made it another one. -/
def dlyI (c : Cf) (l : List Int) : Nat → Int
  | 0 => askI c 0
  | k + 1 => updI c (dlyI c l k) (l.getD k 0)
def chgI (c : Cf) (l : List Int) : Nat → Nat
  | 0 => 0
  | k + 1 => if dlyI c l (k + 1) = dlyI c l k then chgI c l k else chgI c l k + 1
theorem chg_le (c : Cf) (l : List Int) : ∀ k, chgI c l k ≤ k
  | 0 => Nat.le_refl _
  | k + 1 => by have := chg_le c l k; simp only [chgI]; split <;> omega
theorem dly_bd {c : Cf} (h : cfE c = 0) (l : List Int) : ∀ k, c.least ≤ dlyI c l k ∧ dlyI c l k ≤ c.most
  | 0 => ask_bd h 0
  | k + 1 => upd_bd h (dly_bd h l k) _
/-- It changes just when what is asked for is too far away. -/
theorem upd_far {c : Cf} (h : cfE c = 0) (now j : Int) : (c.slack < max (askI c j - now) (now - askI c j) → updI c now j = askI c j ∧ updI c now j ≠ now) ∧ (¬ c.slack < max (askI c j - now) (now - askI c j) → updI c now j = now) := by
  have := cf_ok h
  unfold updI
  constructor
  · intro q
    rw [if_pos (by omega)]
    exact ⟨rfl, by omega⟩
  · intro q
    rw [if_neg (by omega)]
end Go.Proofs.Ytmclcoaicngodaa
