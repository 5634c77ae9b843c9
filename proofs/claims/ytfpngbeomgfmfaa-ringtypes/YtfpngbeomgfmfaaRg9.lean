/-
  Layer 11 (ring): two rings by the same numbers.
-/
import Derived.Test.YtfpngbeomgfmfaaRg8
namespace Go.Proofs.Ytfpngbeomgfmfaa
open Go.RowKit
set_option linter.unusedVariables false
/-- The same ring with one thing at all numbers. -/
def toX (X : Value) (s : Rs) : Rs := { s with L := s.L.map fun p => (p.1, X) }
theorem untl_map (X : Value) (L : List Pr) (k : Int) : untl (L.map fun p => (p.1, X)) k = untl L k := by
  unfold untl; rw [List.countP_map]; rfl
theorem keyAt_map (X : Value) (L : List Pr) (i : Nat) (h : i < L.length) : keyAt (L.map fun p => (p.1, X)) i = keyAt L i := by
  simp [keyAt, List.getD, h]
theorem thing_map (X : Value) (L : List Pr) (i : Nat) (h : i < L.length) : thing (L.map fun p => (p.1, X)) i = X := by
  simp [thing, List.getD, h]
theorem isAt_map (X : Value) (L : List Pr) (k : Int) : isAt (L.map fun p => (p.1, X)) k = isAt L k := by
  unfold isAt
  rw [untl_map]
  rcases h : untl L k with _ | j
  · simp
  · have := untl_le L k
    rw [keyAt_map X L _ (by omega)]
theorem laid_map (X y : Value) (L : List Pr) (k : Int) : laid (L.map fun p => (p.1, X)) k X = (laid L k y).map fun p => (p.1, X) := by
  unfold laid
  rw [untl_map]; simp
theorem layA_map (X : Value) (s : Rs) (k : Int) : layA (toX X s) k = layA s k := by
  have hl : (toX X s).L.length = s.L.length := by simp [toX]
  have hm : (toX X s).M = s.M := rfl
  have hi : isAt (toX X s).L k = isAt s.L k := isAt_map X s.L k
  have hu : untl (toX X s).L k = untl s.L k := untl_map X s.L k
  have hk : keyAt (laid (toX X s).L k noPr.2) 0 = keyAt (laid s.L k noPr.2) 0 := by
    rw [keyAt_laid (toX X s).L k noPr.2 X]
    show keyAt (laid (s.L.map fun p => (p.1, X)) k X) 0 = _
    rw [laid_map X noPr.2, keyAt_map X _ 0 (by rw [laid_len]; omega)]
  unfold layA
  rw [hl, hm, hi, hu, hk]
theorem layS_map (X y : Value) (s : Rs) (k : Int) : layS (toX X s) k X = toX X (layS s k y) := by
  have hl : (toX X s).L.length = s.L.length := by simp [toX]
  have hm : (toX X s).M = s.M := rfl
  have hi : isAt (toX X s).L k = isAt s.L k := isAt_map X s.L k
  have hu : untl (toX X s).L k = untl s.L k := untl_map X s.L k
  have hd : laid (toX X s).L k X = (laid s.L k y).map fun p => (p.1, X) := laid_map X y s.L k
  have hk : keyAt (laid (toX X s).L k X) 0 = keyAt (laid s.L k y) 0 := by rw [hd, keyAt_map X _ 0 (by rw [laid_len]; omega)]
  unfold layS
  rw [hl, hm, hi, hu, hk, hd]
  split
  · rfl
  split
  · rfl
  split
  · rfl
  · unfold toX; simp
/-- Each thing is its number. -/
def Selfy (L : List Pr) : Prop := ∀ p ∈ L, p.2 = .int .i64 p.1
theorem selfy_lay {s : Rs} (h : Selfy s.L) (k : Int) : Selfy (layS s k (.int .i64 k)).L := by
  have hl : Selfy (laid s.L k (.int .i64 k)) := fun p hp => by
    rcases mem_laid.1 hp with rfl | hp
    · rfl
    · exact h p hp
  unfold layS
  split
  · exact h
  split
  · exact h
  split
  · exact hl
  · exact fun p hp => hl p (List.mem_of_mem_tail hp)
theorem selfy_at {L : List Pr} (h : Selfy L) {i : Nat} (hi : i < L.length) : thing L i = .int .i64 (keyAt L i) := by
  obtain ⟨p, hp, h1, h2⟩ := keyAt_mem hi
  rw [← h2, h p hp, h1]
end Go.Proofs.Ytfpngbeomgfmfaa
