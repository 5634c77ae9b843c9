/-
  What an append leaves alone: all blocks but the row's own (no function of the program in sight).
-/
import Derived.Test.YthkffclligcdnaaRdr
import Derived.Deep.AppendLies
namespace Go.Proofs.Ythkffclligcdnaa
open Go.RowKit
set_option linter.unusedVariables false

structure Grow (B : Nat) (v : Value) (w : World) (v' : Value) (w' : World) : Prop where
  below : Below B w w'
  by_ : w.grownBy w' v.ownBlock
  blk : v'.ownBlock = v.ownBlock ∨ v'.ownBlock = some w.heap.size
/-- Two rows lie in blocks of their own. -/
def Apart (u v : Value) : Prop := u.ownBlock = none ∨ u.ownBlock ≠ v.ownBlock
theorem Apart.nil (u : Value) : Apart u (.slice none 0 0) := by
  unfold Apart
  cases h : u.ownBlock with
  | none => exact Or.inl rfl
  | some g => right; simp [Value.ownBlock]
theorem Apart.symm {u v : Value} (h : Apart u v) : Apart v u := by
  unfold Apart at h ⊢
  cases hv : v.ownBlock with
  | none => exact Or.inl rfl
  | some g =>
    right
    rcases h with h | h
    · rw [h]; simp
    · rw [hv] at h; exact fun e => h e.symm
theorem Own.lt {w : World} {B : Nat} {v : Value} {l : List Int} (h : Own w B v l) : ∀ k, v.ownBlock = some k → B ≤ k ∧ k < w.heap.size := World.ownsRow.lt h
/-- A new row, and one that was there. -/
theorem Apart.new {w w' : World} {B : Nat} {u v : Value} {l m : List Int} (hu : Own w' w.heap.size u m) (hv : Own w B v l) : Apart u v := by
  unfold Apart
  cases h : u.ownBlock with
  | none => exact Or.inl rfl
  | some g =>
    right
    intro h'
    have h1 := (hu.lt g h).1
    have h2 := (hv.lt g h'.symm).2
    omega
theorem Apart.swap {w w' : World} {B : Nat} {u v : Value} {l m : List Int} (hu : Own w' w.heap.size u m) (hv : Own w B v l) : Apart v u := by
  unfold Apart
  cases h : v.ownBlock with
  | none => exact Or.inl rfl
  | some g =>
    right
    intro h'
    have h1 := (hv.lt g h).2
    have h2 := (hu.lt g h'.symm).1
    omega
theorem Own.grow {B B2 : Nat} {w w' : World} {u v v' : Value} {m : List Int} (h : Own w B2 u m) (ha : Apart u v) (k : Grow B v w v' w') : Own w' B2 u m ∧ Apart u v' := by
  refine ⟨World.ownsRow.kept h k.by_ ha, ?_⟩
  rcases k.blk with e | e
  · unfold Apart at ha ⊢; rw [e]; exact ha
  · unfold Apart; rw [e]
    cases hb : u.ownBlock with
    | none => exact Or.inl rfl
    | some g =>
      right
      intro h'
      have := (h.lt g hb).2
      injection h' with h'
      omega
theorem Blk.grow {B : Nat} {w w' : World} {v v' : Value} {b : Nat} {cs : List Value} (h : Blk w b cs) (ha : some b ≠ v.ownBlock) (k : Grow B v w v' w') : Blk w' b cs ∧ some b ≠ v'.ownBlock := by
  have e := k.by_.block b h.lt ha
  refine ⟨⟨Nat.lt_of_lt_of_le h.lt k.below.size, fun o ho => (World.cell?_of_block (w := w) (a := ⟨b, o, none⟩) e).trans (h.all o ho), fun o => (World.frozen?_of_block (w := w) (a := ⟨b, o, none⟩) e).trans (h.froz o)⟩, ?_⟩
  rcases k.blk with e' | e'
  · rw [e']; exact ha
  · rw [e']
    intro h'
    have := h.lt
    injection h' with h'
    omega
theorem Blk.apart {w : World} {B : Nat} {v : Value} {l : List Int} {b : Nat} (h : Own w B v l) (hb : w.heap.size ≤ b) : some b ≠ v.ownBlock := by
  intro h'
  have := (h.lt b h'.symm).2
  omega
end Go.Proofs.Ythkffclligcdnaa
