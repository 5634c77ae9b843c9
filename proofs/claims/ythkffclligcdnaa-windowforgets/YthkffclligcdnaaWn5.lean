/-
  Layer 13 (window): numbers for the laws: what falls out; what stands behind other samples.
-/
import Derived.Test.YthkffclligcdnaaWn4
namespace Go.Proofs.Ythkffclligcdnaa
open Go.RowKit
set_option linter.unusedVariables false

theorem lastV_ne {α : Type} {M k : Nat} {l : List α} (hM : 1 ≤ M) (hk : k ≤ l.length) (h : 0 < k) : lastV M l k ≠ [] := fun e => by
  have := lastV_len (M := M) hk; rw [e] at this; simp at this; omega
theorem lastV_new {α : Type} {M k : Nat} {l : List α} (hM : 1 ≤ M) (hk : k < l.length) : l[k] ∈ lastV M l (k + 1) := by
  rw [lastV_succ hM hk]; simp
theorem lastV_old {α : Type} {M k : Nat} {l : List α} (hM : 1 ≤ M) (hk : k < l.length) {y : α} (h : y ∈ lastV M l (k + 1)) : y = l[k] ∨ y ∈ lastV M l k := by
  rw [lastV_succ hM hk, List.mem_append] at h
  rcases h with h | h
  · right
    split at h
    · exact List.mem_of_mem_tail h
    · exact h
  · left; simpa using h
theorem falls {M k : Nat} {l : List Int} (hM : 1 ≤ M) (hk : k < l.length) : minI (lastV M l (k + 1)) ≤ l[k] := minI_le (lastV_new hM hk)
theorem falls_to {M k : Nat} {l : List Int} (hM : 1 ≤ M) (hk : k < l.length) (h : l[k] ≤ minI (lastV M l k)) : minI (lastV M l (k + 1)) = l[k] := by
  have h1 := falls hM hk
  have h2 : minI (lastV M l (k + 1)) ∈ lastV M l (k + 1) := minI_mem (lastV_ne hM (by omega) (by omega))
  rcases lastV_old hM hk h2 with e | e
  · exact e
  · have := minI_le e; omega
theorem falls_out {M k : Nat} {l : List Int} (hM : 1 ≤ M) (h0 : 0 < k) (hk : k < l.length) (h : minI (lastV M l k) < minI (lastV M l (k + 1))) : M ≤ k ∧ l.getD (k - M) 0 = minI (lastV M l k) := by
  have hm : minI (lastV M l k) ∈ lastV M l k := minI_mem (lastV_ne hM (by omega) h0)
  have hno : minI (lastV M l k) ∉ lastV M l (k + 1) := fun e => by have := minI_le e; omega
  rw [lastV_succ hM hk, List.mem_append] at hno
  have hlen := lastV_len (M := M) (l := l) (k := k) (by omega)
  by_cases hl : (lastV M l k).length = M
  · rw [if_pos hl] at hno
    refine ⟨by omega, ?_⟩
    have h00 : (lastV M l k)[0]? = l[k - M + 0]? := lastV_at (by omega) (by omega)
    rw [List.getD_eq_getElem?_getD, ← Nat.add_zero (k - M), ← h00]
    obtain ⟨a, t, e⟩ : ∃ a t, lastV M l k = a :: t := by
      cases hq : lastV M l k with
      | nil => rw [hq] at hm; cases hm
      | cons a t => exact ⟨a, t, rfl⟩
    rw [e] at hm hno ⊢
    rcases List.mem_cons.1 hm with e' | e'
    · show a = minI (a :: t); exact e'.symm
    · exact absurd (Or.inl e') hno
  · rw [if_neg hl] at hno
    exact absurd (Or.inl hm) hno
theorem lastV_behind {α : Type} {M j : Nat} (b l : List α) (hj : j ≤ l.length) (h : M ≤ j) : lastV M (b ++ l) (b.length + j) = lastV M l j := by
  unfold lastV
  rw [List.take_append, List.take_of_length_le (by omega), Nat.add_sub_cancel_left, List.drop_append, List.drop_of_length_le (by omega), List.nil_append]
  congr 1
  omega
/-- Walks: a sample more. -/
theorem win_next {e : TypeId} {w : World} {B R : Nat} {v : Value} {M k : Nat} {L : List Value} (hM : 1 ≤ M) (hk : k < L.length) {x : Value} (hx : L[k] = x) (h : WinV e w B R v (addW ⟨M, lastV M L k⟩ x)) : WinV e w B R v ⟨M, lastV M L (k + 1)⟩ := by
  rw [← hx, lastV_add hM hk] at h
  exact h
theorem WinV.mono {e : TypeId} {w : World} {B C R : Nat} {v : Value} {s : Wd} (h : WinV e w B R v s) (hC : C ≤ B) : WinV e w C R v s :=
  ⟨h.blk, h.own.mono hC, h.ok, h.ne, Nat.le_trans hC h.le⟩
theorem sep_none {R S : Nat} (h : S ≠ R) : Sep R (.slice none 0 0) S (.slice none 0 0) := ⟨h, by simp [Value.ownBlock], by simp [Value.ownBlock], Or.inl rfl⟩
/-- Two windows, in blocks of their own. -/
structure Two (e : TypeId) (w : World) (H R S : Nat) (v u : Value) (s t : Wd) : Prop where
  fst : WinV e w H R v s
  snd : WinV e w H S u t
  sep : Sep R v S u
theorem Two.below {e : TypeId} {w w' : World} {H R S : Nat} {v u : Value} {s t : Wd} (h : Two e w H R S v u s t) (b : Below w.heap.size w w') : Two e w' H R S v u s t := ⟨h.fst.below b, h.snd.below b, h.sep⟩
theorem Two.drewN {e : TypeId} {w : World} {H R S : Nat} {v u : Value} {s t : Wd} (h : Two e w H R S v u s t) (n : Nat) : Two e (w.drewN n) H R S v u s t := ⟨h.fst.drewN n, h.snd.drewN n, h.sep⟩
theorem Two.addF {e : TypeId} {w w' : World} {H B R S : Nat} {v v' u : Value} {s s' t : Wd} (h : Two e w H R S v u s t) (c : Chg B R v v' w w') (hw : WinV e w' H R v' s') : Two e w' H R S v' u s' t := by
  obtain ⟨a, b⟩ := h.snd.chg c h.sep
  exact ⟨hw, a, b⟩
theorem Two.addS {e : TypeId} {w w' : World} {H B R S : Nat} {v u u' : Value} {s t t' : Wd} (h : Two e w H R S v u s t) (c : Chg B S u u' w w') (hw : WinV e w' H S u' t') : Two e w' H R S v u' s t' := by
  obtain ⟨a, b⟩ := h.fst.chg c h.sep.symm
  exact ⟨a, hw, b.symm⟩
end Go.Proofs.Ythkffclligcdnaa
