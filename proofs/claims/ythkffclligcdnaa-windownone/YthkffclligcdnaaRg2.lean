/-
  Layer 11 (ring): rows of pairs in memory (no function of the program in sight; the element's type is a letter).
-/
import Derived.Test.YthkffclligcdnaaRg1
import Derived.Test.YthkffclligcdnaaGrw
import Derived.Deep.AppendLies
import Derived.Laws.IdiomCopy
import Derived.Deep.Upon
namespace Go.Proofs.Ythkffclligcdnaa
open Go.RowKit
set_option linter.unusedVariables false

/-- The cells of pairs. -/
def prs (L : List Pr) : List Value := L.flatMap fun p => [.int .i64 p.1, p.2]
theorem prs_nil : prs [] = [] := rfl
theorem prs_cons (p : Pr) (L : List Pr) : prs (p :: L) = .int .i64 p.1 :: p.2 :: prs L := rfl
theorem prs_app (L M : List Pr) : prs (L ++ M) = prs L ++ prs M := by unfold prs; simp
theorem prs_len : ∀ L : List Pr, (prs L).length = L.length * 2
  | [] => rfl
  | p :: L => by rw [prs_cons]; simp [prs_len L]; omega
theorem prs_take : ∀ (L : List Pr) (i : Nat), (prs L).take (i * 2) = prs (L.take i)
  | [], i => by simp [prs]
  | p :: L, 0 => by simp [prs]
  | p :: L, i + 1 => by rw [show (i + 1) * 2 = i * 2 + 2 by omega, prs_cons, List.take_succ_cons, List.take_succ_cons, prs_take L i, List.take_succ_cons, prs_cons]
theorem prs_drop : ∀ (L : List Pr) (i : Nat), (prs L).drop (i * 2) = prs (L.drop i)
  | [], i => by simp [prs]
  | p :: L, 0 => by simp [prs]
  | p :: L, i + 1 => by rw [show (i + 1) * 2 = i * 2 + 2 by omega, prs_cons, List.drop_succ_cons, List.drop_succ_cons, prs_drop L i, List.drop_succ_cons]
/-- Things are of one cell. -/
def Ones (L : List Pr) : Prop := ∀ p ∈ L, p.2.oneCell' = true
theorem Ones.cells {L : List Pr} (h : Ones L) : ∀ u ∈ prs L, u.oneCell' = true := by
  intro u hu
  unfold prs at hu
  rw [List.mem_flatMap] at hu
  obtain ⟨p, hp, hu⟩ := hu
  simp only [List.mem_cons, List.not_mem_nil, or_false] at hu
  rcases hu with rfl | rfl
  · rfl
  · exact h p hp
theorem Ones.take {L : List Pr} (h : Ones L) (i : Nat) : Ones (L.take i) := fun p hp => h p (List.mem_of_mem_take hp)
theorem Ones.drop {L : List Pr} (h : Ones L) (i : Nat) : Ones (L.drop i) := fun p hp => h p (List.mem_of_mem_drop hp)
theorem Ones.tail {L : List Pr} (h : Ones L) : Ones L.tail := fun p hp => h p (List.mem_of_mem_tail hp)
theorem Ones.laid {L : List Pr} (h : Ones L) (k : Int) {x : Value} (hx : x.oneCell' = true) : Ones (laid L k x) := fun p hp => by
  rcases mem_laid.1 hp with rfl | hp
  · exact hx
  · exact h p hp
theorem prs_key {L : List Pr} {i : Nat} (h : i < L.length) : (prs L)[i * 2]? = some (.int .i64 (keyAt L i)) := by
  have e := prs_drop L i
  have h1 : (prs L)[i * 2]? = ((prs L).drop (i * 2))[0]? := by simp
  rw [h1, e, List.drop_eq_getElem_cons h, prs_cons]
  simp [keyAt, List.getD, h]
theorem prs_thing {L : List Pr} {i : Nat} (h : i < L.length) : (prs L)[i * 2 + 1]? = some (thing L i) := by
  have e := prs_drop L i
  have h1 : (prs L)[i * 2 + 1]? = ((prs L).drop (i * 2))[1]? := by simp
  rw [h1, e, List.drop_eq_getElem_cons h, prs_cons]
  simp [thing, List.getD, h]

/-- Cells laid over others. -/
def layC (cur : Array Value) : Nat → List Value → Array Value
  | _, [] => cur
  | o, v :: r => layC (cur.setIfInBounds o v) (o + 1) r
theorem layC_size : ∀ (vs : List Value) (cur : Array Value) (o : Nat), (layC cur o vs).size = cur.size
  | [], _, _ => rfl
  | v :: r, cur, o => by rw [layC, layC_size r]; simp
theorem layC_list : ∀ (vs : List Value) (cur : Array Value) (o : Nat), o + vs.length ≤ cur.size → (layC cur o vs).toList = cur.toList.take o ++ vs ++ cur.toList.drop (o + vs.length)
  | [], cur, o, _ => by simp [layC]
  | v :: r, cur, o, h => by
    have h' : o + 1 + r.length ≤ cur.size := by simp at h; omega
    rw [layC, layC_list r _ _ (by simpa using h'), Array.toList_setIfInBounds]
    have e1 : (cur.toList.set o v).take (o + 1) = cur.toList.take o ++ [v] := by
      rw [List.take_set, List.take_succ_eq_append_getElem (by simpa using (by omega : o < cur.size)), List.set_append_right _ _ (by simp; omega)]
      simp [show min o cur.size = o by omega]
    have e2 : (cur.toList.set o v).drop (o + 1 + r.length) = cur.toList.drop (o + (v :: r).length) := by
      rw [List.drop_set_of_lt (by omega)]
      congr 1
      simp; omega
    rw [e1, e2]; simp
theorem heap_setCells_same {e : TypeId} (g : Nat) : ∀ (vs : List Value) (o : Nat) (w : World) (cur : Array Value), w.heap[g]? = some (.cells cur e (0, 0)) → (w.setCells g o vs).heap[g]? = some (.cells (layC cur o vs) e (0, 0))
  | [], _, _, _, h => h
  | v :: r, o, w, cur, h => heap_setCells_same g r (o + 1) _ _ (heap_setCell_same w g o cur e v h)
theorem grown_setCells (g : Nat) (vs : List Value) (o : Nat) (w : World) : w.grownBy (w.setCells g o vs) (some g) where
  os := World.os_setCells w g o vs
  tape := by
    revert o w
    induction vs with
    | nil => intro o w; rfl
    | cons v r ih => intro o w; exact ih (o + 1) _
  output := World.output_setCells w g o vs
  size := by
    have : ∀ (vs : List Value) (o : Nat) (w : World), (w.setCells g o vs).heap.size = w.heap.size := by
      intro vs
      induction vs with
      | nil => intro o w; rfl
      | cons v r ih => intro o w; rw [World.setCells, ih]; simp
    rw [this]; exact Nat.le_refl _
  block := fun k hk hne => World.heap_setCells_other w g o vs hk (fun e => hne (by rw [e]))
theorem grown_trans {w w' w'' : World} {r : Option Nat} (h : w.grownBy w' r) (h' : w'.grownBy w'' r) : w.grownBy w'' r :=
  ⟨h'.os.trans h.os, h'.tape.trans h.tape, h'.output.trans h.output, Nat.le_trans h.size h'.size, fun k hk hne => (h'.block k (Nat.lt_of_lt_of_le hk h.size) hne).trans (h.block k hk hne)⟩
theorem grown_drew {w w' : World} {r : Option Nat} (h : w.grownBy w' r) : w.grownBy w'.drew r := ⟨h.os, h.tape, h.output, h.size, h.block⟩
theorem grown_refl (w : World) (r : Option Nat) : w.grownBy w r := ⟨rfl, rfl, rfl, Nat.le_refl _, fun _ _ _ => rfl⟩

/-- A value that a call owns, of these pairs (their type: e). -/
def OwnP (e : TypeId) (w : World) (B : Nat) (v : Value) (L : List Pr) : Prop := w.ownsRow B e 2 v L.length (prs L)
section
variable {e : TypeId} {w w' : World} {B : Nat} {v : Value} {L : List Pr}
theorem OwnP.nil (w : World) (B : Nat) : OwnP e w B (.slice none 0 0) [] := World.ownsRow_nil w B _ _
theorem OwnP.lt (h : OwnP e w B v L) : ∀ k, v.ownBlock = some k → B ≤ k ∧ k < w.heap.size := World.ownsRow.lt h
theorem OwnP.kept (h : OwnP e w B v L) {r : Option Nat} (hg : w.grownBy w' r) (hr : v.ownBlock = none ∨ v.ownBlock ≠ r) : OwnP e w' B v L := World.ownsRow.kept h hg hr
theorem OwnP.below (h : OwnP e w B v L) (hb : Below w.heap.size w w') : OwnP e w' B v L := by
  refine ⟨h.1, ?_⟩
  rcases h.2 with hn | ⟨g, cap, cur, hv, hB, hg, rest⟩
  · exact Or.inl hn
  · exact Or.inr ⟨g, cap, cur, hv, hB, (hb.block g (Array.getElem?_eq_some_iff.1 hg).1).trans hg, rest⟩
theorem OwnP.drew (h : OwnP e w B v L) : OwnP e w.drew B v L := h
theorem OwnP.form (h : OwnP e w B v L) : ∃ ao cap, v = .slice ao L.length cap ∧ L.length ≤ cap ∧ cap ≤ 9223372036854775807 ∧ (ao = none → cap = 0) := by
  rcases h.2 with ⟨rfl, h0⟩ | ⟨g, cap, cur, hv, hb, hg, hc, hm, _⟩
  · exact ⟨none, 0, by rw [h0], by omega, by omega, fun _ => rfl⟩
  · exact ⟨_, cap, hv, hc, hm, fun h => by simp at h⟩
theorem OwnP.some_ (h : OwnP e w B v L) (hl : L ≠ []) : ∃ g cap cur, v = .slice (some ⟨g, 0, none⟩) L.length cap ∧ B ≤ g ∧ w.heap[g]? = some (.cells cur e (0, 0)) ∧ L.length ≤ cap ∧ cap ≤ 9223372036854775807 ∧ cur.size = cap * 2 ∧ cur.toList.take (L.length * 2) = prs L := by
  have hp := List.length_pos_iff.2 hl
  rcases h.2 with ⟨_, h0⟩ | h
  · omega
  · exact h
theorem ownP_row {g cap : Nat} {cur : Array Value} (hg : w.heap[g]? = some (.cells cur e (0, 0))) (hB : B ≤ g) (hc : L.length ≤ cap) (hm : cap ≤ 9223372036854775807) (hs : cur.size = cap * 2) (ht : cur.toList.take (L.length * 2) = prs L) :
    OwnP e w B (.slice (some ⟨g, 0, none⟩) L.length cap) L := ⟨prs_len L, Or.inr ⟨g, cap, cur, rfl, hB, hg, hc, hm, hs, ht⟩⟩
theorem row_cell {g : Nat} {cur : Array Value} (hg : w.heap[g]? = some (.cells cur e (0, 0))) (o : Nat) : w.cell? ⟨g, o, none⟩ = cur[o]? := cell_of_row w g o cur e (0, 0) hg
theorem row_froz {g : Nat} {cur : Array Value} (hg : w.heap[g]? = some (.cells cur e (0, 0))) (o : Nat) : w.frozen? ⟨g, o, none⟩ = false := by
  simp [World.frozen?, hg]
theorem row_at {g cap : Nat} {cur : Array Value} (hg : w.heap[g]? = some (.cells cur e (0, 0))) (hc : L.length ≤ cap) (hs : cur.size = cap * 2) (ht : cur.toList.take (L.length * 2) = prs L) (j : Nat) (u : Value) (h : (prs L)[j]? = some u) : w.cell? ⟨g, j, none⟩ = some u := by
  have hj : j < L.length * 2 := by have := (List.getElem?_eq_some_iff.1 h).1; rwa [prs_len] at this
  rw [row_cell hg, ← h, ← ht, List.getElem?_take, if_pos hj]
  simp
theorem OwnP.key (h : OwnP e w B v L) {g n cap : Nat} (hv : v = .slice (some ⟨g, 0, none⟩) n cap) {i : Nat} (hi : i < L.length) : w.cell? ⟨g, i * 2, none⟩ = some (.int .i64 (keyAt L i)) := by
  obtain ⟨g', cap', cur, hv', hB, hg, hc, hm, hs, ht⟩ := h.some_ (by intro h; rw [h] at hi; simp at hi)
  rw [hv] at hv'; injection hv' with h1 _ _; injection h1 with h1; injection h1 with h1 _ _; subst h1
  exact row_at hg hc hs ht _ _ (prs_key hi)
theorem OwnP.thing (h : OwnP e w B v L) {g n cap : Nat} (hv : v = .slice (some ⟨g, 0, none⟩) n cap) {i : Nat} (hi : i < L.length) : w.cell? ⟨g, i * 2 + 1, none⟩ = some (thing L i) := by
  obtain ⟨g', cap', cur, hv', hB, hg, hc, hm, hs, ht⟩ := h.some_ (by intro h; rw [h] at hi; simp at hi)
  rw [hv] at hv'; injection hv' with h1 _ _; injection h1 with h1; injection h1 with h1 _ _; subst h1
  exact row_at hg hc hs ht _ _ (prs_thing hi)
end
theorem take_app_len {α : Type} (a b : List α) (n : Nat) (h : a.length = n) : (a ++ b).take n = a := by subst h; simp
/-- Cells moved on by a place, and one laid between. -/
theorem laid_row {e : TypeId} {w : World} {B g cap : Nat} {cur : Array Value} {L : List Pr} (hg : w.heap[g]? = some (.cells cur e (0, 0))) (hB : B ≤ g) (hm : cap ≤ 9223372036854775807) (hs : cur.size = cap * 2)
    (hc : L.length + 1 ≤ cap) (ht : cur.toList.take (L.length * 2) = prs L) (i : Nat) (hi : i ≤ L.length) (p : Pr) (W W1 : World) (hW1 : W1 = w.setCells g ((i + 1) * 2) (prs (L.drop i))) (W2 : World) (h12 : W2.heap = W1.heap) (hW : W = W2.setCells g (i * 2) [.int .i64 p.1, p.2]) :
    OwnP e W B (.slice (some ⟨g, 0, none⟩) (L.length + 1) cap) (L.take i ++ p :: L.drop i) := by
  have h1 := heap_setCells_same g (prs (L.drop i)) ((i + 1) * 2) w cur hg
  rw [← hW1] at h1
  rw [← h12] at h1
  have h2 := heap_setCells_same g [.int .i64 p.1, p.2] (i * 2) W2 _ h1
  rw [← hW] at h2
  have hl : (L.take i ++ p :: L.drop i).length = L.length + 1 := by simp; omega
  have hlt : (L.take i).length = i := by simp; omega
  have hld : (L.drop i).length = L.length - i := by simp
  have hd : (prs (L.drop i)).length = (L.length - i) * 2 := by rw [prs_len, hld]
  have := ownP_row (L := L.take i ++ p :: L.drop i) h2 hB (by omega) hm (by rw [layC_size, layC_size]; exact hs) ?_
  · rw [hl] at this; exact this
  · rw [hl, layC_list _ _ _ (by rw [layC_size]; simp; omega), layC_list _ _ _ (by rw [hd]; omega)]
    rw [prs_app, prs_cons]
    have e1 : (cur.toList.take ((i + 1) * 2) ++ prs (L.drop i) ++ cur.toList.drop ((i + 1) * 2 + (prs (L.drop i)).length)).take (i * 2) = prs (L.take i) := by
      rw [List.append_assoc, List.take_append_of_le_length (by simp; omega), List.take_take, ← prs_take, ← ht, List.take_take]
      congr 1
      omega
    have e2 : (cur.toList.take ((i + 1) * 2) ++ prs (L.drop i) ++ cur.toList.drop ((i + 1) * 2 + (prs (L.drop i)).length)).drop (i * 2 + [Value.int .i64 p.1, p.2].length) = prs (L.drop i) ++ cur.toList.drop ((i + 1) * 2 + (prs (L.drop i)).length) := by
      rw [List.append_assoc, List.drop_append_of_le_length (by simp; omega), List.drop_of_length_le (by simp; omega), List.nil_append]
    rw [e1, e2]
    have : prs (L.take i) ++ [Value.int .i64 p.1, p.2] ++ (prs (L.drop i) ++ cur.toList.drop ((i + 1) * 2 + (prs (L.drop i)).length)) = (prs (L.take i) ++ .int .i64 p.1 :: p.2 :: prs (L.drop i)) ++ cur.toList.drop ((i + 1) * 2 + (prs (L.drop i)).length) := by simp
    rw [this]
    exact take_app_len _ _ _ (by simp [prs_len]; omega)
/-- Cells moved back by a place: the first pair goes. -/
theorem tail_row {e : TypeId} {w : World} {B g cap : Nat} {cur : Array Value} {L : List Pr} (hl : L ≠ []) (hg : w.heap[g]? = some (.cells cur e (0, 0))) (hB : B ≤ g) (hm : cap ≤ 9223372036854775807) (hs : cur.size = cap * 2)
    (hc : L.length ≤ cap) (W W1 : World) (hW1 : W1 = w.setCells g 0 (prs L.tail)) (W2 : World) (h12 : W2.heap = W1.heap) (z : List Value) (hz : z.length = 2) (hW : W = W2.setCells g ((L.length - 1) * 2) z) :
    OwnP e W B (.slice (some ⟨g, 0, none⟩) (L.length - 1) cap) L.tail := by
  have hp := List.length_pos_iff.2 hl
  have h1 := heap_setCells_same g (prs L.tail) 0 w cur hg
  rw [← hW1] at h1
  rw [← h12] at h1
  have h2 := heap_setCells_same g z ((L.length - 1) * 2) W2 _ h1
  rw [← hW] at h2
  have ht : L.tail.length = L.length - 1 := List.length_tail
  have hd : (prs L.tail).length = (L.length - 1) * 2 := by rw [prs_len, ht]
  have := ownP_row (L := L.tail) h2 hB (by omega) hm (by rw [layC_size, layC_size]; exact hs) ?_
  · rw [ht] at this; exact this
  · rw [ht, layC_list _ _ _ (by rw [layC_size]; omega), layC_list _ _ _ (by rw [hd]; omega)]
    rw [List.append_assoc, List.take_append_of_le_length (by simp; omega), List.take_take]
    simp only [List.take_zero, List.nil_append]
    rw [Nat.min_self]
    exact take_app_len _ _ _ hd
/-- A new row: cells, a pair laid behind the first i, the others behind it. -/
theorem new_row {e : TypeId} {w : World} {B g cap : Nat} {cur : Array Value} {L : List Pr} (hg : w.heap[g]? = some (.cells cur e (0, 0))) (hB : B ≤ g) (hm : cap ≤ 9223372036854775807) (hs : cur.size = cap * 2)
    (hc : L.length + 1 ≤ cap) (i : Nat) (hi : i ≤ L.length) (ht : cur.toList.take (i * 2) = prs (L.take i)) (p : Pr) (W W1 : World) (hW1 : W1 = w.setCells g (i * 2) [.int .i64 p.1, p.2]) (W2 : World) (h12 : W2.heap = W1.heap) (hW : W = W2.setCells g ((i + 1) * 2) (prs (L.drop i))) :
    OwnP e W B (.slice (some ⟨g, 0, none⟩) (L.length + 1) cap) (L.take i ++ p :: L.drop i) := by
  have h1 := heap_setCells_same g [.int .i64 p.1, p.2] (i * 2) w cur hg
  rw [← hW1] at h1
  rw [← h12] at h1
  have h2 := heap_setCells_same g (prs (L.drop i)) ((i + 1) * 2) W2 _ h1
  rw [← hW] at h2
  have hl : (L.take i ++ p :: L.drop i).length = L.length + 1 := by simp; omega
  have hld : (L.drop i).length = L.length - i := by simp
  have hlt : (L.take i).length = i := by simp; omega
  have hd : (prs (L.drop i)).length = (L.length - i) * 2 := by rw [prs_len, hld]
  have hpt : (prs (L.take i)).length = i * 2 := by rw [prs_len, hlt]
  have := ownP_row (L := L.take i ++ p :: L.drop i) h2 hB (by omega) hm (by rw [layC_size, layC_size]; exact hs) ?_
  · rw [hl] at this; exact this
  · rw [hl, layC_list _ _ _ (by rw [layC_size]; rw [hd]; omega), layC_list _ _ _ (by simp; omega), ht]
    rw [prs_app, prs_cons]
    have e1 : (prs (L.take i) ++ [Value.int .i64 p.1, p.2] ++ cur.toList.drop (i * 2 + [Value.int .i64 p.1, p.2].length)).take ((i + 1) * 2) = prs (L.take i) ++ [Value.int .i64 p.1, p.2] :=
      take_app_len _ _ _ (by simp [hpt]; omega)
    rw [e1]
    have : ∀ r : List Value, prs (L.take i) ++ [Value.int .i64 p.1, p.2] ++ prs (L.drop i) ++ r = (prs (L.take i) ++ .int .i64 p.1 :: p.2 :: prs (L.drop i)) ++ r := fun r => by simp
    rw [this]
    exact take_app_len _ _ _ (by simp [hpt, hd]; omega)
theorem grown_past {w w' w'' : World} {r : Option Nat} {g : Nat} (h : w.grownBy w' r) (h' : w'.grownBy w'' (some g)) (hg : w.heap.size ≤ g) : w.grownBy w'' r :=
  ⟨h'.os.trans h.os, h'.tape.trans h.tape, h'.output.trans h.output, Nat.le_trans h.size h'.size, fun k hk hne => (h'.block k (Nat.lt_of_lt_of_le hk h.size) (fun e => by injection e with e; omega)).trans (h.block k hk hne)⟩
theorem zeros_len (z : Value) (n : Nat) : (Builtin.zeroCells z.cells n).size = n * z.cells.size := by simp [Builtin.zeroCells]
end Go.Proofs.Ythkffclligcdnaa
