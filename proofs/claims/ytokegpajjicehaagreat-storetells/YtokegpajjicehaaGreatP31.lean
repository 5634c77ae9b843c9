/-
  Texts Sg2, Sg3 in one.
-/
import Derived.Deep.AppendLies
import Derived.Laws.IdiomCopy
import Derived.Deep.Upon
import Derived.Shelf.Spec.SlicesInsert
import Derived.Lib.AppendZerosOnto
import Derived.Laws.NewBlocks
import Derived.Test.YtokegpajjicehaaGreatP30
namespace Go.Proofs.YtokegpajjicehaaGreat
open Go.RowKit
set_option linter.unusedVariables false

/-- The cells of a thing of three cells: two numbers and a row. -/
def pI : Value → Int
  | .int _ n => n
  | _ => 0
def pA : Value → Option Addr
  | .slice a _ _ => a
  | _ => none
def pN : Value → Nat
  | .slice _ n _ => n
  | _ => 0
def pC : Value → Nat
  | .slice _ _ c => c
  | _ => 0
def pAt (k : Nat) : Value → Value
  | .agg xs => xs.toList.getD k (.int .i64 0)
  | _ => .int .i64 0
def t0 (x : Value) : Value := .int .i64 (pI (pAt 0 x))
def t1 (x : Value) : Value := .int .i64 (pI (pAt 1 x))
def t2 (x : Value) : Value := .slice (pA (pAt 2 x)) (pN (pAt 2 x)) (pC (pAt 2 x))
/-- A thing is of three cells. -/
structure Trio (x : Value) : Prop where
  is : x = .agg #[t0 x, t1 x, t2 x]
theorem Trio.c0 {x : Value} (h : Trio x) : (t0 x).oneCell' = true := rfl
theorem Trio.c1 {x : Value} (h : Trio x) : (t1 x).oneCell' = true := rfl
theorem Trio.c2 {x : Value} (h : Trio x) : (t2 x).oneCell' = true := rfl
theorem trio_mk {a b : Int} {ao : Option Addr} {n c : Nat} : Trio (.agg #[.int .i64 a, .int .i64 b, .slice ao n c]) := ⟨rfl⟩
/-- What a thing is, with letters. -/
theorem Trio.letters {x : Value} (h : Trio x) : ∃ a b ao n c, x = .agg #[.int .i64 a, .int .i64 b, .slice ao n c] ∧ t0 x = .int .i64 a ∧ t1 x = .int .i64 b ∧ t2 x = .slice ao n c := ⟨_, _, _, _, _, h.is, rfl, rfl, rfl⟩
/-- The cells of a pair. -/
def prC (p : Pr) : List Value := [.int .i64 p.1, t0 p.2, t1 p.2, t2 p.2]
theorem prC_one {p : Pr} (h : Trio p.2) : ∀ u ∈ prC p, u.oneCell' = true := by
  intro u hu
  unfold prC at hu
  simp only [List.mem_cons, List.not_mem_nil, or_false] at hu
  rcases hu with rfl | rfl | rfl | rfl
  · rfl
  · exact h.c0
  · exact h.c1
  · exact h.c2
/-- The cells of pairs. -/
def prs (L : List Pr) : List Value := L.flatMap prC
theorem prC_len (p : Pr) : (prC p).length = 4 := rfl
theorem prs_nil : prs [] = [] := rfl
theorem prs_cons (p : Pr) (L : List Pr) : prs (p :: L) = .int .i64 p.1 :: t0 p.2 :: t1 p.2 :: t2 p.2 :: prs L := rfl
theorem prs_app (L M : List Pr) : prs (L ++ M) = prs L ++ prs M := by unfold prs; simp
theorem prs_len : ∀ L : List Pr, (prs L).length = L.length * 4
  | [] => rfl
  | p :: L => by rw [prs_cons]; simp [prs_len L]; omega
theorem prs_take : ∀ (L : List Pr) (i : Nat), (prs L).take (i * 4) = prs (L.take i)
  | [], i => by simp [prs]
  | p :: L, 0 => by simp [prs]
  | p :: L, i + 1 => by rw [show (i + 1) * 4 = i * 4 + 4 by omega, prs_cons, List.take_succ_cons, List.take_succ_cons, List.take_succ_cons, List.take_succ_cons, prs_take L i, List.take_succ_cons, prs_cons]
theorem prs_drop : ∀ (L : List Pr) (i : Nat), (prs L).drop (i * 4) = prs (L.drop i)
  | [], i => by simp [prs]
  | p :: L, 0 => by simp [prs]
  | p :: L, i + 1 => by rw [show (i + 1) * 4 = i * 4 + 4 by omega, prs_cons, List.drop_succ_cons, List.drop_succ_cons, List.drop_succ_cons, List.drop_succ_cons, prs_drop L i, List.drop_succ_cons]
/-- Things are of three cells. -/
def Ones (L : List Pr) : Prop := ∀ p ∈ L, Trio p.2
theorem Ones.cells {L : List Pr} (h : Ones L) : ∀ u ∈ prs L, u.oneCell' = true := by
  intro u hu
  unfold prs at hu
  rw [List.mem_flatMap] at hu
  obtain ⟨p, hp, hu⟩ := hu
  exact prC_one (h p hp) u hu
theorem Ones.take {L : List Pr} (h : Ones L) (i : Nat) : Ones (L.take i) := fun p hp => h p (List.mem_of_mem_take hp)
theorem Ones.drop {L : List Pr} (h : Ones L) (i : Nat) : Ones (L.drop i) := fun p hp => h p (List.mem_of_mem_drop hp)
theorem Ones.tail {L : List Pr} (h : Ones L) : Ones L.tail := fun p hp => h p (List.mem_of_mem_tail hp)
theorem Ones.laid {L : List Pr} (h : Ones L) (k : Int) {x : Value} (hx : Trio x) : Ones (laid L k x) := fun p hp => by
  rcases mem_laid.1 hp with rfl | hp
  · exact hx
  · exact h p hp
theorem prs_key {L : List Pr} {i : Nat} (h : i < L.length) : (prs L)[i * 4]? = some (.int .i64 (keyAt L i)) := by
  have e := prs_drop L i
  have h1 : (prs L)[i * 4]? = ((prs L).drop (i * 4))[0]? := by simp
  rw [h1, e, List.drop_eq_getElem_cons h, prs_cons]
  simp [keyAt, List.getD, h]
theorem prs_t0 {L : List Pr} {i : Nat} (h : i < L.length) : (prs L)[i * 4 + 1]? = some (t0 (thing L i)) := by
  have e := prs_drop L i
  have h1 : (prs L)[i * 4 + 1]? = ((prs L).drop (i * 4))[1]? := by simp
  rw [h1, e, List.drop_eq_getElem_cons h, prs_cons]
  simp [thing, List.getD, h]
theorem prs_t1 {L : List Pr} {i : Nat} (h : i < L.length) : (prs L)[i * 4 + 2]? = some (t1 (thing L i)) := by
  have e := prs_drop L i
  have h1 : (prs L)[i * 4 + 2]? = ((prs L).drop (i * 4))[2]? := by simp
  rw [h1, e, List.drop_eq_getElem_cons h, prs_cons]
  simp [thing, List.getD, h]
theorem prs_t2 {L : List Pr} {i : Nat} (h : i < L.length) : (prs L)[i * 4 + 3]? = some (t2 (thing L i)) := by
  have e := prs_drop L i
  have h1 : (prs L)[i * 4 + 3]? = ((prs L).drop (i * 4))[3]? := by simp
  rw [h1, e, List.drop_eq_getElem_cons h, prs_cons]
  simp [thing, List.getD, h]

/-- Cells laid over others. -/
def layC (cur : Array Value) : Nat → List Value → Array Value
  | _, [] => cur
  | o, v :: r => layC (cur.setIfInBounds o v) (o + 1) r
theorem layC_size : ∀ (vs : List Value) (cur : Array Value) (o : Nat), (layC cur o vs).size = cur.size
  | [], _, _ => rfl
  | v :: r, cur, o => by rw [layC, layC_size r]; simp
theorem layC_list : ∀ (vs : List Value) (cur : Array Value) (o : Nat), o + vs.length ≤ cur.size → (layC cur o vs).toList = cur.toList.take o ++ vs ++ cur.toList.drop (o + vs.length)
  | [], cur, o, _ => by simp [layC]
  | v :: r, cur, o, h => by
    have h' : o + 1 + r.length ≤ cur.size := by simp at h; omega
    rw [layC, layC_list r _ _ (by simpa using h'), Array.toList_setIfInBounds]
    have e1 : (cur.toList.set o v).take (o + 1) = cur.toList.take o ++ [v] := by
      rw [List.take_set, List.take_succ_eq_append_getElem (by simpa using (by omega : o < cur.size)), List.set_append_right _ _ (by simp; omega)]
      simp [show min o cur.size = o by omega]
    have e2 : (cur.toList.set o v).drop (o + 1 + r.length) = cur.toList.drop (o + (v :: r).length) := by
      rw [List.drop_set_of_lt (by omega)]
      congr 1
      simp; omega
    rw [e1, e2]; simp
theorem heap_setCells_same {e : TypeId} (g : Nat) : ∀ (vs : List Value) (o : Nat) (w : World) (cur : Array Value), w.heap[g]? = some (.cells cur e (0, 0)) → (w.setCells g o vs).heap[g]? = some (.cells (layC cur o vs) e (0, 0))
  | [], _, _, _, h => h
  | v :: r, o, w, cur, h => heap_setCells_same g r (o + 1) _ _ (heap_setCell_same w g o cur e v h)
theorem grown_setCells (g : Nat) (vs : List Value) (o : Nat) (w : World) : w.grownBy (w.setCells g o vs) (some g) where
  os := World.os_setCells w g o vs
  tape := by
    revert o w
    induction vs with
    | nil => intro o w; rfl
    | cons v r ih => intro o w; exact ih (o + 1) _
  output := World.output_setCells w g o vs
  size := by
    have : ∀ (vs : List Value) (o : Nat) (w : World), (w.setCells g o vs).heap.size = w.heap.size := by
      intro vs
      induction vs with
      | nil => intro o w; rfl
      | cons v r ih => intro o w; rw [World.setCells, ih]; simp
    rw [this]; exact Nat.le_refl _
  block := fun k hk hne => World.heap_setCells_other w g o vs hk (fun e => hne (by rw [e]))
theorem grown_trans {w w' w'' : World} {r : Option Nat} (h : w.grownBy w' r) (h' : w'.grownBy w'' r) : w.grownBy w'' r :=
  ⟨h'.os.trans h.os, h'.tape.trans h.tape, h'.output.trans h.output, Nat.le_trans h.size h'.size, fun k hk hne => (h'.block k (Nat.lt_of_lt_of_le hk h.size) hne).trans (h.block k hk hne)⟩
theorem grown_drew {w w' : World} {r : Option Nat} (h : w.grownBy w' r) : w.grownBy w'.drew r := ⟨h.os, h.tape, h.output, h.size, h.block⟩
theorem grown_refl (w : World) (r : Option Nat) : w.grownBy w r := ⟨rfl, rfl, rfl, Nat.le_refl _, fun _ _ _ => rfl⟩

/-- A value that a call owns, of these pairs (their type: e). -/
def OwnP (e : TypeId) (w : World) (B : Nat) (v : Value) (L : List Pr) : Prop := w.ownsRow B e 4 v L.length (prs L)
section
variable {e : TypeId} {w w' : World} {B : Nat} {v : Value} {L : List Pr}
theorem OwnP.nil (w : World) (B : Nat) : OwnP e w B (.slice none 0 0) [] := World.ownsRow_nil w B _ _
theorem OwnP.lt (h : OwnP e w B v L) : ∀ k, v.ownBlock = some k → B ≤ k ∧ k < w.heap.size := World.ownsRow.lt h
theorem OwnP.kept (h : OwnP e w B v L) {r : Option Nat} (hg : w.grownBy w' r) (hr : v.ownBlock = none ∨ v.ownBlock ≠ r) : OwnP e w' B v L := World.ownsRow.kept h hg hr
theorem OwnP.below (h : OwnP e w B v L) (hb : Below w.heap.size w w') : OwnP e w' B v L := by
  refine ⟨h.1, ?_⟩
  rcases h.2 with hn | ⟨g, cap, cur, hv, hB, hg, rest⟩
  · exact Or.inl hn
  · exact Or.inr ⟨g, cap, cur, hv, hB, (hb.block g (Array.getElem?_eq_some_iff.1 hg).1).trans hg, rest⟩
theorem OwnP.drew (h : OwnP e w B v L) : OwnP e w.drew B v L := h
theorem OwnP.form (h : OwnP e w B v L) : ∃ ao cap, v = .slice ao L.length cap ∧ L.length ≤ cap ∧ cap ≤ 9223372036854775807 ∧ (ao = none → cap = 0) := by
  rcases h.2 with ⟨rfl, h0⟩ | ⟨g, cap, cur, hv, hb, hg, hc, hm, _⟩
  · exact ⟨none, 0, by rw [h0], by omega, by omega, fun _ => rfl⟩
  · exact ⟨_, cap, hv, hc, hm, fun h => by simp at h⟩
theorem OwnP.some_ (h : OwnP e w B v L) (hl : L ≠ []) : ∃ g cap cur, v = .slice (some ⟨g, 0, none⟩) L.length cap ∧ B ≤ g ∧ w.heap[g]? = some (.cells cur e (0, 0)) ∧ L.length ≤ cap ∧ cap ≤ 9223372036854775807 ∧ cur.size = cap * 4 ∧ cur.toList.take (L.length * 4) = prs L := by
  have hp := List.length_pos_iff.2 hl
  rcases h.2 with ⟨_, h0⟩ | h
  · omega
  · exact h
theorem ownP_row {g cap : Nat} {cur : Array Value} (hg : w.heap[g]? = some (.cells cur e (0, 0))) (hB : B ≤ g) (hc : L.length ≤ cap) (hm : cap ≤ 9223372036854775807) (hs : cur.size = cap * 4) (ht : cur.toList.take (L.length * 4) = prs L) :
    OwnP e w B (.slice (some ⟨g, 0, none⟩) L.length cap) L := ⟨prs_len L, Or.inr ⟨g, cap, cur, rfl, hB, hg, hc, hm, hs, ht⟩⟩
theorem row_cell {g : Nat} {cur : Array Value} (hg : w.heap[g]? = some (.cells cur e (0, 0))) (o : Nat) : w.cell? ⟨g, o, none⟩ = cur[o]? := cell_of_row w g o cur e (0, 0) hg
theorem row_froz {g : Nat} {cur : Array Value} (hg : w.heap[g]? = some (.cells cur e (0, 0))) (o : Nat) : w.frozen? ⟨g, o, none⟩ = false := by
  simp [World.frozen?, hg]
theorem row_at {g cap : Nat} {cur : Array Value} (hg : w.heap[g]? = some (.cells cur e (0, 0))) (hc : L.length ≤ cap) (hs : cur.size = cap * 4) (ht : cur.toList.take (L.length * 4) = prs L) (j : Nat) (u : Value) (h : (prs L)[j]? = some u) : w.cell? ⟨g, j, none⟩ = some u := by
  have hj : j < L.length * 4 := by have := (List.getElem?_eq_some_iff.1 h).1; rwa [prs_len] at this
  rw [row_cell hg, ← h, ← ht, List.getElem?_take, if_pos hj]
  simp
theorem OwnP.key (h : OwnP e w B v L) {g n cap : Nat} (hv : v = .slice (some ⟨g, 0, none⟩) n cap) {i : Nat} (hi : i < L.length) : w.cell? ⟨g, i * 4, none⟩ = some (.int .i64 (keyAt L i)) := by
  obtain ⟨g', cap', cur, hv', hB, hg, hc, hm, hs, ht⟩ := h.some_ (by intro h; rw [h] at hi; simp at hi)
  rw [hv] at hv'; injection hv' with h1 _ _; injection h1 with h1; injection h1 with h1 _ _; subst h1
  exact row_at hg hc hs ht _ _ (prs_key hi)
theorem OwnP.th0 (h : OwnP e w B v L) {g n cap : Nat} (hv : v = .slice (some ⟨g, 0, none⟩) n cap) {i : Nat} (hi : i < L.length) : w.cell? ⟨g, i * 4 + 1, none⟩ = some (t0 (thing L i)) := by
  obtain ⟨g', cap', cur, hv', hB, hg, hc, hm, hs, ht⟩ := h.some_ (by intro h; rw [h] at hi; simp at hi)
  rw [hv] at hv'; injection hv' with h1 _ _; injection h1 with h1; injection h1 with h1 _ _; subst h1
  exact row_at hg hc hs ht _ _ (prs_t0 hi)
theorem OwnP.th1 (h : OwnP e w B v L) {g n cap : Nat} (hv : v = .slice (some ⟨g, 0, none⟩) n cap) {i : Nat} (hi : i < L.length) : w.cell? ⟨g, i * 4 + 2, none⟩ = some (t1 (thing L i)) := by
  obtain ⟨g', cap', cur, hv', hB, hg, hc, hm, hs, ht⟩ := h.some_ (by intro h; rw [h] at hi; simp at hi)
  rw [hv] at hv'; injection hv' with h1 _ _; injection h1 with h1; injection h1 with h1 _ _; subst h1
  exact row_at hg hc hs ht _ _ (prs_t1 hi)
theorem OwnP.th2 (h : OwnP e w B v L) {g n cap : Nat} (hv : v = .slice (some ⟨g, 0, none⟩) n cap) {i : Nat} (hi : i < L.length) : w.cell? ⟨g, i * 4 + 3, none⟩ = some (t2 (thing L i)) := by
  obtain ⟨g', cap', cur, hv', hB, hg, hc, hm, hs, ht⟩ := h.some_ (by intro h; rw [h] at hi; simp at hi)
  rw [hv] at hv'; injection hv' with h1 _ _; injection h1 with h1; injection h1 with h1 _ _; subst h1
  exact row_at hg hc hs ht _ _ (prs_t2 hi)
end
theorem take_app_len {α : Type} (a b : List α) (n : Nat) (h : a.length = n) : (a ++ b).take n = a := by subst h; simp
/-- Cells moved on by a place, and one laid between. -/
theorem laid_row {e : TypeId} {w : World} {B g cap : Nat} {cur : Array Value} {L : List Pr} (hg : w.heap[g]? = some (.cells cur e (0, 0))) (hB : B ≤ g) (hm : cap ≤ 9223372036854775807) (hs : cur.size = cap * 4)
    (hc : L.length + 1 ≤ cap) (ht : cur.toList.take (L.length * 4) = prs L) (i : Nat) (hi : i ≤ L.length) (p : Pr) (W W1 : World) (hW1 : W1 = w.setCells g ((i + 1) * 4) (prs (L.drop i))) (W2 : World) (h12 : W2.heap = W1.heap) (hW : W = W2.setCells g (i * 4) (prC p)) :
    OwnP e W B (.slice (some ⟨g, 0, none⟩) (L.length + 1) cap) (L.take i ++ p :: L.drop i) := by
  have h1 := heap_setCells_same g (prs (L.drop i)) ((i + 1) * 4) w cur hg
  rw [← hW1] at h1
  rw [← h12] at h1
  have h2 := heap_setCells_same g (prC p) (i * 4) W2 _ h1
  rw [← hW] at h2
  have hl : (L.take i ++ p :: L.drop i).length = L.length + 1 := by simp; omega
  have hlt : (L.take i).length = i := by simp; omega
  have hld : (L.drop i).length = L.length - i := by simp
  have hd : (prs (L.drop i)).length = (L.length - i) * 4 := by rw [prs_len, hld]
  have := ownP_row (L := L.take i ++ p :: L.drop i) h2 hB (by omega) hm (by rw [layC_size, layC_size]; exact hs) ?_
  · rw [hl] at this; exact this
  · rw [hl, layC_list _ _ _ (by rw [layC_size, prC_len]; omega), layC_list _ _ _ (by rw [hd]; omega)]
    rw [prs_app, prs_cons]
    have e1 : (cur.toList.take ((i + 1) * 4) ++ prs (L.drop i) ++ cur.toList.drop ((i + 1) * 4 + (prs (L.drop i)).length)).take (i * 4) = prs (L.take i) := by
      rw [List.append_assoc, List.take_append_of_le_length (by simp; omega), List.take_take, ← prs_take, ← ht, List.take_take]
      congr 1
      omega
    have e2 : (cur.toList.take ((i + 1) * 4) ++ prs (L.drop i) ++ cur.toList.drop ((i + 1) * 4 + (prs (L.drop i)).length)).drop (i * 4 + (prC p).length) = prs (L.drop i) ++ cur.toList.drop ((i + 1) * 4 + (prs (L.drop i)).length) := by
      rw [List.append_assoc, List.drop_append_of_le_length (by simp [prC_len]; omega), List.drop_of_length_le (by simp [prC_len]; omega), List.nil_append]
    rw [e1, e2]
    have : prs (L.take i) ++ prC p ++ (prs (L.drop i) ++ cur.toList.drop ((i + 1) * 4 + (prs (L.drop i)).length)) = (prs (L.take i) ++ .int .i64 p.1 :: t0 p.2 :: t1 p.2 :: t2 p.2 :: prs (L.drop i)) ++ cur.toList.drop ((i + 1) * 4 + (prs (L.drop i)).length) := by simp [prC]
    rw [this]
    exact take_app_len _ _ _ (by simp [prs_len]; omega)
/-- Cells moved back by a place: the first pair goes. -/
theorem tail_row {e : TypeId} {w : World} {B g cap : Nat} {cur : Array Value} {L : List Pr} (hl : L ≠ []) (hg : w.heap[g]? = some (.cells cur e (0, 0))) (hB : B ≤ g) (hm : cap ≤ 9223372036854775807) (hs : cur.size = cap * 4)
    (hc : L.length ≤ cap) (W W1 : World) (hW1 : W1 = w.setCells g 0 (prs L.tail)) (W2 : World) (h12 : W2.heap = W1.heap) (z : List Value) (hz : z.length = 4) (hW : W = W2.setCells g ((L.length - 1) * 4) z) :
    OwnP e W B (.slice (some ⟨g, 0, none⟩) (L.length - 1) cap) L.tail := by
  have hp := List.length_pos_iff.2 hl
  have h1 := heap_setCells_same g (prs L.tail) 0 w cur hg
  rw [← hW1] at h1
  rw [← h12] at h1
  have h2 := heap_setCells_same g z ((L.length - 1) * 4) W2 _ h1
  rw [← hW] at h2
  have ht : L.tail.length = L.length - 1 := List.length_tail
  have hd : (prs L.tail).length = (L.length - 1) * 4 := by rw [prs_len, ht]
  have := ownP_row (L := L.tail) h2 hB (by omega) hm (by rw [layC_size, layC_size]; exact hs) ?_
  · rw [ht] at this; exact this
  · rw [ht, layC_list _ _ _ (by rw [layC_size]; omega), layC_list _ _ _ (by rw [hd]; omega)]
    rw [List.append_assoc, List.take_append_of_le_length (by simp; omega), List.take_take]
    simp only [List.take_zero, List.nil_append]
    rw [Nat.min_self]
    exact take_app_len _ _ _ hd
/-- A new row: cells, a pair laid behind the first i, the others behind it. -/
theorem new_row {e : TypeId} {w : World} {B g cap : Nat} {cur : Array Value} {L : List Pr} (hg : w.heap[g]? = some (.cells cur e (0, 0))) (hB : B ≤ g) (hm : cap ≤ 9223372036854775807) (hs : cur.size = cap * 4)
    (hc : L.length + 1 ≤ cap) (i : Nat) (hi : i ≤ L.length) (ht : cur.toList.take (i * 4) = prs (L.take i)) (p : Pr) (W W1 : World) (hW1 : W1 = w.setCells g (i * 4) (prC p)) (W2 : World) (h12 : W2.heap = W1.heap) (hW : W = W2.setCells g ((i + 1) * 4) (prs (L.drop i))) :
    OwnP e W B (.slice (some ⟨g, 0, none⟩) (L.length + 1) cap) (L.take i ++ p :: L.drop i) := by
  have h1 := heap_setCells_same g (prC p) (i * 4) w cur hg
  rw [← hW1] at h1
  rw [← h12] at h1
  have h2 := heap_setCells_same g (prs (L.drop i)) ((i + 1) * 4) W2 _ h1
  rw [← hW] at h2
  have hl : (L.take i ++ p :: L.drop i).length = L.length + 1 := by simp; omega
  have hld : (L.drop i).length = L.length - i := by simp
  have hlt : (L.take i).length = i := by simp; omega
  have hd : (prs (L.drop i)).length = (L.length - i) * 4 := by rw [prs_len, hld]
  have hpt : (prs (L.take i)).length = i * 4 := by rw [prs_len, hlt]
  have := ownP_row (L := L.take i ++ p :: L.drop i) h2 hB (by omega) hm (by rw [layC_size, layC_size]; exact hs) ?_
  · rw [hl] at this; exact this
  · rw [hl, layC_list _ _ _ (by rw [layC_size]; rw [hd]; omega), layC_list _ _ _ (by rw [prC_len]; omega), ht]
    rw [prs_app, prs_cons]
    have e1 : (prs (L.take i) ++ prC p ++ cur.toList.drop (i * 4 + (prC p).length)).take ((i + 1) * 4) = prs (L.take i) ++ prC p :=
      take_app_len _ _ _ (by simp [hpt, prC_len]; omega)
    rw [e1]
    have : ∀ r : List Value, prs (L.take i) ++ prC p ++ prs (L.drop i) ++ r = (prs (L.take i) ++ .int .i64 p.1 :: t0 p.2 :: t1 p.2 :: t2 p.2 :: prs (L.drop i)) ++ r := fun r => by simp [prC]
    rw [this]
    exact take_app_len _ _ _ (by simp [hpt, hd]; omega)
theorem grown_past {w w' w'' : World} {r : Option Nat} {g : Nat} (h : w.grownBy w' r) (h' : w'.grownBy w'' (some g)) (hg : w.heap.size ≤ g) : w.grownBy w'' r :=
  ⟨h'.os.trans h.os, h'.tape.trans h.tape, h'.output.trans h.output, Nat.le_trans h.size h'.size, fun k hk hne => (h'.block k (Nat.lt_of_lt_of_le hk h.size) (fun e => by injection e with e; omega)).trans (h.block k hk hne)⟩
theorem zeros_len (z : Value) (n : Nat) : (Builtin.zeroCells z.cells n).size = n * z.cells.size := by simp [Builtin.zeroCells]
end Go.Proofs.YtokegpajjicehaaGreat

namespace Go.Proofs.YtokegpajjicehaaGreat
open Go.RowKit
set_option linter.unusedVariables false
set_option maxRecDepth 20000
section
variable {P : Program}
/-- 'copy(d, s)' of elements of whatever size. -/
theorem run_copy_sz (w : World) (dT sT ty elem : TypeId) (b o dLen dCap : Nat) (a : Addr) (sLen sCap sz n : Nat) (cs : List Value)
    (hu : P.underlying dT = some (.slice elem)) (hs : (P.info? elem).map (·.size) = some sz) (hm : Nat.min sLen dLen = n) (hn : cs.length = n * sz)
    (hsrc : ∀ j v, cs[j]? = some v → w.cell? (a.add j) = some v) (hc : ∀ j, j < cs.length → (w.cell? ⟨b, o + j, none⟩).isSome = true) (hf : ∀ j, j < cs.length → w.frozen? ⟨b, o + j, none⟩ = false) (h1 : ∀ v ∈ cs, v.oneCell' = true) :
    (Builtin.copy_ #[dT, sT] ty #[.slice (some ⟨b, o, none⟩) dLen dCap, .slice (some a) sLen sCap]).run P w = .ok (goInt n) (w.setCells b o cs) := by
  have hl := run_loadCells_list (P := P) w a cs hsrc
  have hst := run_storeCells_cells (P := P) b o cs 0 w (by simpa using hc) (by simpa using hf) h1
  cases hq : P.info? elem with
  | none => simp [hq] at hs
  | some i =>
    have hi : i.size = sz := by simpa [hq] using hs
    rw [hn] at hl
    simp [Builtin.copy_, run_underlying hu, Builtin.lenOf, Builtin.firstCells, sizeOf, typeInfo, hq, hi, hm, hl, hst]
/-- 'clear(s)' of one element. -/
theorem run_clear_one (w : World) (t e ty : TypeId) (z : Value) (ht : P.underlying t = some (.slice e)) (hv : ∀ w, (zeroValue e).run P w = .ok z w) (b o c : Nat)
    (hc : ∀ j, j < z.cells.size → (w.cell? ⟨b, o + j, none⟩).isSome = true) (hf : ∀ j, j < z.cells.size → w.frozen? ⟨b, o + j, none⟩ = false) (h1 : ∀ v ∈ z.cells.toList, v.oneCell' = true) :
    (Builtin.clear_ #[t] ty #[.slice (some ⟨b, o, none⟩) 1 c]).run P w = .ok (.tuple #[]) (w.setCells b o z.cells.toList) := by
  have hzc : (Builtin.zeroCells z.cells 1).toList = z.cells.toList := by
    apply List.ext_getElem
    · simp [Builtin.zeroCells]
    · intro i h3 h4
      have : i < z.cells.size := by simpa using h4
      simp [Builtin.zeroCells, Nat.mod_eq_of_lt this, this]
  have hst := run_storeCells_cells (P := P) b o z.cells.toList 0 w (by simpa using hc) (by simpa using hf) h1
  simp only [Nat.add_zero] at hst
  simp [Builtin.clear_, run_underlying ht, hv, hzc, hst]
/-- 'append(s, x...)' of one pair. -/
theorem growP_op {w : World} {o : Oper} {a : Act} {K : Act → World → Prop} {Q : Exit → Act → World → Prop} (t e : TypeId) (zr : Value) (by_ : Nat) (ht : P.underlying t = some (.slice e)) (hz : (P.info? e).map (fun i => (i.zero, i.size, i.bytes)) = some (some zr, 4, by_)) (hby : by_ ≤ 64) (hzr : zr.cells.size = 4) (s x : Operand)
    (ho : o.op = .call { callee := .builtin .append, args := #[s, x], argTypes := #[t, t] })
    (B : Nat) (v : Value) (L : List Pr) (hs : a.eval s = v) (hown : OwnP e w B v L) (g0 o0 : Nat) (p : Pr) (c0 : Nat) (hx : a.eval x = .slice (some ⟨g0, o0, none⟩) 1 c0)
    (hr0 : w.cell? ⟨g0, o0, none⟩ = some (.int .i64 p.1)) (hr1 : w.cell? ⟨g0, o0 + 1, none⟩ = some (t0 p.2)) (hr2 : w.cell? ⟨g0, o0 + 2, none⟩ = some (t1 p.2)) (hr3 : w.cell? ⟨g0, o0 + 3, none⟩ = some (t2 p.2)) (h1 : Trio p.2) (hlen : L.length ≤ 1000000) (hB : B ≤ w.heap.size)
    (h : ∀ v' w', OwnP e w' B v' (L ++ [p]) → Grow B v w v' w' → K (a.put o.dst v') w') : o.wp P a w K Q := by
  obtain ⟨i0, hi, hz0, hz1, hz2⟩ := info_parts hz
  have hm : (L.length + 1) * by_ ≤ (L.length + 1) * 64 := Nat.mul_le_mul_left _ hby
  refine wp_append_lies w s x t ho B e i0 zr 4 by_ ht hi hz0 hz1 hz2 hzr (by decide) v L.length (prs L) hs hown ⟨g0, o0, none⟩ 1 c0 (prs [p]) hx rfl (fun j u hu => ?_) (Ones.cells (fun q hq => by rw [List.mem_singleton.1 hq]; exact h1)) (by omega) (by unfold maxLen; omega) (by omega) hB w.heap.size rfl ?_
  · rw [prs_cons, prs_nil] at hu
    rw [Addr.add_lit]
    rcases j with _ | _ | _ | _ | j
    · simp at hu; subst hu; exact hr0
    · simp at hu; subst hu; exact hr1
    · simp at hu; subst hu; exact hr2
    · simp at hu; subst hu; exact hr3
    · simp at hu
  intro g cap' w' hown' hgrow hor hlt
  refine h _ w' ?_ ⟨(Below.refl B w).grown hgrow hB (fun k hk => (hown.lt k hk).1), hgrow, ?_⟩
  · unfold OwnP
    rw [List.length_append, prs_app]
    exact hown'
  · rcases hor with e | e
    · exact Or.inl e.symm
    · right; rw [e]; rfl
theorem growP_wp {w : World} {ops : Array Oper} {rest : List Oper} {o : Oper} {a : Act} {Q : Exit → Act → World → Prop} (hgd : o.guard = none) (t e : TypeId) (zr : Value) (by_ : Nat) (ht : P.underlying t = some (.slice e)) (hz : (P.info? e).map (fun i => (i.zero, i.size, i.bytes)) = some (some zr, 4, by_)) (hby : by_ ≤ 64) (hzr : zr.cells.size = 4) (s x : Operand)
    (ho : o.op = .call { callee := .builtin .append, args := #[s, x], argTypes := #[t, t] })
    (B : Nat) (v : Value) (L : List Pr) (hs : a.eval s = v) (hown : OwnP e w B v L) (g0 o0 : Nat) (p : Pr) (c0 : Nat) (hx : a.eval x = .slice (some ⟨g0, o0, none⟩) 1 c0)
    (hr0 : w.cell? ⟨g0, o0, none⟩ = some (.int .i64 p.1)) (hr1 : w.cell? ⟨g0, o0 + 1, none⟩ = some (t0 p.2)) (hr2 : w.cell? ⟨g0, o0 + 2, none⟩ = some (t1 p.2)) (hr3 : w.cell? ⟨g0, o0 + 3, none⟩ = some (t2 p.2)) (h1 : Trio p.2) (hlen : L.length ≤ 1000000) (hB : B ≤ w.heap.size)
    (h : ∀ v' w', OwnP e w' B v' (L ++ [p]) → Grow B v w v' w' → wpList P ops Q rest (a.put o.dst v') w') : wpList P ops Q (o :: rest) a w :=
  wpList_plain hgd fun K hK => growP_op t e zr by_ ht hz hby hzr s x ho B v L hs hown g0 o0 p c0 hx hr0 hr1 hr2 hr3 h1 hlen hB fun v' w' h1 h2 => hK _ _ (h v' w' h1 h2)
end
end Go.Proofs.YtokegpajjicehaaGreat
