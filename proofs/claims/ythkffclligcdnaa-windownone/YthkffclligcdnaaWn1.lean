/-
  Layer 13 (window): rows of values of one cell, of whatever type; the greatest or the least of a row (no function of the program in sight).
-/
import Derived.Test.YthkffclligcdnaaRg5
namespace Go.Proofs.Ythkffclligcdnaa
open Go.RowKit
set_option linter.unusedVariables false
set_option maxRecDepth 20000

/-- A value that a call owns, of these cells (their type: e). -/
def OwnL (e : TypeId) (w : World) (B : Nat) (v : Value) (L : List Value) : Prop := w.ownsRow B e 1 v L.length L
section
variable {e : TypeId} {w w' : World} {B : Nat} {v : Value} {L : List Value}
theorem OwnL.nil (w : World) (B : Nat) : OwnL e w B (.slice none 0 0) [] := World.ownsRow_nil w B _ _
theorem OwnL.lt (h : OwnL e w B v L) : ∀ k, v.ownBlock = some k → B ≤ k ∧ k < w.heap.size := World.ownsRow.lt h
theorem OwnL.kept (h : OwnL e w B v L) {r : Option Nat} (hg : w.grownBy w' r) (hr : v.ownBlock = none ∨ v.ownBlock ≠ r) : OwnL e w' B v L := World.ownsRow.kept h hg hr
theorem OwnL.below (h : OwnL e w B v L) (hb : Below w.heap.size w w') : OwnL e w' B v L := by
  refine ⟨h.1, ?_⟩
  rcases h.2 with hn | ⟨g, cap, cur, hv, hB, hg, rest⟩
  · exact Or.inl hn
  · exact Or.inr ⟨g, cap, cur, hv, hB, (hb.block g (Array.getElem?_eq_some_iff.1 hg).1).trans hg, rest⟩
theorem OwnL.drewN (h : OwnL e w B v L) (n : Nat) : OwnL e (w.drewN n) B v L := h
theorem OwnL.form (h : OwnL e w B v L) : ∃ ao cap, v = .slice ao L.length cap ∧ L.length ≤ cap ∧ cap ≤ 9223372036854775807 ∧ (ao = none → cap = 0) := by
  rcases h.2 with ⟨rfl, h0⟩ | ⟨g, cap, cur, hv, hb, hg, hc, hm, _⟩
  · exact ⟨none, 0, by rw [h0], by omega, by omega, fun _ => rfl⟩
  · exact ⟨_, cap, hv, hc, hm, fun h => by simp at h⟩
theorem OwnL.some_ (h : OwnL e w B v L) (hl : L ≠ []) : ∃ g cap cur, v = .slice (some ⟨g, 0, none⟩) L.length cap ∧ B ≤ g ∧ w.heap[g]? = some (.cells cur e (0, 0)) ∧ L.length ≤ cap ∧ cap ≤ 9223372036854775807 ∧ cur.size = cap * 1 ∧ cur.toList.take (L.length * 1) = L := by
  have hp := List.length_pos_iff.2 hl
  rcases h.2 with ⟨_, h0⟩ | h
  · omega
  · exact h
theorem ownL_row {g cap : Nat} {cur : Array Value} (hg : w.heap[g]? = some (.cells cur e (0, 0))) (hB : B ≤ g) (hc : L.length ≤ cap) (hm : cap ≤ 9223372036854775807) (hs : cur.size = cap * 1) (ht : cur.toList.take (L.length * 1) = L) :
    OwnL e w B (.slice (some ⟨g, 0, none⟩) L.length cap) L := ⟨(Nat.mul_one _).symm, Or.inr ⟨g, cap, cur, rfl, hB, hg, hc, hm, hs, ht⟩⟩
theorem rowL_at {g cap : Nat} {cur : Array Value} (hg : w.heap[g]? = some (.cells cur e (0, 0))) (hc : L.length ≤ cap) (hs : cur.size = cap * 1) (ht : cur.toList.take (L.length * 1) = L) (j : Nat) (u : Value) (h : L[j]? = some u) : w.cell? ⟨g, j, none⟩ = some u := by
  have hj : j < L.length * 1 := by have := (List.getElem?_eq_some_iff.1 h).1; omega
  rw [row_cell hg, ← h]
  conv => rhs; rw [← ht]
  rw [List.getElem?_take, if_pos hj]
  simp
theorem OwnL.at (h : OwnL e w B v L) {g n cap : Nat} (hv : v = .slice (some ⟨g, 0, none⟩) n cap) {i : Nat} {u : Value} (hi : L[i]? = some u) : w.cell? ⟨g, i, none⟩ = some u := by
  obtain ⟨g', cap', cur, hv', hB, hg, hc, hm, hs, ht⟩ := h.some_ (by intro h; rw [h] at hi; simp at hi)
  rw [hv] at hv'; injection hv' with h1 _ _; injection h1 with h1; injection h1 with h1 _ _; subst h1
  exact rowL_at hg hc hs ht _ _ hi
theorem OwnL.mono {C : Nat} (h : OwnL e w B v L) (hC : C ≤ B) : OwnL e w C v L := by
  refine ⟨h.1, ?_⟩
  rcases h.2 with hn | ⟨g, cap, cur, hv, hB, rest⟩
  · exact Or.inl hn
  · exact Or.inr ⟨g, cap, cur, hv, Nat.le_trans hC hB, rest⟩
end
/-- Cells moved back by a place: the first goes. -/
theorem tail_rowL {e : TypeId} {w : World} {B g cap : Nat} {cur : Array Value} {L : List Value} (hl : L ≠ []) (hg : w.heap[g]? = some (.cells cur e (0, 0))) (hB : B ≤ g) (hm : cap ≤ 9223372036854775807) (hs : cur.size = cap * 1)
    (hc : L.length ≤ cap) (W W1 : World) (hW1 : W1 = w.setCells g 0 L.tail) (W2 : World) (h12 : W2.heap = W1.heap) (z : List Value) (hz : z.length = 1) (hW : W = W2.setCells g (L.length - 1) z) :
    OwnL e W B (.slice (some ⟨g, 0, none⟩) (L.length - 1) cap) L.tail := by
  have hp := List.length_pos_iff.2 hl
  have h1 := heap_setCells_same g L.tail 0 w cur hg
  rw [← hW1] at h1
  rw [← h12] at h1
  have h2 := heap_setCells_same g z (L.length - 1) W2 _ h1
  rw [← hW] at h2
  have ht : L.tail.length = L.length - 1 := List.length_tail
  have := ownL_row (L := L.tail) h2 hB (by omega) hm (by rw [layC_size, layC_size]; exact hs) ?_
  · rw [ht] at this; exact this
  · rw [ht, layC_list _ _ _ (by rw [layC_size]; omega), layC_list _ _ _ (by rw [ht]; omega)]
    rw [List.append_assoc, List.take_append_of_le_length (by simp), List.take_take]
    simp only [List.take_zero, List.nil_append]
    exact take_app_len _ _ _ (by rw [ht]; try omega)
/-- 'append(s, x...)' of one cell. -/
theorem growL_op {P : Program} {w : World} {o : Oper} {a : Act} {K : Act → World → Prop} {Q : Exit → Act → World → Prop} (t e : TypeId) (zr : Value) (by_ : Nat) (ht : P.underlying t = some (.slice e)) (hz : (P.info? e).map (fun i => (i.zero, i.size, i.bytes)) = some (some zr, 1, by_)) (hby : by_ ≤ 64) (hb0 : 0 < by_) (hzr : zr.cells.size = 1) (s x : Operand)
    (ho : o.op = .call { callee := .builtin .append, args := #[s, x], argTypes := #[t, t] })
    (B : Nat) (v : Value) (L : List Value) (hs : a.eval s = v) (hown : OwnL e w B v L) (g0 o0 : Nat) (u : Value) (c0 : Nat) (hx : a.eval x = .slice (some ⟨g0, o0, none⟩) 1 c0)
    (hr0 : w.cell? ⟨g0, o0, none⟩ = some u) (h1 : u.oneCell' = true) (hlen : L.length ≤ 1000000) (hB : B ≤ w.heap.size)
    (h : ∀ v' w', OwnL e w' B v' (L ++ [u]) → Grow B v w v' w' → K (a.put o.dst v') w') : o.wp P a w K Q := by
  obtain ⟨i0, hi, hz0, hz1, hz2⟩ := info_parts hz
  have hm : (L.length + 1) * by_ ≤ (L.length + 1) * 64 := Nat.mul_le_mul_left _ hby
  refine wp_append_lies w s x t ho B e i0 zr 1 by_ ht hi hz0 hz1 hz2 hzr (by decide) v L.length L hs hown ⟨g0, o0, none⟩ 1 c0 [u] hx rfl (fun j y hu => ?_) (fun y hy => by rw [List.mem_singleton.1 hy]; exact h1) (by omega) (by unfold maxLen; omega) (by omega) hB w.heap.size rfl ?_
  · rw [Addr.add_lit]
    rcases j with _ | j
    · simp at hu; subst hu; exact hr0
    · simp at hu
  intro g cap' w' hown' hgrow hor hlt
  refine h _ w' ?_ ⟨(Below.refl B w).grown hgrow hB (fun k hk => (hown.lt k hk).1), hgrow, ?_⟩
  · unfold OwnL
    rw [List.length_append]
    exact hown'
  · rcases hor with e | e
    · exact Or.inl e.symm
    · right; rw [e]; rfl
theorem growL_wp {P : Program} {w : World} {ops : Array Oper} {rest : List Oper} {o : Oper} {a : Act} {Q : Exit → Act → World → Prop} (hgd : o.guard = none) (t e : TypeId) (zr : Value) (by_ : Nat) (ht : P.underlying t = some (.slice e)) (hz : (P.info? e).map (fun i => (i.zero, i.size, i.bytes)) = some (some zr, 1, by_)) (hby : by_ ≤ 64) (hb0 : 0 < by_) (hzr : zr.cells.size = 1) (s x : Operand)
    (ho : o.op = .call { callee := .builtin .append, args := #[s, x], argTypes := #[t, t] })
    (B : Nat) (v : Value) (L : List Value) (hs : a.eval s = v) (hown : OwnL e w B v L) (g0 o0 : Nat) (u : Value) (c0 : Nat) (hx : a.eval x = .slice (some ⟨g0, o0, none⟩) 1 c0)
    (hr0 : w.cell? ⟨g0, o0, none⟩ = some u) (h1 : u.oneCell' = true) (hlen : L.length ≤ 1000000) (hB : B ≤ w.heap.size)
    (h : ∀ v' w', OwnL e w' B v' (L ++ [u]) → Grow B v w v' w' → wpList P ops Q rest (a.put o.dst v') w') : wpList P ops Q (o :: rest) a w :=
  wpList_plain hgd fun K hK => growL_op t e zr by_ ht hz hby hb0 hzr s x ho B v L hs hown g0 o0 u c0 hx hr0 h1 hlen hB fun v' w' h1 h2 => hK _ _ (h v' w' h1 h2)

/-- What is looked at. -/
structure Wd where
  M : Nat
  L : List Value
def addW (s : Wd) (u : Value) : Wd := ⟨s.M, (if s.L.length = s.M then s.L.tail else s.L) ++ [u]⟩
structure Wd.ok (s : Wd) : Prop where
  lo : 1 ≤ s.M
  hi : s.M ≤ 64
  len : s.L.length ≤ s.M
theorem addW_ok {s : Wd} (h : s.ok) (u : Value) : (addW s u).ok := by
  refine ⟨h.lo, h.hi, ?_⟩
  have := h.lo; have := h.len
  show ((if s.L.length = s.M then s.L.tail else s.L) ++ [u]).length ≤ s.M
  split <;> simp <;> omega
/-- The window at block R looks at these; its row is v. -/
structure WinV (e : TypeId) (w : World) (B R : Nat) (v : Value) (s : Wd) : Prop where
  blk : Blk w R [.int .i64 (s.M : Nat), v]
  own : OwnL e w B v s.L
  ok : s.ok
  ne : some R ≠ v.ownBlock
  le : B ≤ R
theorem WinV.below {e : TypeId} {B R : Nat} {v : Value} {s : Wd} {w w' : World} (h : WinV e w B R v s) (hb : Below w.heap.size w w') : WinV e w' B R v s :=
  ⟨h.blk.low hb h.blk.lt, h.own.below hb, h.ok, h.ne, h.le⟩
theorem WinV.drewN {e : TypeId} {B R : Nat} {v : Value} {s : Wd} {w : World} (h : WinV e w B R v s) (n : Nat) : WinV e (w.drewN n) B R v s := ⟨⟨h.blk.lt, h.blk.all, h.blk.froz⟩, h.own, h.ok, h.ne, h.le⟩
theorem OwnL.chg {e : TypeId} {B C R : Nat} {v v' u : Value} {L : List Value} {w w' : World} (hu : OwnL e w C u L) (h : Chg B R v v' w w') (hR : some R ≠ u.ownBlock) (hv : u.ownBlock = none ∨ u.ownBlock ≠ v.ownBlock) : OwnL e w' C u L := by
  refine ⟨hu.1, ?_⟩
  rcases hu.2 with hn | ⟨g, cap, cur, hv', hB, hg, rest⟩
  · exact Or.inl hn
  · have hgl : g < w.heap.size := (Array.getElem?_eq_some_iff.1 hg).1
    subst hv'
    refine Or.inr ⟨g, cap, cur, rfl, hB, (h.block g hgl (fun e => hR (by rw [← e]; rfl)) (fun e => ?_)).trans hg, rest⟩
    rcases hv with h' | h'
    · cases h'
    · exact h' (by rw [← e]; rfl)
theorem WinV.chg {e' : TypeId} {B C R S : Nat} {v v' u : Value} {t : Wd} {w w' : World} (hu : WinV e' w C S u t) (h : Chg B R v v' w w') (hs : Sep R v S u) : WinV e' w' C S u t ∧ Sep R v' S u := by
  have hb := hu.blk.chg h hs.blks hs.left
  refine ⟨⟨hb.1, hu.own.chg h hs.right hs.rows, hu.ok, hu.ne, hu.le⟩, hs.blks, hb.2, hs.right, ?_⟩
  cases hq : u.ownBlock with
  | none => exact Or.inl rfl
  | some g =>
    right
    have := (hu.own.lt g hq).2
    refine h.off (b := g) this ?_
    rcases hs.rows with e | e
    · rw [hq] at e; cases e
    · rw [hq] at e; exact e

/-- The one that no other one is beyond. -/
def best (lt : Value → Value → Bool) : List Value → Value
  | [] => .int .i64 0
  | x :: l => l.foldl (fun a y => if lt y a then y else a) x
theorem best_skip {lt : Value → Value → Bool} (x : Value) (l r : List Value) (h : ∀ y ∈ l, lt y x = false) : best lt (x :: (l ++ r)) = best lt (x :: r) := by
  show (l ++ r).foldl _ x = _
  rw [List.foldl_append]
  have : ∀ (l : List Value), (∀ y ∈ l, lt y x = false) → l.foldl (fun a y => if lt y a then y else a) x = x := by
    intro l
    induction l with
    | nil => intro _; rfl
    | cons y l ih =>
      intro h
      rw [List.foldl_cons, h y List.mem_cons_self]
      exact ih fun z hz => h z (List.mem_cons_of_mem _ hz)
  rw [this l h]; rfl
theorem best_next {lt : Value → Value → Bool} (x y : Value) (r : List Value) (h : lt y x = true) : best lt (x :: y :: r) = best lt (y :: r) := by
  show (y :: r).foldl _ x = _
  rw [List.foldl_cons, h]; rfl
/-- From a place on whose thing is the first one beyond the first. -/
theorem best_drop {lt : Value → Value → Bool} {x : Value} {l : List Value} {i : Nat} (hi : i < l.length) (h0 : ∀ j, j < i → lt (l.getD j x) x = false) (h1 : lt (l.getD i x) x = true) : best lt (x :: l) = best lt (l.drop i) := by
  have e : l = l.take i ++ l.drop i := (List.take_append_drop i l).symm
  conv => lhs; rw [e]
  rw [best_skip x (l.take i) (l.drop i) (fun y hy => by
    obtain ⟨j, hj, rfl⟩ := List.mem_iff_getElem.1 hy
    rw [List.length_take] at hj
    have := h0 j (by omega)
    rw [List.getElem_take]
    rwa [List.getD_eq_getElem?_getD, List.getElem?_eq_getElem (by omega)] at this)]
  rw [List.drop_eq_getElem_cons hi]
  rw [List.getD_eq_getElem?_getD, List.getElem?_eq_getElem hi] at h1
  exact best_next _ _ _ h1
theorem best_none {lt : Value → Value → Bool} {x : Value} {l : List Value} (h0 : ∀ j, j < l.length → lt (l.getD j x) x = false) : best lt (x :: l) = x := by
  have := best_skip (lt := lt) x l [] (fun y hy => by
    obtain ⟨j, hj, rfl⟩ := List.mem_iff_getElem.1 hy
    have := h0 j hj
    rwa [List.getD_eq_getElem?_getD, List.getElem?_eq_getElem hj] at this)
  rw [List.append_nil] at this
  exact this
end Go.Proofs.Ythkffclligcdnaa
