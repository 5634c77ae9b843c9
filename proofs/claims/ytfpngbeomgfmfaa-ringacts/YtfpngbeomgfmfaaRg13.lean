/-
  Layer 11 (ring): append of rows of pairs onto a row that a call owns.
-/
import Derived.Test.YtfpngbeomgfmfaaRg12
import Derived.Deep.AppendLies
import Derived.Laws.OwnMore
namespace Go.Proofs.Ytfpngbeomgfmfaa
open Go.RowKit
set_option linter.unusedVariables false
set_option maxRecDepth 20000
section
variable {P : Program}
theorem appP_op {w : World} {o : Oper} {a : Act} {K : Act → World → Prop} {Q : Exit → Act → World → Prop} (t e : TypeId) (zr : Value) (by_ : Nat) (ht : P.underlying t = some (.slice e)) (hz : (P.info? e).map (fun i => (i.zero, i.size, i.bytes)) = some (some (.agg #[.int .i64 0, zr]), 2, by_)) (hby : by_ ≤ 64) (hzr : (Value.agg #[.int .i64 0, zr]).cells.size = 2) (s x : Operand)
    (ho : o.op = .call { callee := .builtin .append, args := #[s, x], argTypes := #[t, t] })
    (B : Nat) (v : Value) (L : List Pr) (hs : a.eval s = v) (hown : OwnP e w B v L) (ao : Option Addr) (m c : Nat) (N : List Pr) (hx : a.eval x = .slice ao m c) (hm : N.length = m) (hnone : ao = none → m = 0 ∧ c = 0)
    (hr : ∀ ad, ao = some ad → ∀ j u, (prs N)[j]? = some u → w.cell? (ad.add j) = some u) (h1 : Ones N) (hlen : L.length + N.length ≤ 1000000) (hB : B ≤ w.heap.size)
    (h : ∀ v' w', OwnP e w' B v' (L ++ N) → Grow B v w v' w' → K (a.put o.dst v') w') : o.wp P a w K Q := by
  obtain ⟨i0, hi, hz0, hz1, hz2⟩ := info_parts hz
  rcases ao with _ | ad
  · obtain ⟨rfl, rfl⟩ := hnone rfl
    have hN : N = [] := List.eq_nil_of_length_eq_zero hm
    subst hN
    have hrun := run_append_owned_none (P := P) (w := w) B t o.type e i0 2 ht hi v L.length (prs L) hown
    unfold Oper.wp
    simp [execOp, ho, resolve, invoke, builtin, hs, hx, hrun, Result.andThen]
    exact h v w (by rw [List.append_nil]; exact hown) ⟨Below.refl _ _, grown_refl _ _, Or.inl rfl⟩
  · have hmb : (L.length + m) * by_ ≤ (L.length + m) * 64 := Nat.mul_le_mul_left _ hby
    obtain ⟨v', w', hrun, h2, h3, _, h5⟩ := run_append_own_at (P := P) w B t o.type e i0 (.agg #[.int .i64 0, zr]) 2 by_ ht hi hz0 hz1 hz2 hzr (by decide) v L.length (prs L) hown ad m c (prs N) (by rw [prs_len, hm]) (hr ad rfl) h1.cells (by unfold maxLen; omega) (by omega) hB
    unfold Oper.wp
    simp [execOp, ho, resolve, invoke, builtin, hs, hx, hrun, Result.andThen]
    refine h v' w' ?_ ⟨(Below.refl B w).grown h3 hB (fun k hk => (hown.lt k hk).1), h3, h5⟩
    unfold OwnP
    rw [List.length_append, hm, prs_app]
    exact h2
theorem appP_wp {w : World} {ops : Array Oper} {rest : List Oper} {o : Oper} {a : Act} {Q : Exit → Act → World → Prop} (hgd : o.guard = none) (t e : TypeId) (zr : Value) (by_ : Nat) (ht : P.underlying t = some (.slice e)) (hz : (P.info? e).map (fun i => (i.zero, i.size, i.bytes)) = some (some (.agg #[.int .i64 0, zr]), 2, by_)) (hby : by_ ≤ 64) (hzr : (Value.agg #[.int .i64 0, zr]).cells.size = 2) (s x : Operand)
    (ho : o.op = .call { callee := .builtin .append, args := #[s, x], argTypes := #[t, t] })
    (B : Nat) (v : Value) (L : List Pr) (hs : a.eval s = v) (hown : OwnP e w B v L) (ao : Option Addr) (m c : Nat) (N : List Pr) (hx : a.eval x = .slice ao m c) (hm : N.length = m) (hnone : ao = none → m = 0 ∧ c = 0)
    (hr : ∀ ad, ao = some ad → ∀ j u, (prs N)[j]? = some u → w.cell? (ad.add j) = some u) (h1 : Ones N) (hlen : L.length + N.length ≤ 1000000) (hB : B ≤ w.heap.size)
    (h : ∀ v' w', OwnP e w' B v' (L ++ N) → Grow B v w v' w' → wpList P ops Q rest (a.put o.dst v') w') : wpList P ops Q (o :: rest) a w :=
  wpList_plain hgd fun K hK => appP_op t e zr by_ ht hz hby hzr s x ho B v L hs hown ao m c N hx hm hnone hr h1 hlen hB fun v' w' h1 h2 => hK _ _ (h v' w' h1 h2)
theorem appP_step {w : World} {ops : Array Oper} {o : Oper} {a : Act} {K : Act → World → Prop} {Q : Exit → Act → World → Prop} {E : Prop} (hgd : o.guard = none) (d : Option Nat) (hd : o.dst = d) (t e : TypeId) (zr : Value) (by_ : Nat) (ht : P.underlying t = some (.slice e)) (hz : (P.info? e).map (fun i => (i.zero, i.size, i.bytes)) = some (some (.agg #[.int .i64 0, zr]), 2, by_)) (hby : by_ ≤ 64) (hzr : (Value.agg #[.int .i64 0, zr]).cells.size = 2) (s x : Operand)
    (ho : o.op = .call { callee := .builtin .append, args := #[s, x], argTypes := #[t, t] })
    (B : Nat) (v : Value) (L : List Pr) (hs : a.eval s = v) (hown : OwnP e w B v L) (ao : Option Addr) (m c : Nat) (N : List Pr) (hx : a.eval x = .slice ao m c) (hm : N.length = m) (hnone : ao = none → m = 0 ∧ c = 0)
    (hr : ∀ ad, ao = some ad → ∀ j u, (prs N)[j]? = some u → w.cell? (ad.add j) = some u) (h1 : Ones N) (hlen : L.length + N.length ≤ 1000000) (hB : B ≤ w.heap.size)
    (h : ∀ v' w', OwnP e w' B v' (L ++ N) → Grow B v w v' w' → K (a.put d v') w') :
    if Region.wanted o (yielded ops a.tmps) = true then Oper.wp P o a w K Q else E := by
  subst hd
  have hw : Region.wanted o (yielded ops a.tmps) = true := by simp [Region.wanted, hgd]
  rw [if_pos hw]
  exact appP_op t e zr by_ ht hz hby hzr s x ho B v L hs hown ao m c N hx hm hnone hr h1 hlen hB h
end
theorem RdP.of_own {e : TypeId} {w : World} {B : Nat} {v : Value} {L : List Pr} (h : OwnP e w B v L) : RdP w v L := by
  rcases h.2 with ⟨rfl, h0⟩ | ⟨g, cap, cur, hv, hb, hg, hc, hm, hs, ht⟩
  · have : L = [] := List.eq_nil_of_length_eq_zero h0
    subst this
    exact ⟨none, 0, rfl, Nat.le_refl _, by omega, fun _ => rfl, fun a ha => (by cases ha), fun b o ha => (by cases ha)⟩
  · refine ⟨_, cap, hv, hc, hm, fun e => (by cases e), fun a ha => ⟨g, 0, (by injection ha with ha; exact ha.symm), (Array.getElem?_eq_some_iff.1 hg).1⟩, fun b o ha j x hx => ?_⟩
    injection ha with ha; injection ha with h1 h2 _
    subst h1; subst h2
    rw [Nat.zero_add]
    exact row_at hg hc hs ht j x hx
theorem prs_tail {L : List Pr} (h : L ≠ []) (j : Nat) : (prs L.tail)[j]? = (prs L)[j + 2]? := by
  cases L with
  | nil => exact absurd rfl h
  | cons p L => rw [prs_cons]; rfl
theorem RdP.tail_own {e : TypeId} {w : World} {B g m cap : Nat} {L : List Pr} (h : OwnP e w B (.slice (some ⟨g, 0, none⟩) (m + 1) cap) L) (hl : L.length = m + 1) (ao : Option Addr) (ha : ao = if cap = 1 then some ⟨g, 0, none⟩ else some ⟨g, 2, none⟩) : RdP w (.slice ao m (cap - 1)) L.tail := by
  have hL : L ≠ [] := by intro e; rw [e] at hl; simp at hl
  obtain ⟨g', cap', cur, hv, _, hg, hc, hm, hs, ht⟩ := h.some_ hL
  injection hv with h1 h2 h3; injection h1 with h1; injection h1 with h1 _ _; subst h1; subst h3
  have htl : L.tail.length = m := by rw [List.length_tail]; omega
  refine ⟨ao, cap - 1, by rw [htl], by omega, by omega, fun e => (by rw [ha] at e; split at e <;> cases e), fun a e => ?_, fun b o e j x hx => ?_⟩
  · rw [ha] at e
    split at e <;> (injection e with e; subst e; exact ⟨g, _, rfl, (Array.getElem?_eq_some_iff.1 hg).1⟩)
  · rw [prs_tail hL] at hx
    have hj : j + 2 < L.length * 2 := by have := (List.getElem?_eq_some_iff.1 hx).1; rwa [prs_len] at this
    rw [ha, if_neg (by omega)] at e
    injection e with e; injection e with h1 h2 _
    subst h1; subst h2
    rw [Nat.add_comm 2 j]
    exact row_at hg hc hs ht _ _ hx
/-- A new row without pairs. -/
theorem ownP_empty {e : TypeId} {w W : World} (h : w.alloc (.cells #[] e) = W) : OwnP e W w.heap.size (.slice (some ⟨w.heap.size, 0, none⟩) 0 0) [] := by
  subst h
  exact ⟨rfl, Or.inr ⟨w.heap.size, 0, #[], rfl, Nat.le_refl _, heap_alloc_new w _, Nat.le_refl _, by unfold maxLen; omega, rfl, rfl⟩⟩
end Go.Proofs.Ytfpngbeomgfmfaa
