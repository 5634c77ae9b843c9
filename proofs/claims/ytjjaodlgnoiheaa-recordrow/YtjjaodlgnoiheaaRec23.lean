/-
  Layer 8 (record): appends of bytes and of one record at a step of a region that draws its order, with what they leave alone (no function of the program in sight).
-/
import Derived.Test.YtjjaodlgnoiheaaRec22
import Derived.Test.YtjjaodlgnoiheaaRec6
namespace Go.Proofs.Ytjjaodlgnoiheaa
open Go.RowKit
set_option linter.unusedVariables false

theorem grow_op {w : World} {o : Oper} {a : Act} {K : Act → World → Prop} {Q : Exit → Act → World → Prop} (s x : Operand)
    (ho : o.op = .call { callee := .builtin .append, args := #[s, x], argTypes := #[26, 26] })
    (B : Nat) (v : Value) (l : List Int) (hs : a.eval s = v) (hown : Own w B v l) (u : Value) (r : List Int) (hx : a.eval x = u) (hr : Rd w u r) (hne : r ≠ []) (hlen : l.length + r.length ≤ 140737488355328) (hB : B ≤ w.heap.size)
    (h : ∀ v' w', Own w' B v' (l ++ r) → Grow B v w v' w' → K (a.put o.dst v') w') : o.wp Try.prog a w K Q := by
  obtain ⟨i0, hi, hz0, hz1, hz2⟩ := info_parts info8
  obtain ⟨ao, cap, rfl, h1, h2, hn, h3⟩ := hr
  obtain ⟨b, o', rfl, hat⟩ := h3.resolve_left hne
  have hp := List.length_pos_iff.2 hne
  refine wp_append_lies w s x 26 ho B 5 i0 (.int .u8 0) 1 1 Try.underlying26 hi hz0 hz1 hz2 rfl (by decide) v l.length (u8s l) hs hown ⟨b, o', none⟩ r.length cap (u8s r) hx (by rw [u8s_len, Nat.mul_one]) hat.news (u8s_one r) hp (by unfold maxLen; omega) (by omega) hB w.heap.size rfl ?_
  intro g cap' w' hown' hgrow hor hlt
  refine h _ w' ?_ ⟨(Below.refl B w).grown hgrow hB hown.row, hgrow, ?_⟩
  · unfold Own
    rw [List.length_append, ← u8s_app]
    exact hown'
  · rcases hor with e | e
    · exact Or.inl e.symm
    · right; rw [e]; rfl
theorem grow_step {w : World} {ops : Array Oper} {o : Oper} {a : Act} {K : Act → World → Prop} {Q : Exit → Act → World → Prop} {E : Prop} (hgd : o.guard = none) (d : Option Nat) (hd : o.dst = d) (s x : Operand)
    (ho : o.op = .call { callee := .builtin .append, args := #[s, x], argTypes := #[26, 26] })
    (B : Nat) (v : Value) (l : List Int) (hs : a.eval s = v) (hown : Own w B v l) (u : Value) (r : List Int) (hx : a.eval x = u) (hr : Rd w u r) (hne : r ≠ []) (hlen : l.length + r.length ≤ 140737488355328) (hB : B ≤ w.heap.size)
    (h : ∀ v' w', Own w' B v' (l ++ r) → Grow B v w v' w' → K (a.put d v') w') :
    if Region.wanted o (yielded ops a.tmps) = true then Oper.wp Try.prog o a w K Q else E := by
  subst hd
  have hw : Region.wanted o (yielded ops a.tmps) = true := by simp [Region.wanted, hgd]
  rw [if_pos hw]
  exact grow_op s x ho B v l hs hown u r hx hr hne hlen hB h
theorem OwnR.row {w : World} {B : Nat} {v : Value} {L : List Rc} (h : OwnR w B v L) : ∀ k, v.ownBlock = some k → B ≤ k := fun k hk => (h.lt k hk).1
theorem growR_op {w : World} {o : Oper} {a : Act} {K : Act → World → Prop} {Q : Exit → Act → World → Prop} (s x : Operand)
    (ho : o.op = .call { callee := .builtin .append, args := #[s, x], argTypes := #[60, 60] })
    (B : Nat) (v : Value) (L : List Rc) (hs : a.eval s = v) (hown : OwnR w B v L) (g0 : Nat) (r : Rc) (hx : a.eval x = .slice (some ⟨g0, 0, none⟩) 1 1)
    (hr : ∀ j u, (recC r)[j]? = some u → w.cell? ⟨g0, j, none⟩ = some u) (hlen : L.length ≤ 1000000) (hB : B ≤ w.heap.size)
    (h : ∀ v' w', OwnR w' B v' (L ++ [r]) → Grow B v w v' w' → K (a.put o.dst v') w') : o.wp Try.prog a w K Q := by
  obtain ⟨i0, hi, hz0, hz1, hz2⟩ := info_parts infoR
  refine wp_append_lies w s x 60 ho B 25 i0 (recV noRec) 9 72 Try.underlying60 hi hz0 hz1 hz2 rfl (by decide) v L.length (recs L) hs hown ⟨g0, 0, none⟩ 1 1 (recC r) hx rfl (fun j u hu => by rw [Addr.add_lit, Nat.zero_add]; exact hr j u hu) (recC_one r) (by omega) (by unfold maxLen; omega) (by omega) hB w.heap.size rfl ?_
  intro g cap' w' hown' hgrow hor hlt
  refine h _ w' ?_ ⟨(Below.refl B w).grown hgrow hB hown.row, hgrow, ?_⟩
  · unfold OwnR
    rw [List.length_append, recs_snoc]
    exact hown'
  · rcases hor with e | e
    · exact Or.inl e.symm
    · right; rw [e]; rfl
theorem growR_step {w : World} {ops : Array Oper} {o : Oper} {a : Act} {K : Act → World → Prop} {Q : Exit → Act → World → Prop} {E : Prop} (hgd : o.guard = none) (d : Option Nat) (hd : o.dst = d) (s x : Operand)
    (ho : o.op = .call { callee := .builtin .append, args := #[s, x], argTypes := #[60, 60] })
    (B : Nat) (v : Value) (L : List Rc) (hs : a.eval s = v) (hown : OwnR w B v L) (g0 : Nat) (r : Rc) (hx : a.eval x = .slice (some ⟨g0, 0, none⟩) 1 1)
    (hr : ∀ j u, (recC r)[j]? = some u → w.cell? ⟨g0, j, none⟩ = some u) (hlen : L.length ≤ 1000000) (hB : B ≤ w.heap.size)
    (h : ∀ v' w', OwnR w' B v' (L ++ [r]) → Grow B v w v' w' → K (a.put d v') w') :
    if Region.wanted o (yielded ops a.tmps) = true then Oper.wp Try.prog o a w K Q else E := by
  subst hd
  have hw : Region.wanted o (yielded ops a.tmps) = true := by simp [Region.wanted, hgd]
  rw [if_pos hw]
  exact growR_op s x ho B v L hs hown g0 r hx hr hlen hB h
/-- Rows whose blocks lie on two sides of a mark. -/
theorem Apart.of {u v : Value} (X : Nat) (hu : ∀ k, u.ownBlock = some k → X ≤ k) (hv : ∀ k, v.ownBlock = some k → k < X) : Apart u v := by
  unfold Apart
  cases h : u.ownBlock with
  | none => exact Or.inl rfl
  | some g =>
    right
    intro h'
    have h1 := hu g h
    have h2 := hv g h'.symm
    omega
theorem lastR_bd : ∀ (L : List Rc) (last : Int), chainR last L → -1 ≤ last → last ≤ 65535 → -1 ≤ lastR last L ∧ lastR last L ≤ 65535
  | [], _, _, h0, h1 => ⟨h0, h1⟩
  | s :: L, last, hc, h0, h1 => by
    have h2 := wrE_ok hc.2.1
    have h3 := (chk_ok h2.1).2.1
    exact lastR_bd L s.i hc.2.2 (by omega) (by omega)
theorem rowL_no {A : Nat → Rc} {k : Nat} (h : wrE (A k) (lastR (-1) (rowL A k)) ≠ 0) : rowL A (k + 1) = rowL A k := by
  show (if _ then _ else _) = _
  rw [if_neg h]
theorem rowL_yes {A : Nat → Rc} {k : Nat} (h : wrE (A k) (lastR (-1) (rowL A k)) = 0) : rowL A (k + 1) = rowL A k ++ [A k] := by
  show (if _ then _ else _) = _
  rw [if_pos h]
theorem OwnR.form {w : World} {B : Nat} {v : Value} {L : List Rc} (h : OwnR w B v L) : ∃ ao cap, v = .slice ao L.length cap := by
  rcases h.2 with ⟨rfl, h0⟩ | ⟨g, cap, cur, hv, _⟩
  · exact ⟨none, 0, by rw [h0]⟩
  · exact ⟨_, cap, hv⟩
theorem OwnR.ch {R B : Nat} {w w' : World} {v : Value} {L : List Rc} (h : OwnR w B v L) (k : Ch R w w') (hlt : ∀ g, v.ownBlock = some g → g < R) : OwnR w' B v L := by
  refine ⟨h.1, ?_⟩
  rcases h.2 with hn | ⟨g, cap, cur, hv, hB, hg, rest⟩
  · exact Or.inl hn
  · have h1 := hlt g (by rw [hv]; rfl)
    exact Or.inr ⟨g, cap, cur, hv, hB, (k.below.block g h1).trans hg, rest⟩
theorem lastR_take : ∀ (L : List Rc) (last : Int) (j : Nat), j < L.length → lastR last (L.take (j + 1)) = (L.getD j noRec).i
  | s :: L, last, 0, _ => by simp [lastR]
  | s :: L, last, j + 1, h => by
    have := lastR_take L s.i j (by simpa using h)
    simpa [lastR] using this
theorem chainR_drop : ∀ (L : List Rc) (last : Int) (j : Nat), chainR last L → chainR (lastR last (L.take j)) (L.drop j)
  | [], last, j, h => by simp [lastR, chainR]
  | s :: L, last, 0, h => by simpa [lastR] using h
  | s :: L, last, j + 1, h => by
    have := chainR_drop L s.i j h.2.2
    simpa [lastR] using this
theorem drop_cons {L : List Rc} {j : Nat} (h : j < L.length) : L.drop j = L.getD j noRec :: L.drop (j + 1) := by
  rw [List.drop_eq_getElem_cons h]; simp [List.getD, h]
end Go.Proofs.Ytjjaodlgnoiheaa
