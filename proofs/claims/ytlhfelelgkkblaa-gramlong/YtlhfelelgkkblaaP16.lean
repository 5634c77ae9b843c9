/-
  Texts Rec23, Arr, Fr8, Gm1, Gm2, Gm3 in one.
-/
import Derived.WalkKit
import Derived.ProofKit
import Derived.OpenShut
import Derived.Lib.SmallJoins
import Derived.Deep.RegionHeld3
import Derived.Test.YtlhfelelgkkblaaP15
namespace Go.Proofs.Ytlhfelelgkkblaa
open Go.RowKit
set_option linter.unusedVariables false

theorem grow_op {w : World} {o : Oper} {a : Act} {K : Act → World → Prop} {Q : Exit → Act → World → Prop} (s x : Operand)
    (ho : o.op = .call { callee := .builtin .append, args := #[s, x], argTypes := #[26, 26] })
    (B : Nat) (v : Value) (l : List Int) (hs : a.eval s = v) (hown : Own w B v l) (u : Value) (r : List Int) (hx : a.eval x = u) (hr : Rd w u r) (hne : r ≠ []) (hlen : l.length + r.length ≤ 140737488355328) (hB : B ≤ w.heap.size)
    (h : ∀ v' w', Own w' B v' (l ++ r) → Grow B v w v' w' → K (a.put o.dst v') w') : o.wp Try.prog a w K Q := by
  obtain ⟨i0, hi, hz0, hz1, hz2⟩ := info_parts info8
  obtain ⟨ao, cap, rfl, h1, h2, hn, h3⟩ := hr
  obtain ⟨b, o', rfl, hat⟩ := h3.resolve_left hne
  have hp := List.length_pos_iff.2 hne
  refine wp_append_lies w s x 26 ho B 5 i0 (.int .u8 0) 1 1 Try.underlying26 hi hz0 hz1 hz2 rfl (by decide) v l.length (u8s l) hs hown ⟨b, o', none⟩ r.length cap (u8s r) hx (by rw [u8s_len, Nat.mul_one]) hat.news (u8s_one r) hp (by unfold maxLen; omega) (by omega) hB w.heap.size rfl ?_
  intro g cap' w' hown' hgrow hor hlt
  refine h _ w' ?_ ⟨(Below.refl B w).grown hgrow hB hown.row, hgrow, ?_⟩
  · unfold Own
    rw [List.length_append, ← u8s_app]
    exact hown'
  · rcases hor with e | e
    · exact Or.inl e.symm
    · right; rw [e]; rfl
theorem grow_step {w : World} {ops : Array Oper} {o : Oper} {a : Act} {K : Act → World → Prop} {Q : Exit → Act → World → Prop} {E : Prop} (hgd : o.guard = none) (d : Option Nat) (hd : o.dst = d) (s x : Operand)
    (ho : o.op = .call { callee := .builtin .append, args := #[s, x], argTypes := #[26, 26] })
    (B : Nat) (v : Value) (l : List Int) (hs : a.eval s = v) (hown : Own w B v l) (u : Value) (r : List Int) (hx : a.eval x = u) (hr : Rd w u r) (hne : r ≠ []) (hlen : l.length + r.length ≤ 140737488355328) (hB : B ≤ w.heap.size)
    (h : ∀ v' w', Own w' B v' (l ++ r) → Grow B v w v' w' → K (a.put d v') w') :
    if Region.wanted o (yielded ops a.tmps) = true then Oper.wp Try.prog o a w K Q else E := by
  subst hd
  have hw : Region.wanted o (yielded ops a.tmps) = true := by simp [Region.wanted, hgd]
  rw [if_pos hw]
  exact grow_op s x ho B v l hs hown u r hx hr hne hlen hB h
theorem OwnR.row {w : World} {B : Nat} {v : Value} {L : List Rc} (h : OwnR w B v L) : ∀ k, v.ownBlock = some k → B ≤ k := fun k hk => (h.lt k hk).1
theorem growR_op {w : World} {o : Oper} {a : Act} {K : Act → World → Prop} {Q : Exit → Act → World → Prop} (s x : Operand)
    (ho : o.op = .call { callee := .builtin .append, args := #[s, x], argTypes := #[22, 22] })
    (B : Nat) (v : Value) (L : List Rc) (hs : a.eval s = v) (hown : OwnR w B v L) (g0 : Nat) (r : Rc) (hx : a.eval x = .slice (some ⟨g0, 0, none⟩) 1 1)
    (hr : ∀ j u, (recC r)[j]? = some u → w.cell? ⟨g0, j, none⟩ = some u) (hlen : L.length ≤ 1000000) (hB : B ≤ w.heap.size)
    (h : ∀ v' w', OwnR w' B v' (L ++ [r]) → Grow B v w v' w' → K (a.put o.dst v') w') : o.wp Try.prog a w K Q := by
  obtain ⟨i0, hi, hz0, hz1, hz2⟩ := info_parts infoR
  refine wp_append_lies w s x 22 ho B 50 i0 (recV noRec) 9 72 Try.underlying22 hi hz0 hz1 hz2 rfl (by decide) v L.length (recs L) hs hown ⟨g0, 0, none⟩ 1 1 (recC r) hx rfl (fun j u hu => by rw [Addr.add_lit, Nat.zero_add]; exact hr j u hu) (recC_one r) (by omega) (by unfold maxLen; omega) (by omega) hB w.heap.size rfl ?_
  intro g cap' w' hown' hgrow hor hlt
  refine h _ w' ?_ ⟨(Below.refl B w).grown hgrow hB hown.row, hgrow, ?_⟩
  · unfold OwnR
    rw [List.length_append, recs_snoc]
    exact hown'
  · rcases hor with e | e
    · exact Or.inl e.symm
    · right; rw [e]; rfl
theorem growR_step {w : World} {ops : Array Oper} {o : Oper} {a : Act} {K : Act → World → Prop} {Q : Exit → Act → World → Prop} {E : Prop} (hgd : o.guard = none) (d : Option Nat) (hd : o.dst = d) (s x : Operand)
    (ho : o.op = .call { callee := .builtin .append, args := #[s, x], argTypes := #[22, 22] })
    (B : Nat) (v : Value) (L : List Rc) (hs : a.eval s = v) (hown : OwnR w B v L) (g0 : Nat) (r : Rc) (hx : a.eval x = .slice (some ⟨g0, 0, none⟩) 1 1)
    (hr : ∀ j u, (recC r)[j]? = some u → w.cell? ⟨g0, j, none⟩ = some u) (hlen : L.length ≤ 1000000) (hB : B ≤ w.heap.size)
    (h : ∀ v' w', OwnR w' B v' (L ++ [r]) → Grow B v w v' w' → K (a.put d v') w') :
    if Region.wanted o (yielded ops a.tmps) = true then Oper.wp Try.prog o a w K Q else E := by
  subst hd
  have hw : Region.wanted o (yielded ops a.tmps) = true := by simp [Region.wanted, hgd]
  rw [if_pos hw]
  exact growR_op s x ho B v L hs hown g0 r hx hr hlen hB h
/-- Rows whose blocks lie on two sides of a mark. -/
theorem Apart.of {u v : Value} (X : Nat) (hu : ∀ k, u.ownBlock = some k → X ≤ k) (hv : ∀ k, v.ownBlock = some k → k < X) : Apart u v := by
  unfold Apart
  cases h : u.ownBlock with
  | none => exact Or.inl rfl
  | some g =>
    right
    intro h'
    have h1 := hu g h
    have h2 := hv g h'.symm
    omega
theorem lastR_bd : ∀ (L : List Rc) (last : Int), chainR last L → -1 ≤ last → last ≤ 65535 → -1 ≤ lastR last L ∧ lastR last L ≤ 65535
  | [], _, _, h0, h1 => ⟨h0, h1⟩
  | s :: L, last, hc, h0, h1 => by
    have h2 := wrE_ok hc.2.1
    have h3 := (chk_ok h2.1).2.1
    exact lastR_bd L s.i hc.2.2 (by omega) (by omega)
theorem rowL_no {A : Nat → Rc} {k : Nat} (h : wrE (A k) (lastR (-1) (rowL A k)) ≠ 0) : rowL A (k + 1) = rowL A k := by
  show (if _ then _ else _) = _
  rw [if_neg h]
theorem rowL_yes {A : Nat → Rc} {k : Nat} (h : wrE (A k) (lastR (-1) (rowL A k)) = 0) : rowL A (k + 1) = rowL A k ++ [A k] := by
  show (if _ then _ else _) = _
  rw [if_pos h]
theorem OwnR.form {w : World} {B : Nat} {v : Value} {L : List Rc} (h : OwnR w B v L) : ∃ ao cap, v = .slice ao L.length cap := by
  rcases h.2 with ⟨rfl, h0⟩ | ⟨g, cap, cur, hv, _⟩
  · exact ⟨none, 0, by rw [h0]⟩
  · exact ⟨_, cap, hv⟩
theorem OwnR.ch {R B : Nat} {w w' : World} {v : Value} {L : List Rc} (h : OwnR w B v L) (k : Ch R w w') (hlt : ∀ g, v.ownBlock = some g → g < R) : OwnR w' B v L := by
  refine ⟨h.1, ?_⟩
  rcases h.2 with hn | ⟨g, cap, cur, hv, hB, hg, rest⟩
  · exact Or.inl hn
  · have h1 := hlt g (by rw [hv]; rfl)
    exact Or.inr ⟨g, cap, cur, hv, hB, (k.below.block g h1).trans hg, rest⟩
theorem lastR_take : ∀ (L : List Rc) (last : Int) (j : Nat), j < L.length → lastR last (L.take (j + 1)) = (L.getD j noRec).i
  | s :: L, last, 0, _ => by simp [lastR]
  | s :: L, last, j + 1, h => by
    have := lastR_take L s.i j (by simpa using h)
    simpa [lastR] using this
theorem chainR_drop : ∀ (L : List Rc) (last : Int) (j : Nat), chainR last L → chainR (lastR last (L.take j)) (L.drop j)
  | [], last, j, h => by simp [lastR, chainR]
  | s :: L, last, 0, h => by simpa [lastR] using h
  | s :: L, last, j + 1, h => by
    have := chainR_drop L s.i j h.2.2
    simpa [lastR] using this
theorem drop_cons {L : List Rc} {j : Nat} (h : j < L.length) : L.drop j = L.getD j noRec :: L.drop (j + 1) := by
  rw [List.drop_eq_getElem_cons h]; simp [List.getD, h]
end Go.Proofs.Ytlhfelelgkkblaa

namespace Go.Proofs.Ytlhfelelgkkblaa
open Go.ChangeShapes Go.WideShapes Go.ChangeAt Go.RowKit Go.Joins
variable {H : Type} {enc : TypeId × Value → H} {P : Program} {w : World} {base : Nat} {spare : Nat → Bool} {held : Bool}

theorem okWide_arr {r : Reach} {b0 n : Nat} {t e : TypeId} {v : Value} (ht : P.underlying t = some (.array n e)) (h : Value.okWide P w r b0 t v) : ∃ cs, v = .agg cs ∧ cs.size = P.cellsOf t := by
  simp only [Value.okWide, ht] at h
  obtain ⟨cs, h1, h2, _⟩ := h
  exact ⟨cs, h1, h2⟩

theorem open_arr2 {r : Reach} {b0 : Nat} {t e : TypeId} {v : Value} {d : DataW H} {p : List MemPlace} (ht : P.underlying t = some (.array 2 e)) (he : P.underlying e = some (.int .i64)) (hC : P.cellsOf t = 2) (hE : P.cellsOf e = 1)
    (hv : Value.okWide P w r b0 t v) (h : DataW.Trod enc P w base spare held t v d p) :
    ∃ a b : Int, v = .agg #[.int .i64 a, .int .i64 b] ∧ d = .agg [.lit (.int .i64 a), .lit (.int .i64 b)] ∧ p = [] ∧ (Lit.int .i64 a).wf = true ∧ (Lit.int .i64 b).wf = true := by
  obtain ⟨cs, rfl, hsz⟩ := okWide_arr ht hv
  obtain ⟨c0, c1, rfl⟩ := array2 (hsz.trans hC)
  obtain ⟨fuel, hf⟩ := h
  obtain ⟨xs, m, rfl, hx, _, hl, hi⟩ := DataW.trod_array ht hf
  match xs, hl with
  | [y0, y1], _ =>
    have h0 := hi 0 (by omega)
    have h1 := hi 1 (by omega)
    simp [Value.cells, hE] at h0 h1
    obtain ⟨a, e0, rfl, wa⟩ := DataW.trod_int he h0
    obtain ⟨b, e1, rfl, wb⟩ := DataW.trod_int he h1
    simp at e0 e1
    subst e0 e1
    simp at hx
    exact ⟨a, b, rfl, hx.1, hx.2, wa, wb⟩
theorem open_arr3 {r : Reach} {b0 : Nat} {t e : TypeId} {v : Value} {d : DataW H} {p : List MemPlace} (ht : P.underlying t = some (.array 3 e)) (he : P.underlying e = some (.int .i64)) (hC : P.cellsOf t = 3) (hE : P.cellsOf e = 1)
    (hv : Value.okWide P w r b0 t v) (h : DataW.Trod enc P w base spare held t v d p) :
    ∃ a b c : Int, v = .agg #[.int .i64 a, .int .i64 b, .int .i64 c] ∧ d = .agg [.lit (.int .i64 a), .lit (.int .i64 b), .lit (.int .i64 c)] ∧ p = [] ∧ (Lit.int .i64 a).wf = true ∧ (Lit.int .i64 b).wf = true ∧ (Lit.int .i64 c).wf = true := by
  obtain ⟨cs, rfl, hsz⟩ := okWide_arr ht hv
  obtain ⟨c0, c1, c2, rfl⟩ := array3 (hsz.trans hC)
  obtain ⟨fuel, hf⟩ := h
  obtain ⟨xs, m, rfl, hx, _, hl, hi⟩ := DataW.trod_array ht hf
  match xs, hl with
  | [y0, y1, y2], _ =>
    have h0 := hi 0 (by omega)
    have h1 := hi 1 (by omega)
    have h2 := hi 2 (by omega)
    simp [Value.cells, hE] at h0 h1 h2
    obtain ⟨a, e0, rfl, wa⟩ := DataW.trod_int he h0
    obtain ⟨b, e1, rfl, wb⟩ := DataW.trod_int he h1
    obtain ⟨c, e2, rfl, wc⟩ := DataW.trod_int he h2
    simp at e0 e1 e2
    subst e0 e1 e2
    simp at hx
    exact ⟨a, b, c, rfl, hx.1, hx.2, wa, wb, wc⟩
theorem shut_arr2 {t e : TypeId} {a b : Int} (ht : P.underlying t = some (.array 2 e)) (he : P.underlying e = some (.int .i64)) (hC : P.cellsOf t = 2) (hE : P.cellsOf e = 1)
    (wa : (Lit.int .i64 a).wf = true) (wb : (Lit.int .i64 b).wf = true) :
    DataW.Trod enc P w base spare held t (.agg #[.int .i64 a, .int .i64 b]) (.agg [.lit (.int .i64 a), .lit (.int .i64 b)]) [] := by
  refine ⟨2, ?_⟩
  have r2 : List.range 2 = [0, 1] := rfl
  simp [DataW.trod, Value.cells, ht, he, hC, hE, r2, wa, wb]
theorem shut_arr3 {t e : TypeId} {a b c : Int} (ht : P.underlying t = some (.array 3 e)) (he : P.underlying e = some (.int .i64)) (hC : P.cellsOf t = 3) (hE : P.cellsOf e = 1)
    (wa : (Lit.int .i64 a).wf = true) (wb : (Lit.int .i64 b).wf = true) (wc : (Lit.int .i64 c).wf = true) :
    DataW.Trod enc P w base spare held t (.agg #[.int .i64 a, .int .i64 b, .int .i64 c]) (.agg [.lit (.int .i64 a), .lit (.int .i64 b), .lit (.int .i64 c)]) [] := by
  refine ⟨2, ?_⟩
  have r3 : List.range 3 = [0, 1, 2] := rfl
  simp [DataW.trod, Value.cells, ht, he, hC, hE, r3, wa, wb, wc]
/-- Three cells that are read as an array of three int64. -/
theorem trod_three {fuel : Nat} {e i : TypeId} {c0 c1 c2 : Value} {x : DataW H × List MemPlace} (he : P.underlying e = some (.array 3 i)) (hi : P.underlying i = some (.int .i64)) (hI : P.cellsOf i = 1)
    (h : DataW.trod enc P w base spare held fuel e [c0, c1, c2] = some x) :
    ∃ a b c : Int, c0 = .int .i64 a ∧ c1 = .int .i64 b ∧ c2 = .int .i64 c ∧ x = (.agg [.lit (.int .i64 a), .lit (.int .i64 b), .lit (.int .i64 c)], []) ∧ (Lit.int .i64 a).wf = true ∧ (Lit.int .i64 b).wf = true ∧ (Lit.int .i64 c).wf = true := by
  obtain ⟨xs, m, rfl, hx, _, hl, hk⟩ := DataW.trod_array he h
  match xs, hl with
  | [y0, y1, y2], _ =>
    have h0 := hk 0 (by omega)
    have h1 := hk 1 (by omega)
    have h2 := hk 2 (by omega)
    simp [hI] at h0 h1 h2
    obtain ⟨a, e0, rfl, wa⟩ := DataW.trod_int hi h0
    obtain ⟨b, e1, rfl, wb⟩ := DataW.trod_int hi h1
    obtain ⟨c, e2, rfl, wc⟩ := DataW.trod_int hi h2
    simp at e0 e1 e2
    subst e0 e1 e2
    simp at hx
    exact ⟨a, b, c, rfl, rfl, rfl, hx, wa, wb, wc⟩
theorem open_arr23 {r : Reach} {b0 : Nat} {t e i : TypeId} {v : Value} {d : DataW H} {p : List MemPlace} (ht : P.underlying t = some (.array 2 e)) (he : P.underlying e = some (.array 3 i)) (hi : P.underlying i = some (.int .i64)) (hC : P.cellsOf t = 6) (hE : P.cellsOf e = 3) (hI : P.cellsOf i = 1)
    (hv : Value.okWide P w r b0 t v) (h : DataW.Trod enc P w base spare held t v d p) :
    ∃ a b c a' b' c' : Int, v = .agg #[.int .i64 a, .int .i64 b, .int .i64 c, .int .i64 a', .int .i64 b', .int .i64 c'] ∧ d = .agg [.agg [.lit (.int .i64 a), .lit (.int .i64 b), .lit (.int .i64 c)], .agg [.lit (.int .i64 a'), .lit (.int .i64 b'), .lit (.int .i64 c')]] ∧ p = [] ∧
      (Lit.int .i64 a).wf = true ∧ (Lit.int .i64 b).wf = true ∧ (Lit.int .i64 c).wf = true ∧ (Lit.int .i64 a').wf = true ∧ (Lit.int .i64 b').wf = true ∧ (Lit.int .i64 c').wf = true := by
  obtain ⟨cs, rfl, hsz⟩ := okWide_arr ht hv
  rw [hC] at hsz
  obtain ⟨l⟩ := cs
  match l, hsz with
  | [c0, c1, c2, c3, c4, c5], _ =>
    obtain ⟨fuel, hf⟩ := h
    obtain ⟨xs, m, rfl, hx, _, hl, hk⟩ := DataW.trod_array ht hf
    match xs, hl with
    | [y0, y1], _ =>
      have h0 := hk 0 (by omega)
      have h1 := hk 1 (by omega)
      simp [Value.cells, hE] at h0 h1
      obtain ⟨a, b, c, rfl, rfl, rfl, rfl, wa, wb, wc⟩ := trod_three he hi hI h0
      obtain ⟨a', b', c', rfl, rfl, rfl, rfl, wa', wb', wc'⟩ := trod_three he hi hI h1
      simp at hx
      exact ⟨a, b, c, a', b', c', rfl, hx.1, hx.2, wa, wb, wc, wa', wb', wc'⟩
theorem shut_arr23 {t e i : TypeId} {a b c a' b' c' : Int} (ht : P.underlying t = some (.array 2 e)) (he : P.underlying e = some (.array 3 i)) (hi : P.underlying i = some (.int .i64)) (hC : P.cellsOf t = 6) (hE : P.cellsOf e = 3) (hI : P.cellsOf i = 1)
    (wa : (Lit.int .i64 a).wf = true) (wb : (Lit.int .i64 b).wf = true) (wc : (Lit.int .i64 c).wf = true) (wa' : (Lit.int .i64 a').wf = true) (wb' : (Lit.int .i64 b').wf = true) (wc' : (Lit.int .i64 c').wf = true) :
    DataW.Trod enc P w base spare held t (.agg #[.int .i64 a, .int .i64 b, .int .i64 c, .int .i64 a', .int .i64 b', .int .i64 c']) (.agg [.agg [.lit (.int .i64 a), .lit (.int .i64 b), .lit (.int .i64 c)], .agg [.lit (.int .i64 a'), .lit (.int .i64 b'), .lit (.int .i64 c')]]) [] := by
  refine ⟨3, ?_⟩
  have r2 : List.range 2 = [0, 1] := rfl
  have r3 : List.range 3 = [0, 1, 2] := rfl
  simp [DataW.trod, Value.cells, ht, he, hi, hC, hE, hI, r2, r3, wa, wb, wc, wa', wb', wc']
end Go.Proofs.Ytlhfelelgkkblaa

namespace Go.Proofs.Ytlhfelelgkkblaa
open Go.ChangeShapes Go.WideShapes Go.ChangeAt Go.RowKit Go.Joins
set_option linter.unusedVariables false
variable {H : Type} {enc : TypeId × Value → H}

theorem trod_struct5 {P : Program} {w : World} {base : Nat} {spare : Nat → Bool} {held : Bool} {t : TypeId} {f0 f1 f2 f3 f4 : Field} {fuel : Nat} {cs : List Value} {x : DataW H × List MemPlace} (ht : P.underlying t = some (.struct #[f0, f1, f2, f3, f4])) (h : DataW.trod enc P w base spare held fuel t cs = some x) :
    ∃ y0 y1 y2 y3 y4 n, cs.length = P.cellsOf t ∧
      DataW.trod enc P w base spare held n f0.type ((cs.drop f0.offset).take (P.cellsOf f0.type)) = some y0 ∧ DataW.trod enc P w base spare held n f1.type ((cs.drop f1.offset).take (P.cellsOf f1.type)) = some y1 ∧
      DataW.trod enc P w base spare held n f2.type ((cs.drop f2.offset).take (P.cellsOf f2.type)) = some y2 ∧ DataW.trod enc P w base spare held n f3.type ((cs.drop f3.offset).take (P.cellsOf f3.type)) = some y3 ∧
      DataW.trod enc P w base spare held n f4.type ((cs.drop f4.offset).take (P.cellsOf f4.type)) = some y4 := by
  obtain ⟨xs, n, _, rfl, hl, hlen, hf⟩ := DataW.trod_struct ht h
  match xs, hlen with
  | [y0, y1, y2, y3, y4], _ => exact ⟨y0, y1, y2, y3, y4, n, hl, by simpa using hf 0 f0 rfl, by simpa using hf 1 f1 rfl, by simpa using hf 2 f2 rfl, by simpa using hf 3 f3 rfl, by simpa using hf 4 f4 rfl⟩
theorem cells_rec : Try.prog.cellsOf 50 = 9 := by kernel_rfl
theorem cells_int : Try.prog.cellsOf 3 = 1 := by kernel_rfl
theorem cells_i64 : Try.prog.cellsOf 2 = 1 := by kernel_rfl
theorem cells_v3 : Try.prog.cellsOf 47 = 3 := by kernel_rfl
theorem cells_u16 : Try.prog.cellsOf 48 = 1 := by kernel_rfl
theorem cells_u8 : Try.prog.cellsOf 5 = 1 := by kernel_rfl
theorem wf_u16 {n : Int} (h : (Lit.int .u16 n).wf = true) : 0 ≤ n ∧ n ≤ 65535 := bounds_u16 h
set_option maxRecDepth 20000 in
theorem trod_rec {w : World} {base : Nat} {spare : Nat → Bool} {held : Bool} {fuel : Nat} {cs : List Value} {x : DataW H × List MemPlace} (h : DataW.trod enc Try.prog w base spare held fuel 50 cs = some x) : ∃ r : Rc, cs = recC r ∧ r.ok := by
  obtain ⟨y0, y1, y2, y3, y4, n, hl, g0, g1, g2, g3, g4⟩ := trod_struct5 Try.underlying50 h
  rw [cells_rec] at hl
  match cs, hl with
  | [c0, c1, c2, c3, c4, c5, c6, c7, c8], _ =>
    simp [cells_int, cells_v3, cells_u16] at g0 g1 g2 g3 g4
    obtain ⟨z0, e0, _, w0⟩ := DataW.trod_int Try.underlying3 g0
    obtain ⟨z1, e1, _, w1⟩ := DataW.trod_int Try.underlying3 g1
    obtain ⟨a, b, c, rfl, rfl, rfl, _, wa, wb, wc⟩ := trod_three Try.underlying47 Try.underlying2 cells_i64 g2
    obtain ⟨a', b', c', rfl, rfl, rfl, _, wa', wb', wc'⟩ := trod_three Try.underlying47 Try.underlying2 cells_i64 g3
    obtain ⟨z4, e4, _, w4⟩ := DataW.trod_int Try.underlying48 g4
    simp at e0 e1 e4
    subst e0 e1 e4
    exact ⟨⟨z0, z1, a, b, c, a', b', c', z4⟩, rfl, wf_i64 w0, wf_i64 w1, wf_i64 wa, wf_i64 wb, wf_i64 wc, wf_i64 wa', wf_i64 wb', wf_i64 wc', wf_u16 w4⟩
set_option maxRecDepth 20000 in
theorem open_rec {W : World} {base : Nat} {v : Value} {d : DataW H} {p : List MemPlace} (hval : Value.okWide Try.prog W .any base 50 v) (h : DataW.Trod enc Try.prog W 0 (fun _ => true) true 50 v d p) : ∃ r : Rc, v = recV r ∧ r.ok := by
  obtain ⟨cs, rfl, _⟩ := okWide_struct Try.underlying50 hval
  obtain ⟨fuel, hf⟩ := h
  obtain ⟨r, e, ok⟩ := trod_rec hf
  refine ⟨r, ?_, ok⟩
  have : cs = (recC r).toArray := by simpa [Value.cells] using congrArg List.toArray e
  rw [this]
/-- A value that reads as these records, by their places. -/
def RdR (w : World) (v : Value) (n : Nat) (A : Nat → Rc) : Prop :=
  ∃ ao cap, v = .slice ao n cap ∧ n ≤ cap ∧ cap ≤ 9223372036854775807 ∧ (n = 0 ∨ ∃ b o, ao = some ⟨b, o, none⟩ ∧ ∀ i, i < n → ∀ j x, (recC (A i))[j]? = some x → w.cell? ⟨b, o + i * 9 + j, none⟩ = some x)
set_option maxRecDepth 20000 in
theorem open_recs {W : World} {base : Nat} {v : Value} {d : DataW H} {p : List MemPlace} (hval : Value.okWide Try.prog W .any base 22 v) (h : DataW.Trod enc Try.prog W 0 (fun _ => true) true 22 v d p) :
    ∃ (n : Nat) (A : Nat → Rc), (∀ i, i < n → (A i).ok) ∧ RdR W v n A := by
  obtain ⟨a1, len, cap1, rfl⟩ := okWide_slice Try.underlying22 hval
  obtain ⟨fuel, hf⟩ := h
  rcases Go.Deep.open_slice Try.underlying22 hf with ⟨hcs, hx⟩ | ⟨a, len2, cap, m, n, D, Pl, hcs, _, hl, hm, hmm, hx, hel⟩
  · simp [Value.cells] at hcs
    obtain ⟨rfl, rfl, rfl⟩ := hcs
    exact ⟨0, fun _ => noRec, fun i hi => by omega, none, 0, rfl, Nat.le_refl _, by omega, Or.inl rfl⟩
  · simp [Value.cells] at hcs
    obtain ⟨rfl, rfl, rfl⟩ := hcs
    simp only [if_true] at hmm
    subst hmm
    rw [cells_rec] at hel
    have each : ∀ i, i < m → ∃ r : Rc, (∀ j x, (recC r)[j]? = some x → W.cell? (a.add (i * 9 + j)) = some x) ∧ r.ok := by
      intro i hi
      obtain ⟨cs', h1, h2⟩ := hel i hi
      obtain ⟨_, hlen, hcell⟩ := World.cells?_some h1
      obtain ⟨r, rfl, ok⟩ := trod_rec h2
      refine ⟨r, fun j x hj => ?_, ok⟩
      have hj' : j < 9 := (List.getElem?_eq_some_iff.1 hj).1
      have c := hcell j (by exact hj')
      rw [Go.Deep.add_add] at c
      rw [c]; exact hj
    haveI : Inhabited Rc := ⟨noRec⟩
    obtain ⟨A, hA⟩ := Go.Deep.choose_lt each
    refine ⟨len, A, fun i hi => (hA i (by omega)).2, some a, m, rfl, hl, hm, ?_⟩
    by_cases h0 : len = 0
    · exact Or.inl h0
    · right
      obtain ⟨ab, ao, spot⟩ := a
      have hspot : spot = none := by simpa [Addr.add] using World.cell?_spot ((hA 0 (by omega)).1 0 _ rfl)
      subst hspot
      refine ⟨ab, ao, rfl, fun i hi j x hj => ?_⟩
      have := (hA i (by omega)).1 j x hj
      simp only [Addr.add_lit] at this
      rw [Nat.add_assoc]; exact this
theorem RdR.below {w w' : World} {v : Value} {n : Nat} {A : Nat → Rc} (h : RdR w v n A) (hb : Below w.heap.size w w') : RdR w' v n A := by
  obtain ⟨ao, cap, rfl, h1, h2, h3⟩ := h
  refine ⟨ao, cap, rfl, h1, h2, ?_⟩
  rcases h3 with h | ⟨b, o, rfl, h⟩
  · exact Or.inl h
  · refine Or.inr ⟨b, o, rfl, fun i hi j x hj => ?_⟩
    have c := h i hi j x hj
    exact (hb.cell (p := ⟨b, o + i * 9 + j, none⟩) (World.block_lt_of_cell? w _ c)).trans c
end Go.Proofs.Ytlhfelelgkkblaa

namespace Go.Proofs.Ytlhfelelgkkblaa
open Go.RowKit
set_option linter.unusedVariables false

/-! what goes ahead of the records -/
structure Gm where
  t : Int
  m : Int
  b : Int
structure Gm.ok (g : Gm) : Prop where
  t : S64 g.t
  m : S64 g.m
  b : S64 g.b
@[reducible] def gmV (g : Gm) (v : Value) : Value := .agg #[.int .i64 g.t, .int .i64 g.m, .int .i64 g.b, v]
@[reducible] def gmA (g : Gm) (v : Value) : Array Value := #[.int .i64 g.t, .int .i64 g.m, .int .i64 g.b, v]
@[reducible] def gmC (g : Gm) (v : Value) : List Value := [.int .i64 g.t, .int .i64 g.m, .int .i64 g.b, v]
def timB (x : Int) : Bool := decide (-2305843009213693952 ≤ x) && decide (x ≤ 2305843009213693952)
def hedE (g : Gm) (n : Nat) : Int :=
  if g.t < 0 ∨ 4294967295 < g.t ∨ timB g.m = false ∨ g.b < -1 then 3 else if g.t ≤ g.b then 10 else if 128 < n then 8 else 0
def bkI (g : Gm) : Int := if g.b = -1 then 0 else g.t - g.b
def hedB (g : Gm) (n : Nat) : List Int := [71, 1] ++ put g.t ++ put (zig g.m) ++ put (bkI g) ++ put (n : Int)
theorem hed_ok {g : Gm} {n : Nat} (h : hedE g n = 0) : 0 ≤ g.t ∧ g.t ≤ 4294967295 ∧ -2305843009213693952 ≤ g.m ∧ g.m ≤ 2305843009213693952 ∧ -1 ≤ g.b ∧ g.b < g.t ∧ n ≤ 128 := by
  unfold hedE timB at h
  split at h
  · omega
  · rename_i h1
    split at h
    · omega
    · split at h
      · omega
      · simp only [Bool.and_eq_false_iff, decide_eq_false_iff_not] at h1
        omega
theorem bk_bd {g : Gm} {n : Nat} (h : hedE g n = 0) : 0 ≤ bkI g ∧ bkI g ≤ 4294967295 ∧ bkI g ≤ g.t := by
  have := hed_ok h
  unfold bkI
  split <;> omega
theorem zig_u64 {x : Int} (h : R64 x) : 0 ≤ zig x ∧ zig x ≤ 18446744073709551615 := by
  unfold R64 at h
  unfold zig
  omega
theorem hedB_len {g : Gm} {n : Nat} (h : hedE g n = 0) : (hedB g n).length ≤ 42 := by
  have := hed_ok h
  have b := bk_bd h
  have z := zig_u64 (x := g.m) (by unfold R64; omega)
  have p1 := put_ten (x := g.t) (by omega) (by omega)
  have p2 := put_ten (x := zig g.m) (by omega) (by omega)
  have p3 := put_ten (x := bkI g) (by omega) (by omega)
  have p4 := put_ten (x := (n : Int)) (by omega) (by omega)
  unfold hedB
  simp only [List.length_append, List.length_cons, List.length_nil]
  omega
theorem hedB_ok {g : Gm} {n : Nat} (h : hedE g n = 0) : Bytes (hedB g n) := by
  have := hed_ok h
  have b := bk_bd h
  have z := zig_u64 (x := g.m) (by unfold R64; omega)
  unfold hedB
  refine ((((Bytes.append ?_ (put_ok (by omega))).append (put_ok (by omega))).append (put_ok (by omega))).append (put_ok (by omega)))
  intro c hc
  simp at hc
  omega

/-! the records, by their index -/
def pre (A : Nat → Rc) (k : Nat) : List Rc := (List.range k).map A
theorem pre_zero (A : Nat → Rc) : pre A 0 = [] := rfl
theorem pre_succ (A : Nat → Rc) (k : Nat) : pre A (k + 1) = pre A k ++ [A k] := by unfold pre; rw [List.range_succ, List.map_append]; rfl
theorem pre_len (A : Nat → Rc) (k : Nat) : (pre A k).length = k := by unfold pre; simp
/-- The error of the first record that has one, each behind the one ahead. -/
def firE : Int → List Rc → Int
  | _, [] => 0
  | last, r :: rs => if wrE r last = 0 then firE r.i rs else wrE r last
theorem fir_chain : ∀ (L : List Rc) (last : Int), chainR last L → firE last L = 0
  | [], _, _ => rfl
  | r :: rs, last, h => by
    obtain ⟨_, h2, h3⟩ := h
    show (if wrE r last = 0 then firE r.i rs else wrE r last) = 0
    rw [if_pos h2]
    exact fir_chain rs r.i h3
theorem chain_fir : ∀ (L : List Rc) (last : Int), (∀ r ∈ L, r.ok) → firE last L = 0 → chainR last L
  | [], _, _, _ => trivial
  | r :: rs, last, hk, h => by
    have h' : (if wrE r last = 0 then firE r.i rs else wrE r last) = 0 := h
    by_cases hw : wrE r last = 0
    · rw [if_pos hw] at h'
      exact ⟨hk r (by simp), hw, chain_fir rs r.i (fun x hx => hk x (by simp [hx])) h'⟩
    · rw [if_neg hw] at h'
      exact absurd h' hw
theorem fir_at : ∀ (L : List Rc) (last : Int) (r : Rc) (rs : List Rc), chainR last L → wrE r (lastR last L) ≠ 0 → firE last (L ++ r :: rs) = wrE r (lastR last L)
  | [], last, r, rs, _, h => by
    show (if wrE r last = 0 then firE r.i rs else wrE r last) = wrE r last
    exact if_neg h
  | x :: L, last, r, rs, hc, h => by
    obtain ⟨_, h2, h3⟩ := hc
    show (if wrE x last = 0 then firE x.i (L ++ r :: rs) else wrE x last) = wrE r (lastR x.i L)
    rw [if_pos h2]
    exact fir_at L x.i r rs h3 h
theorem pre_split (A : Nat → Rc) {k n : Nat} (h : k < n) : ∃ rs, pre A n = pre A k ++ A k :: rs := by
  obtain ⟨d, rfl⟩ : ∃ d, n = k + 1 + d := ⟨n - (k + 1), by omega⟩
  induction d with
  | zero => exact ⟨[], pre_succ A k⟩
  | succ d ih =>
    obtain ⟨rs, e⟩ := ih (by omega)
    exact ⟨rs ++ [A (k + 1 + d)], by rw [show k + 1 + (d + 1) = k + 1 + d + 1 by omega, pre_succ, e]; simp⟩
theorem fir_pre {A : Nat → Rc} {k n : Nat} (h : k < n) (hc : chainR (-1) (pre A k)) (he : wrE (A k) (lastR (-1) (pre A k)) ≠ 0) : firE (-1) (pre A n) = wrE (A k) (lastR (-1) (pre A k)) := by
  obtain ⟨rs, e⟩ := pre_split A h
  rw [e]
  exact fir_at _ _ _ _ hc he

/-! the whole -/
def gmE (g : Gm) (A : Nat → Rc) (n : Nat) : Int := if hedE g n = 0 then firE (-1) (pre A n) else hedE g n
def gmB (g : Gm) (A : Nat → Rc) (n : Nat) : List Int := hedB g n ++ encR (-1) (pre A n)
def bodB (g : Gm) (A : Nat → Rc) (n : Nat) : List Int := if gmE g A n = 0 then gmB g A n else []
def wrtE (g : Gm) (A : Nat → Rc) (n : Nat) : Int := if gmE g A n = 0 then (if 4096 < (gmB g A n).length + 4 then 8 else 0) else gmE g A n
def wrtB (g : Gm) (A : Nat → Rc) (n : Nat) : List Int := if wrtE g A n = 0 then sealed (gmB g A n) else []
theorem gm_head {g : Gm} {A : Nat → Rc} {n : Nat} (h : gmE g A n = 0) : hedE g n = 0 := by
  unfold gmE at h
  split at h <;> omega
theorem gm_chain {g : Gm} {A : Nat → Rc} {n : Nat} (ok : ∀ i, i < n → (A i).ok) (h : gmE g A n = 0) : chainR (-1) (pre A n) := by
  have h1 := gm_head h
  unfold gmE at h
  rw [if_pos h1] at h
  refine chain_fir _ _ (fun r hr => ?_) h
  unfold pre at hr
  obtain ⟨i, hi, rfl⟩ := List.mem_map.1 hr
  exact ok i (List.mem_range.1 hi)
theorem gmB_ok {g : Gm} {A : Nat → Rc} {n : Nat} (ok : ∀ i, i < n → (A i).ok) (h : gmE g A n = 0) : Bytes (gmB g A n) ∧ (gmB g A n).length ≤ 8746 := by
  have h1 := gm_head h
  have c := chainR_ok _ _ (gm_chain ok h)
  have := hedB_len h1
  have := hed_ok h1
  rw [pre_len] at c
  refine ⟨(hedB_ok h1).append c.1, ?_⟩
  unfold gmB
  rw [List.length_append]
  omega
theorem bodB_ok {g : Gm} {A : Nat → Rc} {n : Nat} (ok : ∀ i, i < n → (A i).ok) : Bytes (bodB g A n) ∧ (bodB g A n).length ≤ 8746 := by
  unfold bodB
  split
  · rename_i h
    exact gmB_ok ok h
  · exact ⟨fun c hc => by simp at hc, by simp⟩
theorem wrt_ok {g : Gm} {A : Nat → Rc} {n : Nat} (h : wrtE g A n = 0) : gmE g A n = 0 ∧ (gmB g A n).length + 4 ≤ 4096 := by
  unfold wrtE at h
  split at h
  · rename_i h1
    refine ⟨h1, ?_⟩
    split at h <;> omega
  · rename_i h1
    exact absurd h h1
end Go.Proofs.Ytlhfelelgkkblaa

namespace Go.Proofs.Ytlhfelelgkkblaa
open Go.RowKit
set_option linter.unusedVariables false
set_option maxRecDepth 8000

theorem gm_most (w : World) : Calls Try.prog 20 #[] w fun e w' => e = .returned (.int .i64 128) ∧ w' = w := by
  go_enter Try.func20, Try.ntmps20
  go_wp2_with fail
  go_ret
  exact ⟨rfl, rfl⟩
theorem gm_time (w : World) (x : Int) : Calls Try.prog 74 #[.int .i64 x] w fun e w' => e = .returned (.bool (timB x)) ∧ w' = w := by
  have ht : Hid (timB x = (decide (-2305843009213693952 ≤ x) && decide (x ≤ 2305843009213693952))) := rfl
  by_cases h1 : -2305843009213693952 ≤ x
  · by_cases h2 : x ≤ 2305843009213693952
    · go_enter Try.func74, Try.ntmps74
      go_wp2_with fail
      go_ret
      exact ⟨by rw [ht.out]; simp [h1, h2], rfl⟩
    · go_enter Try.func74, Try.ntmps74
      go_wp2_with fail
      go_ret
      exact ⟨by rw [ht.out]; simp [h1, h2], rfl⟩
  · go_enter Try.func74, Try.ntmps74
    go_wp2_with fail
    go_ret
    exact ⟨by rw [ht.out]; simp; omega, rfl⟩
theorem gm_back (w : World) (g : Gm) (v : Value) (n : Nat) (h : hedE g n = 0) : Calls Try.prog 76 #[gmV g v] w fun e w' => e = .returned (.int .u64 (bkI g)) ∧ Below w.heap.size w w' := by
  have HB : Hid (0 ≤ bkI g ∧ bkI g ≤ 4294967295 ∧ bkI g ≤ g.t) := bk_bd h
  have HO := hed_ok h
  have HK : Hid (bkI g = if g.b = -1 then 0 else g.t - g.b) := rfl
  obtain ⟨t, m, b⟩ := g
  simp only at HO
  obtain ⟨o1, o2, o3, o4, o5, o6, o7⟩ := HO
  clear h
  by_cases hb : b = -1
  · subst hb
    go_enter Try.func76, Try.ntmps76
    go_wp2_with fail
    go_ret
    exact ⟨rfl, (Below.refl _ _).alloc (Nat.le_refl _) _⟩
  · go_enter Try.func76, Try.ntmps76
    go_wp2_with fail
    go_ret
    refine ⟨?_, (Below.refl _ _).alloc (Nat.le_refl _) _⟩
    rw [HK.out]
    simp only [if_neg hb]
    first | rfl | (congr; omega) | skip
theorem gm_check (w : World) (g : Gm) (ok : g.ok) (ao : Option Addr) (n cap : Nat) (hn : n ≤ cap) (hc : cap ≤ 9223372036854775807) :
    Calls Try.prog 42 #[gmV g (.slice ao n cap)] w fun e w' => e = .returned (.int .i64 (hedE g n)) ∧ Below w.heap.size w w' := by
  have HE : Hid (hedE g n = if g.t < 0 ∨ 4294967295 < g.t ∨ timB g.m = false ∨ g.b < -1 then 3 else if g.t ≤ g.b then 10 else if 128 < n then 8 else 0) := rfl
  have HT := ok.t
  have HM := ok.m
  have HBB := ok.b
  obtain ⟨t, m, b⟩ := g
  simp only at HT HM HBB
  obtain ⟨t0, t1⟩ := HT
  obtain ⟨b0, b1⟩ := HBB
  obtain ⟨tb, htb⟩ : ∃ x, timB m = x := ⟨_, rfl⟩
  have HTB : Hid (timB m = tb) := htb
  clear HM htb ok
  by_cases c1 : t < 0
  · have EV : Hid (hedE ⟨t, m, b⟩ n = 3) := (HE.out.trans (if_pos (Or.inl c1)) : hedE ⟨t, m, b⟩ n = 3)
    clear HE
    go_enter Try.func42, Try.ntmps42
    go_wp2_with (go_at_call 74; refine (gm_time _ _).mono ?_; rw [HTB.out]; rintro e w1 ⟨rfl, rfl⟩)
    go_ret
    exact ⟨by rw [EV.out]; rfl, (Below.refl _ _).alloc (Nat.le_refl _) _⟩
  by_cases c2 : 4294967295 < t
  · have EV : Hid (hedE ⟨t, m, b⟩ n = 3) := (HE.out.trans (if_pos (Or.inr (Or.inl c2))) : hedE ⟨t, m, b⟩ n = 3)
    clear HE
    go_enter Try.func42, Try.ntmps42
    go_wp2_with (go_at_call 74; refine (gm_time _ _).mono ?_; rw [HTB.out]; rintro e w1 ⟨rfl, rfl⟩)
    go_ret
    exact ⟨by rw [EV.out]; rfl, (Below.refl _ _).alloc (Nat.le_refl _) _⟩
  cases tb
  · have EV : Hid (hedE ⟨t, m, b⟩ n = 3) := (HE.out.trans (if_pos (Or.inr (Or.inr (Or.inl HTB.out)))) : hedE ⟨t, m, b⟩ n = 3)
    clear HE
    go_enter Try.func42, Try.ntmps42
    go_wp2_with (go_at_call 74; refine (gm_time _ _).mono ?_; rw [HTB.out]; rintro e w1 ⟨rfl, rfl⟩)
    go_ret
    exact ⟨by rw [EV.out]; rfl, (Below.refl _ _).alloc (Nat.le_refl _) _⟩
  by_cases c3 : b < -1
  · have EV : Hid (hedE ⟨t, m, b⟩ n = 3) := (HE.out.trans (if_pos (Or.inr (Or.inr (Or.inr c3)))) : hedE ⟨t, m, b⟩ n = 3)
    clear HE
    go_enter Try.func42, Try.ntmps42
    go_wp2_with (go_at_call 74; refine (gm_time _ _).mono ?_; rw [HTB.out]; rintro e w1 ⟨rfl, rfl⟩)
    go_ret
    exact ⟨by rw [EV.out]; rfl, (Below.refl _ _).alloc (Nat.le_refl _) _⟩
  have NO : Hid (¬ (t < 0 ∨ 4294967295 < t ∨ timB m = false ∨ b < -1)) := (by rw [HTB.out]; simp; omega : ¬ (t < 0 ∨ 4294967295 < t ∨ timB m = false ∨ b < -1))
  by_cases c4 : t ≤ b
  · have EV : Hid (hedE ⟨t, m, b⟩ n = 10) := (HE.out.trans ((if_neg NO.out).trans (if_pos c4)) : hedE ⟨t, m, b⟩ n = 10)
    clear HE
    go_enter Try.func42, Try.ntmps42
    go_wp2_with (go_at_call 74; refine (gm_time _ _).mono ?_; rw [HTB.out]; rintro e w1 ⟨rfl, rfl⟩)
    go_ret
    exact ⟨by rw [EV.out]; rfl, (Below.refl _ _).alloc (Nat.le_refl _) _⟩
  by_cases c5 : 128 < n
  · have EV : Hid (hedE ⟨t, m, b⟩ n = 8) := (HE.out.trans ((if_neg NO.out).trans ((if_neg c4).trans (if_pos c5))) : hedE ⟨t, m, b⟩ n = 8)
    clear HE
    go_enter Try.func42, Try.ntmps42
    go_wp2_with (go_at_call 74; refine (gm_time _ _).mono ?_; rw [HTB.out]; rintro e w1 ⟨rfl, rfl⟩)
    go_ret
    exact ⟨by rw [EV.out]; rfl, (Below.refl _ _).alloc (Nat.le_refl _) _⟩
  · have EV : Hid (hedE ⟨t, m, b⟩ n = 0) := (HE.out.trans ((if_neg NO.out).trans ((if_neg c4).trans (if_neg c5))) : hedE ⟨t, m, b⟩ n = 0)
    clear HE
    go_enter Try.func42, Try.ntmps42
    go_wp2_with (go_at_call 74; refine (gm_time _ _).mono ?_; rw [HTB.out]; rintro e w1 ⟨rfl, rfl⟩)
    go_ret
    exact ⟨by rw [EV.out]; rfl, (Below.refl _ _).alloc (Nat.le_refl _) _⟩
end Go.Proofs.Ytlhfelelgkkblaa

namespace Go.Proofs.Ytlhfelelgkkblaa
open Go.RowKit
set_option linter.unusedVariables false
set_option maxRecDepth 8000

theorem size_u64 (w : World) : (sizeOf 66).run Try.prog w = .ok 1 w := by
  have h : (Try.prog.info? 66).map (fun i => i.size) = some 1 := by kernel_rfl
  cases hq : Try.prog.info? 66 with
  | none => simp [hq] at h
  | some i => simp [hq] at h; simp [sizeOf, typeInfo, hq, h]
theorem index4u (cs : Array Value) (k : Nat) (i : Int) (hi : i = (k : Int)) (x : Int) (hk : k < 4) (h : cs[k]? = some (.int .u64 x)) (w : World) : (Instr.index 102 (.agg cs) (.int .i64 i)).run Try.prog w = .ok (.int .u64 x) w := by
  subst hi
  have hlt : (0 : Int) ≤ (k : Int) ∧ (k : Int) < 4 := by omega
  simp only [Instr.index, Sem.run_bind, run_underlying Try.underlying102, Result.andThen_ok, asIntOf, Sem.run_pure]
  rw [if_pos (by exact hlt)]
  simp only [Sem.run_bind, size_u64, Result.andThen_ok, Int.toNat_natCast, Nat.mul_one, part, isAgg, run_underlying Try.underlying66, Sem.run_pure]
  simp [h]
/-- The bytes of the first k of the head's four numbers. -/
def hedK (g : Gm) (n : Nat) (k : Nat) : List Int := [71, 1] ++ (([g.t, zig g.m, bkI g, (n : Int)].take k).flatMap put)
theorem hedK_four (g : Gm) (n : Nat) : hedK g n 4 = hedB g n := by unfold hedK hedB; simp
set_option maxHeartbeats 2000000 in
theorem gm_heads (w : World) (g : Gm) (ao : Option Addr) (n cap : Nat) (hn : n ≤ cap) (hc : cap ≤ 9223372036854775807) (h : hedE g n = 0) :
    Calls Try.prog 43 #[gmV g (.slice ao n cap)] w fun e w' => ∃ v, e = .returned v ∧ Own w' w.heap.size v (hedB g n) ∧ Below w.heap.size w w' := by
  have HE : Hid (hedE g n = 0) := h
  have HO := hed_ok h
  have BK := bk_bd h
  have ZB := zig_u64 (x := g.m) (by unfold R64; omega)
  have HK4 : Hid (hedK g n 4 = hedB g n) := hedK_four g n
  have K0 : Hid (hedK g n 0 = [71, 1]) := (by unfold hedK; simp : hedK g n 0 = [71, 1])
  have K1 : Hid (hedK g n 1 = hedK g n 0 ++ put g.t) := (by unfold hedK; simp : hedK g n 1 = hedK g n 0 ++ put g.t)
  have K2 : Hid (hedK g n 2 = hedK g n 1 ++ put (zig g.m)) := (by unfold hedK; simp : hedK g n 2 = hedK g n 1 ++ put (zig g.m))
  have K3 : Hid (hedK g n 3 = hedK g n 2 ++ put (bkI g)) := (by unfold hedK; simp : hedK g n 3 = hedK g n 2 ++ put (bkI g))
  have K4 : Hid (hedK g n 4 = hedK g n 3 ++ put (n : Int)) := (by unfold hedK; simp : hedK g n 4 = hedK g n 3 ++ put (n : Int))
  have p1 := put_ten (x := g.t) (by omega) (by omega)
  have p2 := put_ten (x := zig g.m) (by omega) (by omega)
  have p3 := put_ten (x := bkI g) (by omega) (by omega)
  have p4 := put_ten (x := (n : Int)) (by omega) (by omega)
  have L0 : (hedK g n 0).length = 2 := by rw [K0.out]; rfl
  have L1 : (hedK g n 1).length ≤ 12 := by rw [K1.out, List.length_append]; omega
  have L2 : (hedK g n 2).length ≤ 22 := by rw [K2.out, List.length_append]; omega
  have L3 : (hedK g n 3).length ≤ 32 := by rw [K3.out, List.length_append]; omega
  have HBK : Hid (∀ w', Calls Try.prog 76 #[gmV g (.slice ao n cap)] w' fun e w'' => e = .returned (.int .u64 (bkI g)) ∧ Below w'.heap.size w' w'') := fun w' => gm_back w' g _ n h
  clear h
  obtain ⟨bk, hbk⟩ : ∃ x, bkI g = x := ⟨_, rfl⟩
  obtain ⟨zg, hzg⟩ : ∃ x, zig g.m = x := ⟨_, rfl⟩
  have HZ : Hid (zig g.m = zg) := hzg
  rw [hbk] at BK K3 p3 HBK
  rw [hzg] at ZB K2 p2
  obtain ⟨f, hf⟩ : ∃ f : Nat → List Int, hedK g n = f := ⟨_, rfl⟩
  rw [hf] at HK4 K0 K1 K2 K3 K4 L0 L1 L2 L3
  clear hbk hzg hf
  obtain ⟨t, m, b⟩ := g
  simp only at HO BK
  obtain ⟨o1, o2, o3, o4, o5, o6, o7⟩ := HO
  obtain ⟨k1, k2, _⟩ := BK
  obtain ⟨z1, z2⟩ := ZB
  go_enter Try.func43, Try.ntmps43
  go_wp2_with fail
  have O0 := Own.built (w.alloc (.cells (gmA ⟨t, m, b⟩ (.slice ao n cap)) 24)) w.heap.size (by simp) [71, 1] 2 rfl (by omega)
  generalize hW : (w.alloc (.cells #[.int .i64 t, .int .i64 m, .int .i64 b, .slice ao n cap] 24)).alloc (.cells #[.int .u8 71, .int .u8 1] 5) = W
  have O1 : Own W w.heap.size (.slice (some ⟨w.heap.size + 1, 0, none⟩) 2 2) [71, 1] := by rw [← hW]; simp at O0; exact O0
  obtain ⟨A0, _, B0⟩ := boxed2 hW
  have OW : Hid (Own W w.heap.size (.slice (some ⟨w.heap.size + 1, 0, none⟩) 2 2) (f 0)) := by rw [K0.out]; exact O1
  clear O0 O1 hW
  have x0_0 := A0.cell 0 _ rfl
  have x1_0 := A0.cell 1 _ rfl
  have x2_0 := A0.cell 2 _ rfl
  have x3_0 := A0.cell 3 _ rfl
  have la := A0.lt
  go_region_held3 (fun w' => w'.cell? ⟨w.heap.size, 0, none⟩ = some (.int .i64 t) ∧ w'.cell? ⟨w.heap.size, 1, none⟩ = some (.int .i64 m) ∧ w'.cell? ⟨w.heap.size, 2, none⟩ = some (.int .i64 b) ∧ w'.cell? ⟨w.heap.size, 3, none⟩ = some (.slice ao n cap)) (first | with_reducible exact ⟨x0_1, x1_1, x2_1, x3_1⟩ | with_reducible exact ⟨x0_0, x1_0, x2_0, x3_0⟩ | go_keep)
    (first | (go_at_call 75; (with_reducible refine (zig_any m (by unfold R64; omega) _).mono ?_); rw [HZ.out]; rintro e w4 ⟨rfl, rfl⟩) | (go_at_call 76; (with_reducible refine (HBK.out _).mono ?_); rintro e w5 ⟨rfl, g5⟩; have A1 := A0.drew.below g5 A0.lt; have x0_1 := A1.cell 0 _ rfl; have x1_1 := A1.cell 1 _ rfl; have x2_1 := A1.cell 2 _ rfl; have x3_1 := A1.cell 3 _ rfl; have B5 := bup B0.drew (Nat.le_refl _) g5; have O5 : Hid (Own w5 w.heap.size (.slice (some ⟨w.heap.size + 1, 0, none⟩) 2 2) (f 0)) := OW.out.drew.below g5))
  have wt : IntKind.u64.wrap t = t := by rw [u64_eq]; omega
  have wn : IntKind.u64.wrap (n : Int) = n := by rw [u64_eq]; omega
  rw [wt, wn]
  clear wt wn x0_0 x1_0 x2_0 x3_0 x0_1 x1_1 x2_1 x3_1 A1 A0 OW HBK HZ g5
  have s5 := B5.size
  have Q0 : Hid (Own w5 w.heap.size (.slice (some ⟨w.heap.size + 1, 0, none⟩) 2 2) (f 0)) := O5.out
  have C0 : Below w.heap.size w w5 := B5
  clear O5 B5 B0
  go_wp2_with fail
  refine wp_loop_rounds 5 ?_
  have ix0 := index4u #[.int .u64 t, .int .u64 zg, .int .u64 bk, .int .u64 (n : Int)] 0 0 rfl t (by omega) rfl w5
  rw [rounds_succ]
  go_wp2_with fail
  clear ix0
  refine (put_any t (by omega) (by omega) _).mono ?_; rintro e v0w ⟨v0, rfl, own0, bb0⟩
  have P0 : Hid (Own v0w w.heap.size _ (f 0)) := Q0.out.below bb0
  have D0 := bup C0 (Nat.le_refl _) bb0
  have d0 := D0.size
  go_wp2_with (at_builtin; refine app_wp rfl _ _ rfl w.heap.size _ (f 0) rfl (by exact P0.out) _ (put t) rfl (by exact own0.rd) (by omega) (by omega) ?_; intro u0 y0 ow0 by0; have C1 := D0.trans by0; have Q1 : Hid (Own y0 w.heap.size u0 (f 1)) := (by rw [K1.out]; exact ow0); clear Q0 C0 P0 D0 d0 ow0 by0 own0 bb0)
  have ix1 := index4u #[.int .u64 t, .int .u64 zg, .int .u64 bk, .int .u64 (n : Int)] 1 1 rfl zg (by omega) rfl y0
  rw [rounds_succ]
  go_wp2_with fail
  clear ix1
  refine (put_any zg (by omega) (by omega) _).mono ?_; rintro e v1w ⟨v1, rfl, own1, bb1⟩
  have P1 : Hid (Own v1w w.heap.size _ (f 1)) := Q1.out.below bb1
  have D1 := bup C1 (Nat.le_refl _) bb1
  have d1 := D1.size
  go_wp2_with (at_builtin; refine app_wp rfl _ _ rfl w.heap.size _ (f 1) rfl (by exact P1.out) _ (put zg) rfl (by exact own1.rd) (by omega) (by omega) ?_; intro u1 y1 ow1 by1; have C2 := D1.trans by1; have Q2 : Hid (Own y1 w.heap.size u1 (f 2)) := (by rw [K2.out]; exact ow1); clear Q1 C1 P1 D1 d1 ow1 by1 own1 bb1)
  have ix2 := index4u #[.int .u64 t, .int .u64 zg, .int .u64 bk, .int .u64 (n : Int)] 2 2 rfl bk (by omega) rfl y1
  rw [rounds_succ]
  go_wp2_with fail
  clear ix2
  refine (put_any bk (by omega) (by omega) _).mono ?_; rintro e v2w ⟨v2, rfl, own2, bb2⟩
  have P2 : Hid (Own v2w w.heap.size _ (f 2)) := Q2.out.below bb2
  have D2 := bup C2 (Nat.le_refl _) bb2
  have d2 := D2.size
  go_wp2_with (at_builtin; refine app_wp rfl _ _ rfl w.heap.size _ (f 2) rfl (by exact P2.out) _ (put bk) rfl (by exact own2.rd) (by omega) (by omega) ?_; intro u2 y2 ow2 by2; have C3 := D2.trans by2; have Q3 : Hid (Own y2 w.heap.size u2 (f 3)) := (by rw [K3.out]; exact ow2); clear Q2 C2 P2 D2 d2 ow2 by2 own2 bb2)
  have ix3 := index4u #[.int .u64 t, .int .u64 zg, .int .u64 bk, .int .u64 (n : Int)] 3 3 rfl (n : Int) (by omega) rfl y2
  rw [rounds_succ]
  go_wp2_with fail
  clear ix3
  refine (put_any (n : Int) (by omega) (by omega) _).mono ?_; rintro e v3w ⟨v3, rfl, own3, bb3⟩
  have P3 : Hid (Own v3w w.heap.size _ (f 3)) := Q3.out.below bb3
  have D3 := bup C3 (Nat.le_refl _) bb3
  have d3 := D3.size
  go_wp2_with (at_builtin; refine app_wp rfl _ _ rfl w.heap.size _ (f 3) rfl (by exact P3.out) _ (put (n : Int)) rfl (by exact own3.rd) (by omega) (by omega) ?_; intro u3 y3 ow3 by3; have C4 := D3.trans by3; have Q4 : Hid (Own y3 w.heap.size u3 (f 4)) := (by rw [K4.out]; exact ow3); clear Q3 C3 P3 D3 d3 ow3 by3 own3 bb3)
  rw [rounds_succ]
  go_wp2_with fail
  go_ret
  exact ⟨_, rfl, HK4.out ▸ Q4.out, C4⟩
end Go.Proofs.Ytlhfelelgkkblaa
