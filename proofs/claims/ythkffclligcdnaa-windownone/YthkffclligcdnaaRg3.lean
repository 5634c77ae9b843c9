/-
  Layer 11 (ring): the built-in functions over rows of pairs (no function of the program in sight).
-/
import Derived.Test.YthkffclligcdnaaRg2
import Derived.Shelf.Spec.SlicesInsert
import Derived.Lib.AppendZerosOnto
import Derived.Laws.NewBlocks
namespace Go.Proofs.Ythkffclligcdnaa
open Go.RowKit
set_option linter.unusedVariables false
set_option maxRecDepth 20000
section
variable {P : Program}
/-- 'copy(d, s)' of elements of whatever size. -/
theorem run_copy_sz (w : World) (dT sT ty elem : TypeId) (b o dLen dCap : Nat) (a : Addr) (sLen sCap sz n : Nat) (cs : List Value)
    (hu : P.underlying dT = some (.slice elem)) (hs : (P.info? elem).map (·.size) = some sz) (hm : Nat.min sLen dLen = n) (hn : cs.length = n * sz)
    (hsrc : ∀ j v, cs[j]? = some v → w.cell? (a.add j) = some v) (hc : ∀ j, j < cs.length → (w.cell? ⟨b, o + j, none⟩).isSome = true) (hf : ∀ j, j < cs.length → w.frozen? ⟨b, o + j, none⟩ = false) (h1 : ∀ v ∈ cs, v.oneCell' = true) :
    (Builtin.copy_ #[dT, sT] ty #[.slice (some ⟨b, o, none⟩) dLen dCap, .slice (some a) sLen sCap]).run P w = .ok (goInt n) (w.setCells b o cs) := by
  have hl := run_loadCells_list (P := P) w a cs hsrc
  have hst := run_storeCells_cells (P := P) b o cs 0 w (by simpa using hc) (by simpa using hf) h1
  cases hq : P.info? elem with
  | none => simp [hq] at hs
  | some i =>
    have hi : i.size = sz := by simpa [hq] using hs
    rw [hn] at hl
    simp [Builtin.copy_, run_underlying hu, Builtin.lenOf, Builtin.firstCells, sizeOf, typeInfo, hq, hi, hm, hl, hst]
/-- 'clear(s)' of one element. -/
theorem run_clear_one (w : World) (t e ty : TypeId) (z : Value) (ht : P.underlying t = some (.slice e)) (hv : ∀ w, (zeroValue e).run P w = .ok z w) (b o c : Nat)
    (hc : ∀ j, j < z.cells.size → (w.cell? ⟨b, o + j, none⟩).isSome = true) (hf : ∀ j, j < z.cells.size → w.frozen? ⟨b, o + j, none⟩ = false) (h1 : ∀ v ∈ z.cells.toList, v.oneCell' = true) :
    (Builtin.clear_ #[t] ty #[.slice (some ⟨b, o, none⟩) 1 c]).run P w = .ok (.tuple #[]) (w.setCells b o z.cells.toList) := by
  have hzc : (Builtin.zeroCells z.cells 1).toList = z.cells.toList := by
    apply List.ext_getElem
    · simp [Builtin.zeroCells]
    · intro i h3 h4
      have : i < z.cells.size := by simpa using h4
      simp [Builtin.zeroCells, Nat.mod_eq_of_lt this, this]
  have hst := run_storeCells_cells (P := P) b o z.cells.toList 0 w (by simpa using hc) (by simpa using hf) h1
  simp only [Nat.add_zero] at hst
  simp [Builtin.clear_, run_underlying ht, hv, hzc, hst]
/-- 'append(s, x...)' of one pair. -/
theorem growP_op {w : World} {o : Oper} {a : Act} {K : Act → World → Prop} {Q : Exit → Act → World → Prop} (t e : TypeId) (zr : Value) (by_ : Nat) (ht : P.underlying t = some (.slice e)) (hz : (P.info? e).map (fun i => (i.zero, i.size, i.bytes)) = some (some (.agg #[.int .i64 0, zr]), 2, by_)) (hby : by_ ≤ 64) (hzr : (Value.agg #[.int .i64 0, zr]).cells.size = 2) (s x : Operand)
    (ho : o.op = .call { callee := .builtin .append, args := #[s, x], argTypes := #[t, t] })
    (B : Nat) (v : Value) (L : List Pr) (hs : a.eval s = v) (hown : OwnP e w B v L) (g0 o0 : Nat) (p : Pr) (c0 : Nat) (hx : a.eval x = .slice (some ⟨g0, o0, none⟩) 1 c0)
    (hr0 : w.cell? ⟨g0, o0, none⟩ = some (.int .i64 p.1)) (hr1 : w.cell? ⟨g0, o0 + 1, none⟩ = some p.2) (h1 : p.2.oneCell' = true) (hlen : L.length ≤ 1000000) (hB : B ≤ w.heap.size)
    (h : ∀ v' w', OwnP e w' B v' (L ++ [p]) → Grow B v w v' w' → K (a.put o.dst v') w') : o.wp P a w K Q := by
  obtain ⟨i0, hi, hz0, hz1, hz2⟩ := info_parts hz
  have hm : (L.length + 1) * by_ ≤ (L.length + 1) * 64 := Nat.mul_le_mul_left _ hby
  refine wp_append_lies w s x t ho B e i0 (.agg #[.int .i64 0, zr]) 2 by_ ht hi hz0 hz1 hz2 hzr (by decide) v L.length (prs L) hs hown ⟨g0, o0, none⟩ 1 c0 (prs [p]) hx rfl (fun j u hu => ?_) (Ones.cells (fun q hq => by rw [List.mem_singleton.1 hq]; exact h1)) (by omega) (by unfold maxLen; omega) (by omega) hB w.heap.size rfl ?_
  · rw [prs_cons, prs_nil] at hu
    rw [Addr.add_lit]
    rcases j with _ | _ | j
    · simp at hu; subst hu; exact hr0
    · simp at hu; subst hu; exact hr1
    · simp at hu
  intro g cap' w' hown' hgrow hor hlt
  refine h _ w' ?_ ⟨(Below.refl B w).grown hgrow hB (fun k hk => (hown.lt k hk).1), hgrow, ?_⟩
  · unfold OwnP
    rw [List.length_append, prs_app]
    exact hown'
  · rcases hor with e | e
    · exact Or.inl e.symm
    · right; rw [e]; rfl
theorem growP_wp {w : World} {ops : Array Oper} {rest : List Oper} {o : Oper} {a : Act} {Q : Exit → Act → World → Prop} (hgd : o.guard = none) (t e : TypeId) (zr : Value) (by_ : Nat) (ht : P.underlying t = some (.slice e)) (hz : (P.info? e).map (fun i => (i.zero, i.size, i.bytes)) = some (some (.agg #[.int .i64 0, zr]), 2, by_)) (hby : by_ ≤ 64) (hzr : (Value.agg #[.int .i64 0, zr]).cells.size = 2) (s x : Operand)
    (ho : o.op = .call { callee := .builtin .append, args := #[s, x], argTypes := #[t, t] })
    (B : Nat) (v : Value) (L : List Pr) (hs : a.eval s = v) (hown : OwnP e w B v L) (g0 o0 : Nat) (p : Pr) (c0 : Nat) (hx : a.eval x = .slice (some ⟨g0, o0, none⟩) 1 c0)
    (hr0 : w.cell? ⟨g0, o0, none⟩ = some (.int .i64 p.1)) (hr1 : w.cell? ⟨g0, o0 + 1, none⟩ = some p.2) (h1 : p.2.oneCell' = true) (hlen : L.length ≤ 1000000) (hB : B ≤ w.heap.size)
    (h : ∀ v' w', OwnP e w' B v' (L ++ [p]) → Grow B v w v' w' → wpList P ops Q rest (a.put o.dst v') w') : wpList P ops Q (o :: rest) a w :=
  wpList_plain hgd fun K hK => growP_op t e zr by_ ht hz hby hzr s x ho B v L hs hown g0 o0 p c0 hx hr0 hr1 h1 hlen hB fun v' w' h1 h2 => hK _ _ (h v' w' h1 h2)
end
end Go.Proofs.Ythkffclligcdnaa
