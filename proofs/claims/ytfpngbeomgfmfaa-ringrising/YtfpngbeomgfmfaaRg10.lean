/-
  Layer 11 (ring): rows of int64 beside a ring; numbers that rise.
-/
import Derived.Test.YtfpngbeomgfmfaaRg8
namespace Go.Proofs.Ytfpngbeomgfmfaa
open Go.RowKit
set_option linter.unusedVariables false
set_option maxRecDepth 20000
def i64c (l : List Int) : List Value := l.map (Value.int .i64)
/-- A value that a call owns, of these numbers. -/
def OwnI (w : World) (B : Nat) (v : Value) (l : List Int) : Prop := w.ownsRow B 2 1 v l.length (i64c l)
theorem infoI64 : (Try.prog.info? 2).map (fun i => (i.zero, i.size, i.bytes)) = some (some (.int .i64 0), 1, 8) := by kernel_rfl
theorem OwnI.lt {w : World} {B : Nat} {v : Value} {l : List Int} (h : OwnI w B v l) : ∀ k, v.ownBlock = some k → B ≤ k ∧ k < w.heap.size := World.ownsRow.lt h
theorem OwnI.nil (w : World) (B : Nat) : OwnI w B (.slice none 0 0) [] := World.ownsRow_nil w B _ _
theorem OwnI.form {w : World} {B : Nat} {v : Value} {l : List Int} (h : OwnI w B v l) : ∃ ao cap, v = .slice ao l.length cap ∧ l.length ≤ cap ∧ cap ≤ 9223372036854775807 ∧ (ao = none → cap = 0) ∧ (∀ a, ao = some a → ∃ g, a = ⟨g, 0, none⟩ ∧ ∀ i, i < l.length → w.cell? ⟨g, i, none⟩ = some (.int .i64 (l.getD i 0))) := by
  rcases h.2 with ⟨rfl, h0⟩ | ⟨g, cap, cur, hv, hb, hg, hc, hm, hs, ht⟩
  · exact ⟨none, 0, by rw [h0], by omega, by omega, fun _ => rfl, fun a ha => by cases ha⟩
  · refine ⟨_, cap, hv, hc, hm, fun h => by simp at h, fun a ha => ⟨g, by injection ha with ha; exact ha.symm, fun i hi => ?_⟩⟩
    rw [cell_of_row w g i cur _ (0, 0) hg]
    have e : (i64c l)[i]? = some (.int .i64 (l.getD i 0)) := by simp [i64c, List.getD, List.getElem?_eq_getElem hi]
    rw [← ht, List.getElem?_take, if_pos (by omega)] at e
    simpa using e
theorem OwnI.below {w w' : World} {B : Nat} {v : Value} {l : List Int} (h : OwnI w B v l) (hb : Below w.heap.size w w') : OwnI w' B v l := by
  refine ⟨h.1, ?_⟩
  rcases h.2 with hn | ⟨g, cap, cur, hv, hB, hg, rest⟩
  · exact Or.inl hn
  · exact Or.inr ⟨g, cap, cur, hv, hB, (hb.block g (Array.getElem?_eq_some_iff.1 hg).1).trans hg, rest⟩
/-- A row of numbers, and a ring: in blocks of their own. -/
structure SepI (R : Nat) (v a : Value) : Prop where
  right : some R ≠ a.ownBlock
  rows : a.ownBlock = none ∨ a.ownBlock ≠ v.ownBlock
theorem OwnI.chg {B C R : Nat} {v v' u : Value} {l : List Int} {w w' : World} (hu : OwnI w C u l) (h : Chg B R v v' w w') (hs : SepI R v u) : OwnI w' C u l ∧ SepI R v' u := by
  constructor
  · refine ⟨hu.1, ?_⟩
    rcases hu.2 with hn | ⟨g, cap, cur, hv', hB, hg, rest⟩
    · exact Or.inl hn
    · have hgl : g < w.heap.size := (Array.getElem?_eq_some_iff.1 hg).1
      subst hv'
      refine Or.inr ⟨g, cap, cur, rfl, hB, (h.block g hgl (fun e => hs.right (by rw [← e]; rfl)) (fun e => ?_)).trans hg, rest⟩
      rcases hs.rows with h' | h'
      · cases h'
      · exact h' (by rw [← e]; rfl)
  · refine ⟨hs.right, ?_⟩
    cases hq : u.ownBlock with
    | none => exact Or.inl rfl
    | some g =>
      right
      refine h.off (b := g) (hu.lt g hq).2 ?_
      rcases hs.rows with e | e
      · rw [hq] at e; cases e
      · rw [hq] at e; exact e
theorem RngV.growI {e : TypeId} {B C R : Nat} {v a a' : Value} {s : Rs} {w w' : World} (h : RngV e w B R v s) (g : Grow C a w a' w') (hs : SepI R v a) : RngV e w' B R v s ∧ SepI R v a' := by
  have hown : v.ownBlock = none ∨ v.ownBlock ≠ a.ownBlock := by
    cases hv : v.ownBlock with
    | none => exact Or.inl rfl
    | some k =>
      right
      rcases hs.rows with e | e
      · rw [e]; simp
      · rw [hv] at e; exact fun h => e h.symm
  refine ⟨⟨h.blk.grwn g.by_ hs.right, h.own.kept g.by_ hown, h.ok, h.ones, h.ne, h.le⟩, ?_, ?_⟩
  · rcases g.blk with e | e
    · rw [e]; exact hs.right
    · rw [e]; intro h'; injection h' with h'; have := h.blk.lt; omega
  · rcases g.blk with e | e
    · rw [e]; exact hs.rows
    · right; rw [e]; intro h'
      have := (h.own.lt w.heap.size h'.symm).2; omega
theorem growI_wp {w : World} {ops : Array Oper} {rest : List Oper} {o : Oper} {a : Act} {Q : Exit → Act → World → Prop} (hgd : o.guard = none) (s x : Operand)
    (ho : o.op = .call { callee := .builtin .append, args := #[s, x], argTypes := #[60, 60] })
    (B : Nat) (v : Value) (l : List Int) (hs : a.eval s = v) (hown : OwnI w B v l) (g0 : Nat) (z : Int) (hx : a.eval x = .slice (some ⟨g0, 0, none⟩) 1 1)
    (hr : w.cell? ⟨g0, 0, none⟩ = some (.int .i64 z)) (hlen : l.length ≤ 1000000) (hB : B ≤ w.heap.size)
    (h : ∀ v' w', OwnI w' B v' (l ++ [z]) → Grow B v w v' w' → wpList Try.prog ops Q rest (a.put o.dst v') w') : wpList Try.prog ops Q (o :: rest) a w := by
  obtain ⟨i0, hi, hz0, hz1, hz2⟩ := info_parts infoI64
  refine wpList_append_lies w hgd s x 60 ho B 2 i0 (.int .i64 0) 1 8 Try.underlying60 hi hz0 hz1 hz2 rfl (by decide) v l.length (i64c l) hs hown ⟨g0, 0, none⟩ 1 1 [.int .i64 z] hx rfl (fun j u hu => ?_) (fun u hu => by rw [List.mem_singleton.1 hu]; rfl) (by omega) (by unfold maxLen; omega) (by omega) hB w.heap.size rfl ?_
  · rw [Addr.add_lit]
    rcases j with _ | j
    · simp at hu; subst hu; exact hr
    · simp at hu
  intro g cap' w' hown' hgrow hor hlt
  refine h _ w' ?_ ⟨(Below.refl B w).grown hgrow hB (fun k hk => (hown.lt k hk).1), hgrow, ?_⟩
  · unfold OwnI
    rw [List.length_append]
    have : i64c (l ++ [z]) = i64c l ++ [.int .i64 z] := by simp [i64c]
    rw [this]
    exact hown'
  · rcases hor with e | e
    · exact Or.inl e.symm
    · right; rw [e]; rfl

/-- Numbers that rise by steps. -/
def kS (l : List Int) : Nat → Int
  | 0 => -100000
  | i + 1 => kS l i + (1 + l.getD i 0)
theorem getD_bd {l : List Int} (h : ∀ n ∈ l, 0 ≤ n ∧ n ≤ 65535) (i : Nat) : 0 ≤ l.getD i 0 ∧ l.getD i 0 ≤ 65535 := by
  rcases Nat.lt_or_ge i l.length with hi | hi
  · have e : l.getD i 0 = l[i] := by simp [List.getD, hi]
    rw [e]; exact h _ (List.getElem_mem hi)
  · simp [List.getD, hi]
theorem kS_step {l : List Int} (h : ∀ n ∈ l, 0 ≤ n ∧ n ≤ 65535) (i : Nat) : kS l i < kS l (i + 1) := by
  have := getD_bd h i
  show kS l i < kS l i + (1 + l.getD i 0)
  omega
theorem kS_lt {l : List Int} (h : ∀ n ∈ l, 0 ≤ n ∧ n ≤ 65535) {i j : Nat} (hij : i < j) : kS l i < kS l j := by
  induction hij with
  | refl => exact kS_step h i
  | step _ ih => exact Int.lt_trans ih (kS_step h _)
theorem kS_bd {l : List Int} (h : ∀ n ∈ l, 0 ≤ n ∧ n ≤ 65535) : ∀ i, -100000 ≤ kS l i ∧ kS l i ≤ -100000 + (i : Int) * 65536
  | 0 => by unfold kS; omega
  | i + 1 => by
    have := getD_bd h i
    have := kS_bd h i
    unfold kS; omega
def allK (l : List Int) (t : Nat) : List Int := (List.range t).map fun i => kS l (i + 1)
theorem allK_succ (l : List Int) (t : Nat) : allK l (t + 1) = allK l t ++ [kS l (t + 1)] := by unfold allK; rw [List.range_succ, List.map_append]; rfl
theorem allK_len (l : List Int) (t : Nat) : (allK l t).length = t := by simp [allK]
theorem allK_at (l : List Int) (t i : Nat) (h : i < t) : (allK l t).getD i 0 = kS l (i + 1) := by simp [allK, List.getD, h]
/-- How the ring stands behind t numbers that rise. -/
structure Rising (l : List Int) (M t : Nat) (s : Rs) : Prop where
  mo : s.M = M
  len : s.L.length = min t M
  at_ : ∀ i, i < s.L.length → keyAt s.L i = kS l (t - s.L.length + i + 1) ∧ thing s.L i = .int .i64 ((t - s.L.length + i : Nat) : Int)
theorem rising_none (l : List Int) (M : Nat) : Rising l M 0 (emptyR M) := ⟨rfl, by simp [emptyR], fun i hi => by simp [emptyR] at hi⟩
theorem rising_all {l : List Int} (hl : ∀ n ∈ l, 0 ≤ n ∧ n ≤ 65535) {M t : Nat} {s : Rs} (h : Rising l M t s) : untl s.L (kS l (t + 1)) = s.L.length ∧ isAt s.L (kS l (t + 1)) = false := by
  have hlt : ∀ i, i < s.L.length → keyAt s.L i < kS l (t + 1) := fun i hi => by
    rw [(h.at_ i hi).1]; exact kS_lt hl (by have := h.len; omega)
  have hu : untl s.L (kS l (t + 1)) = s.L.length := by
    unfold untl
    rw [List.countP_eq_length]
    intro p hp
    obtain ⟨i, hi, hk, _⟩ := mem_keyAt hp
    have := hlt i hi
    simp; omega
  refine ⟨hu, ?_⟩
  unfold isAt
  rw [hu]
  rcases hL : s.L.length with _ | j
  · simp
  · have := hlt j (by omega)
    simp only [Nat.add_sub_cancel]
    have hn : ¬ keyAt s.L j = kS l (t + 1) := by omega
    simp [hn]
theorem laid_end {L : List Pr} {k : Int} {x : Value} (h : untl L k = L.length) : laid L k x = L ++ [(k, x)] := by
  unfold laid; rw [h]; simp
theorem keyAt_app_l {L : List Pr} {p : Pr} {i : Nat} (h : i < L.length) : keyAt (L ++ [p]) i = keyAt L i ∧ thing (L ++ [p]) i = thing L i := by
  simp [keyAt, thing, List.getD, List.getElem?_append_left h]
theorem keyAt_app_r {L : List Pr} {p : Pr} : keyAt (L ++ [p]) L.length = p.1 ∧ thing (L ++ [p]) L.length = p.2 := by
  simp [keyAt, thing, List.getD]
theorem keyAt_tail (L : List Pr) (i : Nat) : keyAt L.tail i = keyAt L (i + 1) ∧ thing L.tail i = thing L (i + 1) := by
  cases L with
  | nil => simp [keyAt, thing, List.getD]
  | cons p L => exact ⟨rfl, rfl⟩
theorem rising_step {l : List Int} (hl : ∀ n ∈ l, 0 ≤ n ∧ n ≤ 65535) {M t : Nat} {s : Rs} (hM : 1 ≤ M) (h : Rising l M t s) :
    layA s (kS l (t + 1)) = (if t < M then (0, false, 0) else (kS l (t - M + 1), true, 0)) ∧ Rising l M (t + 1) (layS s (kS l (t + 1)) (.int .i64 (t : Int))) := by
  obtain ⟨hu, hat⟩ := rising_all hl h
  have hlen := h.len
  have hnew : ∀ i, i < s.L.length + 1 → keyAt (s.L ++ [(kS l (t + 1), .int .i64 (t : Int))]) i = kS l (t - s.L.length + i + 1) ∧ thing (s.L ++ [(kS l (t + 1), .int .i64 (t : Int))]) i = .int .i64 ((t - s.L.length + i : Nat) : Int) := by
    intro i hi
    rcases Nat.lt_or_ge i s.L.length with h1 | h1
    · rw [(keyAt_app_l h1).1, (keyAt_app_l h1).2]; exact h.at_ i h1
    · obtain rfl : i = s.L.length := by omega
      rw [keyAt_app_r.1, keyAt_app_r.2]
      have e : t - s.L.length + s.L.length = t := by omega
      rw [e]; exact ⟨rfl, rfl⟩
  by_cases ht : t < M
  · have hl' : s.L.length < s.M := by rw [h.mo]; omega
    obtain ⟨e1, e2⟩ := lay_fit (x := .int .i64 (t : Int)) hat hl'
    rw [if_pos ht, e1, e2, laid_end hu]
    refine ⟨rfl, h.mo, ?_, ?_⟩
    · show (s.L ++ [_]).length = _
      rw [List.length_append]; simp; omega
    · intro i hi
      have hi' : i < s.L.length + 1 := by simpa using hi
      have hq : (s.L ++ [((kS l (t + 1), Value.int .i64 (t : Int)) : Pr)]).length = s.L.length + 1 := by simp
      obtain ⟨e3, e4⟩ := hnew i hi'
      show keyAt (s.L ++ [_]) i = _ ∧ thing (s.L ++ [_]) i = _
      rw [e3, e4]
      show _ = kS l (t + 1 - (s.L ++ [_]).length + i + 1) ∧ _ = Value.int .i64 ((t + 1 - (s.L ++ [_]).length + i : Nat) : Int)
      rw [hq, show t + 1 - (s.L.length + 1) = t - s.L.length by omega]
      exact ⟨rfl, rfl⟩
  · have hl' : ¬ s.L.length < s.M := by rw [h.mo]; omega
    have hn' : ¬ (untl s.L (kS l (t + 1)) = 0 ∧ s.L.length = s.M) := by rw [hu]; omega
    obtain ⟨e1, e2⟩ := lay_full (x := .int .i64 (t : Int)) hat hn' hl'
    have hLM : s.L.length = M := by omega
    rw [if_neg ht, e1, e2, laid_end hu]
    have h0 := hnew 0 (by omega)
    refine ⟨by rw [h0.1, hLM, Nat.add_zero], h.mo, ?_, ?_⟩
    · show (s.L ++ [_]).tail.length = _
      rw [List.length_tail]; simp; omega
    · intro i hi
      have hq : (s.L ++ [((kS l (t + 1), Value.int .i64 (t : Int)) : Pr)]).tail.length = s.L.length := by rw [List.length_tail]; simp
      have hi' : i < s.L.length := by rw [← hq]; exact hi
      obtain ⟨e3, e4⟩ := hnew (i + 1) (by omega)
      show keyAt (s.L ++ [_]).tail i = _ ∧ thing (s.L ++ [_]).tail i = _
      rw [(keyAt_tail _ i).1, (keyAt_tail _ i).2, e3, e4]
      show _ = kS l (t + 1 - (s.L ++ [_]).tail.length + i + 1) ∧ _ = Value.int .i64 ((t + 1 - (s.L ++ [_]).tail.length + i : Nat) : Int)
      rw [hq, show t + 1 - s.L.length + i = t - s.L.length + (i + 1) by omega]
      exact ⟨rfl, rfl⟩
end Go.Proofs.Ytfpngbeomgfmfaa
