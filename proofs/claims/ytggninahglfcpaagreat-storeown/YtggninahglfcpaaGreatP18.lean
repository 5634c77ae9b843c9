/-
  Texts Rec22, Rec23, Arr, Fr8, Gm1, Gm2 in one.
-/
import Derived.WalkKit
import Derived.ProofKit
import Derived.OpenShut
import Derived.Lib.SmallJoins
import Derived.Deep.RegionHeld3
import Derived.Test.YtggninahglfcpaaGreatP17
namespace Go.Proofs.YtggninahglfcpaaGreat
open Go.RowKit
set_option linter.unusedVariables false

/-! rows of records -/
def recs (L : List Rc) : List Value := L.flatMap recC
theorem recs_len : ∀ L : List Rc, (recs L).length = L.length * 9
  | [] => rfl
  | r :: L => by
    have := recs_len L
    unfold recs at this ⊢
    have e : (recC r).length = 9 := rfl
    rw [List.flatMap_cons, List.length_append, this, e, List.length_cons]
    omega
theorem recs_snoc (L : List Rc) (r : Rc) : recs (L ++ [r]) = recs L ++ recC r := by unfold recs; simp
theorem recC_one (r : Rc) : ∀ u ∈ recC r, u.oneCell' = true := by
  intro u hu
  simp only [recC, List.mem_cons, List.not_mem_nil, or_false] at hu
  rcases hu with h | h | h | h | h | h | h | h | h <;> rw [h] <;> rfl
theorem recs_at : ∀ (L : List Rc) (i j : Nat) (x : Value), i < L.length → (recC (L.getD i noRec))[j]? = some x → (recs L)[i * 9 + j]? = some x
  | r :: L, 0, j, x, _, h => by
    have hj : j < 9 := (List.getElem?_eq_some_iff.1 h).1
    unfold recs
    rw [List.flatMap_cons, Nat.zero_mul, Nat.zero_add, List.getElem?_append_left (by exact hj)]
    exact h
  | r :: L, i + 1, j, x, hi, h => by
    have := recs_at L i j x (by simpa using hi) (by simpa using h)
    unfold recs at this ⊢
    rw [List.flatMap_cons, List.getElem?_append_right (by show 9 ≤ _; omega)]
    show (List.flatMap recC L)[(i + 1) * 9 + j - 9]? = some x
    rw [show (i + 1) * 9 + j - 9 = i * 9 + j by omega]
    exact this
/-- A value that a call owns, of these records. -/
def OwnR (w : World) (B : Nat) (v : Value) (L : List Rc) : Prop := w.ownsRow B 117 9 v L.length (recs L)
theorem OwnR.nil (w : World) (B : Nat) : OwnR w B (.slice none 0 0) [] := World.ownsRow_nil w B _ _
theorem OwnR.lt {w : World} {B : Nat} {v : Value} {L : List Rc} (h : OwnR w B v L) : ∀ k, v.ownBlock = some k → B ≤ k ∧ k < w.heap.size := World.ownsRow.lt h
theorem OwnR.below {w w' : World} {B : Nat} {v : Value} {L : List Rc} (h : OwnR w B v L) (hb : Below w.heap.size w w') : OwnR w' B v L := by
  refine ⟨h.1, ?_⟩
  rcases h.2 with hn | ⟨g, cap, cur, hv, hB, hg, rest⟩
  · exact Or.inl hn
  · exact Or.inr ⟨g, cap, cur, hv, hB, (hb.block g (Array.getElem?_eq_some_iff.1 hg).1).trans hg, rest⟩
theorem OwnR.grow {B B2 : Nat} {w w' : World} {u v v' : Value} {L : List Rc} (h : OwnR w B2 u L) (ha : Apart u v) (k : Grow B v w v' w') : OwnR w' B2 u L ∧ Apart u v' := by
  refine ⟨World.ownsRow.kept h k.by_ ha, ?_⟩
  rcases k.blk with e | e
  · unfold Apart at ha ⊢; rw [e]; exact ha
  · unfold Apart; rw [e]
    cases hb : u.ownBlock with
    | none => exact Or.inl rfl
    | some g =>
      right
      intro h'
      have := (h.lt g hb).2
      injection h' with h'
      omega
/-- The cells of record i. -/
theorem OwnR.cells {w : World} {B : Nat} {v : Value} {L : List Rc} (h : OwnR w B v L) (hl : L ≠ []) : ∃ g cap, v = .slice (some ⟨g, 0, none⟩) L.length cap ∧ B ≤ g ∧ g < w.heap.size ∧ L.length ≤ cap ∧ cap ≤ 9223372036854775807 ∧ ∀ i, i < L.length → ∀ j x, (recC (L.getD i noRec))[j]? = some x → w.cell? ⟨g, i * 9 + j, none⟩ = some x := by
  have hp := List.length_pos_iff.2 hl
  rcases h.2 with ⟨_, h0⟩ | ⟨g, cap, cur, hv, hb, hg, hc, hm, hs, ht⟩
  · omega
  · refine ⟨g, cap, hv, hb, (Array.getElem?_eq_some_iff.1 hg).1, hc, hm, fun i hi j x hx => ?_⟩
    have hj : j < 9 := (List.getElem?_eq_some_iff.1 hx).1
    have e := recs_at L i j x hi hx
    rw [← ht, List.getElem?_take, if_pos (by omega)] at e
    rw [cell_of_row w g (i * 9 + j) cur _ (0, 0) hg]
    simpa using e
theorem infoR : (Tryz.prog.info? 117).map (fun i => (i.zero, i.size, i.bytes)) = some (some (recV noRec), 9, 72) := by kernel_rfl

/-! records written one behind the other -/
def encR : Int → List Rc → List Int
  | _, [] => []
  | last, r :: rs => wrB r last ++ encR r.i rs
def lastR : Int → List Rc → Int
  | last, [] => last
  | last, r :: rs => lastR r.i rs
def chainR : Int → List Rc → Prop
  | _, [] => True
  | last, r :: rs => r.ok ∧ wrE r last = 0 ∧ chainR r.i rs
theorem encR_snoc : ∀ (L : List Rc) (last : Int) (r : Rc), encR last (L ++ [r]) = encR last L ++ wrB r (lastR last L)
  | [], last, r => by simp [encR, lastR]
  | s :: L, last, r => by
    show wrB s last ++ encR s.i (L ++ [r]) = (wrB s last ++ encR s.i L) ++ wrB r (lastR s.i L)
    rw [encR_snoc L s.i r, List.append_assoc]
theorem lastR_snoc : ∀ (L : List Rc) (last : Int) (r : Rc), lastR last (L ++ [r]) = r.i
  | [], last, r => rfl
  | s :: L, last, r => lastR_snoc L s.i r
theorem chainR_snoc : ∀ (L : List Rc) (last : Int) (r : Rc), chainR last L → r.ok → wrE r (lastR last L) = 0 → chainR last (L ++ [r])
  | [], last, r, _, ok, h => ⟨ok, h, trivial⟩
  | s :: L, last, r, hc, ok, h => ⟨hc.1, hc.2.1, chainR_snoc L s.i r hc.2.2 ok h⟩
theorem chainR_ok : ∀ (L : List Rc) (last : Int), chainR last L → Bytes (encR last L) ∧ (encR last L).length ≤ 68 * L.length
  | [], _, _ => ⟨Bytes.nil, by simp [encR]⟩
  | s :: L, last, hc => by
    have h1 := chainR_ok L s.i hc.2.2
    have h2 := wr_len (last := last) hc.1
    refine ⟨(wr_ok hc.1).append h1.1, ?_⟩
    show (wrB s last ++ encR s.i L).length ≤ _
    rw [List.length_append, List.length_cons]
    omega
/-- One record off the row's rest. -/
theorem chain_read {last : Int} {r : Rc} {rs : List Rc} (h : chainR last (r :: rs)) (n : Int) :
    redT ⟨encR last (r :: rs), n, 0⟩ last = r ∧ redS ⟨encR last (r :: rs), n, 0⟩ last = ⟨encR r.i rs, n + (wrB r last).length, 0⟩ ∧ redE ⟨encR last (r :: rs), n, 0⟩ last = 0 :=
  wr_read h.1 h.2.1 (encR r.i rs) n
/-- Which records are kept, and their bytes. -/
def rowL (A : Nat → Rc) : Nat → List Rc
  | 0 => []
  | k + 1 => if wrE (A k) (lastR (-1) (rowL A k)) = 0 then rowL A k ++ [A k] else rowL A k
theorem row_ok (A : Nat → Rc) : ∀ n, (∀ i, i < n → (A i).ok) → chainR (-1) (rowL A n) ∧ (rowL A n).length ≤ n
  | 0, _ => ⟨trivial, by simp [rowL]⟩
  | k + 1, h => by
    have hk := row_ok A k (fun i hi => h i (by omega))
    unfold rowL
    split
    · rename_i he
      exact ⟨chainR_snoc _ _ _ hk.1 (h k (by omega)) he, by rw [List.length_append]; simp; omega⟩
    · exact ⟨hk.1, by omega⟩
end Go.Proofs.YtggninahglfcpaaGreat

namespace Go.Proofs.YtggninahglfcpaaGreat
open Go.RowKit
set_option linter.unusedVariables false

theorem grow_op {w : World} {o : Oper} {a : Act} {K : Act → World → Prop} {Q : Exit → Act → World → Prop} (s x : Operand)
    (ho : o.op = .call { callee := .builtin .append, args := #[s, x], argTypes := #[32, 32] })
    (B : Nat) (v : Value) (l : List Int) (hs : a.eval s = v) (hown : Own w B v l) (u : Value) (r : List Int) (hx : a.eval x = u) (hr : Rd w u r) (hne : r ≠ []) (hlen : l.length + r.length ≤ 140737488355328) (hB : B ≤ w.heap.size)
    (h : ∀ v' w', Own w' B v' (l ++ r) → Grow B v w v' w' → K (a.put o.dst v') w') : o.wp Tryz.prog a w K Q := by
  obtain ⟨i0, hi, hz0, hz1, hz2⟩ := info_parts info8
  obtain ⟨ao, cap, rfl, h1, h2, hn, h3⟩ := hr
  obtain ⟨b, o', rfl, hat⟩ := h3.resolve_left hne
  have hp := List.length_pos_iff.2 hne
  refine wp_append_lies w s x 32 ho B 5 i0 (.int .u8 0) 1 1 Tryz.underlying32 hi hz0 hz1 hz2 rfl (by decide) v l.length (u8s l) hs hown ⟨b, o', none⟩ r.length cap (u8s r) hx (by rw [u8s_len, Nat.mul_one]) hat.news (u8s_one r) hp (by unfold maxLen; omega) (by omega) hB w.heap.size rfl ?_
  intro g cap' w' hown' hgrow hor hlt
  refine h _ w' ?_ ⟨(Below.refl B w).grown hgrow hB hown.row, hgrow, ?_⟩
  · unfold Own
    rw [List.length_append, ← u8s_app]
    exact hown'
  · rcases hor with e | e
    · exact Or.inl e.symm
    · right; rw [e]; rfl
theorem grow_step {w : World} {ops : Array Oper} {o : Oper} {a : Act} {K : Act → World → Prop} {Q : Exit → Act → World → Prop} {E : Prop} (hgd : o.guard = none) (d : Option Nat) (hd : o.dst = d) (s x : Operand)
    (ho : o.op = .call { callee := .builtin .append, args := #[s, x], argTypes := #[32, 32] })
    (B : Nat) (v : Value) (l : List Int) (hs : a.eval s = v) (hown : Own w B v l) (u : Value) (r : List Int) (hx : a.eval x = u) (hr : Rd w u r) (hne : r ≠ []) (hlen : l.length + r.length ≤ 140737488355328) (hB : B ≤ w.heap.size)
    (h : ∀ v' w', Own w' B v' (l ++ r) → Grow B v w v' w' → K (a.put d v') w') :
    if Region.wanted o (yielded ops a.tmps) = true then Oper.wp Tryz.prog o a w K Q else E := by
  subst hd
  have hw : Region.wanted o (yielded ops a.tmps) = true := by simp [Region.wanted, hgd]
  rw [if_pos hw]
  exact grow_op s x ho B v l hs hown u r hx hr hne hlen hB h
theorem OwnR.row {w : World} {B : Nat} {v : Value} {L : List Rc} (h : OwnR w B v L) : ∀ k, v.ownBlock = some k → B ≤ k := fun k hk => (h.lt k hk).1
theorem growR_op {w : World} {o : Oper} {a : Act} {K : Act → World → Prop} {Q : Exit → Act → World → Prop} (s x : Operand)
    (ho : o.op = .call { callee := .builtin .append, args := #[s, x], argTypes := #[55, 55] })
    (B : Nat) (v : Value) (L : List Rc) (hs : a.eval s = v) (hown : OwnR w B v L) (g0 : Nat) (r : Rc) (hx : a.eval x = .slice (some ⟨g0, 0, none⟩) 1 1)
    (hr : ∀ j u, (recC r)[j]? = some u → w.cell? ⟨g0, j, none⟩ = some u) (hlen : L.length ≤ 1000000) (hB : B ≤ w.heap.size)
    (h : ∀ v' w', OwnR w' B v' (L ++ [r]) → Grow B v w v' w' → K (a.put o.dst v') w') : o.wp Tryz.prog a w K Q := by
  obtain ⟨i0, hi, hz0, hz1, hz2⟩ := info_parts infoR
  refine wp_append_lies w s x 55 ho B 117 i0 (recV noRec) 9 72 Tryz.underlying55 hi hz0 hz1 hz2 rfl (by decide) v L.length (recs L) hs hown ⟨g0, 0, none⟩ 1 1 (recC r) hx rfl (fun j u hu => by rw [Addr.add_lit, Nat.zero_add]; exact hr j u hu) (recC_one r) (by omega) (by unfold maxLen; omega) (by omega) hB w.heap.size rfl ?_
  intro g cap' w' hown' hgrow hor hlt
  refine h _ w' ?_ ⟨(Below.refl B w).grown hgrow hB hown.row, hgrow, ?_⟩
  · unfold OwnR
    rw [List.length_append, recs_snoc]
    exact hown'
  · rcases hor with e | e
    · exact Or.inl e.symm
    · right; rw [e]; rfl
theorem growR_step {w : World} {ops : Array Oper} {o : Oper} {a : Act} {K : Act → World → Prop} {Q : Exit → Act → World → Prop} {E : Prop} (hgd : o.guard = none) (d : Option Nat) (hd : o.dst = d) (s x : Operand)
    (ho : o.op = .call { callee := .builtin .append, args := #[s, x], argTypes := #[55, 55] })
    (B : Nat) (v : Value) (L : List Rc) (hs : a.eval s = v) (hown : OwnR w B v L) (g0 : Nat) (r : Rc) (hx : a.eval x = .slice (some ⟨g0, 0, none⟩) 1 1)
    (hr : ∀ j u, (recC r)[j]? = some u → w.cell? ⟨g0, j, none⟩ = some u) (hlen : L.length ≤ 1000000) (hB : B ≤ w.heap.size)
    (h : ∀ v' w', OwnR w' B v' (L ++ [r]) → Grow B v w v' w' → K (a.put d v') w') :
    if Region.wanted o (yielded ops a.tmps) = true then Oper.wp Tryz.prog o a w K Q else E := by
  subst hd
  have hw : Region.wanted o (yielded ops a.tmps) = true := by simp [Region.wanted, hgd]
  rw [if_pos hw]
  exact growR_op s x ho B v L hs hown g0 r hx hr hlen hB h
/-- Rows whose blocks lie on two sides of a mark. -/
theorem Apart.of {u v : Value} (X : Nat) (hu : ∀ k, u.ownBlock = some k → X ≤ k) (hv : ∀ k, v.ownBlock = some k → k < X) : Apart u v := by
  unfold Apart
  cases h : u.ownBlock with
  | none => exact Or.inl rfl
  | some g =>
    right
    intro h'
    have h1 := hu g h
    have h2 := hv g h'.symm
    omega
theorem lastR_bd : ∀ (L : List Rc) (last : Int), chainR last L → -1 ≤ last → last ≤ 65535 → -1 ≤ lastR last L ∧ lastR last L ≤ 65535
  | [], _, _, h0, h1 => ⟨h0, h1⟩
  | s :: L, last, hc, h0, h1 => by
    have h2 := wrE_ok hc.2.1
    have h3 := (chk_ok h2.1).2.1
    exact lastR_bd L s.i hc.2.2 (by omega) (by omega)
theorem rowL_no {A : Nat → Rc} {k : Nat} (h : wrE (A k) (lastR (-1) (rowL A k)) ≠ 0) : rowL A (k + 1) = rowL A k := by
  show (if _ then _ else _) = _
  rw [if_neg h]
theorem rowL_yes {A : Nat → Rc} {k : Nat} (h : wrE (A k) (lastR (-1) (rowL A k)) = 0) : rowL A (k + 1) = rowL A k ++ [A k] := by
  show (if _ then _ else _) = _
  rw [if_pos h]
theorem OwnR.form {w : World} {B : Nat} {v : Value} {L : List Rc} (h : OwnR w B v L) : ∃ ao cap, v = .slice ao L.length cap := by
  rcases h.2 with ⟨rfl, h0⟩ | ⟨g, cap, cur, hv, _⟩
  · exact ⟨none, 0, by rw [h0]⟩
  · exact ⟨_, cap, hv⟩
theorem OwnR.ch {R B : Nat} {w w' : World} {v : Value} {L : List Rc} (h : OwnR w B v L) (k : Ch R w w') (hlt : ∀ g, v.ownBlock = some g → g < R) : OwnR w' B v L := by
  refine ⟨h.1, ?_⟩
  rcases h.2 with hn | ⟨g, cap, cur, hv, hB, hg, rest⟩
  · exact Or.inl hn
  · have h1 := hlt g (by rw [hv]; rfl)
    exact Or.inr ⟨g, cap, cur, hv, hB, (k.below.block g h1).trans hg, rest⟩
theorem lastR_take : ∀ (L : List Rc) (last : Int) (j : Nat), j < L.length → lastR last (L.take (j + 1)) = (L.getD j noRec).i
  | s :: L, last, 0, _ => by simp [lastR]
  | s :: L, last, j + 1, h => by
    have := lastR_take L s.i j (by simpa using h)
    simpa [lastR] using this
theorem chainR_drop : ∀ (L : List Rc) (last : Int) (j : Nat), chainR last L → chainR (lastR last (L.take j)) (L.drop j)
  | [], last, j, h => by simp [lastR, chainR]
  | s :: L, last, 0, h => by simpa [lastR] using h
  | s :: L, last, j + 1, h => by
    have := chainR_drop L s.i j h.2.2
    simpa [lastR] using this
theorem drop_cons {L : List Rc} {j : Nat} (h : j < L.length) : L.drop j = L.getD j noRec :: L.drop (j + 1) := by
  rw [List.drop_eq_getElem_cons h]; simp [List.getD, h]
end Go.Proofs.YtggninahglfcpaaGreat

namespace Go.Proofs.YtggninahglfcpaaGreat
open Go.ChangeShapes Go.WideShapes Go.ChangeAt Go.RowKit Go.Joins
variable {H : Type} {enc : TypeId × Value → H} {P : Program} {w : World} {base : Nat} {spare : Nat → Bool} {held : Bool}

theorem okWide_arr {r : Reach} {b0 n : Nat} {t e : TypeId} {v : Value} (ht : P.underlying t = some (.array n e)) (h : Value.okWide P w r b0 t v) : ∃ cs, v = .agg cs ∧ cs.size = P.cellsOf t := by
  simp only [Value.okWide, ht] at h
  obtain ⟨cs, h1, h2, _⟩ := h
  exact ⟨cs, h1, h2⟩

theorem open_arr2 {r : Reach} {b0 : Nat} {t e : TypeId} {v : Value} {d : DataW H} {p : List MemPlace} (ht : P.underlying t = some (.array 2 e)) (he : P.underlying e = some (.int .i64)) (hC : P.cellsOf t = 2) (hE : P.cellsOf e = 1)
    (hv : Value.okWide P w r b0 t v) (h : DataW.Trod enc P w base spare held t v d p) :
    ∃ a b : Int, v = .agg #[.int .i64 a, .int .i64 b] ∧ d = .agg [.lit (.int .i64 a), .lit (.int .i64 b)] ∧ p = [] ∧ (Lit.int .i64 a).wf = true ∧ (Lit.int .i64 b).wf = true := by
  obtain ⟨cs, rfl, hsz⟩ := okWide_arr ht hv
  obtain ⟨c0, c1, rfl⟩ := array2 (hsz.trans hC)
  obtain ⟨fuel, hf⟩ := h
  obtain ⟨xs, m, rfl, hx, _, hl, hi⟩ := DataW.trod_array ht hf
  match xs, hl with
  | [y0, y1], _ =>
    have h0 := hi 0 (by omega)
    have h1 := hi 1 (by omega)
    simp [Value.cells, hE] at h0 h1
    obtain ⟨a, e0, rfl, wa⟩ := DataW.trod_int he h0
    obtain ⟨b, e1, rfl, wb⟩ := DataW.trod_int he h1
    simp at e0 e1
    subst e0 e1
    simp at hx
    exact ⟨a, b, rfl, hx.1, hx.2, wa, wb⟩
theorem open_arr3 {r : Reach} {b0 : Nat} {t e : TypeId} {v : Value} {d : DataW H} {p : List MemPlace} (ht : P.underlying t = some (.array 3 e)) (he : P.underlying e = some (.int .i64)) (hC : P.cellsOf t = 3) (hE : P.cellsOf e = 1)
    (hv : Value.okWide P w r b0 t v) (h : DataW.Trod enc P w base spare held t v d p) :
    ∃ a b c : Int, v = .agg #[.int .i64 a, .int .i64 b, .int .i64 c] ∧ d = .agg [.lit (.int .i64 a), .lit (.int .i64 b), .lit (.int .i64 c)] ∧ p = [] ∧ (Lit.int .i64 a).wf = true ∧ (Lit.int .i64 b).wf = true ∧ (Lit.int .i64 c).wf = true := by
  obtain ⟨cs, rfl, hsz⟩ := okWide_arr ht hv
  obtain ⟨c0, c1, c2, rfl⟩ := array3 (hsz.trans hC)
  obtain ⟨fuel, hf⟩ := h
  obtain ⟨xs, m, rfl, hx, _, hl, hi⟩ := DataW.trod_array ht hf
  match xs, hl with
  | [y0, y1, y2], _ =>
    have h0 := hi 0 (by omega)
    have h1 := hi 1 (by omega)
    have h2 := hi 2 (by omega)
    simp [Value.cells, hE] at h0 h1 h2
    obtain ⟨a, e0, rfl, wa⟩ := DataW.trod_int he h0
    obtain ⟨b, e1, rfl, wb⟩ := DataW.trod_int he h1
    obtain ⟨c, e2, rfl, wc⟩ := DataW.trod_int he h2
    simp at e0 e1 e2
    subst e0 e1 e2
    simp at hx
    exact ⟨a, b, c, rfl, hx.1, hx.2, wa, wb, wc⟩
theorem shut_arr2 {t e : TypeId} {a b : Int} (ht : P.underlying t = some (.array 2 e)) (he : P.underlying e = some (.int .i64)) (hC : P.cellsOf t = 2) (hE : P.cellsOf e = 1)
    (wa : (Lit.int .i64 a).wf = true) (wb : (Lit.int .i64 b).wf = true) :
    DataW.Trod enc P w base spare held t (.agg #[.int .i64 a, .int .i64 b]) (.agg [.lit (.int .i64 a), .lit (.int .i64 b)]) [] := by
  refine ⟨2, ?_⟩
  have r2 : List.range 2 = [0, 1] := rfl
  simp [DataW.trod, Value.cells, ht, he, hC, hE, r2, wa, wb]
theorem shut_arr3 {t e : TypeId} {a b c : Int} (ht : P.underlying t = some (.array 3 e)) (he : P.underlying e = some (.int .i64)) (hC : P.cellsOf t = 3) (hE : P.cellsOf e = 1)
    (wa : (Lit.int .i64 a).wf = true) (wb : (Lit.int .i64 b).wf = true) (wc : (Lit.int .i64 c).wf = true) :
    DataW.Trod enc P w base spare held t (.agg #[.int .i64 a, .int .i64 b, .int .i64 c]) (.agg [.lit (.int .i64 a), .lit (.int .i64 b), .lit (.int .i64 c)]) [] := by
  refine ⟨2, ?_⟩
  have r3 : List.range 3 = [0, 1, 2] := rfl
  simp [DataW.trod, Value.cells, ht, he, hC, hE, r3, wa, wb, wc]
/-- Three cells that are read as an array of three int64. -/
theorem trod_three {fuel : Nat} {e i : TypeId} {c0 c1 c2 : Value} {x : DataW H × List MemPlace} (he : P.underlying e = some (.array 3 i)) (hi : P.underlying i = some (.int .i64)) (hI : P.cellsOf i = 1)
    (h : DataW.trod enc P w base spare held fuel e [c0, c1, c2] = some x) :
    ∃ a b c : Int, c0 = .int .i64 a ∧ c1 = .int .i64 b ∧ c2 = .int .i64 c ∧ x = (.agg [.lit (.int .i64 a), .lit (.int .i64 b), .lit (.int .i64 c)], []) ∧ (Lit.int .i64 a).wf = true ∧ (Lit.int .i64 b).wf = true ∧ (Lit.int .i64 c).wf = true := by
  obtain ⟨xs, m, rfl, hx, _, hl, hk⟩ := DataW.trod_array he h
  match xs, hl with
  | [y0, y1, y2], _ =>
    have h0 := hk 0 (by omega)
    have h1 := hk 1 (by omega)
    have h2 := hk 2 (by omega)
    simp [hI] at h0 h1 h2
    obtain ⟨a, e0, rfl, wa⟩ := DataW.trod_int hi h0
    obtain ⟨b, e1, rfl, wb⟩ := DataW.trod_int hi h1
    obtain ⟨c, e2, rfl, wc⟩ := DataW.trod_int hi h2
    simp at e0 e1 e2
    subst e0 e1 e2
    simp at hx
    exact ⟨a, b, c, rfl, rfl, rfl, hx, wa, wb, wc⟩
theorem open_arr23 {r : Reach} {b0 : Nat} {t e i : TypeId} {v : Value} {d : DataW H} {p : List MemPlace} (ht : P.underlying t = some (.array 2 e)) (he : P.underlying e = some (.array 3 i)) (hi : P.underlying i = some (.int .i64)) (hC : P.cellsOf t = 6) (hE : P.cellsOf e = 3) (hI : P.cellsOf i = 1)
    (hv : Value.okWide P w r b0 t v) (h : DataW.Trod enc P w base spare held t v d p) :
    ∃ a b c a' b' c' : Int, v = .agg #[.int .i64 a, .int .i64 b, .int .i64 c, .int .i64 a', .int .i64 b', .int .i64 c'] ∧ d = .agg [.agg [.lit (.int .i64 a), .lit (.int .i64 b), .lit (.int .i64 c)], .agg [.lit (.int .i64 a'), .lit (.int .i64 b'), .lit (.int .i64 c')]] ∧ p = [] ∧
      (Lit.int .i64 a).wf = true ∧ (Lit.int .i64 b).wf = true ∧ (Lit.int .i64 c).wf = true ∧ (Lit.int .i64 a').wf = true ∧ (Lit.int .i64 b').wf = true ∧ (Lit.int .i64 c').wf = true := by
  obtain ⟨cs, rfl, hsz⟩ := okWide_arr ht hv
  rw [hC] at hsz
  obtain ⟨l⟩ := cs
  match l, hsz with
  | [c0, c1, c2, c3, c4, c5], _ =>
    obtain ⟨fuel, hf⟩ := h
    obtain ⟨xs, m, rfl, hx, _, hl, hk⟩ := DataW.trod_array ht hf
    match xs, hl with
    | [y0, y1], _ =>
      have h0 := hk 0 (by omega)
      have h1 := hk 1 (by omega)
      simp [Value.cells, hE] at h0 h1
      obtain ⟨a, b, c, rfl, rfl, rfl, rfl, wa, wb, wc⟩ := trod_three he hi hI h0
      obtain ⟨a', b', c', rfl, rfl, rfl, rfl, wa', wb', wc'⟩ := trod_three he hi hI h1
      simp at hx
      exact ⟨a, b, c, a', b', c', rfl, hx.1, hx.2, wa, wb, wc, wa', wb', wc'⟩
theorem shut_arr23 {t e i : TypeId} {a b c a' b' c' : Int} (ht : P.underlying t = some (.array 2 e)) (he : P.underlying e = some (.array 3 i)) (hi : P.underlying i = some (.int .i64)) (hC : P.cellsOf t = 6) (hE : P.cellsOf e = 3) (hI : P.cellsOf i = 1)
    (wa : (Lit.int .i64 a).wf = true) (wb : (Lit.int .i64 b).wf = true) (wc : (Lit.int .i64 c).wf = true) (wa' : (Lit.int .i64 a').wf = true) (wb' : (Lit.int .i64 b').wf = true) (wc' : (Lit.int .i64 c').wf = true) :
    DataW.Trod enc P w base spare held t (.agg #[.int .i64 a, .int .i64 b, .int .i64 c, .int .i64 a', .int .i64 b', .int .i64 c']) (.agg [.agg [.lit (.int .i64 a), .lit (.int .i64 b), .lit (.int .i64 c)], .agg [.lit (.int .i64 a'), .lit (.int .i64 b'), .lit (.int .i64 c')]]) [] := by
  refine ⟨3, ?_⟩
  have r2 : List.range 2 = [0, 1] := rfl
  have r3 : List.range 3 = [0, 1, 2] := rfl
  simp [DataW.trod, Value.cells, ht, he, hi, hC, hE, hI, r2, r3, wa, wb, wc, wa', wb', wc']
end Go.Proofs.YtggninahglfcpaaGreat

namespace Go.Proofs.YtggninahglfcpaaGreat
open Go.ChangeShapes Go.WideShapes Go.ChangeAt Go.RowKit Go.Joins
set_option linter.unusedVariables false
variable {H : Type} {enc : TypeId × Value → H}

theorem trod_struct5 {P : Program} {w : World} {base : Nat} {spare : Nat → Bool} {held : Bool} {t : TypeId} {f0 f1 f2 f3 f4 : Field} {fuel : Nat} {cs : List Value} {x : DataW H × List MemPlace} (ht : P.underlying t = some (.struct #[f0, f1, f2, f3, f4])) (h : DataW.trod enc P w base spare held fuel t cs = some x) :
    ∃ y0 y1 y2 y3 y4 n, cs.length = P.cellsOf t ∧
      DataW.trod enc P w base spare held n f0.type ((cs.drop f0.offset).take (P.cellsOf f0.type)) = some y0 ∧ DataW.trod enc P w base spare held n f1.type ((cs.drop f1.offset).take (P.cellsOf f1.type)) = some y1 ∧
      DataW.trod enc P w base spare held n f2.type ((cs.drop f2.offset).take (P.cellsOf f2.type)) = some y2 ∧ DataW.trod enc P w base spare held n f3.type ((cs.drop f3.offset).take (P.cellsOf f3.type)) = some y3 ∧
      DataW.trod enc P w base spare held n f4.type ((cs.drop f4.offset).take (P.cellsOf f4.type)) = some y4 := by
  obtain ⟨xs, n, _, rfl, hl, hlen, hf⟩ := DataW.trod_struct ht h
  match xs, hlen with
  | [y0, y1, y2, y3, y4], _ => exact ⟨y0, y1, y2, y3, y4, n, hl, by simpa using hf 0 f0 rfl, by simpa using hf 1 f1 rfl, by simpa using hf 2 f2 rfl, by simpa using hf 3 f3 rfl, by simpa using hf 4 f4 rfl⟩
theorem cells_rec : Tryz.prog.cellsOf 117 = 9 := by kernel_rfl
theorem cells_ent : Tryz.prog.cellsOf 71 = 9 := by kernel_rfl
theorem cells_int : Tryz.prog.cellsOf 3 = 1 := by kernel_rfl
theorem cells_i64 : Tryz.prog.cellsOf 2 = 1 := by kernel_rfl
theorem cells_v3 : Tryz.prog.cellsOf 69 = 3 := by kernel_rfl
theorem cells_u16 : Tryz.prog.cellsOf 68 = 1 := by kernel_rfl
theorem cells_u8 : Tryz.prog.cellsOf 5 = 1 := by kernel_rfl
theorem wf_u16 {n : Int} (h : (Lit.int .u16 n).wf = true) : 0 ≤ n ∧ n ≤ 65535 := bounds_u16 h
set_option maxRecDepth 20000 in
theorem trod_rec {w : World} {base : Nat} {spare : Nat → Bool} {held : Bool} {fuel : Nat} {cs : List Value} {x : DataW H × List MemPlace} (h : DataW.trod enc Tryz.prog w base spare held fuel 117 cs = some x) : ∃ r : Rc, cs = recC r ∧ r.ok := by
  obtain ⟨y0, y1, y2, y3, y4, n, hl, g0, g1, g2, g3, g4⟩ := trod_struct5 Tryz.underlying117 h
  rw [cells_rec] at hl
  match cs, hl with
  | [c0, c1, c2, c3, c4, c5, c6, c7, c8], _ =>
    simp [cells_int, cells_v3, cells_u16] at g0 g1 g2 g3 g4
    obtain ⟨z0, e0, _, w0⟩ := DataW.trod_int Tryz.underlying3 g0
    obtain ⟨z1, e1, _, w1⟩ := DataW.trod_int Tryz.underlying3 g1
    obtain ⟨a, b, c, rfl, rfl, rfl, _, wa, wb, wc⟩ := trod_three Tryz.underlying69 Tryz.underlying2 cells_i64 g2
    obtain ⟨a', b', c', rfl, rfl, rfl, _, wa', wb', wc'⟩ := trod_three Tryz.underlying69 Tryz.underlying2 cells_i64 g3
    obtain ⟨z4, e4, _, w4⟩ := DataW.trod_int Tryz.underlying68 g4
    simp at e0 e1 e4
    subst e0 e1 e4
    exact ⟨⟨z0, z1, a, b, c, a', b', c', z4⟩, rfl, wf_i64 w0, wf_i64 w1, wf_i64 wa, wf_i64 wb, wf_i64 wc, wf_i64 wa', wf_i64 wb', wf_i64 wc', wf_u16 w4⟩
set_option maxRecDepth 20000 in
theorem trod_ent {w : World} {base : Nat} {spare : Nat → Bool} {held : Bool} {fuel : Nat} {cs : List Value} {x : DataW H × List MemPlace} (h : DataW.trod enc Tryz.prog w base spare held fuel 71 cs = some x) : ∃ r : En, cs = entC r ∧ r.ok := by
  obtain ⟨y0, y1, y2, y3, y4, n, hl, g0, g1, g2, g3, g4⟩ := trod_struct5 Tryz.underlying71 h
  rw [cells_ent] at hl
  match cs, hl with
  | [c0, c1, c2, c3, c4, c5, c6, c7, c8], _ =>
    simp [cells_int, cells_v3, cells_u16, cells_u8] at g0 g1 g2 g3 g4
    obtain ⟨z0, e0, _, w0⟩ := DataW.trod_int Tryz.underlying3 g0
    obtain ⟨a, b, c, rfl, rfl, rfl, _, wa, wb, wc⟩ := trod_three Tryz.underlying69 Tryz.underlying2 cells_i64 g1
    obtain ⟨a', b', c', rfl, rfl, rfl, _, wa', wb', wc'⟩ := trod_three Tryz.underlying69 Tryz.underlying2 cells_i64 g2
    obtain ⟨z3, e3, _, w3⟩ := DataW.trod_int Tryz.underlying68 g3
    obtain ⟨z4, e4, _, w4⟩ := DataW.trod_int Tryz.underlying5 g4
    simp at e0 e3 e4
    subst e0 e3 e4
    exact ⟨⟨z0, a, b, c, a', b', c', z3, z4⟩, rfl, wf_i64 w0, wf_i64 wa, wf_i64 wb, wf_i64 wc, wf_i64 wa', wf_i64 wb', wf_i64 wc', wf_u16 w3, wf_u8 w4⟩
set_option maxRecDepth 20000 in
theorem open_rec {W : World} {base : Nat} {v : Value} {d : DataW H} {p : List MemPlace} (hval : Value.okWide Tryz.prog W .any base 117 v) (h : DataW.Trod enc Tryz.prog W 0 (fun _ => true) true 117 v d p) : ∃ r : Rc, v = recV r ∧ r.ok := by
  obtain ⟨cs, rfl, _⟩ := okWide_struct Tryz.underlying117 hval
  obtain ⟨fuel, hf⟩ := h
  obtain ⟨r, e, ok⟩ := trod_rec hf
  refine ⟨r, ?_, ok⟩
  have : cs = (recC r).toArray := by simpa [Value.cells] using congrArg List.toArray e
  rw [this]
set_option maxRecDepth 20000 in
theorem open_ent {W : World} {base : Nat} {v : Value} {d : DataW H} {p : List MemPlace} (hval : Value.okWide Tryz.prog W .any base 71 v) (h : DataW.Trod enc Tryz.prog W 0 (fun _ => true) true 71 v d p) : ∃ r : En, v = entV r ∧ r.ok := by
  obtain ⟨cs, rfl, _⟩ := okWide_struct Tryz.underlying71 hval
  obtain ⟨fuel, hf⟩ := h
  obtain ⟨r, e, ok⟩ := trod_ent hf
  refine ⟨r, ?_, ok⟩
  have : cs = (entC r).toArray := by simpa [Value.cells] using congrArg List.toArray e
  rw [this]
/-- A value that reads as these records, by their places. -/
def RdR (w : World) (v : Value) (n : Nat) (A : Nat → Rc) : Prop :=
  ∃ ao cap, v = .slice ao n cap ∧ n ≤ cap ∧ cap ≤ 9223372036854775807 ∧ (n = 0 ∨ ∃ b o, ao = some ⟨b, o, none⟩ ∧ ∀ i, i < n → ∀ j x, (recC (A i))[j]? = some x → w.cell? ⟨b, o + i * 9 + j, none⟩ = some x)
set_option maxRecDepth 20000 in
theorem open_recs {W : World} {base : Nat} {v : Value} {d : DataW H} {p : List MemPlace} (hval : Value.okWide Tryz.prog W .any base 55 v) (h : DataW.Trod enc Tryz.prog W 0 (fun _ => true) true 55 v d p) :
    ∃ (n : Nat) (A : Nat → Rc), (∀ i, i < n → (A i).ok) ∧ RdR W v n A := by
  obtain ⟨a1, len, cap1, rfl⟩ := okWide_slice Tryz.underlying55 hval
  obtain ⟨fuel, hf⟩ := h
  rcases Go.Deep.open_slice Tryz.underlying55 hf with ⟨hcs, hx⟩ | ⟨a, len2, cap, m, n, D, Pl, hcs, _, hl, hm, hmm, hx, hel⟩
  · simp [Value.cells] at hcs
    obtain ⟨rfl, rfl, rfl⟩ := hcs
    exact ⟨0, fun _ => noRec, fun i hi => by omega, none, 0, rfl, Nat.le_refl _, by omega, Or.inl rfl⟩
  · simp [Value.cells] at hcs
    obtain ⟨rfl, rfl, rfl⟩ := hcs
    simp only [if_true] at hmm
    subst hmm
    rw [cells_rec] at hel
    have each : ∀ i, i < m → ∃ r : Rc, (∀ j x, (recC r)[j]? = some x → W.cell? (a.add (i * 9 + j)) = some x) ∧ r.ok := by
      intro i hi
      obtain ⟨cs', h1, h2⟩ := hel i hi
      obtain ⟨_, hlen, hcell⟩ := World.cells?_some h1
      obtain ⟨r, rfl, ok⟩ := trod_rec h2
      refine ⟨r, fun j x hj => ?_, ok⟩
      have hj' : j < 9 := (List.getElem?_eq_some_iff.1 hj).1
      have c := hcell j (by exact hj')
      rw [Go.Deep.add_add] at c
      rw [c]; exact hj
    haveI : Inhabited Rc := ⟨noRec⟩
    obtain ⟨A, hA⟩ := Go.Deep.choose_lt each
    refine ⟨len, A, fun i hi => (hA i (by omega)).2, some a, m, rfl, hl, hm, ?_⟩
    by_cases h0 : len = 0
    · exact Or.inl h0
    · right
      obtain ⟨ab, ao, spot⟩ := a
      have hspot : spot = none := by simpa [Addr.add] using World.cell?_spot ((hA 0 (by omega)).1 0 _ rfl)
      subst hspot
      refine ⟨ab, ao, rfl, fun i hi j x hj => ?_⟩
      have := (hA i (by omega)).1 j x hj
      simp only [Addr.add_lit] at this
      rw [Nat.add_assoc]; exact this
theorem RdR.below {w w' : World} {v : Value} {n : Nat} {A : Nat → Rc} (h : RdR w v n A) (hb : Below w.heap.size w w') : RdR w' v n A := by
  obtain ⟨ao, cap, rfl, h1, h2, h3⟩ := h
  refine ⟨ao, cap, rfl, h1, h2, ?_⟩
  rcases h3 with h | ⟨b, o, rfl, h⟩
  · exact Or.inl h
  · refine Or.inr ⟨b, o, rfl, fun i hi j x hj => ?_⟩
    have c := h i hi j x hj
    exact (hb.cell (p := ⟨b, o + i * 9 + j, none⟩) (World.block_lt_of_cell? w _ c)).trans c
end Go.Proofs.YtggninahglfcpaaGreat

namespace Go.Proofs.YtggninahglfcpaaGreat
open Go.RowKit
set_option linter.unusedVariables false

/-! what goes ahead of the records -/
structure Gm where
  t : Int
  m : Int
  b : Int
structure Gm.ok (g : Gm) : Prop where
  t : S64 g.t
  m : S64 g.m
  b : S64 g.b
@[reducible] def gmV (g : Gm) (v : Value) : Value := .agg #[.int .i64 g.t, .int .i64 g.m, .int .i64 g.b, v]
@[reducible] def gmA (g : Gm) (v : Value) : Array Value := #[.int .i64 g.t, .int .i64 g.m, .int .i64 g.b, v]
@[reducible] def gmC (g : Gm) (v : Value) : List Value := [.int .i64 g.t, .int .i64 g.m, .int .i64 g.b, v]
def timB (x : Int) : Bool := decide (-2305843009213693952 ≤ x) && decide (x ≤ 2305843009213693952)
def hedE (g : Gm) (n : Nat) : Int :=
  if g.t < 0 ∨ 4294967295 < g.t ∨ timB g.m = false ∨ g.b < -1 then 3 else if g.t ≤ g.b then 10 else if 128 < n then 8 else 0
def bkI (g : Gm) : Int := if g.b = -1 then 0 else g.t - g.b
def hedB (g : Gm) (n : Nat) : List Int := [71, 1] ++ put g.t ++ put (zig g.m) ++ put (bkI g) ++ put (n : Int)
theorem hed_ok {g : Gm} {n : Nat} (h : hedE g n = 0) : 0 ≤ g.t ∧ g.t ≤ 4294967295 ∧ -2305843009213693952 ≤ g.m ∧ g.m ≤ 2305843009213693952 ∧ -1 ≤ g.b ∧ g.b < g.t ∧ n ≤ 128 := by
  unfold hedE timB at h
  split at h
  · omega
  · rename_i h1
    split at h
    · omega
    · split at h
      · omega
      · simp only [Bool.and_eq_false_iff, decide_eq_false_iff_not] at h1
        omega
theorem bk_bd {g : Gm} {n : Nat} (h : hedE g n = 0) : 0 ≤ bkI g ∧ bkI g ≤ 4294967295 ∧ bkI g ≤ g.t := by
  have := hed_ok h
  unfold bkI
  split <;> omega
theorem zig_u64 {x : Int} (h : R64 x) : 0 ≤ zig x ∧ zig x ≤ 18446744073709551615 := by
  unfold R64 at h
  unfold zig
  omega
theorem hedB_len {g : Gm} {n : Nat} (h : hedE g n = 0) : (hedB g n).length ≤ 42 := by
  have := hed_ok h
  have b := bk_bd h
  have z := zig_u64 (x := g.m) (by unfold R64; omega)
  have p1 := put_ten (x := g.t) (by omega) (by omega)
  have p2 := put_ten (x := zig g.m) (by omega) (by omega)
  have p3 := put_ten (x := bkI g) (by omega) (by omega)
  have p4 := put_ten (x := (n : Int)) (by omega) (by omega)
  unfold hedB
  simp only [List.length_append, List.length_cons, List.length_nil]
  omega
theorem hedB_ok {g : Gm} {n : Nat} (h : hedE g n = 0) : Bytes (hedB g n) := by
  have := hed_ok h
  have b := bk_bd h
  have z := zig_u64 (x := g.m) (by unfold R64; omega)
  unfold hedB
  refine ((((Bytes.append ?_ (put_ok (by omega))).append (put_ok (by omega))).append (put_ok (by omega))).append (put_ok (by omega)))
  intro c hc
  simp at hc
  omega

/-! the records, by their index -/
def pre (A : Nat → Rc) (k : Nat) : List Rc := (List.range k).map A
theorem pre_zero (A : Nat → Rc) : pre A 0 = [] := rfl
theorem pre_succ (A : Nat → Rc) (k : Nat) : pre A (k + 1) = pre A k ++ [A k] := by unfold pre; rw [List.range_succ, List.map_append]; rfl
theorem pre_len (A : Nat → Rc) (k : Nat) : (pre A k).length = k := by unfold pre; simp
/-- The error of the first record that has one, each behind the one ahead. -/
def firE : Int → List Rc → Int
  | _, [] => 0
  | last, r :: rs => if wrE r last = 0 then firE r.i rs else wrE r last
theorem fir_chain : ∀ (L : List Rc) (last : Int), chainR last L → firE last L = 0
  | [], _, _ => rfl
  | r :: rs, last, h => by
    obtain ⟨_, h2, h3⟩ := h
    show (if wrE r last = 0 then firE r.i rs else wrE r last) = 0
    rw [if_pos h2]
    exact fir_chain rs r.i h3
theorem chain_fir : ∀ (L : List Rc) (last : Int), (∀ r ∈ L, r.ok) → firE last L = 0 → chainR last L
  | [], _, _, _ => trivial
  | r :: rs, last, hk, h => by
    have h' : (if wrE r last = 0 then firE r.i rs else wrE r last) = 0 := h
    by_cases hw : wrE r last = 0
    · rw [if_pos hw] at h'
      exact ⟨hk r (by simp), hw, chain_fir rs r.i (fun x hx => hk x (by simp [hx])) h'⟩
    · rw [if_neg hw] at h'
      exact absurd h' hw
theorem fir_at : ∀ (L : List Rc) (last : Int) (r : Rc) (rs : List Rc), chainR last L → wrE r (lastR last L) ≠ 0 → firE last (L ++ r :: rs) = wrE r (lastR last L)
  | [], last, r, rs, _, h => by
    show (if wrE r last = 0 then firE r.i rs else wrE r last) = wrE r last
    exact if_neg h
  | x :: L, last, r, rs, hc, h => by
    obtain ⟨_, h2, h3⟩ := hc
    show (if wrE x last = 0 then firE x.i (L ++ r :: rs) else wrE x last) = wrE r (lastR x.i L)
    rw [if_pos h2]
    exact fir_at L x.i r rs h3 h
theorem pre_split (A : Nat → Rc) {k n : Nat} (h : k < n) : ∃ rs, pre A n = pre A k ++ A k :: rs := by
  obtain ⟨d, rfl⟩ : ∃ d, n = k + 1 + d := ⟨n - (k + 1), by omega⟩
  induction d with
  | zero => exact ⟨[], pre_succ A k⟩
  | succ d ih =>
    obtain ⟨rs, e⟩ := ih (by omega)
    exact ⟨rs ++ [A (k + 1 + d)], by rw [show k + 1 + (d + 1) = k + 1 + d + 1 by omega, pre_succ, e]; simp⟩
theorem fir_pre {A : Nat → Rc} {k n : Nat} (h : k < n) (hc : chainR (-1) (pre A k)) (he : wrE (A k) (lastR (-1) (pre A k)) ≠ 0) : firE (-1) (pre A n) = wrE (A k) (lastR (-1) (pre A k)) := by
  obtain ⟨rs, e⟩ := pre_split A h
  rw [e]
  exact fir_at _ _ _ _ hc he

/-! the whole -/
def gmE (g : Gm) (A : Nat → Rc) (n : Nat) : Int := if hedE g n = 0 then firE (-1) (pre A n) else hedE g n
def gmB (g : Gm) (A : Nat → Rc) (n : Nat) : List Int := hedB g n ++ encR (-1) (pre A n)
def bodB (g : Gm) (A : Nat → Rc) (n : Nat) : List Int := if gmE g A n = 0 then gmB g A n else []
def wrtE (g : Gm) (A : Nat → Rc) (n : Nat) : Int := if gmE g A n = 0 then (if 4096 < (gmB g A n).length + 4 then 8 else 0) else gmE g A n
def wrtB (g : Gm) (A : Nat → Rc) (n : Nat) : List Int := if wrtE g A n = 0 then sealed (gmB g A n) else []
theorem gm_head {g : Gm} {A : Nat → Rc} {n : Nat} (h : gmE g A n = 0) : hedE g n = 0 := by
  unfold gmE at h
  split at h <;> omega
theorem gm_chain {g : Gm} {A : Nat → Rc} {n : Nat} (ok : ∀ i, i < n → (A i).ok) (h : gmE g A n = 0) : chainR (-1) (pre A n) := by
  have h1 := gm_head h
  unfold gmE at h
  rw [if_pos h1] at h
  refine chain_fir _ _ (fun r hr => ?_) h
  unfold pre at hr
  obtain ⟨i, hi, rfl⟩ := List.mem_map.1 hr
  exact ok i (List.mem_range.1 hi)
theorem gmB_ok {g : Gm} {A : Nat → Rc} {n : Nat} (ok : ∀ i, i < n → (A i).ok) (h : gmE g A n = 0) : Bytes (gmB g A n) ∧ (gmB g A n).length ≤ 8746 := by
  have h1 := gm_head h
  have c := chainR_ok _ _ (gm_chain ok h)
  have := hedB_len h1
  have := hed_ok h1
  rw [pre_len] at c
  refine ⟨(hedB_ok h1).append c.1, ?_⟩
  unfold gmB
  rw [List.length_append]
  omega
theorem bodB_ok {g : Gm} {A : Nat → Rc} {n : Nat} (ok : ∀ i, i < n → (A i).ok) : Bytes (bodB g A n) ∧ (bodB g A n).length ≤ 8746 := by
  unfold bodB
  split
  · rename_i h
    exact gmB_ok ok h
  · exact ⟨fun c hc => by simp at hc, by simp⟩
theorem wrt_ok {g : Gm} {A : Nat → Rc} {n : Nat} (h : wrtE g A n = 0) : gmE g A n = 0 ∧ (gmB g A n).length + 4 ≤ 4096 := by
  unfold wrtE at h
  split at h
  · rename_i h1
    refine ⟨h1, ?_⟩
    split at h <;> omega
  · rename_i h1
    exact absurd h h1
end Go.Proofs.YtggninahglfcpaaGreat

namespace Go.Proofs.YtggninahglfcpaaGreat
open Go.RowKit
set_option linter.unusedVariables false
set_option maxRecDepth 8000

theorem gm_time (w : World) (x : Int) : Calls Tryz.prog 102 #[.int .i64 x] w fun e w' => e = .returned (.bool (timB x)) ∧ w' = w := by
  have ht : Hid (timB x = (decide (-2305843009213693952 ≤ x) && decide (x ≤ 2305843009213693952))) := rfl
  by_cases h1 : -2305843009213693952 ≤ x
  · by_cases h2 : x ≤ 2305843009213693952
    · go_enter Tryz.func102, Tryz.ntmps102
      go_wp2_with fail
      go_ret
      exact ⟨by rw [ht.out]; simp [h1, h2], rfl⟩
    · go_enter Tryz.func102, Tryz.ntmps102
      go_wp2_with fail
      go_ret
      exact ⟨by rw [ht.out]; simp [h1, h2], rfl⟩
  · go_enter Tryz.func102, Tryz.ntmps102
    go_wp2_with fail
    go_ret
    exact ⟨by rw [ht.out]; simp; omega, rfl⟩
theorem gm_back (w : World) (g : Gm) (v : Value) (n : Nat) (h : hedE g n = 0) : Calls Tryz.prog 104 #[gmV g v] w fun e w' => e = .returned (.int .u64 (bkI g)) ∧ Below w.heap.size w w' := by
  have HB : Hid (0 ≤ bkI g ∧ bkI g ≤ 4294967295 ∧ bkI g ≤ g.t) := bk_bd h
  have HO := hed_ok h
  have HK : Hid (bkI g = if g.b = -1 then 0 else g.t - g.b) := rfl
  obtain ⟨t, m, b⟩ := g
  simp only at HO
  obtain ⟨o1, o2, o3, o4, o5, o6, o7⟩ := HO
  clear h
  by_cases hb : b = -1
  · subst hb
    go_enter Tryz.func104, Tryz.ntmps104
    go_wp2_with fail
    go_ret
    exact ⟨rfl, (Below.refl _ _).alloc (Nat.le_refl _) _⟩
  · go_enter Tryz.func104, Tryz.ntmps104
    go_wp2_with fail
    go_ret
    refine ⟨?_, (Below.refl _ _).alloc (Nat.le_refl _) _⟩
    rw [HK.out]
    simp only [if_neg hb]
    first | rfl | (congr; omega) | skip
theorem gm_check (w : World) (g : Gm) (ok : g.ok) (ao : Option Addr) (n cap : Nat) (hn : n ≤ cap) (hc : cap ≤ 9223372036854775807) :
    Calls Tryz.prog 67 #[gmV g (.slice ao n cap)] w fun e w' => e = .returned (.int .i64 (hedE g n)) ∧ Below w.heap.size w w' := by
  have HE : Hid (hedE g n = if g.t < 0 ∨ 4294967295 < g.t ∨ timB g.m = false ∨ g.b < -1 then 3 else if g.t ≤ g.b then 10 else if 128 < n then 8 else 0) := rfl
  have HT := ok.t
  have HM := ok.m
  have HBB := ok.b
  obtain ⟨t, m, b⟩ := g
  simp only at HT HM HBB
  obtain ⟨t0, t1⟩ := HT
  obtain ⟨b0, b1⟩ := HBB
  obtain ⟨tb, htb⟩ : ∃ x, timB m = x := ⟨_, rfl⟩
  have HTB : Hid (timB m = tb) := htb
  clear HM htb ok
  by_cases c1 : t < 0
  · have EV : Hid (hedE ⟨t, m, b⟩ n = 3) := (HE.out.trans (if_pos (Or.inl c1)) : hedE ⟨t, m, b⟩ n = 3)
    clear HE
    go_enter Tryz.func67, Tryz.ntmps67
    go_wp2_with (go_at_call 102; refine (gm_time _ _).mono ?_; rw [HTB.out]; rintro e w1 ⟨rfl, rfl⟩)
    go_ret
    exact ⟨by rw [EV.out]; rfl, (Below.refl _ _).alloc (Nat.le_refl _) _⟩
  by_cases c2 : 4294967295 < t
  · have EV : Hid (hedE ⟨t, m, b⟩ n = 3) := (HE.out.trans (if_pos (Or.inr (Or.inl c2))) : hedE ⟨t, m, b⟩ n = 3)
    clear HE
    go_enter Tryz.func67, Tryz.ntmps67
    go_wp2_with (go_at_call 102; refine (gm_time _ _).mono ?_; rw [HTB.out]; rintro e w1 ⟨rfl, rfl⟩)
    go_ret
    exact ⟨by rw [EV.out]; rfl, (Below.refl _ _).alloc (Nat.le_refl _) _⟩
  cases tb
  · have EV : Hid (hedE ⟨t, m, b⟩ n = 3) := (HE.out.trans (if_pos (Or.inr (Or.inr (Or.inl HTB.out)))) : hedE ⟨t, m, b⟩ n = 3)
    clear HE
    go_enter Tryz.func67, Tryz.ntmps67
    go_wp2_with (go_at_call 102; refine (gm_time _ _).mono ?_; rw [HTB.out]; rintro e w1 ⟨rfl, rfl⟩)
    go_ret
    exact ⟨by rw [EV.out]; rfl, (Below.refl _ _).alloc (Nat.le_refl _) _⟩
  by_cases c3 : b < -1
  · have EV : Hid (hedE ⟨t, m, b⟩ n = 3) := (HE.out.trans (if_pos (Or.inr (Or.inr (Or.inr c3)))) : hedE ⟨t, m, b⟩ n = 3)
    clear HE
    go_enter Tryz.func67, Tryz.ntmps67
    go_wp2_with (go_at_call 102; refine (gm_time _ _).mono ?_; rw [HTB.out]; rintro e w1 ⟨rfl, rfl⟩)
    go_ret
    exact ⟨by rw [EV.out]; rfl, (Below.refl _ _).alloc (Nat.le_refl _) _⟩
  have NO : Hid (¬ (t < 0 ∨ 4294967295 < t ∨ timB m = false ∨ b < -1)) := (by rw [HTB.out]; simp; omega : ¬ (t < 0 ∨ 4294967295 < t ∨ timB m = false ∨ b < -1))
  by_cases c4 : t ≤ b
  · have EV : Hid (hedE ⟨t, m, b⟩ n = 10) := (HE.out.trans ((if_neg NO.out).trans (if_pos c4)) : hedE ⟨t, m, b⟩ n = 10)
    clear HE
    go_enter Tryz.func67, Tryz.ntmps67
    go_wp2_with (go_at_call 102; refine (gm_time _ _).mono ?_; rw [HTB.out]; rintro e w1 ⟨rfl, rfl⟩)
    go_ret
    exact ⟨by rw [EV.out]; rfl, (Below.refl _ _).alloc (Nat.le_refl _) _⟩
  by_cases c5 : 128 < n
  · have EV : Hid (hedE ⟨t, m, b⟩ n = 8) := (HE.out.trans ((if_neg NO.out).trans ((if_neg c4).trans (if_pos c5))) : hedE ⟨t, m, b⟩ n = 8)
    clear HE
    go_enter Tryz.func67, Tryz.ntmps67
    go_wp2_with (go_at_call 102; refine (gm_time _ _).mono ?_; rw [HTB.out]; rintro e w1 ⟨rfl, rfl⟩)
    go_ret
    exact ⟨by rw [EV.out]; rfl, (Below.refl _ _).alloc (Nat.le_refl _) _⟩
  · have EV : Hid (hedE ⟨t, m, b⟩ n = 0) := (HE.out.trans ((if_neg NO.out).trans ((if_neg c4).trans (if_neg c5))) : hedE ⟨t, m, b⟩ n = 0)
    clear HE
    go_enter Tryz.func67, Tryz.ntmps67
    go_wp2_with (go_at_call 102; refine (gm_time _ _).mono ?_; rw [HTB.out]; rintro e w1 ⟨rfl, rfl⟩)
    go_ret
    exact ⟨by rw [EV.out]; rfl, (Below.refl _ _).alloc (Nat.le_refl _) _⟩
end Go.Proofs.YtggninahglfcpaaGreat
