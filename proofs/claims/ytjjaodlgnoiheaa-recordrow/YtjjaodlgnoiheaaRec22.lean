/-
  Layer 8 (record): rows of records: what a call owns, one record appended; records written one behind the other (no function of the program in sight).
-/
import Derived.Test.YtjjaodlgnoiheaaRec19
import Derived.Test.YtjjaodlgnoiheaaGrw
namespace Go.Proofs.Ytjjaodlgnoiheaa
open Go.RowKit
set_option linter.unusedVariables false

/-! rows of records -/
def recs (L : List Rc) : List Value := L.flatMap recC
theorem recs_len : ∀ L : List Rc, (recs L).length = L.length * 9
  | [] => rfl
  | r :: L => by
    have := recs_len L
    unfold recs at this ⊢
    have e : (recC r).length = 9 := rfl
    rw [List.flatMap_cons, List.length_append, this, e, List.length_cons]
    omega
theorem recs_snoc (L : List Rc) (r : Rc) : recs (L ++ [r]) = recs L ++ recC r := by unfold recs; simp
theorem recC_one (r : Rc) : ∀ u ∈ recC r, u.oneCell' = true := by
  intro u hu
  simp only [recC, List.mem_cons, List.not_mem_nil, or_false] at hu
  rcases hu with h | h | h | h | h | h | h | h | h <;> rw [h] <;> rfl
theorem recs_at : ∀ (L : List Rc) (i j : Nat) (x : Value), i < L.length → (recC (L.getD i noRec))[j]? = some x → (recs L)[i * 9 + j]? = some x
  | r :: L, 0, j, x, _, h => by
    have hj : j < 9 := (List.getElem?_eq_some_iff.1 h).1
    unfold recs
    rw [List.flatMap_cons, Nat.zero_mul, Nat.zero_add, List.getElem?_append_left (by exact hj)]
    exact h
  | r :: L, i + 1, j, x, hi, h => by
    have := recs_at L i j x (by simpa using hi) (by simpa using h)
    unfold recs at this ⊢
    rw [List.flatMap_cons, List.getElem?_append_right (by show 9 ≤ _; omega)]
    show (List.flatMap recC L)[(i + 1) * 9 + j - 9]? = some x
    rw [show (i + 1) * 9 + j - 9 = i * 9 + j by omega]
    exact this
/-- A value that a call owns, of these records. -/
def OwnR (w : World) (B : Nat) (v : Value) (L : List Rc) : Prop := w.ownsRow B 25 9 v L.length (recs L)
theorem OwnR.nil (w : World) (B : Nat) : OwnR w B (.slice none 0 0) [] := World.ownsRow_nil w B _ _
theorem OwnR.lt {w : World} {B : Nat} {v : Value} {L : List Rc} (h : OwnR w B v L) : ∀ k, v.ownBlock = some k → B ≤ k ∧ k < w.heap.size := World.ownsRow.lt h
theorem OwnR.below {w w' : World} {B : Nat} {v : Value} {L : List Rc} (h : OwnR w B v L) (hb : Below w.heap.size w w') : OwnR w' B v L := by
  refine ⟨h.1, ?_⟩
  rcases h.2 with hn | ⟨g, cap, cur, hv, hB, hg, rest⟩
  · exact Or.inl hn
  · exact Or.inr ⟨g, cap, cur, hv, hB, (hb.block g (Array.getElem?_eq_some_iff.1 hg).1).trans hg, rest⟩
theorem OwnR.grow {B B2 : Nat} {w w' : World} {u v v' : Value} {L : List Rc} (h : OwnR w B2 u L) (ha : Apart u v) (k : Grow B v w v' w') : OwnR w' B2 u L ∧ Apart u v' := by
  refine ⟨World.ownsRow.kept h k.by_ ha, ?_⟩
  rcases k.blk with e | e
  · unfold Apart at ha ⊢; rw [e]; exact ha
  · unfold Apart; rw [e]
    cases hb : u.ownBlock with
    | none => exact Or.inl rfl
    | some g =>
      right
      intro h'
      have := (h.lt g hb).2
      injection h' with h'
      omega
/-- The cells of record i. -/
theorem OwnR.cells {w : World} {B : Nat} {v : Value} {L : List Rc} (h : OwnR w B v L) (hl : L ≠ []) : ∃ g cap, v = .slice (some ⟨g, 0, none⟩) L.length cap ∧ B ≤ g ∧ g < w.heap.size ∧ L.length ≤ cap ∧ cap ≤ 9223372036854775807 ∧ ∀ i, i < L.length → ∀ j x, (recC (L.getD i noRec))[j]? = some x → w.cell? ⟨g, i * 9 + j, none⟩ = some x := by
  have hp := List.length_pos_iff.2 hl
  rcases h.2 with ⟨_, h0⟩ | ⟨g, cap, cur, hv, hb, hg, hc, hm, hs, ht⟩
  · omega
  · refine ⟨g, cap, hv, hb, (Array.getElem?_eq_some_iff.1 hg).1, hc, hm, fun i hi j x hx => ?_⟩
    have hj : j < 9 := (List.getElem?_eq_some_iff.1 hx).1
    have e := recs_at L i j x hi hx
    rw [← ht, List.getElem?_take, if_pos (by omega)] at e
    rw [cell_of_row w g (i * 9 + j) cur _ (0, 0) hg]
    simpa using e
theorem infoR : (Try.prog.info? 25).map (fun i => (i.zero, i.size, i.bytes)) = some (some (recV noRec), 9, 72) := by kernel_rfl

/-! records written one behind the other -/
def encR : Int → List Rc → List Int
  | _, [] => []
  | last, r :: rs => wrB r last ++ encR r.i rs
def lastR : Int → List Rc → Int
  | last, [] => last
  | last, r :: rs => lastR r.i rs
def chainR : Int → List Rc → Prop
  | _, [] => True
  | last, r :: rs => r.ok ∧ wrE r last = 0 ∧ chainR r.i rs
theorem encR_snoc : ∀ (L : List Rc) (last : Int) (r : Rc), encR last (L ++ [r]) = encR last L ++ wrB r (lastR last L)
  | [], last, r => by simp [encR, lastR]
  | s :: L, last, r => by
    show wrB s last ++ encR s.i (L ++ [r]) = (wrB s last ++ encR s.i L) ++ wrB r (lastR s.i L)
    rw [encR_snoc L s.i r, List.append_assoc]
theorem lastR_snoc : ∀ (L : List Rc) (last : Int) (r : Rc), lastR last (L ++ [r]) = r.i
  | [], last, r => rfl
  | s :: L, last, r => lastR_snoc L s.i r
theorem chainR_snoc : ∀ (L : List Rc) (last : Int) (r : Rc), chainR last L → r.ok → wrE r (lastR last L) = 0 → chainR last (L ++ [r])
  | [], last, r, _, ok, h => ⟨ok, h, trivial⟩
  | s :: L, last, r, hc, ok, h => ⟨hc.1, hc.2.1, chainR_snoc L s.i r hc.2.2 ok h⟩
theorem chainR_ok : ∀ (L : List Rc) (last : Int), chainR last L → Bytes (encR last L) ∧ (encR last L).length ≤ 68 * L.length
  | [], _, _ => ⟨Bytes.nil, by simp [encR]⟩
  | s :: L, last, hc => by
    have h1 := chainR_ok L s.i hc.2.2
    have h2 := wr_len (last := last) hc.1
    refine ⟨(wr_ok hc.1).append h1.1, ?_⟩
    show (wrB s last ++ encR s.i L).length ≤ _
    rw [List.length_append, List.length_cons]
    omega
/-- One record off the row's rest. -/
theorem chain_read {last : Int} {r : Rc} {rs : List Rc} (h : chainR last (r :: rs)) (n : Int) :
    redT ⟨encR last (r :: rs), n, 0⟩ last = r ∧ redS ⟨encR last (r :: rs), n, 0⟩ last = ⟨encR r.i rs, n + (wrB r last).length, 0⟩ ∧ redE ⟨encR last (r :: rs), n, 0⟩ last = 0 :=
  wr_read h.1 h.2.1 (encR r.i rs) n
/-- Which records are kept, and their bytes. -/
def rowL (A : Nat → Rc) : Nat → List Rc
  | 0 => []
  | k + 1 => if wrE (A k) (lastR (-1) (rowL A k)) = 0 then rowL A k ++ [A k] else rowL A k
theorem row_ok (A : Nat → Rc) : ∀ n, (∀ i, i < n → (A i).ok) → chainR (-1) (rowL A n) ∧ (rowL A n).length ≤ n
  | 0, _ => ⟨trivial, by simp [rowL]⟩
  | k + 1, h => by
    have hk := row_ok A k (fun i hi => h i (by omega))
    unfold rowL
    split
    · rename_i he
      exact ⟨chainR_snoc _ _ _ hk.1 (h k (by omega)) he, by rw [List.length_append]; simp; omega⟩
    · exact ⟨hk.1, by omega⟩
end Go.Proofs.Ytjjaodlgnoiheaa
