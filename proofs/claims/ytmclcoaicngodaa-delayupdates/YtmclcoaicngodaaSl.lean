/-
  Slices of bytes: what one reads as, what a call owns (no function of the program in sight).
-/
import Derived.Test.YtmclcoaicngodaaVint
import Derived.Test.YtmclcoaicngodaaBlk
import Derived.Deep.AppendLies
import Derived.Laws.BytesArg
import Derived.Laws.AppendOwnNone
import Derived.Laws.OwnMore
import Derived.OwnWalk
namespace Go.Proofs.Ytmclcoaicngodaa
open Go.RowKit

theorem bthen {w W w' : World} (h1 : Below w.heap.size w W) (h2 : Below W.heap.size W w') : Below w.heap.size w w' := h1.trans (h2.mono h1.size)
theorem bup {B : Nat} {w W w' : World} (h1 : Below B w W) (hB : B ≤ w.heap.size) (h2 : Below W.heap.size W w') : Below B w w' := h1.trans (h2.mono (Nat.le_trans hB h1.size))

/-- Bytes as cells. -/
def u8s (l : List Int) : List Value := l.map (Value.int .u8)
theorem u8s_len (l : List Int) : (u8s l).length = l.length := by simp [u8s]
theorem u8s_app (l r : List Int) : u8s l ++ u8s r = u8s (l ++ r) := by simp [u8s]
theorem u8s_one (l : List Int) : ∀ u ∈ u8s l, u.oneCell' = true := by
  intro u hu; simp only [u8s, List.mem_map] at hu; obtain ⟨n, _, rfl⟩ := hu; rfl
theorem u8s_at (l : List Int) (j : Nat) (h : j < l.length) : (u8s l)[j]? = some (.int .u8 (l.getD j 0)) := by
  simp [u8s, List.getD, List.getElem?_eq_getElem h]

/-- The slice at b, o on reads as these bytes. -/
def At (w : World) (b o : Nat) (l : List Int) : Prop := ∀ i, i < l.length → w.cell? ⟨b, o + i, none⟩ = some (.int .u8 (l.getD i 0))
theorem At.lt {w : World} {b o : Nat} {l : List Int} (h : At w b o l) (hl : l ≠ []) : b < w.heap.size :=
  World.block_lt_of_cell? w ⟨b, o + 0, none⟩ (h 0 (List.length_pos_iff.2 hl))
theorem At.below {w w' : World} {b o B : Nat} {l : List Int} (h : At w b o l) (hb : Below B w w') (hB : b < B) : At w' b o l := fun i hi => (hb.cell (p := ⟨b, o + i, none⟩) hB).trans (h i hi)
theorem At.take {w : World} {b o : Nat} {l : List Int} (h : At w b o l) (n : Nat) : At w b o (l.take n) := fun i hi => by
  rw [List.length_take] at hi
  rw [h i (by omega)]; simp [List.getD, show i < n by omega]
theorem At.drop {w : World} {b o : Nat} {l : List Int} (h : At w b o l) (n : Nat) : At w b (o + n) (l.drop n) := fun i hi => by
  rw [List.length_drop] at hi
  rw [Nat.add_assoc, h (n + i) (by omega)]; simp [List.getD]
theorem At.left {w : World} {b o : Nat} {l r : List Int} (h : At w b o (l ++ r)) : At w b o l := fun i hi => by
  rw [h i (by simp; omega)]; simp [List.getD, List.getElem?_append_left hi]
/-- Appended, by the laws of append. -/
theorem At.news {w : World} {b o : Nat} {l : List Int} (h : At w b o l) : ∀ j u, (u8s l)[j]? = some u → w.cell? ((⟨b, o, none⟩ : Addr).add j) = some u := by
  intro j u hu
  have hj : j < l.length := by have := (List.getElem?_eq_some_iff.1 hu).1; rwa [u8s_len] at this
  rw [u8s_at l j hj] at hu
  rw [Addr.add_lit, h j hj]; exact hu

/-- A value that reads as these bytes. -/
def Rd (w : World) (v : Value) (l : List Int) : Prop :=
  ∃ ao cap, v = .slice ao l.length cap ∧ l.length ≤ cap ∧ cap ≤ 9223372036854775807 ∧ (ao = none → cap = 0) ∧ (l = [] ∨ ∃ b o, ao = some ⟨b, o, none⟩ ∧ At w b o l)
theorem Rd.below {w w' : World} {v : Value} {l : List Int} (h : Rd w v l) (hb : Below w.heap.size w w') : Rd w' v l := by
  obtain ⟨ao, cap, rfl, h1, h2, hn, h3⟩ := h
  refine ⟨ao, cap, rfl, h1, h2, hn, ?_⟩
  rcases h3 with h | ⟨b, o, rfl, h⟩
  · exact Or.inl h
  · by_cases hl : l = []
    · exact Or.inl hl
    · exact Or.inr ⟨b, o, rfl, h.below hb (h.lt hl)⟩

/-- A value that a call owns, of these bytes. -/
def Own (w : World) (B : Nat) (v : Value) (l : List Int) : Prop := w.ownsRow B 5 1 v l.length (u8s l)
theorem Own.form {w : World} {B : Nat} {v : Value} {l : List Int} (h : Own w B v l) (hl : l ≠ []) : ∃ g cap, v = .slice (some ⟨g, 0, none⟩) l.length cap ∧ B ≤ g ∧ g < w.heap.size ∧ l.length ≤ cap ∧ cap ≤ 9223372036854775807 ∧ At w g 0 l := by
  have hp := List.length_pos_iff.2 hl
  rcases h.2 with ⟨_, h0⟩ | ⟨g, cap, cur, hv, hb, hg, hc, hm, hs, ht⟩
  · omega
  · refine ⟨g, cap, hv, hb, (Array.getElem?_eq_some_iff.1 hg).1, hc, hm, fun i hi => ?_⟩
    rw [Nat.zero_add, cell_of_row w g i cur _ (0, 0) hg]
    have e := u8s_at l i hi
    rw [← ht, List.getElem?_take, if_pos (by omega)] at e
    simpa using e
theorem Own.rd {w : World} {B : Nat} {v : Value} {l : List Int} (h : Own w B v l) : Rd w v l := by
  rcases h.2 with ⟨rfl, h0⟩ | ⟨g, cap, cur, hv, hb, hg, hc, hm, hs, ht⟩
  · have : l = [] := List.eq_nil_of_length_eq_zero h0
    subst this
    exact ⟨none, 0, rfl, Nat.le_refl _, by omega, fun _ => rfl, Or.inl rfl⟩
  · by_cases hl : l = []
    · exact ⟨_, cap, hv, hc, hm, fun h => by simp at h, Or.inl hl⟩
    · obtain ⟨g', cap', hv', _, _, h1, h2, h3⟩ := h.form hl
      exact ⟨_, cap', hv', h1, h2, fun h => by simp at h, Or.inr ⟨g', 0, rfl, h3⟩⟩
theorem Own.below {w w' : World} {B : Nat} {v : Value} {l : List Int} (h : Own w B v l) (hb : Below w.heap.size w w') : Own w' B v l := by
  refine ⟨h.1, ?_⟩
  rcases h.2 with hn | ⟨g, cap, cur, hv, hB, hg, rest⟩
  · exact Or.inl hn
  · exact Or.inr ⟨g, cap, cur, hv, hB, (hb.block g (Array.getElem?_eq_some_iff.1 hg).1).trans hg, rest⟩
theorem Own.mono {w : World} {B B' : Nat} {v : Value} {l : List Int} (h : Own w B v l) (hB : B' ≤ B) : Own w B' v l := by
  refine ⟨h.1, ?_⟩
  rcases h.2 with hn | ⟨g, cap, cur, hv, hb, rest⟩
  · exact Or.inl hn
  · exact Or.inr ⟨g, cap, cur, hv, Nat.le_trans hB hb, rest⟩
theorem Own.nil (w : World) (B : Nat) : Own w B (.slice none 0 0) [] := World.ownsRow_nil w B _ _
theorem Own.row {w : World} {B : Nat} {v : Value} {l : List Int} (h : Own w B v l) : ∀ k, v.ownBlock = some k → B ≤ k := fun k hk => (World.ownsRow.lt h k hk).1

theorem info8 : (Try.prog.info? 5).map (fun i => (i.zero, i.size, i.bytes)) = some (some (.int .u8 0), 1, 1) := by kernel_rfl

theorem Rd.at {w : World} {b o cap : Nat} {l : List Int} (h : At w b o l) (hc : l.length ≤ cap) (hm : cap ≤ 9223372036854775807) : Rd w (.slice (some ⟨b, o, none⟩) l.length cap) l :=
  ⟨_, cap, rfl, hc, hm, fun h => by simp at h, Or.inr ⟨b, o, rfl, h⟩⟩
/-- One byte that lies in a new block. -/
theorem Rd.one (w : World) (z : Int) : Rd (w.alloc (.cells #[.int .u8 z] 5)) (.slice (some ⟨w.heap.size, 0, none⟩) 1 1) [z] :=
  Rd.at (l := [z]) (fun i hi => by
    have e : i = 0 := by simpa using hi
    subst e; simp) (by simp) (by omega)

theorem Own.len {w : World} {B n cap : Nat} {a : Addr} {l : List Int} (h : Own w B (.slice (some a) n cap) l) : n = l.length := by
  rcases h.2 with ⟨h, _⟩ | ⟨g, cap, cur, h, _⟩
  · simp at h
  · injection h
theorem Own.store {w : World} {B g n cap : Nat} {l : List Int} (h : Own w B (.slice (some ⟨g, 0, none⟩) n cap) l) (j : Nat) (z : Int) : Own (w.setCell ⟨g, j, none⟩ (.int .u8 z)) B (.slice (some ⟨g, 0, none⟩) n cap) (l.set j z) := by
  have e := h.len
  subst e
  have := (World.ownsRow.stored h j (.int .u8 z)).1
  unfold Own
  rw [List.length_set]
  unfold u8s at this ⊢
  rw [List.map_set]; exact this
theorem Own.cell {w : World} {B g n cap : Nat} {l : List Int} (h : Own w B (.slice (some ⟨g, 0, none⟩) n cap) l) (j : Nat) (hj : j < l.length) : w.cell? ⟨g, j, none⟩ = some (.int .u8 (l.getD j 0)) := by
  have e := h.len
  subst e
  rw [World.ownsRow.cellAt h j (by omega), u8s_at l j hj]
theorem Own.free {w : World} {B g n cap : Nat} {l : List Int} (h : Own w B (.slice (some ⟨g, 0, none⟩) n cap) l) (j : Nat) : w.frozen? ⟨g, j, none⟩ = false := by
  have e := h.len
  subst e
  exact World.ownsRow.frozenAt h j
theorem made_u8 (n : Nat) : (madeCells (Value.int .u8 0).cells (n * 1)).toList = u8s (List.replicate n 0) := by
  rw [Nat.mul_one]
  have := toList_madeCells_one (.int .u8 0) n
  unfold u8s
  rw [List.map_replicate]; exact this
end Go.Proofs.Ytmclcoaicngodaa
