/-
  Layer 7 (reader): how a reader stands, and what its calls make of that (no program in sight); a reader in memory, and what a call of it leaves alone.
-/
import Derived.Test.YtmclcoaicngodaaFr
namespace Go.Proofs.Ytmclcoaicngodaa
open Go.RowKit

/-! how a reader stands: the bytes that are left, how many were taken, the error -/
structure St where
  l : List Int
  n : Int
  e : Int
def failS (s : St) (x : Int) : St := if s.e = 0 then ⟨s.l, s.n, x⟩ else s
def byteA (s : St) : Int := if s.e = 0 then s.l.getD 0 0 else 0
def byteS (s : St) : St := if s.e = 0 then (if s.l = [] then ⟨s.l, s.n, 6⟩ else ⟨s.l.drop 1, s.n + 1, 0⟩) else s
/-- Why no number that is at most m is taken. -/
def uintE (m : Int) (l : List Int) : Int := if l = [] then 6 else if (got l).2.2 = 0 then (if m < (got l).1 then 3 else 0) else (got l).2.2
def uintA (m : Int) (s : St) : Int := if s.e = 0 then (if uintE m s.l = 0 then (got s.l).1 else 0) else 0
def uintS (m : Int) (s : St) : St := if s.e = 0 then (if uintE m s.l = 0 then ⟨s.l.drop (got s.l).2.1.toNat, s.n + (got s.l).2.1, 0⟩ else ⟨s.l, s.n, uintE m s.l⟩) else s
def top64 : Int := 18446744073709551615
def intA (s : St) : Int := zag (uintA top64 s)
def intS (s : St) : St := uintS top64 s
def vecS (s : St) : St := intS (intS (intS s))
def doneA (s : St) : Int := if s.e = 0 then (if s.l = [] then 0 else 8) else s.e

theorem uintE_top (l : List Int) : uintE top64 l = if l = [] then 6 else (got l).2.2 := by
  have := got_bd l
  unfold uintE top64
  split
  · rfl
  · split
    · rw [if_neg (by omega)]; omega
    · rfl
theorem got_nil : got [] = (0, 0, 5) := by decide
/-- What is got: as many bytes as there are, at most. -/
theorem got_len {l : List Int} (hb : Bytes l) (h : (got l).2.2 = 0) : 1 ≤ (got l).2.1 ∧ (got l).2.1 ≤ l.length ∧ (got l).2.1 ≤ 10 := by
  obtain ⟨_, _, n, h1, h2, h3, _⟩ := put_got hb (got l).1 (got l).2.1 (by rw [← h])
  have := got_bd l
  omega

/-! memory -/
/-- All but block R is as it was; new blocks may lie behind. -/
structure Ch (R : Nat) (w w' : World) : Prop where
  below : Below R w w'
  past : ∀ g, R < g → g < w.heap.size → w'.heap[g]? = w.heap[g]?
theorem Ch.size {R : Nat} {w w' : World} (h : Ch R w w') : w.heap.size ≤ w'.heap.size := h.below.size
theorem Ch.refl (R : Nat) (w : World) : Ch R w w := ⟨Below.refl _ _, fun _ _ _ => rfl⟩
theorem Ch.trans {R : Nat} {a b c : World} (h : Ch R a b) (k : Ch R b c) : Ch R a c :=
  ⟨h.below.trans k.below, fun g h1 h2 => (k.past g h1 (Nat.lt_of_lt_of_le h2 h.size)).trans (h.past g h1 h2)⟩
theorem Ch.drew {R : Nat} {a w : World} (h : Ch R a w) : Ch R a w.drew := ⟨h.below.drew, h.past⟩
theorem Ch.alloc {R : Nat} {a w : World} (h : Ch R a w) (hR : R ≤ w.heap.size) (o : Obj) : Ch R a (w.alloc o) :=
  ⟨h.below.alloc hR o, fun g h1 h2 => (Below.heap_alloc w o g (Nat.lt_of_lt_of_le h2 h.size)).trans (h.past g h1 h2)⟩
theorem Ch.set {R : Nat} {a w : World} (h : Ch R a w) (o : Nat) (u : Value) : Ch R a (w.setCell ⟨R, o, none⟩ u) :=
  ⟨h.below.setCell (Nat.le_refl _) u, fun g h1 h2 => (Below.heap_setCell w _ u g (by simp only [ne_eq]; omega)).trans (h.past g h1 h2)⟩
/-- A store into a block that is new since. -/
theorem Ch.setNew {R : Nat} {a w : World} (h : Ch R a w) (hR : R ≤ a.heap.size) {p : Addr} (hp : a.heap.size ≤ p.block) (u : Value) : Ch R a (w.setCell p u) :=
  ⟨h.below.setCell (Nat.le_trans hR hp) u, fun g h1 h2 => (Below.heap_setCell w _ u g (by omega)).trans (h.past g h1 h2)⟩
theorem Ch.of {R : Nat} {w w' : World} (h : Below w.heap.size w w') (hR : R ≤ w.heap.size) : Ch R w w' := ⟨h.mono hR, fun g _ h2 => h.block g h2⟩
/-- A block that is another one. -/
theorem Ch.block {R : Nat} {w w' : World} (h : Ch R w w') {g : Nat} (hg : g ≠ R) (hs : g < w.heap.size) : w'.heap[g]? = w.heap[g]? := by
  rcases Nat.lt_or_gt_of_ne hg with k | k
  · exact h.below.block g k
  · exact h.past g k hs
theorem Ch.cell {R : Nat} {w w' : World} (h : Ch R w w') {p : Addr} (hg : p.block ≠ R) (hs : p.block < w.heap.size) : w'.cell? p = w.cell? p := World.cell?_of_block (w := w) (h.block hg hs)
theorem Ch.frozen {R : Nat} {w w' : World} (h : Ch R w w') {p : Addr} (hg : p.block ≠ R) (hs : p.block < w.heap.size) : w'.frozen? p = w.frozen? p := World.frozen?_of_block (w := w) (h.block hg hs)
/-- Over B, if the block lies there. -/
theorem Ch.up {R B : Nat} {a w w' : World} (h : Below B a w) (k : Ch R w w') (hB : B ≤ R) : Below B a w' := h.trans (k.below.mono hB)
theorem Own.ch {R B : Nat} {w w' : World} {v : Value} {l : List Int} (h : Own w B v l) (k : Ch R w w') (hB : R < B) : Own w' B v l := by
  refine ⟨h.1, ?_⟩
  rcases h.2 with hn | ⟨g, cap, cur, hv, hb, hg, rest⟩
  · exact Or.inl hn
  · exact Or.inr ⟨g, cap, cur, hv, hb, (k.past g (by omega) (Array.getElem?_eq_some_iff.1 hg).1).trans hg, rest⟩

/-- A value that reads as these bytes, which lie below K. -/
def Low (w : World) (K : Nat) (v : Value) (l : List Int) : Prop :=
  ∃ ao cap, v = .slice ao l.length cap ∧ l.length ≤ cap ∧ cap ≤ 9223372036854775807 ∧ (ao = none → cap = 0) ∧ (l = [] ∨ ∃ b o, ao = some ⟨b, o, none⟩ ∧ b < K ∧ At w b o l)
theorem Low.rd {w : World} {K : Nat} {v : Value} {l : List Int} (h : Low w K v l) : Rd w v l := by
  obtain ⟨ao, cap, rfl, h1, h2, h3, h4⟩ := h
  refine ⟨ao, cap, rfl, h1, h2, h3, ?_⟩
  rcases h4 with h | ⟨b, o, h, _, k⟩
  · exact Or.inl h
  · exact Or.inr ⟨b, o, h, k⟩
theorem Rd.low {w : World} {v : Value} {l : List Int} (h : Rd w v l) : Low w w.heap.size v l := by
  obtain ⟨ao, cap, rfl, h1, h2, h3, h4⟩ := h
  refine ⟨ao, cap, rfl, h1, h2, h3, ?_⟩
  by_cases hl : l = []
  · exact Or.inl hl
  · obtain ⟨b, o, h, k⟩ := h4.resolve_left hl
    exact Or.inr ⟨b, o, h, k.lt hl, k⟩
theorem Low.below {w w' : World} {K B : Nat} {v : Value} {l : List Int} (h : Low w K v l) (hb : Below B w w') (hB : K ≤ B) : Low w' K v l := by
  obtain ⟨ao, cap, rfl, h1, h2, h3, h4⟩ := h
  refine ⟨ao, cap, rfl, h1, h2, h3, ?_⟩
  rcases h4 with h | ⟨b, o, h, k, hat⟩
  · exact Or.inl h
  · exact Or.inr ⟨b, o, h, k, hat.below hb (by omega)⟩
theorem Low.mono {w : World} {K K' : Nat} {v : Value} {l : List Int} (h : Low w K v l) (hK : K ≤ K') : Low w K' v l := by
  obtain ⟨ao, cap, rfl, h1, h2, h3, h4⟩ := h
  refine ⟨ao, cap, rfl, h1, h2, h3, ?_⟩
  rcases h4 with h | ⟨b, o, h, k, hat⟩
  · exact Or.inl h
  · exact Or.inr ⟨b, o, h, by omega, hat⟩

/-- The reader at block R stands so; its bytes lie below K. -/
structure RdrV (w : World) (K R : Nat) (v : Value) (s : St) : Prop where
  hK : K ≤ R
  lt : R < w.heap.size
  low : Low w K v s.l
  bytes : Bytes s.l
  n0 : 0 ≤ s.n
  n1 : s.n + s.l.length ≤ 9223372036854775807
  c0 : w.cell? ⟨R, 0, none⟩ = some v
  c1 : w.cell? ⟨R, 1, none⟩ = some (.int .i64 s.n)
  c2 : w.cell? ⟨R, 2, none⟩ = some (.int .i64 s.e)
  f : ∀ o, w.frozen? ⟨R, o, none⟩ = false
def Rdr (w : World) (K R : Nat) (s : St) : Prop := ∃ v, RdrV w K R v s
theorem Rdr.lt {w : World} {K R : Nat} {s : St} (h : Rdr w K R s) : R < w.heap.size := by obtain ⟨v, h⟩ := h; exact h.lt
theorem Rdr.hK {w : World} {K R : Nat} {s : St} (h : Rdr w K R s) : K ≤ R := by obtain ⟨v, h⟩ := h; exact h.hK
theorem Rdr.bytes {w : World} {K R : Nat} {s : St} (h : Rdr w K R s) : Bytes s.l := by obtain ⟨v, h⟩ := h; exact h.bytes
theorem Rdr.n0 {w : World} {K R : Nat} {s : St} (h : Rdr w K R s) : 0 ≤ s.n := by obtain ⟨v, h⟩ := h; exact h.n0
theorem Rdr.n1 {w : World} {K R : Nat} {s : St} (h : Rdr w K R s) : s.n + s.l.length ≤ 9223372036854775807 := by obtain ⟨v, h⟩ := h; exact h.n1
/-- Another reader's call, or whatever else leaves this block alone. -/
theorem RdrV.ch {w w' : World} {K R M : Nat} {v : Value} {s : St} (h : RdrV w K R v s) (k : Ch M w w') (hM : M ≠ R) (hK : K ≤ M) : RdrV w' K R v s :=
  ⟨h.hK, Nat.lt_of_lt_of_le h.lt k.size, h.low.below k.below hK, h.bytes, h.n0, h.n1, (k.cell (p := ⟨R, 0, none⟩) (Ne.symm hM) h.lt).trans h.c0, (k.cell (p := ⟨R, 1, none⟩) (Ne.symm hM) h.lt).trans h.c1,
    (k.cell (p := ⟨R, 2, none⟩) (Ne.symm hM) h.lt).trans h.c2, fun o => (k.frozen (p := ⟨R, o, none⟩) (Ne.symm hM) h.lt).trans (h.f o)⟩
theorem Rdr.ch {w w' : World} {K R M : Nat} {s : St} (h : Rdr w K R s) (k : Ch M w w') (hM : M ≠ R) (hK : K ≤ M) : Rdr w' K R s := by
  obtain ⟨v, h⟩ := h; exact ⟨v, h.ch k hM hK⟩
theorem RdrV.below {w w' : World} {K R B : Nat} {v : Value} {s : St} (h : RdrV w K R v s) (k : Below B w w') (hB : R < B) : RdrV w' K R v s :=
  ⟨h.hK, Nat.lt_of_lt_of_le h.lt k.size, h.low.below k (by have := h.hK; omega), h.bytes, h.n0, h.n1, (k.cell (p := ⟨R, 0, none⟩) hB).trans h.c0, (k.cell (p := ⟨R, 1, none⟩) hB).trans h.c1,
    (k.cell (p := ⟨R, 2, none⟩) hB).trans h.c2, fun o => (k.frozen (p := ⟨R, o, none⟩) hB).trans (h.f o)⟩
theorem Rdr.below {w w' : World} {K R B : Nat} {s : St} (h : Rdr w K R s) (k : Below B w w') (hB : R < B) : Rdr w' K R s := by
  obtain ⟨v, h⟩ := h; exact ⟨v, h.below k hB⟩
theorem Rdr.mono {w : World} {K K' R : Nat} {s : St} (h : Rdr w K R s) (hK : K ≤ K') (hR : K' ≤ R) : Rdr w K' R s := by
  obtain ⟨v, h⟩ := h; exact ⟨v, hR, h.lt, h.low.mono hK, h.bytes, h.n0, h.n1, h.c0, h.c1, h.c2, h.f⟩
theorem cell_same {w : World} {p : Addr} {u v : Value} (h : w.cell? p = some u) : (w.setCell p v).cell? p = some v := World.cell?_setCell_same _ _ _ h
theorem cell_off {w : World} {b i j : Nat} {v : Value} (h : i ≠ j) : (w.setCell ⟨b, i, none⟩ v).cell? ⟨b, j, none⟩ = w.cell? ⟨b, j, none⟩ :=
  World.cell?_setCell_other _ _ _ _ (by intro h'; exact h (by injection h'))
/-- The error is laid down. -/
theorem RdrV.fail {w : World} {K R : Nat} {v : Value} {l : List Int} {n e : Int} (h : RdrV w K R v ⟨l, n, e⟩) (x : Int) : RdrV (w.setCell ⟨R, 2, none⟩ (.int .i64 x)) K R v ⟨l, n, x⟩ :=
  ⟨h.hK, by simpa using h.lt, h.low.below ((Below.refl R w).setCell (Nat.le_refl _) _) h.hK, h.bytes, h.n0, h.n1, (cell_off (by omega)).trans h.c0, (cell_off (by omega)).trans h.c1, cell_same h.c2,
    fun o => (World.frozen?_setCell _ _ _ _).trans (h.f o)⟩
/-- What is left of a slice. -/
theorem Low.drop {w : World} {K cap : Nat} {ao : Option Addr} {l : List Int} (h : Low w K (.slice ao l.length cap) l) (k : Nat) (hk : k ≤ l.length) (v : Value)
    (hv : ∀ b o, ao = some ⟨b, o, none⟩ → ∃ a, v = .slice (some a) (l.length - k) (cap - k) ∧ (l.length - k = 0 ∨ a = ⟨b, o + k, none⟩)) (hl : l ≠ []) : Low w K v (l.drop k) := by
  obtain ⟨ao', cap', e, h1, h2, h3, h4⟩ := h
  injection e with e1 e2 e3
  subst e1 e3
  obtain ⟨b, o, rfl, hb, hat⟩ := h4.resolve_left hl
  obtain ⟨a, rfl, ha⟩ := hv b o rfl
  refine ⟨some a, cap - k, by rw [List.length_drop], by rw [List.length_drop]; omega, by omega, fun h => by simp at h, ?_⟩
  rcases ha with ha | rfl
  · left; exact List.eq_nil_of_length_eq_zero (by rw [List.length_drop]; omega)
  · exact Or.inr ⟨b, o + k, rfl, hb, hat.drop k⟩
/-- Bytes are taken. -/
theorem RdrV.take {w : World} {K R : Nat} {v u : Value} {l : List Int} {n e : Int} (h : RdrV w K R v ⟨l, n, e⟩) (k : Nat) (hk : k ≤ l.length) (m : Int) (hm : m = n + k) (hu : Low w K u (l.drop k)) :
    RdrV ((w.setCell ⟨R, 0, none⟩ u).setCell ⟨R, 1, none⟩ (.int .i64 m)) K R u ⟨l.drop k, m, e⟩ := by
  have n0 := h.n0
  have n1 := h.n1
  simp only at n0 n1
  subst hm
  refine ⟨h.hK, by simpa using h.lt, (hu.below ((Below.refl R w).setCell (Nat.le_refl _) _) h.hK).below ((Below.refl R _).setCell (Nat.le_refl _) _) h.hK, h.bytes.drop k, by simp only; omega, by simp only [List.length_drop]; omega, ?_, ?_, ?_, fun o => ?_⟩
  · rw [cell_off (by omega)]; exact cell_same h.c0
  · exact cell_same (u := .int .i64 n) ((cell_off (by omega)).trans h.c1)
  · rw [cell_off (by omega), cell_off (by omega)]; exact h.c2
  · rw [World.frozen?_setCell, World.frozen?_setCell]; exact h.f o
/-- A new one. -/
theorem Rdr.new {w : World} {v : Value} {l : List Int} (h : Rd w v l) (hb : Bytes l) (t : TypeId) : Rdr (w.alloc (.cells #[v, .int .i64 0, .int .i64 0] t)) w.heap.size w.heap.size ⟨l, 0, 0⟩ := by
  have B := Blk.new w #[v, .int .i64 0, .int .i64 0] t rfl
  have hl : l.length ≤ 9223372036854775807 := by obtain ⟨ao, cap, rfl, h1, h2, _⟩ := h; omega
  exact ⟨v, Nat.le_refl _, B.lt, h.low.below ((Below.refl _ w).alloc (Nat.le_refl _) _) (Nat.le_refl _), hb, by simp, by simp only; omega, B.cell 0 _ rfl, B.cell 1 _ rfl, B.cell 2 _ rfl, B.froz⟩
end Go.Proofs.Ytmclcoaicngodaa
