/-
  Texts Rdr, Rdr2, Rdr3 in one.
-/
import Derived.Test.YtlpdhglibgnkoaaGreatP4
namespace Go.Proofs.YtlpdhglibgnkoaaGreat
open Go.RowKit

/-! how a reader stands: the bytes that are left, how many were taken, the error -/
structure St where
  l : List Int
  n : Int
  e : Int
def failS (s : St) (x : Int) : St := if s.e = 0 then ⟨s.l, s.n, x⟩ else s
def byteA (s : St) : Int := if s.e = 0 then s.l.getD 0 0 else 0
def byteS (s : St) : St := if s.e = 0 then (if s.l = [] then ⟨s.l, s.n, 6⟩ else ⟨s.l.drop 1, s.n + 1, 0⟩) else s
/-- Why no number that is at most m is taken. -/
def uintE (m : Int) (l : List Int) : Int := if l = [] then 6 else if (got l).2.2 = 0 then (if m < (got l).1 then 3 else 0) else (got l).2.2
def uintA (m : Int) (s : St) : Int := if s.e = 0 then (if uintE m s.l = 0 then (got s.l).1 else 0) else 0
def uintS (m : Int) (s : St) : St := if s.e = 0 then (if uintE m s.l = 0 then ⟨s.l.drop (got s.l).2.1.toNat, s.n + (got s.l).2.1, 0⟩ else ⟨s.l, s.n, uintE m s.l⟩) else s
def top64 : Int := 18446744073709551615
def intA (s : St) : Int := zag (uintA top64 s)
def intS (s : St) : St := uintS top64 s
def vecS (s : St) : St := intS (intS (intS s))
def doneA (s : St) : Int := if s.e = 0 then (if s.l = [] then 0 else 8) else s.e

theorem uintE_top (l : List Int) : uintE top64 l = if l = [] then 6 else (got l).2.2 := by
  have := got_bd l
  unfold uintE top64
  split
  · rfl
  · split
    · rw [if_neg (by omega)]; omega
    · rfl
theorem got_nil : got [] = (0, 0, 5) := by decide
/-- What is got: as many bytes as there are, at most. -/
theorem got_len {l : List Int} (hb : Bytes l) (h : (got l).2.2 = 0) : 1 ≤ (got l).2.1 ∧ (got l).2.1 ≤ l.length ∧ (got l).2.1 ≤ 10 := by
  obtain ⟨_, _, n, h1, h2, h3, _⟩ := put_got hb (got l).1 (got l).2.1 (by rw [← h])
  have := got_bd l
  omega

/-! memory -/
/-- All but block R is as it was; new blocks may lie behind. -/
structure Ch (R : Nat) (w w' : World) : Prop where
  below : Below R w w'
  past : ∀ g, R < g → g < w.heap.size → w'.heap[g]? = w.heap[g]?
theorem Ch.size {R : Nat} {w w' : World} (h : Ch R w w') : w.heap.size ≤ w'.heap.size := h.below.size
theorem Ch.refl (R : Nat) (w : World) : Ch R w w := ⟨Below.refl _ _, fun _ _ _ => rfl⟩
theorem Ch.trans {R : Nat} {a b c : World} (h : Ch R a b) (k : Ch R b c) : Ch R a c :=
  ⟨h.below.trans k.below, fun g h1 h2 => (k.past g h1 (Nat.lt_of_lt_of_le h2 h.size)).trans (h.past g h1 h2)⟩
theorem Ch.drew {R : Nat} {a w : World} (h : Ch R a w) : Ch R a w.drew := ⟨h.below.drew, h.past⟩
theorem Ch.alloc {R : Nat} {a w : World} (h : Ch R a w) (hR : R ≤ w.heap.size) (o : Obj) : Ch R a (w.alloc o) :=
  ⟨h.below.alloc hR o, fun g h1 h2 => (Below.heap_alloc w o g (Nat.lt_of_lt_of_le h2 h.size)).trans (h.past g h1 h2)⟩
theorem Ch.set {R : Nat} {a w : World} (h : Ch R a w) (o : Nat) (u : Value) : Ch R a (w.setCell ⟨R, o, none⟩ u) :=
  ⟨h.below.setCell (Nat.le_refl _) u, fun g h1 h2 => (Below.heap_setCell w _ u g (by simp only [ne_eq]; omega)).trans (h.past g h1 h2)⟩
/-- A store into a block that is new since. -/
theorem Ch.setNew {R : Nat} {a w : World} (h : Ch R a w) (hR : R ≤ a.heap.size) {p : Addr} (hp : a.heap.size ≤ p.block) (u : Value) : Ch R a (w.setCell p u) :=
  ⟨h.below.setCell (Nat.le_trans hR hp) u, fun g h1 h2 => (Below.heap_setCell w _ u g (by omega)).trans (h.past g h1 h2)⟩
theorem Ch.of {R : Nat} {w w' : World} (h : Below w.heap.size w w') (hR : R ≤ w.heap.size) : Ch R w w' := ⟨h.mono hR, fun g _ h2 => h.block g h2⟩
/-- A block that is another one. -/
theorem Ch.block {R : Nat} {w w' : World} (h : Ch R w w') {g : Nat} (hg : g ≠ R) (hs : g < w.heap.size) : w'.heap[g]? = w.heap[g]? := by
  rcases Nat.lt_or_gt_of_ne hg with k | k
  · exact h.below.block g k
  · exact h.past g k hs
theorem Ch.cell {R : Nat} {w w' : World} (h : Ch R w w') {p : Addr} (hg : p.block ≠ R) (hs : p.block < w.heap.size) : w'.cell? p = w.cell? p := World.cell?_of_block (w := w) (h.block hg hs)
theorem Ch.frozen {R : Nat} {w w' : World} (h : Ch R w w') {p : Addr} (hg : p.block ≠ R) (hs : p.block < w.heap.size) : w'.frozen? p = w.frozen? p := World.frozen?_of_block (w := w) (h.block hg hs)
/-- Over B, if the block lies there. -/
theorem Ch.up {R B : Nat} {a w w' : World} (h : Below B a w) (k : Ch R w w') (hB : B ≤ R) : Below B a w' := h.trans (k.below.mono hB)
theorem Own.ch {R B : Nat} {w w' : World} {v : Value} {l : List Int} (h : Own w B v l) (k : Ch R w w') (hB : R < B) : Own w' B v l := by
  refine ⟨h.1, ?_⟩
  rcases h.2 with hn | ⟨g, cap, cur, hv, hb, hg, rest⟩
  · exact Or.inl hn
  · exact Or.inr ⟨g, cap, cur, hv, hb, (k.past g (by omega) (Array.getElem?_eq_some_iff.1 hg).1).trans hg, rest⟩

/-- A value that reads as these bytes, which lie below K. -/
def Low (w : World) (K : Nat) (v : Value) (l : List Int) : Prop :=
  ∃ ao cap, v = .slice ao l.length cap ∧ l.length ≤ cap ∧ cap ≤ 9223372036854775807 ∧ (ao = none → cap = 0) ∧ (l = [] ∨ ∃ b o, ao = some ⟨b, o, none⟩ ∧ b < K ∧ At w b o l)
theorem Low.rd {w : World} {K : Nat} {v : Value} {l : List Int} (h : Low w K v l) : Rd w v l := by
  obtain ⟨ao, cap, rfl, h1, h2, h3, h4⟩ := h
  refine ⟨ao, cap, rfl, h1, h2, h3, ?_⟩
  rcases h4 with h | ⟨b, o, h, _, k⟩
  · exact Or.inl h
  · exact Or.inr ⟨b, o, h, k⟩
theorem Rd.low {w : World} {v : Value} {l : List Int} (h : Rd w v l) : Low w w.heap.size v l := by
  obtain ⟨ao, cap, rfl, h1, h2, h3, h4⟩ := h
  refine ⟨ao, cap, rfl, h1, h2, h3, ?_⟩
  by_cases hl : l = []
  · exact Or.inl hl
  · obtain ⟨b, o, h, k⟩ := h4.resolve_left hl
    exact Or.inr ⟨b, o, h, k.lt hl, k⟩
theorem Low.below {w w' : World} {K B : Nat} {v : Value} {l : List Int} (h : Low w K v l) (hb : Below B w w') (hB : K ≤ B) : Low w' K v l := by
  obtain ⟨ao, cap, rfl, h1, h2, h3, h4⟩ := h
  refine ⟨ao, cap, rfl, h1, h2, h3, ?_⟩
  rcases h4 with h | ⟨b, o, h, k, hat⟩
  · exact Or.inl h
  · exact Or.inr ⟨b, o, h, k, hat.below hb (by omega)⟩
theorem Low.mono {w : World} {K K' : Nat} {v : Value} {l : List Int} (h : Low w K v l) (hK : K ≤ K') : Low w K' v l := by
  obtain ⟨ao, cap, rfl, h1, h2, h3, h4⟩ := h
  refine ⟨ao, cap, rfl, h1, h2, h3, ?_⟩
  rcases h4 with h | ⟨b, o, h, k, hat⟩
  · exact Or.inl h
  · exact Or.inr ⟨b, o, h, by omega, hat⟩

/-- The reader at block R stands so; its bytes lie below K. -/
structure RdrV (w : World) (K R : Nat) (v : Value) (s : St) : Prop where
  hK : K ≤ R
  lt : R < w.heap.size
  low : Low w K v s.l
  bytes : Bytes s.l
  n0 : 0 ≤ s.n
  n1 : s.n + s.l.length ≤ 9223372036854775807
  c0 : w.cell? ⟨R, 0, none⟩ = some v
  c1 : w.cell? ⟨R, 1, none⟩ = some (.int .i64 s.n)
  c2 : w.cell? ⟨R, 2, none⟩ = some (.int .i64 s.e)
  f : ∀ o, w.frozen? ⟨R, o, none⟩ = false
def Rdr (w : World) (K R : Nat) (s : St) : Prop := ∃ v, RdrV w K R v s
theorem Rdr.lt {w : World} {K R : Nat} {s : St} (h : Rdr w K R s) : R < w.heap.size := by obtain ⟨v, h⟩ := h; exact h.lt
theorem Rdr.hK {w : World} {K R : Nat} {s : St} (h : Rdr w K R s) : K ≤ R := by obtain ⟨v, h⟩ := h; exact h.hK
theorem Rdr.bytes {w : World} {K R : Nat} {s : St} (h : Rdr w K R s) : Bytes s.l := by obtain ⟨v, h⟩ := h; exact h.bytes
theorem Rdr.n0 {w : World} {K R : Nat} {s : St} (h : Rdr w K R s) : 0 ≤ s.n := by obtain ⟨v, h⟩ := h; exact h.n0
theorem Rdr.n1 {w : World} {K R : Nat} {s : St} (h : Rdr w K R s) : s.n + s.l.length ≤ 9223372036854775807 := by obtain ⟨v, h⟩ := h; exact h.n1
/-- Another reader's call, or whatever else leaves this block alone. -/
theorem RdrV.ch {w w' : World} {K R M : Nat} {v : Value} {s : St} (h : RdrV w K R v s) (k : Ch M w w') (hM : M ≠ R) (hK : K ≤ M) : RdrV w' K R v s :=
  ⟨h.hK, Nat.lt_of_lt_of_le h.lt k.size, h.low.below k.below hK, h.bytes, h.n0, h.n1, (k.cell (p := ⟨R, 0, none⟩) (Ne.symm hM) h.lt).trans h.c0, (k.cell (p := ⟨R, 1, none⟩) (Ne.symm hM) h.lt).trans h.c1,
    (k.cell (p := ⟨R, 2, none⟩) (Ne.symm hM) h.lt).trans h.c2, fun o => (k.frozen (p := ⟨R, o, none⟩) (Ne.symm hM) h.lt).trans (h.f o)⟩
theorem Rdr.ch {w w' : World} {K R M : Nat} {s : St} (h : Rdr w K R s) (k : Ch M w w') (hM : M ≠ R) (hK : K ≤ M) : Rdr w' K R s := by
  obtain ⟨v, h⟩ := h; exact ⟨v, h.ch k hM hK⟩
theorem RdrV.below {w w' : World} {K R B : Nat} {v : Value} {s : St} (h : RdrV w K R v s) (k : Below B w w') (hB : R < B) : RdrV w' K R v s :=
  ⟨h.hK, Nat.lt_of_lt_of_le h.lt k.size, h.low.below k (by have := h.hK; omega), h.bytes, h.n0, h.n1, (k.cell (p := ⟨R, 0, none⟩) hB).trans h.c0, (k.cell (p := ⟨R, 1, none⟩) hB).trans h.c1,
    (k.cell (p := ⟨R, 2, none⟩) hB).trans h.c2, fun o => (k.frozen (p := ⟨R, o, none⟩) hB).trans (h.f o)⟩
theorem Rdr.below {w w' : World} {K R B : Nat} {s : St} (h : Rdr w K R s) (k : Below B w w') (hB : R < B) : Rdr w' K R s := by
  obtain ⟨v, h⟩ := h; exact ⟨v, h.below k hB⟩
theorem Rdr.mono {w : World} {K K' R : Nat} {s : St} (h : Rdr w K R s) (hK : K ≤ K') (hR : K' ≤ R) : Rdr w K' R s := by
  obtain ⟨v, h⟩ := h; exact ⟨v, hR, h.lt, h.low.mono hK, h.bytes, h.n0, h.n1, h.c0, h.c1, h.c2, h.f⟩
theorem cell_same {w : World} {p : Addr} {u v : Value} (h : w.cell? p = some u) : (w.setCell p v).cell? p = some v := World.cell?_setCell_same _ _ _ h
theorem cell_off {w : World} {b i j : Nat} {v : Value} (h : i ≠ j) : (w.setCell ⟨b, i, none⟩ v).cell? ⟨b, j, none⟩ = w.cell? ⟨b, j, none⟩ :=
  World.cell?_setCell_other _ _ _ _ (by intro h'; exact h (by injection h'))
/-- The error is laid down. -/
theorem RdrV.fail {w : World} {K R : Nat} {v : Value} {l : List Int} {n e : Int} (h : RdrV w K R v ⟨l, n, e⟩) (x : Int) : RdrV (w.setCell ⟨R, 2, none⟩ (.int .i64 x)) K R v ⟨l, n, x⟩ :=
  ⟨h.hK, by simpa using h.lt, h.low.below ((Below.refl R w).setCell (Nat.le_refl _) _) h.hK, h.bytes, h.n0, h.n1, (cell_off (by omega)).trans h.c0, (cell_off (by omega)).trans h.c1, cell_same h.c2,
    fun o => (World.frozen?_setCell _ _ _ _).trans (h.f o)⟩
/-- What is left of a slice. -/
theorem Low.drop {w : World} {K cap : Nat} {ao : Option Addr} {l : List Int} (h : Low w K (.slice ao l.length cap) l) (k : Nat) (hk : k ≤ l.length) (v : Value)
    (hv : ∀ b o, ao = some ⟨b, o, none⟩ → ∃ a, v = .slice (some a) (l.length - k) (cap - k) ∧ (l.length - k = 0 ∨ a = ⟨b, o + k, none⟩)) (hl : l ≠ []) : Low w K v (l.drop k) := by
  obtain ⟨ao', cap', e, h1, h2, h3, h4⟩ := h
  injection e with e1 e2 e3
  subst e1 e3
  obtain ⟨b, o, rfl, hb, hat⟩ := h4.resolve_left hl
  obtain ⟨a, rfl, ha⟩ := hv b o rfl
  refine ⟨some a, cap - k, by rw [List.length_drop], by rw [List.length_drop]; omega, by omega, fun h => by simp at h, ?_⟩
  rcases ha with ha | rfl
  · left; exact List.eq_nil_of_length_eq_zero (by rw [List.length_drop]; omega)
  · exact Or.inr ⟨b, o + k, rfl, hb, hat.drop k⟩
/-- Bytes are taken. -/
theorem RdrV.take {w : World} {K R : Nat} {v u : Value} {l : List Int} {n e : Int} (h : RdrV w K R v ⟨l, n, e⟩) (k : Nat) (hk : k ≤ l.length) (m : Int) (hm : m = n + k) (hu : Low w K u (l.drop k)) :
    RdrV ((w.setCell ⟨R, 0, none⟩ u).setCell ⟨R, 1, none⟩ (.int .i64 m)) K R u ⟨l.drop k, m, e⟩ := by
  have n0 := h.n0
  have n1 := h.n1
  simp only at n0 n1
  subst hm
  refine ⟨h.hK, by simpa using h.lt, (hu.below ((Below.refl R w).setCell (Nat.le_refl _) _) h.hK).below ((Below.refl R _).setCell (Nat.le_refl _) _) h.hK, h.bytes.drop k, by simp only; omega, by simp only [List.length_drop]; omega, ?_, ?_, ?_, fun o => ?_⟩
  · rw [cell_off (by omega)]; exact cell_same h.c0
  · exact cell_same (u := .int .i64 n) ((cell_off (by omega)).trans h.c1)
  · rw [cell_off (by omega), cell_off (by omega)]; exact h.c2
  · rw [World.frozen?_setCell, World.frozen?_setCell]; exact h.f o
/-- A new one. -/
theorem Rdr.new {w : World} {v : Value} {l : List Int} (h : Rd w v l) (hb : Bytes l) (t : TypeId) : Rdr (w.alloc (.cells #[v, .int .i64 0, .int .i64 0] t)) w.heap.size w.heap.size ⟨l, 0, 0⟩ := by
  have B := Blk.new w #[v, .int .i64 0, .int .i64 0] t rfl
  have hl : l.length ≤ 9223372036854775807 := by obtain ⟨ao, cap, rfl, h1, h2, _⟩ := h; omega
  exact ⟨v, Nat.le_refl _, B.lt, h.low.below ((Below.refl _ w).alloc (Nat.le_refl _) _) (Nat.le_refl _), hb, by simp, by simp only; omega, B.cell 0 _ rfl, B.cell 1 _ rfl, B.cell 2 _ rfl, B.froz⟩
end Go.Proofs.YtlpdhglibgnkoaaGreat

namespace Go.Proofs.YtlpdhglibgnkoaaGreat
open Go.RowKit
set_option linter.unusedVariables false

theorem new_any (w : World) (v : Value) (l : List Int) (hb : Bytes l) (h : Rd w v l) : Calls Tryz.prog 45 #[v] w fun e w' =>
    e = .returned (.pointer (some ⟨w.heap.size, 0, none⟩)) ∧ Rdr w' w.heap.size w.heap.size ⟨l, 0, 0⟩ ∧ Below w.heap.size w w' ∧ w'.heap.size = w.heap.size + 1 := by
  have HR : Hid (Rd w v l) := h
  obtain ⟨ao, cap, rfl, _, _, _, _⟩ := h
  go_enter Tryz.func45, Tryz.ntmps45
  go_wp2_with fail
  go_ret
  exact ⟨rfl, Rdr.new HR.out hb _, (Below.refl _ _).alloc (Nat.le_refl _) _, by simp⟩

theorem err_any (w : World) (K R : Nat) (s : St) (h : Rdr w K R s) : Calls Tryz.prog 81 #[.pointer (some ⟨R, 0, none⟩)] w fun e w' => e = .returned (.int .i64 s.e) ∧ w' = w := by
  obtain ⟨v, h⟩ := h
  have c2 := h.c2
  go_enter Tryz.func81, Tryz.ntmps81
  go_wp2_with fail
  go_ret
  exact ⟨rfl, rfl⟩
theorem left_any (w : World) (K R : Nat) (s : St) (h : Rdr w K R s) : Calls Tryz.prog 82 #[.pointer (some ⟨R, 0, none⟩)] w fun e w' => e = .returned (.int .i64 s.l.length) ∧ w' = w := by
  obtain ⟨v, h⟩ := h
  have c0 := h.c0
  obtain ⟨ao, cap, rfl, _, _, _, _⟩ := h.low
  go_enter Tryz.func82, Tryz.ntmps82
  go_wp2_with fail
  go_ret
  exact ⟨rfl, rfl⟩
theorem fail_any (w : World) (K R : Nat) (s : St) (x : Int) (h : Rdr w K R s) : Calls Tryz.prog 111 #[.pointer (some ⟨R, 0, none⟩), .int .i64 x] w fun e w' => e = .returned (.tuple #[]) ∧ Rdr w' K R (failS s x) ∧ Ch R w w' := by
  have HR : Hid (Rdr w K R s) := h
  obtain ⟨l, n, e⟩ := s
  obtain ⟨v, h⟩ := h
  have HV : Hid (RdrV w K R v ⟨l, n, e⟩) := h
  have c2 := h.c2
  have f2 := h.f 2
  have lt := h.lt
  clear h
  simp only at c2
  by_cases he : e = 0
  · subst he
    go_enter Tryz.func111, Tryz.ntmps111
    go_wp2_with fail
    refine (err_any _ K R _ HR.out).mono ?_; rintro e w1 ⟨rfl, rfl⟩
    go_wp2_with fail
    go_end0
    exact ⟨rfl, ⟨v, HV.out.fail x⟩, (Ch.refl _ _).set 2 _⟩
  · go_enter Tryz.func111, Tryz.ntmps111
    go_wp2_with fail
    refine (err_any _ K R _ HR.out).mono ?_; rintro e w1 ⟨rfl, rfl⟩
    go_wp2_with fail
    go_end0
    refine ⟨rfl, ?_, Ch.refl _ _⟩
    unfold failS; rw [if_neg (by simpa using he)]; exact HR.out
theorem done_any (w : World) (K R : Nat) (s : St) (h : Rdr w K R s) : Calls Tryz.prog 47 #[.pointer (some ⟨R, 0, none⟩)] w fun e w' => e = .returned (.int .i64 (doneA s)) ∧ w' = w := by
  have HR : Hid (Rdr w K R s) := h
  clear h
  obtain ⟨l, n, e⟩ := s
  obtain ⟨d, hd⟩ : ∃ d, doneA ⟨l, n, e⟩ = d := ⟨_, rfl⟩
  rw [hd]
  have HD := (show Hid _ from hd)
  clear hd
  by_cases he : e = 0
  · subst he
    by_cases hl : l = []
    · subst hl
      go_enter Tryz.func47, Tryz.ntmps47
      go_wp2_with fail
      refine (err_any _ K R _ HR.out).mono ?_; rintro e w1 ⟨rfl, rfl⟩
      go_wp2_with fail
      refine (left_any _ K R _ HR.out).mono ?_; rintro e w1 ⟨rfl, rfl⟩
      go_wp2_with fail
      refine (err_any _ K R _ HR.out).mono ?_; rintro e w1 ⟨rfl, rfl⟩
      go_wp2_with fail
      go_ret
      exact ⟨ret_int (by have := HD.out; simpa [doneA] using this), rfl⟩
    · have hp := List.length_pos_iff.2 hl
      obtain ⟨m, hm⟩ : ∃ m, l.length = m := ⟨_, rfl⟩
      rw [hm] at hp
      have HM := (show Hid _ from hm)
      have q : decide ((0 : Int) < (m : Int)) = true := by simp; omega
      clear hm
      go_enter Tryz.func47, Tryz.ntmps47
      go_wp2_with fail
      refine (err_any _ K R _ HR.out).mono ?_; rintro e w1 ⟨rfl, rfl⟩
      go_wp2_with fail
      refine (left_any _ K R _ HR.out).mono ?_; simp only; rw [HM.out]; rintro e w1 ⟨rfl, rfl⟩
      go_wp2_with fail
      go_ret
      exact ⟨ret_int (by have := HD.out; simpa [doneA, hl] using this), rfl⟩
  · go_enter Tryz.func47, Tryz.ntmps47
    go_wp2_with fail
    refine (err_any _ K R _ HR.out).mono ?_; rintro e w1 ⟨rfl, rfl⟩
    go_wp2_with fail
    refine (err_any _ K R _ HR.out).mono ?_; rintro e w1 ⟨rfl, rfl⟩
    go_wp2_with fail
    go_ret
    exact ⟨ret_int (by have := HD.out; simpa [doneA, he] using this), rfl⟩
end Go.Proofs.YtlpdhglibgnkoaaGreat

namespace Go.Proofs.YtlpdhglibgnkoaaGreat
open Go.RowKit
set_option linter.unusedVariables false

theorem first_any (w : World) (v : Value) (l : List Int) (hl : l ≠ []) (h : Rd w v l) : Calls Tryz.prog 154 #[v] w fun e w' => e = .returned (.tuple #[.int .u8 (l.getD 0 0), .int .i64 1, .int .i64 0]) ∧ w' = w := by
  have hp := List.length_pos_iff.2 hl
  obtain ⟨ao, cap, rfl, h1, h2, h3, h4⟩ := h
  obtain ⟨b, o, rfl, hat⟩ := h4.resolve_left hl
  have hc := hat 0 hp
  obtain ⟨x, hx⟩ : ∃ x, l.getD 0 0 = x := ⟨_, rfl⟩
  obtain ⟨n, hn⟩ : ∃ n, l.length = n := ⟨_, rfl⟩
  rw [hx] at hc ⊢
  rw [hn] at hp h1 ⊢
  simp only [Nat.add_zero] at hc
  clear hat h4 hl hx hn h3
  go_enter Tryz.func154, Tryz.ntmps154
  go_wp2_with fail
  go_ret3
  exact ⟨rfl, rfl⟩
theorem signed_any (w : World) (v : Value) (l : List Int) (hb : Bytes l) (h : Rd w v l) : Calls Tryz.prog 138 #[v] w fun e w' => e = .returned (.tuple #[.int .i64 (zag (got l).1), .int .i64 (got l).2.1, .int .i64 (got l).2.2]) ∧ w' = w := by
  have HR : Hid (Rd w v l) := h
  have hbd := got_bd l
  obtain ⟨g, hg⟩ : ∃ g, got l = g := ⟨_, rfl⟩
  have HG : Hid (got l = g) := hg
  rw [hg] at hbd ⊢
  obtain ⟨x, k, er⟩ := g
  obtain ⟨x0, x1, k0, k1, e0, e1⟩ := hbd
  simp only at x0 x1 k0 k1 e0 e1 ⊢
  have BE : Hid (Bytes l) := hb
  clear hg hb
  obtain ⟨ao, cap, rfl, _, _, _, _⟩ := h
  go_enter Tryz.func138, Tryz.ntmps138
  go_wp2_with fail
  refine (get_any _ l BE.out _ HR.out).mono ?_; rw [HG.out]; rintro e w1 ⟨rfl, rfl⟩
  go_wp2_with fail
  refine (zag_any x x0 x1 _).mono ?_; rintro e w1 ⟨rfl, rfl⟩
  go_wp2_with fail
  go_ret3
  exact ⟨rfl, rfl⟩
/-- A closure's own cell. -/
theorem upTo_any (w : World) (m : Int) : Calls Tryz.prog 136 #[.int .u64 m] w fun e w' => e = .returned (.func (.func 155) #[] #[.pointer (some ⟨w.heap.size, 0, none⟩)]) ∧ Below w.heap.size w w' ∧ w'.heap.size = w.heap.size + 1 ∧ w'.cell? ⟨w.heap.size, 0, none⟩ = some (.int .u64 m) := by
  go_enter Tryz.func136, Tryz.ntmps136
  go_wp2_with fail
  go_ret
  exact ⟨rfl, (Below.refl _ _).alloc (Nat.le_refl _) _, by simp, by simp⟩
def upE (m : Int) (g : Int × Int × Int) : Int := if g.2.2 = 0 then (if m < g.1 then 3 else 0) else g.2.2
theorem upTo1_any (w : World) (v : Value) (l : List Int) (m : Int) (C : Nat) (hb : Bytes l) (h : Rd w v l) (hc : w.cell? ⟨C, 0, none⟩ = some (.int .u64 m)) : Calls Tryz.prog 155 #[v, .pointer (some ⟨C, 0, none⟩)] w fun e w' => e = .returned (.tuple #[.int .u64 (got l).1, .int .i64 (got l).2.1, .int .i64 (upE m (got l))]) ∧ w' = w := by
  have HR : Hid (Rd w v l) := h
  have hbd := got_bd l
  obtain ⟨g, hg⟩ : ∃ g, got l = g := ⟨_, rfl⟩
  have HG : Hid (got l = g) := hg
  rw [hg] at hbd ⊢
  obtain ⟨x, k, er⟩ := g
  obtain ⟨x0, x1, k0, k1, e0, e1⟩ := hbd
  simp only at x0 x1 k0 k1 e0 e1 ⊢
  have BE : Hid (Bytes l) := hb
  clear hg hb
  obtain ⟨ao, cap, rfl, _, _, _, _⟩ := h
  obtain ⟨z, hz⟩ : ∃ z, upE m (x, k, er) = z := ⟨_, rfl⟩
  rw [hz]
  have HZ := (show Hid _ from hz)
  clear hz
  by_cases he : er = 0
  · subst he
    by_cases hm : m < x
    · go_enter Tryz.func155, Tryz.ntmps155
      go_wp2_with fail
      refine (get_any _ l BE.out _ HR.out).mono ?_; rw [HG.out]; rintro e w1 ⟨rfl, rfl⟩
      go_wp2_with fail
      go_ret3
      exact ⟨ret_three rfl rfl (by have := HZ.out; simpa [upE, hm] using this), rfl⟩
    · go_enter Tryz.func155, Tryz.ntmps155
      go_wp2_with fail
      refine (get_any _ l BE.out _ HR.out).mono ?_; rw [HG.out]; rintro e w1 ⟨rfl, rfl⟩
      go_wp2_with fail
      go_ret3
      exact ⟨ret_three rfl rfl (by have := HZ.out; unfold upE at this; rw [if_pos rfl, if_neg (Int.not_lt.2 hm)] at this; exact this), rfl⟩
  · go_enter Tryz.func155, Tryz.ntmps155
    go_wp2_with fail
    refine (get_any _ l BE.out _ HR.out).mono ?_; rw [HG.out]; rintro e w1 ⟨rfl, rfl⟩
    go_wp2_with fail
    go_ret3
    exact ⟨ret_three rfl rfl (by have := HZ.out; simpa [upE, he] using this), rfl⟩
/-- What is left of a slice, as the walk spells it. -/
theorem low_cut {w : World} {K cap b o m k len' cap' : Nat} {a : Addr} {l : List Int} (h : Low w K (.slice (some ⟨b, o, none⟩) m cap) l) (hlen : l.length = m) (hl : l ≠ []) (hk : k ≤ m) (e1 : len' = m - k) (e2 : cap' = cap - k) (ha : len' = 0 ∨ a = ⟨b, o + k, none⟩) :
    Low w K (.slice (some a) len' cap') (l.drop k) := by
  subst hlen e1 e2
  refine h.drop k hk _ ?_ hl
  rintro b' o' e
  injection e with e; injection e with e1 e2
  subst e1 e2
  exact ⟨a, rfl, ha⟩
set_option maxHeartbeats 1000000 in
theorem takeByte (w : World) (K R : Nat) (s : St) (h : Rdr w K R s) : Calls Tryz.prog 153 #[.pointer (some ⟨R, 0, none⟩), .func (.func 154) #[] #[]] w fun e w' => e = .returned (.int .u8 (byteA s)) ∧ Rdr w' K R (byteS s) ∧ Ch R w w' := by
  have HR : Hid (Rdr w K R s) := h
  obtain ⟨l, n, e⟩ := s
  obtain ⟨v, h⟩ := h
  have HV : Hid (RdrV w K R v ⟨l, n, e⟩) := h
  have c0 := h.c0
  have c1 := h.c1
  have c2 := h.c2
  have f0 := h.f 0
  have f1 := h.f 1
  have n0 := h.n0
  have n1 := h.n1
  have lt := h.lt
  have hlow := h.low
  have HL : Hid (Low w K v l) := h.low
  have HB : Hid (Bytes l) := h.bytes
  clear h
  simp only at c0 c1 c2 n0 n1 hlow
  obtain ⟨m, hm⟩ : ∃ m, l.length = m := ⟨_, rfl⟩
  rw [hm] at n1
  have HM : Hid (l.length = m) := hm
  obtain ⟨ao, cap, rfl, q1, q2, q3, q4⟩ := hlow
  rw [hm] at c0 q1
  clear q3
  by_cases he : e = 0
  · subst he
    by_cases hl : l = []
    · subst hl
      have m0 : m = 0 := by simpa using hm.symm
      subst m0
      clear q4 hm
      go_enter Tryz.func153, Tryz.ntmps153
      go_wp2_with fail
      refine (left_any _ K R _ HR.out).mono ?_; rintro e w1 ⟨rfl, rfl⟩
      go_wp2_with fail
      refine (fail_any _ K R _ 6 HR.out).mono ?_; rintro e w1 ⟨rfl, r1, g1⟩
      have R1 : Hid (Rdr w1 K R ⟨[], n, 6⟩) := r1
      clear r1
      go_wp2_with fail
      refine (err_any _ K R _ R1.out).mono ?_; rintro e w2 ⟨rfl, rfl⟩
      go_wp2_with fail
      go_ret
      exact ⟨ret_int (by simp [byteA]), by have := R1.out; simpa [byteS] using this, g1⟩
    · have hp := List.length_pos_iff.2 hl
      rw [hm] at hp
      have q : ((m : Int) == 0) = false := by simp; omega
      obtain ⟨b, o, rfl, hbK, hat⟩ := q4.resolve_left hl
      have HL2 : Hid (l ≠ []) := hl
      rw [hm] at HL
      clear hm hl hat q4
      have q5 : ¬ (m : Int) < 1 := by omega
      obtain ⟨x, hx⟩ : ∃ x, l.getD 0 0 = x := ⟨_, rfl⟩
      have HX : Hid (l.getD 0 0 = x) := hx
      clear hx
      go_enter Tryz.func153, Tryz.ntmps153
      go_wp2_with fail
      refine (left_any _ K R _ HR.out).mono ?_; simp only; rw [HM.out]; rintro e w1 ⟨rfl, rfl⟩
      go_wp2_with fail
      refine (err_any _ K R _ HR.out).mono ?_; rintro e w1 ⟨rfl, rfl⟩
      go_wp2_with (go_at_call 154; refine (first_any _ _ l HL2.out HL.out.rd).mono ?_; rw [HX.out]; rintro e w1 ⟨rfl, rfl⟩)
      all_goals
        go_ret
        refine ⟨ret_int (by have := HX.out; simpa [byteA] using this.symm), ?_, ((Ch.refl _ _).set 0 _).set 1 _⟩
        unfold byteS; rw [if_pos rfl, if_neg HL2.out]
        exact ⟨_, HV.out.take 1 (by have := HM.out; omega) _ rfl (low_cut HL.out HM.out HL2.out (by omega) (by omega) (by omega) (by first | (right; rfl) | (left; omega)))⟩
  · have hne : (e == 0) = false := by simpa using he
    by_cases hl : l = []
    · subst hl
      have m0 : m = 0 := by simpa using hm.symm
      subst m0
      clear q4 hm
      go_enter Tryz.func153, Tryz.ntmps153
      go_wp2_with fail
      refine (left_any _ K R _ HR.out).mono ?_; rintro e w1 ⟨rfl, rfl⟩
      go_wp2_with fail
      refine (fail_any _ K R _ 6 HR.out).mono ?_; rintro e w1 ⟨rfl, r1, g1⟩
      have R1 : Hid (Rdr w1 K R ⟨[], n, e⟩) := by unfold failS at r1; rw [if_neg (by simpa using he)] at r1; exact r1
      clear r1
      go_wp2_with fail
      refine (err_any _ K R _ R1.out).mono ?_; rintro e w2 ⟨rfl, rfl⟩
      go_wp2_with fail
      go_ret
      exact ⟨ret_int (by simp [byteA, he]), by have := R1.out; simpa [byteS, he] using this, g1⟩
    · have hp := List.length_pos_iff.2 hl
      rw [hm] at hp
      have q : ((m : Int) == 0) = false := by simp; omega
      clear hm hl q4
      go_enter Tryz.func153, Tryz.ntmps153
      go_wp2_with fail
      refine (left_any _ K R _ HR.out).mono ?_; simp only; rw [HM.out]; rintro e w1 ⟨rfl, rfl⟩
      go_wp2_with fail
      refine (err_any _ K R _ HR.out).mono ?_; rintro e w2 ⟨rfl, rfl⟩
      go_wp2_with fail
      go_ret
      exact ⟨ret_int (by simp [byteA, he]), by have := HR.out; simpa [byteS, he] using this, Ch.refl _ _⟩
set_option maxHeartbeats 1000000 in
theorem takeInt (w : World) (K R : Nat) (s : St) (h : Rdr w K R s) : Calls Tryz.prog 137 #[.pointer (some ⟨R, 0, none⟩), .func (.func 138) #[] #[]] w fun e w' => e = .returned (.int .i64 (intA s)) ∧ Rdr w' K R (intS s) ∧ Ch R w w' := by
  have HR : Hid (Rdr w K R s) := h
  obtain ⟨l, n, e⟩ := s
  obtain ⟨v, h⟩ := h
  have HV : Hid (RdrV w K R v ⟨l, n, e⟩) := h
  have c0 := h.c0
  have c1 := h.c1
  have c2 := h.c2
  have f0 := h.f 0
  have f1 := h.f 1
  have n0 := h.n0
  have n1 := h.n1
  have lt := h.lt
  have hlow := h.low
  have HL : Hid (Low w K v l) := h.low
  have HB : Hid (Bytes l) := h.bytes
  clear h
  simp only at c0 c1 c2 n0 n1 hlow
  obtain ⟨m, hm⟩ : ∃ m, l.length = m := ⟨_, rfl⟩
  rw [hm] at n1
  have HM : Hid (l.length = m) := hm
  obtain ⟨ao, cap, rfl, q1, q2, q3, q4⟩ := hlow
  rw [hm] at c0 q1
  clear q3
  by_cases he : e = 0
  · subst he
    by_cases hl : l = []
    · subst hl
      have m0 : m = 0 := by simpa using hm.symm
      subst m0
      clear q4 hm
      go_enter Tryz.func137, Tryz.ntmps137
      go_wp2_with fail
      refine (left_any _ K R _ HR.out).mono ?_; rintro e w1 ⟨rfl, rfl⟩
      go_wp2_with fail
      refine (fail_any _ K R _ 6 HR.out).mono ?_; rintro e w1 ⟨rfl, r1, g1⟩
      have R1 : Hid (Rdr w1 K R ⟨[], n, 6⟩) := r1
      clear r1
      go_wp2_with fail
      refine (err_any _ K R _ R1.out).mono ?_; rintro e w2 ⟨rfl, rfl⟩
      go_wp2_with fail
      go_ret
      exact ⟨ret_int (by simp [intA, uintA, uintE]; rfl), by have := R1.out; simpa [intS, uintS, uintE] using this, g1⟩
    · have hp := List.length_pos_iff.2 hl
      rw [hm] at hp
      have q : ((m : Int) == 0) = false := by simp; omega
      obtain ⟨b, o, rfl, hbK, hat⟩ := q4.resolve_left hl
      have HL2 : Hid (l ≠ []) := hl
      rw [hm] at HL
      clear hm hl hat q4
      have hbd := got_bd l
      have hgl := got_len HB.out
      rw [HM.out] at hgl
      obtain ⟨g, hg⟩ : ∃ g, got l = g := ⟨_, rfl⟩
      have HG : Hid (got l = g) := hg
      rw [hg] at hbd hgl
      obtain ⟨x, kI, er⟩ := g
      obtain ⟨x0, x1, k0, k1, e0, e1⟩ := hbd
      simp only at x0 x1 k0 k1 e0 e1 hgl
      obtain ⟨k, rfl⟩ : ∃ k : Nat, kI = k := ⟨kI.toNat, by omega⟩
      clear hg
      obtain ⟨z, hzz⟩ : ∃ z, er = z := ⟨_, rfl⟩
      subst hzz
      have HT : Hid (uintE top64 l = er) := by show uintE top64 l = er; rw [uintE_top, if_neg HL2.out, HG.out]
      have HZ0 : Hid (er = 0 → er = 0 ∧ True) := fun h => ⟨h, trivial⟩
      have HZ1 : Hid (er = 0 → uintE top64 l = 0) := fun h => HT.out.trans h
      have HZ2 : Hid (er ≠ 0 → uintE top64 l = er) := fun _ => HT.out
      by_cases hz : er = 0
      · clear HT; subst hz
        skip
        obtain ⟨g1, g2, g3⟩ := hgl rfl
        have g4 : ¬ (m : Int) < (k : Int) := by omega
        have g5 : 1 ≤ k := by omega
        have g6 : k ≤ m := by omega
        have HE : Hid (uintE top64 l = 0) := HZ1.out rfl
        clear hgl
        go_enter Tryz.func137, Tryz.ntmps137
        go_wp2_with fail
        refine (left_any _ K R _ HR.out).mono ?_; simp only; rw [HM.out]; rintro e w1 ⟨rfl, rfl⟩
        go_wp2_with fail
        refine (err_any _ K R _ HR.out).mono ?_; rintro e w1 ⟨rfl, rfl⟩
        go_wp2_with (go_at_call 138; refine (signed_any _ _ l HB.out HL.out.rd).mono ?_; rw [HG.out]; rintro e w1 ⟨rfl, rfl⟩)
        all_goals
          go_ret
          refine ⟨ret_int (by unfold intA uintA; simp [HE.out, HG.out]), ?_, ((Ch.refl _ _).set 0 _).set 1 _⟩
          unfold intS uintS; rw [if_pos rfl, if_pos HE.out, HG.out]
          exact ⟨_, HV.out.take k (by have := HM.out; omega) _ rfl (low_cut HL.out HM.out HL2.out (by omega) (by omega) (by omega) (by first | (right; rfl) | (left; omega)))⟩
      · have hzz : (er == 0) = false := by simpa using hz
        have HE : Hid (uintE top64 l = er) := HZ2.out hz
        clear hgl
        go_enter Tryz.func137, Tryz.ntmps137
        go_wp2_with fail
        refine (left_any _ K R _ HR.out).mono ?_; simp only; rw [HM.out]; rintro e w1 ⟨rfl, rfl⟩
        go_wp2_with fail
        refine (err_any _ K R _ HR.out).mono ?_; rintro e w1 ⟨rfl, rfl⟩
        go_wp2_with (go_at_call 138; refine (signed_any _ _ l HB.out HL.out.rd).mono ?_; rw [HG.out]; rintro e w1 ⟨rfl, rfl⟩)
        refine (fail_any _ K R _ er HR.out).mono ?_; rintro e w1 ⟨rfl, r1, g1⟩
        go_wp2_with fail
        go_ret
        refine ⟨ret_int (by unfold intA uintA; simp [HE.out, hz]; try rfl), ?_, g1⟩
        unfold intS uintS; rw [if_pos rfl, if_neg (by rw [HE.out]; exact hz)]; rw [HE.out]; exact r1
  · have hne : (e == 0) = false := by simpa using he
    by_cases hl : l = []
    · subst hl
      have m0 : m = 0 := by simpa using hm.symm
      subst m0
      clear q4 hm
      go_enter Tryz.func137, Tryz.ntmps137
      go_wp2_with fail
      refine (left_any _ K R _ HR.out).mono ?_; rintro e w1 ⟨rfl, rfl⟩
      go_wp2_with fail
      refine (fail_any _ K R _ 6 HR.out).mono ?_; rintro e w1 ⟨rfl, r1, g1⟩
      have R1 : Hid (Rdr w1 K R ⟨[], n, e⟩) := by unfold failS at r1; rw [if_neg (by simpa using he)] at r1; exact r1
      clear r1
      go_wp2_with fail
      refine (err_any _ K R _ R1.out).mono ?_; rintro e w2 ⟨rfl, rfl⟩
      go_wp2_with fail
      go_ret
      exact ⟨ret_int (by simp [intA, uintA, he]; rfl), by have := R1.out; simpa [intS, uintS, he] using this, g1⟩
    · have hp := List.length_pos_iff.2 hl
      rw [hm] at hp
      have q : ((m : Int) == 0) = false := by simp; omega
      clear hm hl q4
      go_enter Tryz.func137, Tryz.ntmps137
      go_wp2_with fail
      refine (left_any _ K R _ HR.out).mono ?_; simp only; rw [HM.out]; rintro e w1 ⟨rfl, rfl⟩
      go_wp2_with fail
      refine (err_any _ K R _ HR.out).mono ?_; rintro e w2 ⟨rfl, rfl⟩
      go_wp2_with fail
      go_ret
      exact ⟨ret_int (by simp [intA, uintA, he]; rfl), by have := HR.out; simpa [intS, uintS, he] using this, Ch.refl _ _⟩
set_option maxHeartbeats 1000000 in
theorem takeUint (w : World) (K R : Nat) (s : St) (most : Int) (C : Nat) (hc : w.cell? ⟨C, 0, none⟩ = some (.int .u64 most)) (h : Rdr w K R s) : Calls Tryz.prog 135 #[.pointer (some ⟨R, 0, none⟩), .func (.func 155) #[] #[.pointer (some ⟨C, 0, none⟩)]] w fun e w' => e = .returned (.int .u64 (uintA most s)) ∧ Rdr w' K R (uintS most s) ∧ Ch R w w' := by
  have HR : Hid (Rdr w K R s) := h
  obtain ⟨l, n, e⟩ := s
  obtain ⟨v, h⟩ := h
  have HV : Hid (RdrV w K R v ⟨l, n, e⟩) := h
  have c0 := h.c0
  have c1 := h.c1
  have c2 := h.c2
  have f0 := h.f 0
  have f1 := h.f 1
  have n0 := h.n0
  have n1 := h.n1
  have lt := h.lt
  have hlow := h.low
  have HL : Hid (Low w K v l) := h.low
  have HB : Hid (Bytes l) := h.bytes
  clear h
  simp only at c0 c1 c2 n0 n1 hlow
  obtain ⟨m, hm⟩ : ∃ m, l.length = m := ⟨_, rfl⟩
  rw [hm] at n1
  have HM : Hid (l.length = m) := hm
  obtain ⟨ao, cap, rfl, q1, q2, q3, q4⟩ := hlow
  rw [hm] at c0 q1
  clear q3
  by_cases he : e = 0
  · subst he
    by_cases hl : l = []
    · subst hl
      have m0 : m = 0 := by simpa using hm.symm
      subst m0
      clear q4 hm
      go_enter Tryz.func135, Tryz.ntmps135
      go_wp2_with fail
      refine (left_any _ K R _ HR.out).mono ?_; rintro e w1 ⟨rfl, rfl⟩
      go_wp2_with fail
      refine (fail_any _ K R _ 6 HR.out).mono ?_; rintro e w1 ⟨rfl, r1, g1⟩
      have R1 : Hid (Rdr w1 K R ⟨[], n, 6⟩) := r1
      clear r1
      go_wp2_with fail
      refine (err_any _ K R _ R1.out).mono ?_; rintro e w2 ⟨rfl, rfl⟩
      go_wp2_with fail
      go_ret
      exact ⟨ret_int (by simp [uintA, uintE]), by have := R1.out; simpa [uintS, uintE] using this, g1⟩
    · have hp := List.length_pos_iff.2 hl
      rw [hm] at hp
      have q : ((m : Int) == 0) = false := by simp; omega
      obtain ⟨b, o, rfl, hbK, hat⟩ := q4.resolve_left hl
      have HL2 : Hid (l ≠ []) := hl
      rw [hm] at HL
      clear hm hl hat q4
      have hbd := got_bd l
      have hgl := got_len HB.out
      rw [HM.out] at hgl
      obtain ⟨g, hg⟩ : ∃ g, got l = g := ⟨_, rfl⟩
      have HG : Hid (got l = g) := hg
      rw [hg] at hbd hgl
      obtain ⟨x, kI, er⟩ := g
      obtain ⟨x0, x1, k0, k1, e0, e1⟩ := hbd
      simp only at x0 x1 k0 k1 e0 e1 hgl
      obtain ⟨k, rfl⟩ : ∃ k : Nat, kI = k := ⟨kI.toNat, by omega⟩
      clear hg
      obtain ⟨z, hzz⟩ : ∃ z, upE most (x, (k : Int), er) = z := ⟨_, rfl⟩
      have HT : Hid (uintE most l = z) := by show uintE most l = z; unfold uintE; rw [if_neg HL2.out, HG.out]; exact hzz
      have HU : Hid (upE most (x, (k : Int), er) = z) := hzz
      have HZ0 : Hid (z = 0 → er = 0 ∧ True) := fun h => by
        refine ⟨?_, trivial⟩
        unfold upE at hzz
        simp only at hzz
        split at hzz
        · assumption
        · omega
      have HZ1 : Hid (z = 0 → uintE most l = 0) := fun h => HT.out.trans h
      have HZ2 : Hid (z ≠ 0 → uintE most l = z) := fun _ => HT.out
      clear hzz
      by_cases hz : z = 0
      · subst hz
        obtain ⟨he, hx⟩ := HZ0.out rfl
        subst he
        obtain ⟨g1, g2, g3⟩ := hgl rfl
        have g4 : ¬ (m : Int) < (k : Int) := by omega
        have g5 : 1 ≤ k := by omega
        have g6 : k ≤ m := by omega
        have HE : Hid (uintE most l = 0) := HZ1.out rfl
        clear hgl
        go_enter Tryz.func135, Tryz.ntmps135
        go_wp2_with fail
        refine (left_any _ K R _ HR.out).mono ?_; simp only; rw [HM.out]; rintro e w1 ⟨rfl, rfl⟩
        go_wp2_with fail
        refine (err_any _ K R _ HR.out).mono ?_; rintro e w1 ⟨rfl, rfl⟩
        go_wp2_with (go_at_call 155; refine (upTo1_any _ _ l most C HB.out HL.out.rd hc).mono ?_; rw [HG.out, HU.out]; rintro e w1 ⟨rfl, rfl⟩)
        all_goals
          go_ret
          refine ⟨ret_int (by unfold uintA; simp [HE.out, HG.out]), ?_, ((Ch.refl _ _).set 0 _).set 1 _⟩
          unfold uintS; rw [if_pos rfl, if_pos HE.out, HG.out]
          exact ⟨_, HV.out.take k (by have := HM.out; omega) _ rfl (low_cut HL.out HM.out HL2.out (by omega) (by omega) (by omega) (by first | (right; rfl) | (left; omega)))⟩
      · have hzz : (z == 0) = false := by simpa using hz
        have HE : Hid (uintE most l = z) := HZ2.out hz
        clear hgl
        go_enter Tryz.func135, Tryz.ntmps135
        go_wp2_with fail
        refine (left_any _ K R _ HR.out).mono ?_; simp only; rw [HM.out]; rintro e w1 ⟨rfl, rfl⟩
        go_wp2_with fail
        refine (err_any _ K R _ HR.out).mono ?_; rintro e w1 ⟨rfl, rfl⟩
        go_wp2_with (go_at_call 155; refine (upTo1_any _ _ l most C HB.out HL.out.rd hc).mono ?_; rw [HG.out, HU.out]; rintro e w1 ⟨rfl, rfl⟩)
        refine (fail_any _ K R _ z HR.out).mono ?_; rintro e w1 ⟨rfl, r1, g1⟩
        go_wp2_with fail
        go_ret
        refine ⟨ret_int (by unfold uintA; simp [HE.out, hz]; try rfl), ?_, g1⟩
        unfold uintS; rw [if_pos rfl, if_neg (by rw [HE.out]; exact hz)]; rw [HE.out]; exact r1
  · have hne : (e == 0) = false := by simpa using he
    by_cases hl : l = []
    · subst hl
      have m0 : m = 0 := by simpa using hm.symm
      subst m0
      clear q4 hm
      go_enter Tryz.func135, Tryz.ntmps135
      go_wp2_with fail
      refine (left_any _ K R _ HR.out).mono ?_; rintro e w1 ⟨rfl, rfl⟩
      go_wp2_with fail
      refine (fail_any _ K R _ 6 HR.out).mono ?_; rintro e w1 ⟨rfl, r1, g1⟩
      have R1 : Hid (Rdr w1 K R ⟨[], n, e⟩) := by unfold failS at r1; rw [if_neg (by simpa using he)] at r1; exact r1
      clear r1
      go_wp2_with fail
      refine (err_any _ K R _ R1.out).mono ?_; rintro e w2 ⟨rfl, rfl⟩
      go_wp2_with fail
      go_ret
      exact ⟨ret_int (by simp [uintA, he]), by have := R1.out; simpa [uintS, he] using this, g1⟩
    · have hp := List.length_pos_iff.2 hl
      rw [hm] at hp
      have q : ((m : Int) == 0) = false := by simp; omega
      clear hm hl q4
      go_enter Tryz.func135, Tryz.ntmps135
      go_wp2_with fail
      refine (left_any _ K R _ HR.out).mono ?_; simp only; rw [HM.out]; rintro e w1 ⟨rfl, rfl⟩
      go_wp2_with fail
      refine (err_any _ K R _ HR.out).mono ?_; rintro e w2 ⟨rfl, rfl⟩
      go_wp2_with fail
      go_ret
      exact ⟨ret_int (by simp [uintA, he]), by have := HR.out; simpa [uintS, he] using this, Ch.refl _ _⟩
end Go.Proofs.YtlpdhglibgnkoaaGreat
