/-
  Layer 7 (reader): the document's example.
-/
import Derived.Test.YticcafmelijngaaRdr5
import Derived.Deep.LoopGhost
import Derived.Deep.DeepCutAuto
import Derived.Deep.CutBlock
namespace Go.Proofs.Yticcafmelijngaa
open Go.RowKit
set_option linter.unusedVariables false
theorem RdrV.new {w : World} {v : Value} {l : List Int} (h : Rd w v l) (hb : Bytes l) (t : TypeId) : RdrV (w.alloc (.cells #[v, .int .i64 0, .int .i64 0] t)) w.heap.size w.heap.size v ⟨l, 0, 0⟩ := by
  have B := Blk.new w #[v, .int .i64 0, .int .i64 0] t rfl
  have hl : l.length ≤ 9223372036854775807 := by obtain ⟨ao, cap, rfl, h1, h2, _⟩ := h; omega
  exact ⟨Nat.le_refl _, B.lt, h.low.below ((Below.refl _ w).alloc (Nat.le_refl _) _) (Nat.le_refl _), hb, by simp, by simp only; omega, B.cell 0 _ rfl, B.cell 1 _ rfl, B.cell 2 _ rfl, B.froz⟩
theorem Rdr.newL {w : World} {K : Nat} {v : Value} {l : List Int} (h : Low w K v l) (hK : K ≤ w.heap.size) (hb : Bytes l) (t : TypeId) : Rdr (w.alloc (.cells #[v, .int .i64 0, .int .i64 0] t)) K w.heap.size ⟨l, 0, 0⟩ := by
  have B := Blk.new w #[v, .int .i64 0, .int .i64 0] t rfl
  have hl : l.length ≤ 9223372036854775807 := by obtain ⟨ao, cap, rfl, h1, h2, _⟩ := h; omega
  exact ⟨v, hK, B.lt, h.below ((Below.refl _ w).alloc (Nat.le_refl _) _) hK, hb, by simp, by simp only; omega, B.cell 0 _ rfl, B.cell 1 _ rfl, B.cell 2 _ rfl, B.froz⟩
theorem Rdr.drew {w : World} {K R : Nat} {s : St} (h : Rdr w K R s) : Rdr w.drew K R s := h.below (Below.refl _ w).drew h.lt
theorem Rdr.drewN {w : World} {K R : Nat} {s : St} (h : Rdr w K R s) (n : Nat) : Rdr (w.drewN n) K R s := h.below (below_drewN (Below.refl _ w) n) h.lt
/-- A block made by one store of three. -/
theorem Blk.made {w : World} {t : TypeId} {z0 z1 z2 a b c : Value} {H : Nat} (hH : w.heap.size = H) :
    Blk ((((w.alloc (.cells #[z0, z1, z2] t)).setCell ⟨H, 0, none⟩ a).setCell ⟨H, 1, none⟩ b).setCell ⟨H, 2, none⟩ c) H [a, b, c] := by
  have B := (((Blk.new w #[z0, z1, z2] t hH.symm).set 0 a (by simp)).set 1 b (by simp)).set 2 c (by simp)
  exact B
/-- A reader whose bytes lie behind the block that another one's call turns. -/
theorem RdrV.ch2 {w w' : World} {K R M b o len cap : Nat} {s : St} (h : RdrV w K R (.slice (some ⟨b, o, none⟩) len cap) s) (k : Ch M w w') (hM : M ≠ R) (hb : b ≠ M) (hs : b < w.heap.size) : RdrV w' K R (.slice (some ⟨b, o, none⟩) len cap) s := by
  refine ⟨h.hK, Nat.lt_of_lt_of_le h.lt k.size, ?_, h.bytes, h.n0, h.n1, (k.cell (p := ⟨R, 0, none⟩) (Ne.symm hM) h.lt).trans h.c0, (k.cell (p := ⟨R, 1, none⟩) (Ne.symm hM) h.lt).trans h.c1,
    (k.cell (p := ⟨R, 2, none⟩) (Ne.symm hM) h.lt).trans h.c2, fun o => (k.frozen (p := ⟨R, o, none⟩) (Ne.symm hM) h.lt).trans (h.f o)⟩
  obtain ⟨ao, cap', e, h1, h2, h3, h4⟩ := h.low
  injection e with e1 e2 e3
  subst e1 e3
  refine ⟨_, _, by rw [e2], h1, h2, h3, ?_⟩
  rcases h4 with h | ⟨b', o', e, hK, hat⟩
  · exact Or.inl h
  · injection e with e; injection e with e1 e2
    subst e1 e2
    exact Or.inr ⟨_, _, rfl, hK, fun i hi => (k.cell (p := ⟨b, o + i, none⟩) hb hs).trans (hat i hi)⟩
def exS : St := ⟨[5, 172, 2], 0, 0⟩
theorem ex1 : byteA exS = 5 ∧ byteS exS = ⟨[172, 2], 1, 0⟩ := by constructor <;> simp [byteA, byteS, exS]
theorem ex2 : got [172, 2] = (300, 2, 0) := by decide
theorem ex3 : uintA 300 ⟨[172, 2], 1, 0⟩ = 300 ∧ uintS 300 ⟨[172, 2], 1, 0⟩ = ⟨[], 3, 0⟩ := by
  constructor <;> simp [uintA, uintS, uintE, ex2]
theorem ex4 : uintA 299 ⟨[172, 2], 1, 0⟩ = 0 ∧ uintS 299 ⟨[172, 2], 1, 0⟩ = ⟨[172, 2], 1, 3⟩ := by
  constructor <;> simp [uintA, uintS, uintE, ex2]
theorem ex_bytes : Bytes [5, 172, 2] := by intro b hb; simp at hb; omega
theorem ex_rd (w : World) : Rd (w.alloc (.cells #[.int .u8 5, .int .u8 172, .int .u8 2] 5)) (.slice (some ⟨w.heap.size, 0, none⟩) 3 3) [5, 172, 2] := by
  refine Rd.at (l := [5, 172, 2]) (fun i hi => ?_) (by simp) (by omega)
  have hi2 : i < 3 := hi
  rcases (show i = 0 ∨ i = 1 ∨ i = 2 by omega) with rfl | rfl | rfl <;> simp
end Go.Proofs.Yticcafmelijngaa
