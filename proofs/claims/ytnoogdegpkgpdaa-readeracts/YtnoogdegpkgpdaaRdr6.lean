/-
  Layer 7 (reader): the document's example.
-/
import Derived.Test.YtnoogdegpkgpdaaRdr5
import Derived.Deep.LoopGhost
import Derived.Deep.DeepCutAuto
import Derived.Deep.CutBlock
namespace Go.Proofs.Ytnoogdegpkgpdaa
open Go.RowKit
set_option linter.unusedVariables false
theorem RdrV.new {w : World} {v : Value} {l : List Int} (h : Rd w v l) (hb : Bytes l) (t : TypeId) : RdrV (w.alloc (.cells #[v, .int .i64 0, .int .i64 0] t)) w.heap.size w.heap.size v ⟨l, 0, 0⟩ := by
  have B := Blk.new w #[v, .int .i64 0, .int .i64 0] t rfl
  have hl : l.length ≤ 9223372036854775807 := by obtain ⟨ao, cap, rfl, h1, h2, _⟩ := h; omega
  exact ⟨Nat.le_refl _, B.lt, h.low.below ((Below.refl _ w).alloc (Nat.le_refl _) _) (Nat.le_refl _), hb, by simp, by simp only; omega, B.cell 0 _ rfl, B.cell 1 _ rfl, B.cell 2 _ rfl, B.froz⟩
theorem Rdr.newL {w : World} {K : Nat} {v : Value} {l : List Int} (h : Low w K v l) (hK : K ≤ w.heap.size) (hb : Bytes l) (t : TypeId) : Rdr (w.alloc (.cells #[v, .int .i64 0, .int .i64 0] t)) K w.heap.size ⟨l, 0, 0⟩ := by
  have B := Blk.new w #[v, .int .i64 0, .int .i64 0] t rfl
  have hl : l.length ≤ 9223372036854775807 := by obtain ⟨ao, cap, rfl, h1, h2, _⟩ := h; omega
  exact ⟨v, hK, B.lt, h.below ((Below.refl _ w).alloc (Nat.le_refl _) _) hK, hb, by simp, by simp only; omega, B.cell 0 _ rfl, B.cell 1 _ rfl, B.cell 2 _ rfl, B.froz⟩
theorem Rdr.drew {w : World} {K R : Nat} {s : St} (h : Rdr w K R s) : Rdr w.drew K R s := h.below (Below.refl _ w).drew h.lt
theorem Rdr.drewN {w : World} {K R : Nat} {s : St} (h : Rdr w K R s) (n : Nat) : Rdr (w.drewN n) K R s := h.below (below_drewN (Below.refl _ w) n) h.lt
/-- A block made by one store of three. -/
theorem Blk.made {w : World} {t : TypeId} {z0 z1 z2 a b c : Value} {H : Nat} (hH : w.heap.size = H) :
    Blk ((((w.alloc (.cells #[z0, z1, z2] t)).setCell ⟨H, 0, none⟩ a).setCell ⟨H, 1, none⟩ b).setCell ⟨H, 2, none⟩ c) H [a, b, c] := by
  have B := (((Blk.new w #[z0, z1, z2] t hH.symm).set 0 a (by simp)).set 1 b (by simp)).set 2 c (by simp)
  exact B
theorem new_v (w : World) (v : Value) (l : List Int) (hb : Bytes l) (h : Rd w v l) : Calls Try.prog 8 #[v] w fun e w' =>
    e = .returned (.pointer (some ⟨w.heap.size, 0, none⟩)) ∧ RdrV w' w.heap.size w.heap.size v ⟨l, 0, 0⟩ ∧ Below w.heap.size w w' ∧ w'.heap.size = w.heap.size + 1 := by
  have HR : Hid (Rd w v l) := h
  obtain ⟨ao, cap, rfl, _, _, _, _⟩ := h
  go_enter Try.func8, Try.ntmps8
  go_wp2_with fail
  go_ret
  exact ⟨rfl, RdrV.new HR.out hb _, (Below.refl _ _).alloc (Nat.le_refl _) _, by simp⟩
/-- A reader whose bytes lie behind the block that another one's call turns. -/
theorem RdrV.ch2 {w w' : World} {K R M b o len cap : Nat} {s : St} (h : RdrV w K R (.slice (some ⟨b, o, none⟩) len cap) s) (k : Ch M w w') (hM : M ≠ R) (hb : b ≠ M) (hs : b < w.heap.size) : RdrV w' K R (.slice (some ⟨b, o, none⟩) len cap) s := by
  refine ⟨h.hK, Nat.lt_of_lt_of_le h.lt k.size, ?_, h.bytes, h.n0, h.n1, (k.cell (p := ⟨R, 0, none⟩) (Ne.symm hM) h.lt).trans h.c0, (k.cell (p := ⟨R, 1, none⟩) (Ne.symm hM) h.lt).trans h.c1,
    (k.cell (p := ⟨R, 2, none⟩) (Ne.symm hM) h.lt).trans h.c2, fun o => (k.frozen (p := ⟨R, o, none⟩) (Ne.symm hM) h.lt).trans (h.f o)⟩
  obtain ⟨ao, cap', e, h1, h2, h3, h4⟩ := h.low
  injection e with e1 e2 e3
  subst e1 e3
  refine ⟨_, _, by rw [e2], h1, h2, h3, ?_⟩
  rcases h4 with h | ⟨b', o', e, hK, hat⟩
  · exact Or.inl h
  · injection e with e; injection e with e1 e2
    subst e1 e2
    exact Or.inr ⟨_, _, rfl, hK, fun i hi => (k.cell (p := ⟨b, o + i, none⟩) hb hs).trans (hat i hi)⟩
def exS : St := ⟨[5, 172, 2], 0, 0⟩
theorem ex1 : byteA exS = 5 ∧ byteS exS = ⟨[172, 2], 1, 0⟩ := by constructor <;> simp [byteA, byteS, exS]
theorem ex2 : got [172, 2] = (300, 2, 0) := by decide
theorem ex3 : uintA 300 ⟨[172, 2], 1, 0⟩ = 300 ∧ uintS 300 ⟨[172, 2], 1, 0⟩ = ⟨[], 3, 0⟩ := by
  constructor <;> simp [uintA, uintS, uintE, ex2]
theorem ex4 : uintA 299 ⟨[172, 2], 1, 0⟩ = 0 ∧ uintS 299 ⟨[172, 2], 1, 0⟩ = ⟨[172, 2], 1, 3⟩ := by
  constructor <;> simp [uintA, uintS, uintE, ex2]
theorem ex_bytes : Bytes [5, 172, 2] := by intro b hb; simp at hb; omega
theorem ex_rd (w : World) : Rd (w.alloc (.cells #[.int .u8 5, .int .u8 172, .int .u8 2] 5)) (.slice (some ⟨w.heap.size, 0, none⟩) 3 3) [5, 172, 2] := by
  refine Rd.at (l := [5, 172, 2]) (fun i hi => ?_) (by simp) (by omega)
  have hi2 : i < 3 := hi
  rcases (show i = 0 ∨ i = 1 ∨ i = 2 by omega) with rfl | rfl | rfl <;> simp
set_option maxHeartbeats 1000000 in
theorem ralive_any (w : World) : Calls Try.prog 9 #[] w fun e w' => e = .returned (.bool true) ∧ Below w.heap.size w w' := by
  have E1 : Hid _ := ex1
  have E3 : Hid _ := ex3
  have E4 : Hid _ := ex4
  go_enter Try.func9, Try.ntmps9
  go_wp2_with fail
  have b0 : Below w.heap.size w (w.alloc (.cells #[.int .u8 5, .int .u8 172, .int .u8 2] 5)) := (Below.refl _ _).alloc (Nat.le_refl _) _
  refine (new_v _ _ [5, 172, 2] ex_bytes (ex_rd w)).mono ?_
  obtain ⟨H, hH⟩ : ∃ H, w.heap.size = H := ⟨_, rfl⟩
  have hs0 : (w.alloc (.cells #[.int .u8 5, .int .u8 172, .int .u8 2] 5)).heap.size = H + 1 := by simp [hH]
  rw [hs0]
  rw [hH] at b0 ⊢
  rintro e w1 ⟨rfl, r1, b1, s1⟩
  have g1 : Below H w w1 := b0.trans (b1.mono (by omega))
  clear b0 b1 hs0
  go_wp2_with fail
  have b2 : Below (H + 2) w1 (w1.alloc (.cells #[.int .u8 5, .int .u8 172, .int .u8 2] 5)) := (Below.refl _ _).alloc (by omega) _
  have hs2 : (w1.alloc (.cells #[.int .u8 5, .int .u8 172, .int .u8 2] 5)).heap.size = H + 3 := by simp [s1]
  have X := ex_rd w1
  rw [s1] at X
  refine (new_v _ _ [5, 172, 2] ex_bytes X).mono ?_
  rw [hs2]
  rintro e w2 ⟨rfl, q2, b3, s2⟩
  have r2 := (r1.below b2 (by omega)).below b3 (by omega)
  have g2 : Below H w w2 := (g1.trans (b2.mono (by omega))).trans (b3.mono (by omega))
  have R2 : Hid (Rdr w2 (H + 1) (H + 1) exS) := ⟨_, r2⟩
  have Q2 : Hid (RdrV w2 (H + 3) (H + 3) (.slice (some ⟨H + 1 + 1, 0, none⟩) 3 3) exS) := q2
  clear r2 q2 r1 b2 b3 hs2 g1 s1
  go_wp2_with fail
  refine (byte_any _ _ _ _ R2.out).mono ?_; rw [E1.out.1, E1.out.2]; rintro e w3 ⟨rfl, r3, g3⟩
  have Q3 : Hid (RdrV w3 (H + 3) (H + 3) (.slice (some ⟨H + 1 + 1, 0, none⟩) 3 3) exS) := Q2.out.ch2 g3 (by omega) (by omega) (by omega)
  have R3 : Hid (Rdr w3 (H + 1) (H + 1) ⟨[172, 2], 1, 0⟩) := r3
  have g4 : Below H w w3 := Ch.up g2 g3 (by omega)
  have s3 := g3.size
  clear r3 Q2 R2 g3 g2
  go_wp2_with fail
  refine (uint_any _ _ _ _ 300 R3.out).mono ?_; rw [E3.out.1, E3.out.2]; rintro e w4 ⟨rfl, r4, g5⟩
  have Q4 : Hid (Rdr w4 (H + 3) (H + 3) exS) := ⟨_, Q3.out.ch2 g5 (by omega) (by omega) (by omega)⟩
  have R4 : Hid (Rdr w4 (H + 1) (H + 1) ⟨[], 3, 0⟩) := r4
  have g6 : Below H w w4 := Ch.up g4 g5 (by omega)
  clear r4 Q3 R3 g4 g5
  go_wp2_with fail
  refine (byte_any _ _ _ _ Q4.out).mono ?_; rw [E1.out.1, E1.out.2]; rintro e w5 ⟨rfl, r5, g7⟩
  have R5 : Hid (Rdr w5 (H + 1) (H + 1) ⟨[], 3, 0⟩) := R4.out.ch g7 (by omega) (by omega)
  have Q5 : Hid (Rdr w5 (H + 3) (H + 3) ⟨[172, 2], 1, 0⟩) := r5
  have g8 : Below H w w5 := Ch.up g6 g7 (by omega)
  clear r5 Q4 R4 g6 g7
  go_wp2_with fail
  refine (uint_any _ _ _ _ 299 Q5.out).mono ?_; rw [E4.out.1, E4.out.2]; rintro e w6 ⟨rfl, r6, g9⟩
  have R6 : Hid (Rdr w6 (H + 1) (H + 1) ⟨[], 3, 0⟩) := R5.out.ch g9 (by omega) (by omega)
  have Q6 : Hid (Rdr w6 (H + 3) (H + 3) ⟨[172, 2], 1, 3⟩) := r6
  have g10 : Below H w w6 := Ch.up g8 g9 (by omega)
  clear r6 Q5 R5 g8 g9
  go_wp2_with fail
  refine (done_any _ _ _ _ R6.out).mono ?_; rintro e w7 ⟨rfl, rfl⟩
  have d0 : doneA ⟨[], 3, 0⟩ = 0 := by decide
  rw [d0]
  go_wp2_with fail
  refine (err_any _ _ _ _ Q6.out).mono ?_; rintro e w7 ⟨rfl, rfl⟩
  go_wp2_with fail
  refine (at_any _ _ _ _ Q6.out).mono ?_; rintro e w7 ⟨rfl, rfl⟩
  go_wp2_with fail
  go_ret
  exact ⟨rfl, by rw [hH]; exact g10⟩
end Go.Proofs.Ytnoogdegpkgpdaa
