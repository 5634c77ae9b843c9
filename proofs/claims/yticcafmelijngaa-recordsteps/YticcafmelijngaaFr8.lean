/-
  Layer 8's arguments: records and entities by value, a slice of records, taken apart (no function of the program in sight).
-/
import Derived.Test.YticcafmelijngaaFr7
import Derived.Test.YticcafmelijngaaArr
import Derived.Test.YticcafmelijngaaRec
namespace Go.Proofs.Yticcafmelijngaa
open Go.ChangeShapes Go.WideShapes Go.ChangeAt Go.RowKit Go.Joins
set_option linter.unusedVariables false
variable {H : Type} {enc : TypeId × Value → H}

theorem trod_struct5 {P : Program} {w : World} {base : Nat} {spare : Nat → Bool} {held : Bool} {t : TypeId} {f0 f1 f2 f3 f4 : Field} {fuel : Nat} {cs : List Value} {x : DataW H × List MemPlace} (ht : P.underlying t = some (.struct #[f0, f1, f2, f3, f4])) (h : DataW.trod enc P w base spare held fuel t cs = some x) :
    ∃ y0 y1 y2 y3 y4 n, cs.length = P.cellsOf t ∧
      DataW.trod enc P w base spare held n f0.type ((cs.drop f0.offset).take (P.cellsOf f0.type)) = some y0 ∧ DataW.trod enc P w base spare held n f1.type ((cs.drop f1.offset).take (P.cellsOf f1.type)) = some y1 ∧
      DataW.trod enc P w base spare held n f2.type ((cs.drop f2.offset).take (P.cellsOf f2.type)) = some y2 ∧ DataW.trod enc P w base spare held n f3.type ((cs.drop f3.offset).take (P.cellsOf f3.type)) = some y3 ∧
      DataW.trod enc P w base spare held n f4.type ((cs.drop f4.offset).take (P.cellsOf f4.type)) = some y4 := by
  obtain ⟨xs, n, _, rfl, hl, hlen, hf⟩ := DataW.trod_struct ht h
  match xs, hlen with
  | [y0, y1, y2, y3, y4], _ => exact ⟨y0, y1, y2, y3, y4, n, hl, by simpa using hf 0 f0 rfl, by simpa using hf 1 f1 rfl, by simpa using hf 2 f2 rfl, by simpa using hf 3 f3 rfl, by simpa using hf 4 f4 rfl⟩
theorem cells_rec : Try.prog.cellsOf 29 = 9 := by kernel_rfl
theorem cells_ent : Try.prog.cellsOf 25 = 9 := by kernel_rfl
theorem cells_int : Try.prog.cellsOf 3 = 1 := by kernel_rfl
theorem cells_i64 : Try.prog.cellsOf 2 = 1 := by kernel_rfl
theorem cells_v3 : Try.prog.cellsOf 22 = 3 := by kernel_rfl
theorem cells_u16 : Try.prog.cellsOf 23 = 1 := by kernel_rfl
theorem cells_u8 : Try.prog.cellsOf 5 = 1 := by kernel_rfl
theorem wf_u16 {n : Int} (h : (Lit.int .u16 n).wf = true) : 0 ≤ n ∧ n ≤ 65535 := bounds_u16 h
set_option maxRecDepth 20000 in
theorem trod_rec {w : World} {base : Nat} {spare : Nat → Bool} {held : Bool} {fuel : Nat} {cs : List Value} {x : DataW H × List MemPlace} (h : DataW.trod enc Try.prog w base spare held fuel 29 cs = some x) : ∃ r : Rc, cs = recC r ∧ r.ok := by
  obtain ⟨y0, y1, y2, y3, y4, n, hl, g0, g1, g2, g3, g4⟩ := trod_struct5 Try.underlying29 h
  rw [cells_rec] at hl
  match cs, hl with
  | [c0, c1, c2, c3, c4, c5, c6, c7, c8], _ =>
    simp [cells_int, cells_v3, cells_u16] at g0 g1 g2 g3 g4
    obtain ⟨z0, e0, _, w0⟩ := DataW.trod_int Try.underlying3 g0
    obtain ⟨z1, e1, _, w1⟩ := DataW.trod_int Try.underlying3 g1
    obtain ⟨a, b, c, rfl, rfl, rfl, _, wa, wb, wc⟩ := trod_three Try.underlying22 Try.underlying2 cells_i64 g2
    obtain ⟨a', b', c', rfl, rfl, rfl, _, wa', wb', wc'⟩ := trod_three Try.underlying22 Try.underlying2 cells_i64 g3
    obtain ⟨z4, e4, _, w4⟩ := DataW.trod_int Try.underlying23 g4
    simp at e0 e1 e4
    subst e0 e1 e4
    exact ⟨⟨z0, z1, a, b, c, a', b', c', z4⟩, rfl, wf_i64 w0, wf_i64 w1, wf_i64 wa, wf_i64 wb, wf_i64 wc, wf_i64 wa', wf_i64 wb', wf_i64 wc', wf_u16 w4⟩
set_option maxRecDepth 20000 in
theorem trod_ent {w : World} {base : Nat} {spare : Nat → Bool} {held : Bool} {fuel : Nat} {cs : List Value} {x : DataW H × List MemPlace} (h : DataW.trod enc Try.prog w base spare held fuel 25 cs = some x) : ∃ r : En, cs = entC r ∧ r.ok := by
  obtain ⟨y0, y1, y2, y3, y4, n, hl, g0, g1, g2, g3, g4⟩ := trod_struct5 Try.underlying25 h
  rw [cells_ent] at hl
  match cs, hl with
  | [c0, c1, c2, c3, c4, c5, c6, c7, c8], _ =>
    simp [cells_int, cells_v3, cells_u16, cells_u8] at g0 g1 g2 g3 g4
    obtain ⟨z0, e0, _, w0⟩ := DataW.trod_int Try.underlying3 g0
    obtain ⟨a, b, c, rfl, rfl, rfl, _, wa, wb, wc⟩ := trod_three Try.underlying22 Try.underlying2 cells_i64 g1
    obtain ⟨a', b', c', rfl, rfl, rfl, _, wa', wb', wc'⟩ := trod_three Try.underlying22 Try.underlying2 cells_i64 g2
    obtain ⟨z3, e3, _, w3⟩ := DataW.trod_int Try.underlying23 g3
    obtain ⟨z4, e4, _, w4⟩ := DataW.trod_int Try.underlying5 g4
    simp at e0 e3 e4
    subst e0 e3 e4
    exact ⟨⟨z0, a, b, c, a', b', c', z3, z4⟩, rfl, wf_i64 w0, wf_i64 wa, wf_i64 wb, wf_i64 wc, wf_i64 wa', wf_i64 wb', wf_i64 wc', wf_u16 w3, wf_u8 w4⟩
set_option maxRecDepth 20000 in
theorem open_rec {W : World} {base : Nat} {v : Value} {d : DataW H} {p : List MemPlace} (hval : Value.okWide Try.prog W .any base 29 v) (h : DataW.Trod enc Try.prog W 0 (fun _ => true) true 29 v d p) : ∃ r : Rc, v = recV r ∧ r.ok := by
  obtain ⟨cs, rfl, _⟩ := okWide_struct Try.underlying29 hval
  obtain ⟨fuel, hf⟩ := h
  obtain ⟨r, e, ok⟩ := trod_rec hf
  refine ⟨r, ?_, ok⟩
  have : cs = (recC r).toArray := by simpa [Value.cells] using congrArg List.toArray e
  rw [this]
set_option maxRecDepth 20000 in
theorem open_ent {W : World} {base : Nat} {v : Value} {d : DataW H} {p : List MemPlace} (hval : Value.okWide Try.prog W .any base 25 v) (h : DataW.Trod enc Try.prog W 0 (fun _ => true) true 25 v d p) : ∃ r : En, v = entV r ∧ r.ok := by
  obtain ⟨cs, rfl, _⟩ := okWide_struct Try.underlying25 hval
  obtain ⟨fuel, hf⟩ := h
  obtain ⟨r, e, ok⟩ := trod_ent hf
  refine ⟨r, ?_, ok⟩
  have : cs = (entC r).toArray := by simpa [Value.cells] using congrArg List.toArray e
  rw [this]
/-- A value that reads as these records, by their places. -/
def RdR (w : World) (v : Value) (n : Nat) (A : Nat → Rc) : Prop :=
  ∃ ao cap, v = .slice ao n cap ∧ n ≤ cap ∧ cap ≤ 9223372036854775807 ∧ (n = 0 ∨ ∃ b o, ao = some ⟨b, o, none⟩ ∧ ∀ i, i < n → ∀ j x, (recC (A i))[j]? = some x → w.cell? ⟨b, o + i * 9 + j, none⟩ = some x)
theorem RdR.below {w w' : World} {v : Value} {n : Nat} {A : Nat → Rc} (h : RdR w v n A) (hb : Below w.heap.size w w') : RdR w' v n A := by
  obtain ⟨ao, cap, rfl, h1, h2, h3⟩ := h
  refine ⟨ao, cap, rfl, h1, h2, ?_⟩
  rcases h3 with h | ⟨b, o, rfl, h⟩
  · exact Or.inl h
  · refine Or.inr ⟨b, o, rfl, fun i hi j x hj => ?_⟩
    have c := h i hi j x hj
    exact (hb.cell (p := ⟨b, o + i * 9 + j, none⟩) (World.block_lt_of_cell? w _ c)).trans c
end Go.Proofs.Yticcafmelijngaa
