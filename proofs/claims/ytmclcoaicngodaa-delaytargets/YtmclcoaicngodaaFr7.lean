/-
  Layer 7's arguments: a slice of calls (structs of three numbers), a slice of int64, taken apart (no function of the program in sight).
-/
import Derived.Test.YtmclcoaicngodaaFr
import Derived.Deep.Slices
import Derived.Deep.Strs
namespace Go.Proofs.Ytmclcoaicngodaa
open Go.ChangeShapes Go.WideShapes Go.ChangeAt Go.RowKit
variable {H : Type} {enc : TypeId × Value → H}

/-- A value that reads as these numbers of 64 bits, of either sign. -/
def RdI (w : World) (v : Value) (l : List Int) : Prop :=
  ∃ ao cap, v = .slice ao l.length cap ∧ l.length ≤ cap ∧ cap ≤ 9223372036854775807 ∧ (l = [] ∨ ∃ b o, ao = some ⟨b, o, none⟩ ∧ ∀ i, i < l.length → w.cell? ⟨b, o + i, none⟩ = some (.int .i64 (l.getD i 0)))
set_option maxRecDepth 20000 in
theorem open_i64s {W : World} {base : Nat} {v : Value} {d : DataW H} {p : List MemPlace} (hval : Value.okWide Try.prog W .any base 35 v) (h : DataW.Trod enc Try.prog W 0 (fun _ => true) true 35 v d p) :
    ∃ l : List Int, (∀ n ∈ l, -9223372036854775808 ≤ n ∧ n ≤ 9223372036854775807) ∧ RdI W v l := by
  obtain ⟨l, ao, cap, rfl, h1, h2, h3, h4, h5⟩ := open_slice Try.underlying35 Try.underlying2 (by kernel_rfl) hval h
  exact ⟨l, fun n hn => wf_i64 (h4 n hn), ao, cap, rfl, h1, h2, h5⟩

/-- A value that reads as these calls: number i is of kind (A i).1, with (A i).2.1 and (A i).2.2. -/
def RdA (w : World) (v : Value) (n : Nat) (A : Nat → Int × Int × Int) : Prop :=
  ∃ ao cap, v = .slice ao n cap ∧ n ≤ cap ∧ cap ≤ 9223372036854775807 ∧ (n = 0 ∨ ∃ b o, ao = some ⟨b, o, none⟩ ∧
    ∀ i, i < n → w.cell? ⟨b, o + i * 3, none⟩ = some (.int .i64 (A i).1) ∧ w.cell? ⟨b, o + i * 3 + 1, none⟩ = some (.int .u64 (A i).2.1) ∧ w.cell? ⟨b, o + i * 3 + 2, none⟩ = some (.int .u8 (A i).2.2))
theorem cells_f0 : Try.prog.cellsOf 3 = 1 := by kernel_rfl
theorem cells_f1 : Try.prog.cellsOf 50 = 1 := by kernel_rfl
theorem cells_f2 : Try.prog.cellsOf 5 = 1 := by kernel_rfl
theorem RdA.below {w w' : World} {v : Value} {n : Nat} {A : Nat → Int × Int × Int} (h : RdA w v n A) (hb : Below w.heap.size w w') : RdA w' v n A := by
  obtain ⟨ao, cap, rfl, h1, h2, h3⟩ := h
  refine ⟨ao, cap, rfl, h1, h2, ?_⟩
  rcases h3 with h | ⟨b, o, rfl, h⟩
  · exact Or.inl h
  · refine Or.inr ⟨b, o, rfl, fun i hi => ?_⟩
    obtain ⟨c0, c1, c2⟩ := h i hi
    have hlt := World.block_lt_of_cell? w _ c0
    exact ⟨(hb.cell (p := ⟨b, o + i * 3, none⟩) hlt).trans c0, (hb.cell (p := ⟨b, o + i * 3 + 1, none⟩) hlt).trans c1, (hb.cell (p := ⟨b, o + i * 3 + 2, none⟩) hlt).trans c2⟩
end Go.Proofs.Ytmclcoaicngodaa
