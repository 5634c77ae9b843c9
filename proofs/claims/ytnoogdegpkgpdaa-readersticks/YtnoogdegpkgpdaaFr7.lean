/-
  Layer 7's arguments: a slice of calls (structs of three numbers), a slice of int64, taken apart (no function of the program in sight).
-/
import Derived.Test.YtnoogdegpkgpdaaFr
import Derived.Deep.Slices
import Derived.Deep.Strs
namespace Go.Proofs.Ytnoogdegpkgpdaa
open Go.ChangeShapes Go.WideShapes Go.ChangeAt Go.RowKit
variable {H : Type} {enc : TypeId × Value → H}

/-- A value that reads as these numbers of 64 bits, of either sign. -/
def RdI (w : World) (v : Value) (l : List Int) : Prop :=
  ∃ ao cap, v = .slice ao l.length cap ∧ l.length ≤ cap ∧ cap ≤ 9223372036854775807 ∧ (l = [] ∨ ∃ b o, ao = some ⟨b, o, none⟩ ∧ ∀ i, i < l.length → w.cell? ⟨b, o + i, none⟩ = some (.int .i64 (l.getD i 0)))
set_option maxRecDepth 20000 in
theorem open_i64s {W : World} {base : Nat} {v : Value} {d : DataW H} {p : List MemPlace} (hval : Value.okWide Try.prog W .any base 45 v) (h : DataW.Trod enc Try.prog W 0 (fun _ => true) true 45 v d p) :
    ∃ l : List Int, (∀ n ∈ l, -9223372036854775808 ≤ n ∧ n ≤ 9223372036854775807) ∧ RdI W v l := by
  obtain ⟨l, ao, cap, rfl, h1, h2, h3, h4, h5⟩ := open_slice Try.underlying45 Try.underlying2 (by kernel_rfl) hval h
  exact ⟨l, fun n hn => wf_i64 (h4 n hn), ao, cap, rfl, h1, h2, h5⟩

/-- A value that reads as these calls: number i is of kind (A i).1, with (A i).2.1 and (A i).2.2. -/
def RdA (w : World) (v : Value) (n : Nat) (A : Nat → Int × Int × Int) : Prop :=
  ∃ ao cap, v = .slice ao n cap ∧ n ≤ cap ∧ cap ≤ 9223372036854775807 ∧ (n = 0 ∨ ∃ b o, ao = some ⟨b, o, none⟩ ∧
    ∀ i, i < n → w.cell? ⟨b, o + i * 3, none⟩ = some (.int .i64 (A i).1) ∧ w.cell? ⟨b, o + i * 3 + 1, none⟩ = some (.int .u64 (A i).2.1) ∧ w.cell? ⟨b, o + i * 3 + 2, none⟩ = some (.int .u8 (A i).2.2))
theorem cells_act : Try.prog.cellsOf 32 = 3 := by kernel_rfl
theorem cells_f0 : Try.prog.cellsOf 3 = 1 := by kernel_rfl
theorem cells_f1 : Try.prog.cellsOf 30 = 1 := by kernel_rfl
theorem cells_f2 : Try.prog.cellsOf 5 = 1 := by kernel_rfl
set_option maxRecDepth 20000 in
theorem open_acts {W : World} {base : Nat} {v : Value} {d : DataW H} {p : List MemPlace} (hval : Value.okWide Try.prog W .any base 23 v) (h : DataW.Trod enc Try.prog W 0 (fun _ => true) true 23 v d p) :
    ∃ (n : Nat) (A : Nat → Int × Int × Int), (∀ i, i < n → (0 ≤ (A i).2.1 ∧ (A i).2.1 ≤ 18446744073709551615) ∧ (0 ≤ (A i).2.2 ∧ (A i).2.2 ≤ 255)) ∧ RdA W v n A := by
  obtain ⟨a1, len, cap1, rfl⟩ := okWide_slice Try.underlying23 hval
  obtain ⟨fuel, hf⟩ := h
  rcases Go.Deep.open_slice Try.underlying23 hf with ⟨hcs, hx⟩ | ⟨a, len2, cap, m, n, D, Pl, hcs, _, hl, hm, hmm, hx, hel⟩
  · simp [Value.cells] at hcs
    obtain ⟨rfl, rfl, rfl⟩ := hcs
    exact ⟨0, fun _ => (0, 0, 0), fun i hi => by omega, none, 0, rfl, Nat.le_refl _, by omega, Or.inl rfl⟩
  · simp [Value.cells] at hcs
    obtain ⟨rfl, rfl, rfl⟩ := hcs
    simp only [if_true] at hmm
    subst hmm
    rw [cells_act] at hel
    have each : ∀ i, i < m → ∃ q : Int × Int × Int, (W.cell? (a.add (i * 3)) = some (.int .i64 q.1) ∧ W.cell? (a.add (i * 3 + 1)) = some (.int .u64 q.2.1) ∧ W.cell? (a.add (i * 3 + 2)) = some (.int .u8 q.2.2)) ∧
        (0 ≤ q.2.1 ∧ q.2.1 ≤ 18446744073709551615) ∧ (0 ≤ q.2.2 ∧ q.2.2 ≤ 255) := by
      intro i hi
      obtain ⟨cs', h1, h2⟩ := hel i hi
      obtain ⟨_, hlen, hcell⟩ := World.cells?_some h1
      obtain ⟨y0, y1, y2, k, _, _, g0, g1, g2⟩ := Go.Deep.trod_struct3 Try.underlying32 h2
      match cs', hlen with
      | [v0, v1, v2], _ =>
        simp [cells_f0, cells_f1, cells_f2] at g0 g1 g2
        obtain ⟨z0, e0, _, w0⟩ := DataW.trod_int Try.underlying3 g0
        obtain ⟨z1, e1, _, w1⟩ := DataW.trod_int Try.underlying30 g1
        obtain ⟨z2, e2, _, w2⟩ := DataW.trod_int Try.underlying5 g2
        simp at e0 e1 e2
        subst e0 e1 e2
        have c0 := hcell 0 (by omega)
        have c1 := hcell 1 (by omega)
        have c2 := hcell 2 (by omega)
        rw [Go.Deep.add_add] at c0 c1 c2
        exact ⟨(z0, z1, z2), ⟨by simpa using c0, by simpa using c1, by simpa using c2⟩, wf_u64 w1, wf_u8 w2⟩
    obtain ⟨A, hA⟩ := Go.Deep.choose_lt each
    refine ⟨len, A, fun i hi => (hA i (by omega)).2, some a, m, rfl, hl, hm, ?_⟩
    by_cases h0 : len = 0
    · exact Or.inl h0
    · right
      obtain ⟨ab, ao, spot⟩ := a
      have hspot : spot = none := by simpa [Addr.add] using World.cell?_spot (hA 0 (by omega)).1.1
      subst hspot
      refine ⟨ab, ao, rfl, fun i hi => ?_⟩
      have := (hA i (by omega)).1
      simp only [Addr.add_lit] at this
      exact this
theorem RdA.below {w w' : World} {v : Value} {n : Nat} {A : Nat → Int × Int × Int} (h : RdA w v n A) (hb : Below w.heap.size w w') : RdA w' v n A := by
  obtain ⟨ao, cap, rfl, h1, h2, h3⟩ := h
  refine ⟨ao, cap, rfl, h1, h2, ?_⟩
  rcases h3 with h | ⟨b, o, rfl, h⟩
  · exact Or.inl h
  · refine Or.inr ⟨b, o, rfl, fun i hi => ?_⟩
    obtain ⟨c0, c1, c2⟩ := h i hi
    have hlt := World.block_lt_of_cell? w _ c0
    exact ⟨(hb.cell (p := ⟨b, o + i * 3, none⟩) hlt).trans c0, (hb.cell (p := ⟨b, o + i * 3 + 1, none⟩) hlt).trans c1, (hb.cell (p := ⟨b, o + i * 3 + 2, none⟩) hlt).trans c2⟩
end Go.Proofs.Ytnoogdegpkgpdaa
