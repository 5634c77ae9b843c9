/-
  Layer 13's arguments: a slice of texts, a slice of int32 (no function of the program in sight).
-/
import Derived.Test.YthkffclligcdnaaFr7
import Derived.Deep.Strs
import Derived.ChangeMaps5
namespace Go.Proofs.Ythkffclligcdnaa
open Go.ChangeShapes Go.WideShapes Go.ChangeAt Go.RowKit
variable {H : Type} {enc : TypeId × Value → H}

/-- A value that reads as these numbers of 32 bits, of either sign. -/
def RdI32 (w : World) (v : Value) (l : List Int) : Prop :=
  ∃ ao cap, v = .slice ao l.length cap ∧ l.length ≤ cap ∧ cap ≤ 9223372036854775807 ∧ (l = [] ∨ ∃ b o, ao = some ⟨b, o, none⟩ ∧ ∀ i, i < l.length → w.cell? ⟨b, o + i, none⟩ = some (.int .i32 (l.getD i 0)))
theorem wf_i32 {n : Int} (h : (Lit.int .i32 n).wf = true) : -2147483648 ≤ n ∧ n ≤ 2147483647 := bounds_i32 h
set_option maxRecDepth 20000 in
theorem open_i32s {W : World} {base : Nat} {v : Value} {d : DataW H} {p : List MemPlace} (hval : Value.okWide Try.prog W .any base 47 v) (h : DataW.Trod enc Try.prog W 0 (fun _ => true) true 47 v d p) :
    ∃ l : List Int, (∀ n ∈ l, -2147483648 ≤ n ∧ n ≤ 2147483647) ∧ RdI32 W v l := by
  obtain ⟨l, ao, cap, rfl, h1, h2, h3, h4, h5⟩ := open_slice Try.underlying47 Try.underlying21 (by kernel_rfl) hval h
  exact ⟨l, fun n hn => wf_i32 (h4 n hn), ao, cap, rfl, h1, h2, h5⟩

/-- A value that reads as these texts. -/
def RdS (w : World) (v : Value) (l : List ByteArray) : Prop :=
  ∃ ao cap, v = .slice ao l.length cap ∧ l.length ≤ cap ∧ cap ≤ 9223372036854775807 ∧ (l = [] ∨ ∃ b o, ao = some ⟨b, o, none⟩ ∧ ∀ i, i < l.length → w.cell? ⟨b, o + i, none⟩ = some (.string (l.getD i ⟨#[]⟩)))
set_option maxRecDepth 20000 in
theorem open_strs {W : World} {base : Nat} {v : Value} {d : DataW H} {p : List MemPlace} (hval : Value.okWide Try.prog W .any base 41 v) (h : DataW.Trod enc Try.prog W 0 (fun _ => true) true 41 v d p) :
    ∃ l : List ByteArray, RdS W v l := by
  obtain ⟨a1, len, cap1, rfl⟩ := okWide_slice Try.underlying41 hval
  obtain ⟨fuel, hf⟩ := h
  rcases Go.Deep.open_strs Try.underlying41 Try.underlying9 (by kernel_rfl) hf with ⟨hcs, hx⟩ | ⟨a, len2, cap, m, Sx, hcs, _, hl, hm, hmm, hx, hel⟩
  · simp [Value.cells] at hcs
    obtain ⟨rfl, rfl, rfl⟩ := hcs
    exact ⟨[], none, 0, rfl, Nat.le_refl _, by omega, Or.inl rfl⟩
  · simp [Value.cells] at hcs
    obtain ⟨rfl, rfl, rfl⟩ := hcs
    simp only [if_true] at hmm
    subst hmm
    have hlen : ((List.range len).map Sx).length = len := by simp
    refine ⟨(List.range len).map Sx, some a, m, by rw [hlen], by omega, by unfold maxLen at hm; omega, ?_⟩
    by_cases h0 : len = 0
    · left; rw [h0]; rfl
    · right
      obtain ⟨ab, ao, spot⟩ := a
      have hspot : spot = none := by simpa [Addr.add] using World.cell?_spot (hel 0 (by omega)).1
      subst hspot
      refine ⟨ab, ao, rfl, fun i hi => ?_⟩
      rw [hlen] at hi
      have := (hel i (by omega)).1
      rw [Addr.add_lit] at this
      rw [this]
      simp [List.getD, hi]
end Go.Proofs.Ythkffclligcdnaa
