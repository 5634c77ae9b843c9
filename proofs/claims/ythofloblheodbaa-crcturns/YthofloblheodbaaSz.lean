/-
  A slice of bytes that came in is no longer than the reach (no function of the program in sight).
-/
import Derived.Test.YthofloblheodbaaFr
import Derived.SizedLaws
namespace Go.Proofs.Ythofloblheodbaa
open Go.ChangeShapes Go.WideShapes Go.ChangeAt Go.RowKit
variable {H : Type} {enc : TypeId × Value → H}
theorem bytes8 : Try.prog.bytesOf 5 = 1 := by kernel_rfl
theorem size_u8s {W : World} {v : Value} {d : DataW H} {p : List MemPlace} {ts : List TypeId} {ds : List (DataW H)} {j : Nat} {l : List Int} (hs : (DataW.weightsEach Try.prog ts ds).all (· ≤ reachBytes) = true) (ht : ts[j]? = some 22) (hd : ds[j]? = some d)
    (h : DataW.Trod enc Try.prog W 0 (fun _ => true) true 22 v d p) (hr : Rd W v l) : l.length ≤ 140737488351232 := by
  obtain ⟨ao, cap', rfl, _, _, _, _⟩ := hr
  obtain ⟨fuel, hf⟩ := h
  rcases open_ints Try.underlying22 Try.underlying5 (by kernel_rfl) hf with ⟨hcs, hx⟩ | ⟨a, len, cap, zs, hcs, _, hl, hm, hz, hx, hcell, hwz⟩
  · simp [Value.cells] at hcs
    omega
  · simp [Value.cells] at hcs
    obtain ⟨_, h1, _⟩ := hcs
    injection hx with hx1 hx2
    subst hx1
    simp only [if_true] at hz
    have := sized_slice hs ht hd Try.underlying22
    rw [bytes8] at this
    simp only [lits, List.length_map, List.length_take, List.length_drop, reachBytes] at this
    omega
end Go.Proofs.Ythofloblheodbaa
