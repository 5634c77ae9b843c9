/-
  No cell of these rows narrows 'for every input' (looked for: loops, veiled, ifaces, maps, wideKeys, modest, calm, conditions, laid).
  DERIVED. THE GIVEN ROWS OF THIS SEAT. 5 by the template 'for every input the law returns true; each argument reads behind the call as it read before'; 0 by the template 'total and deterministic' (their statements: YtmclcoaicngodaaTotals.lean).
  GIVEN WITH THE SEED: the statements are not yours to turn. If you find one false, say at which input.
  Laid BY PROGRAM, IN A SANDBOX (cutbox-rows.mjs): the forced cells as the released guide's own fill.sh prints them over the translation 8f912d1d510727ce… (all of the seat's roots in one cut). By AI agents, Wed Nov 11 2026. No macro, syntax, notation, axiom, sorry.
-/
import Derived.Test.YtmclcoaicngodaaChecked
import GoSem.Claim
import GoSem.ClaimJoined
import GoSem.ClaimMapViews
import Derived.JoinedTies
import Derived.KernelRfl
namespace Go.Proofs.Ytmclcoaicngodaa
/- THE CELL 'sum', in the pinned program and in every row, IS THE sha256 OF THE DUMP (.gsa) THAT YtmclcoaicngodaaProg.lean LOADS. Nothing in Lean hashes anything: it is a label: what it is worth is what the hold of that sum in a sandbox is worth. -/
noncomputable def Try.pinned : Pinned := { name := "ytmclcoaicngodaa", sum := "8f912d1d510727ce02887857e6062f52b144b5cf0c38366e168a2b5463ec546f", checked := Try.checked }
namespace Rows
def none {H : Type} : Left H := { results := [], args := [] }

/-- 'afterimagelaw15.DelayTargets': WHATEVER THE INPUT: true; the input reads as it did. -/
def delayTargetsSpec : ChangeSpec := { name := "delayTargets", fn := fun _ => fun
  | [d1, d2] => { results := [.lit (.bool true)], args := [d1, d2] }
  | _ => none }
def delayTargetsRow : OpenClaim := { program := "ytmclcoaicngodaa", sum := "8f912d1d510727ce02887857e6062f52b144b5cf0c38366e168a2b5463ec546f", func := "afterimage/afterimagelaw15.DelayTargets", spec := "delayTargets", inPlace := ["math/bits.Add64"], recurses := true, named := ["math/bits.divideError", "math/bits.overflowError"], apart := false }
def DelayTargetsSaid : Prop := delayTargetsRow.holds Try.pinned (OpenSpec.ofChange delayTargetsSpec)

/-- ITS FALSE NEIGHBOUR: 'it returns false'. Refute it at one input. -/
def delayTargetsWrong : ChangeSpec := { name := "delayTargets", fn := fun _ => fun
  | [d1, d2] => { results := [.lit (.bool false)], args := [d1, d2] }
  | _ => none }
def DelayTargetsWrongFalsely : Prop := delayTargetsRow.holds Try.pinned (OpenSpec.ofChange delayTargetsWrong)

/-- 'afterimagelaw15.DelayUpdates': WHATEVER THE INPUT: true; the input reads as it did. -/
def delayUpdatesSpec : ChangeSpec := { name := "delayUpdates", fn := fun _ => fun
  | [d1, d2] => { results := [.lit (.bool true)], args := [d1, d2] }
  | _ => none }
def delayUpdatesRow : OpenClaim := { program := "ytmclcoaicngodaa", sum := "8f912d1d510727ce02887857e6062f52b144b5cf0c38366e168a2b5463ec546f", func := "afterimage/afterimagelaw15.DelayUpdates", spec := "delayUpdates", inPlace := ["math/bits.Add64"], recurses := true, named := ["math/bits.divideError", "math/bits.overflowError"], apart := false }
def DelayUpdatesSaid : Prop := delayUpdatesRow.holds Try.pinned (OpenSpec.ofChange delayUpdatesSpec)

/-- ITS FALSE NEIGHBOUR: 'it returns false'. Refute it at one input. -/
def delayUpdatesWrong : ChangeSpec := { name := "delayUpdates", fn := fun _ => fun
  | [d1, d2] => { results := [.lit (.bool false)], args := [d1, d2] }
  | _ => none }
def DelayUpdatesWrongFalsely : Prop := delayUpdatesRow.holds Try.pinned (OpenSpec.ofChange delayUpdatesWrong)

/-- 'afterimagelaw15.DelayBounds': WHATEVER THE INPUT: true; the input reads as it did. -/
def delayBoundsSpec : ChangeSpec := { name := "delayBounds", fn := fun _ => fun
  | [d1, d2] => { results := [.lit (.bool true)], args := [d1, d2] }
  | _ => none }
def delayBoundsRow : OpenClaim := { program := "ytmclcoaicngodaa", sum := "8f912d1d510727ce02887857e6062f52b144b5cf0c38366e168a2b5463ec546f", func := "afterimage/afterimagelaw15.DelayBounds", spec := "delayBounds", inPlace := ["math/bits.Add64"], named := ["math/bits.divideError", "math/bits.overflowError"], apart := false }
def DelayBoundsSaid : Prop := delayBoundsRow.holds Try.pinned (OpenSpec.ofChange delayBoundsSpec)

/-- ITS FALSE NEIGHBOUR: 'it returns false'. Refute it at one input. -/
def delayBoundsWrong : ChangeSpec := { name := "delayBounds", fn := fun _ => fun
  | [d1, d2] => { results := [.lit (.bool false)], args := [d1, d2] }
  | _ => none }
def DelayBoundsWrongFalsely : Prop := delayBoundsRow.holds Try.pinned (OpenSpec.ofChange delayBoundsWrong)

/-- 'afterimagelaw15.DelayRises': WHATEVER THE INPUT: true; the input reads as it did. -/
def delayRisesSpec : ChangeSpec := { name := "delayRises", fn := fun _ => fun
  | [d1, d2, d3] => { results := [.lit (.bool true)], args := [d1, d2, d3] }
  | _ => none }
def delayRisesRow : OpenClaim := { program := "ytmclcoaicngodaa", sum := "8f912d1d510727ce02887857e6062f52b144b5cf0c38366e168a2b5463ec546f", func := "afterimage/afterimagelaw15.DelayRises", spec := "delayRises", inPlace := ["math/bits.Add64"], named := ["math/bits.divideError", "math/bits.overflowError"], apart := false }
def DelayRisesSaid : Prop := delayRisesRow.holds Try.pinned (OpenSpec.ofChange delayRisesSpec)

/-- ITS FALSE NEIGHBOUR: 'it returns false'. Refute it at one input. -/
def delayRisesWrong : ChangeSpec := { name := "delayRises", fn := fun _ => fun
  | [d1, d2, d3] => { results := [.lit (.bool false)], args := [d1, d2, d3] }
  | _ => none }
def DelayRisesWrongFalsely : Prop := delayRisesRow.holds Try.pinned (OpenSpec.ofChange delayRisesWrong)

/-- 'afterimagelaw15.DelaySlack': WHATEVER THE INPUT: true; the input reads as it did. -/
def delaySlackSpec : ChangeSpec := { name := "delaySlack", fn := fun _ => fun
  | [d1, d2] => { results := [.lit (.bool true)], args := [d1, d2] }
  | _ => none }
def delaySlackRow : OpenClaim := { program := "ytmclcoaicngodaa", sum := "8f912d1d510727ce02887857e6062f52b144b5cf0c38366e168a2b5463ec546f", func := "afterimage/afterimagelaw15.DelaySlack", spec := "delaySlack", inPlace := ["math/bits.Add64"], named := ["math/bits.divideError", "math/bits.overflowError"], apart := false }
def DelaySlackSaid : Prop := delaySlackRow.holds Try.pinned (OpenSpec.ofChange delaySlackSpec)

/-- ITS FALSE NEIGHBOUR: 'it returns false'. Refute it at one input. -/
def delaySlackWrong : ChangeSpec := { name := "delaySlack", fn := fun _ => fun
  | [d1, d2] => { results := [.lit (.bool false)], args := [d1, d2] }
  | _ => none }
def DelaySlackWrongFalsely : Prop := delaySlackRow.holds Try.pinned (OpenSpec.ofChange delaySlackWrong)

/- THE SECOND FORM. 'bulk': how many values and letters a reading holds, each counted each time it is reached (what is shared counts as often as it is met; a slice's spare places count too). A statement '..UptoSaid' is the law's where the arguments, and the package variables that the reading takes, are together of bulk at most 1048576: NARROWER than '..Said'. Prove '..Said' where nothing that the law and all that it calls make is longer than what came in: it says more and counts as full. Else prove '..UptoSaid'. A law counts once. -/
mutual
def uptoBulk {H : Type} : DataW H → Nat
  | .lit (.string bytes) => bytes.length + 1
  | .lit _ => 1
  | .nil => 1
  | .ptr d => uptoBulk d + 1
  | .slice elems spare => uptoBulkAll elems + uptoBulkAll spare + 1
  | .agg parts => uptoBulkAll parts + 1
  | .iface _ d => uptoBulk d + 1
  | .map entries => uptoBulkEntries entries + 1
  | .held _ => 1
def uptoBulkAll {H : Type} : List (DataW H) → Nat
  | [] => 0
  | d :: r => uptoBulk d + uptoBulkAll r
def uptoBulkEntries {H : Type} : List (Lit × DataW H) → Nat
  | [] => 0
  | x :: r => uptoBulkEntry x + uptoBulkEntries r
def uptoBulkEntry {H : Type} : Lit × DataW H → Nat
  | (.string bytes, d) => bytes.length + uptoBulk d + 1
  | (_, d) => uptoBulk d + 1
 end
def uptoSmall : (H : Type) → List (DataW H) → Bool := fun _ ds => decide (uptoBulkAll ds ≤ 1048576)
def OpenSpec.upto (s : _root_.Go.ChangeSpec) : _root_.Go.OpenSpec := { _root_.Go.OpenSpec.ofChange s with cond := some uptoSmall }

/-- 'afterimagelaw15.DelayTargets', WHERE WHAT IT READS IS OF BULK AT MOST 1048576: true; the input reads as it did. -/
def delayTargetsUptoRow : OpenClaim := { program := "ytmclcoaicngodaa", sum := "8f912d1d510727ce02887857e6062f52b144b5cf0c38366e168a2b5463ec546f", func := "afterimage/afterimagelaw15.DelayTargets", spec := "delayTargets", inPlace := ["math/bits.Add64"], recurses := true, named := ["math/bits.divideError", "math/bits.overflowError"], apart := false, narrowed := true }
def DelayTargetsUptoSaid : Prop := delayTargetsUptoRow.holds Try.pinned (OpenSpec.upto delayTargetsSpec)

/-- 'afterimagelaw15.DelayUpdates', WHERE WHAT IT READS IS OF BULK AT MOST 1048576: true; the input reads as it did. -/
def delayUpdatesUptoRow : OpenClaim := { program := "ytmclcoaicngodaa", sum := "8f912d1d510727ce02887857e6062f52b144b5cf0c38366e168a2b5463ec546f", func := "afterimage/afterimagelaw15.DelayUpdates", spec := "delayUpdates", inPlace := ["math/bits.Add64"], recurses := true, named := ["math/bits.divideError", "math/bits.overflowError"], apart := false, narrowed := true }
def DelayUpdatesUptoSaid : Prop := delayUpdatesUptoRow.holds Try.pinned (OpenSpec.upto delayUpdatesSpec)

/-- 'afterimagelaw15.DelayBounds', WHERE WHAT IT READS IS OF BULK AT MOST 1048576: true; the input reads as it did. -/
def delayBoundsUptoRow : OpenClaim := { program := "ytmclcoaicngodaa", sum := "8f912d1d510727ce02887857e6062f52b144b5cf0c38366e168a2b5463ec546f", func := "afterimage/afterimagelaw15.DelayBounds", spec := "delayBounds", inPlace := ["math/bits.Add64"], named := ["math/bits.divideError", "math/bits.overflowError"], apart := false, narrowed := true }
def DelayBoundsUptoSaid : Prop := delayBoundsUptoRow.holds Try.pinned (OpenSpec.upto delayBoundsSpec)

/-- 'afterimagelaw15.DelayRises', WHERE WHAT IT READS IS OF BULK AT MOST 1048576: true; the input reads as it did. -/
def delayRisesUptoRow : OpenClaim := { program := "ytmclcoaicngodaa", sum := "8f912d1d510727ce02887857e6062f52b144b5cf0c38366e168a2b5463ec546f", func := "afterimage/afterimagelaw15.DelayRises", spec := "delayRises", inPlace := ["math/bits.Add64"], named := ["math/bits.divideError", "math/bits.overflowError"], apart := false, narrowed := true }
def DelayRisesUptoSaid : Prop := delayRisesUptoRow.holds Try.pinned (OpenSpec.upto delayRisesSpec)

/-- 'afterimagelaw15.DelaySlack', WHERE WHAT IT READS IS OF BULK AT MOST 1048576: true; the input reads as it did. -/
def delaySlackUptoRow : OpenClaim := { program := "ytmclcoaicngodaa", sum := "8f912d1d510727ce02887857e6062f52b144b5cf0c38366e168a2b5463ec546f", func := "afterimage/afterimagelaw15.DelaySlack", spec := "delaySlack", inPlace := ["math/bits.Add64"], named := ["math/bits.divideError", "math/bits.overflowError"], apart := false, narrowed := true }
def DelaySlackUptoSaid : Prop := delaySlackUptoRow.holds Try.pinned (OpenSpec.upto delaySlackSpec)

end Rows
end Go.Proofs.Ytmclcoaicngodaa
