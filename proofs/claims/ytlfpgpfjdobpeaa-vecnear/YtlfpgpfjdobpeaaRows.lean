/-
  No cell of these rows narrows 'for every input' (looked for: loops, veiled, ifaces, maps, wideKeys, modest, calm, conditions, laid).
  DERIVED. THE GIVEN ROWS OF THIS SEAT. 6 by the template 'for every input the law returns true; each argument reads behind the call as it read before'; 0 by the template 'total and deterministic' (their statements: YtlfpgpfjdobpeaaTotals.lean).
  GIVEN WITH THE SEED: the statements are not yours to turn. If you find one false, say at which input.
  Laid BY PROGRAM, IN A SANDBOX (cutbox-rows.mjs): the forced cells as the released guide's own fill.sh prints them over the translation 1124440bc518766b… (all of the seat's roots in one cut). By AI agents, Wed Nov 11 2026. No macro, syntax, notation, axiom, sorry.
-/
import Derived.Test.YtlfpgpfjdobpeaaChecked
import GoSem.Claim
import GoSem.ClaimJoined
import GoSem.ClaimMapViews
import Derived.JoinedTies
import Derived.KernelRfl
namespace Go.Proofs.Ytlfpgpfjdobpeaa
/- THE CELL 'sum', in the pinned program and in every row, IS THE sha256 OF THE DUMP (.gsa) THAT YtlfpgpfjdobpeaaProg.lean LOADS. Nothing in Lean hashes anything: it is a label: what it is worth is what the hold of that sum in a sandbox is worth. -/
noncomputable def Try.pinned : Pinned := { name := "ytlfpgpfjdobpeaa", sum := "1124440bc518766b922879e6e39558b756b4b2d6c5e5c78bf4cd172a018078d0", checked := Try.checked }
namespace Rows
def none {H : Type} : Left H := { results := [], args := [] }

/-- 'afterimagelaw02.VecReckons': WHATEVER THE INPUT: true; the input reads as it did. -/
def vecReckonsSpec : ChangeSpec := { name := "vecReckons", fn := fun _ => fun
  | [d1, d2, d3] => { results := [.lit (.bool true)], args := [d1, d2, d3] }
  | _ => none }
def vecReckonsRow : OpenClaim := { program := "ytlfpgpfjdobpeaa", sum := "1124440bc518766b922879e6e39558b756b4b2d6c5e5c78bf4cd172a018078d0", func := "afterimage/afterimagelaw02.VecReckons", spec := "vecReckons", inPlace := ["math/bits.Add64", "math/bits.Sub64"], unfollowed := true, recurses := true, named := ["math/bits.divideError", "math/bits.overflowError"], apart := false }
def VecReckonsSaid : Prop := vecReckonsRow.holds Try.pinned (OpenSpec.ofChange vecReckonsSpec)

/-- ITS FALSE NEIGHBOUR: 'it returns false'. Refute it at one input. -/
def vecReckonsWrong : ChangeSpec := { name := "vecReckons", fn := fun _ => fun
  | [d1, d2, d3] => { results := [.lit (.bool false)], args := [d1, d2, d3] }
  | _ => none }
def VecReckonsWrongFalsely : Prop := vecReckonsRow.holds Try.pinned (OpenSpec.ofChange vecReckonsWrong)

/-- 'afterimagelaw02.VecLerps': WHATEVER THE INPUT: true; the input reads as it did. -/
def vecLerpsSpec : ChangeSpec := { name := "vecLerps", fn := fun _ => fun
  | [d1, d2, d3] => { results := [.lit (.bool true)], args := [d1, d2, d3] }
  | _ => none }
def vecLerpsRow : OpenClaim := { program := "ytlfpgpfjdobpeaa", sum := "1124440bc518766b922879e6e39558b756b4b2d6c5e5c78bf4cd172a018078d0", func := "afterimage/afterimagelaw02.VecLerps", spec := "vecLerps", inPlace := ["math/bits.Sub64", "math/bits.Add64"], unfollowed := true, recurses := true, named := ["math/bits.divideError", "math/bits.overflowError"], apart := false }
def VecLerpsSaid : Prop := vecLerpsRow.holds Try.pinned (OpenSpec.ofChange vecLerpsSpec)

/-- ITS FALSE NEIGHBOUR: 'it returns false'. Refute it at one input. -/
def vecLerpsWrong : ChangeSpec := { name := "vecLerps", fn := fun _ => fun
  | [d1, d2, d3] => { results := [.lit (.bool false)], args := [d1, d2, d3] }
  | _ => none }
def VecLerpsWrongFalsely : Prop := vecLerpsRow.holds Try.pinned (OpenSpec.ofChange vecLerpsWrong)

/-- 'afterimagelaw02.VecBetween': WHATEVER THE INPUT: true; the input reads as it did. -/
def vecBetweenSpec : ChangeSpec := { name := "vecBetween", fn := fun _ => fun
  | [d1, d2, d3] => { results := [.lit (.bool true)], args := [d1, d2, d3] }
  | _ => none }
def vecBetweenRow : OpenClaim := { program := "ytlfpgpfjdobpeaa", sum := "1124440bc518766b922879e6e39558b756b4b2d6c5e5c78bf4cd172a018078d0", func := "afterimage/afterimagelaw02.VecBetween", spec := "vecBetween", inPlace := ["math/bits.Add64"], unfollowed := true, recurses := true, named := ["math/bits.divideError", "math/bits.overflowError"], apart := false }
def VecBetweenSaid : Prop := vecBetweenRow.holds Try.pinned (OpenSpec.ofChange vecBetweenSpec)

/-- ITS FALSE NEIGHBOUR: 'it returns false'. Refute it at one input. -/
def vecBetweenWrong : ChangeSpec := { name := "vecBetween", fn := fun _ => fun
  | [d1, d2, d3] => { results := [.lit (.bool false)], args := [d1, d2, d3] }
  | _ => none }
def VecBetweenWrongFalsely : Prop := vecBetweenRow.holds Try.pinned (OpenSpec.ofChange vecBetweenWrong)

/-- 'afterimagelaw02.VecNear': WHATEVER THE INPUT: true; the input reads as it did. -/
def vecNearSpec : ChangeSpec := { name := "vecNear", fn := fun _ => fun
  | [d1, d2, d3] => { results := [.lit (.bool true)], args := [d1, d2, d3] }
  | _ => none }
def vecNearRow : OpenClaim := { program := "ytlfpgpfjdobpeaa", sum := "1124440bc518766b922879e6e39558b756b4b2d6c5e5c78bf4cd172a018078d0", func := "afterimage/afterimagelaw02.VecNear", spec := "vecNear", inPlace := ["math/bits.Add64"], unfollowed := true, recurses := true, named := ["math/bits.divideError", "math/bits.overflowError"], apart := false }
def VecNearSaid : Prop := vecNearRow.holds Try.pinned (OpenSpec.ofChange vecNearSpec)

/-- ITS FALSE NEIGHBOUR: 'it returns false'. Refute it at one input. -/
def vecNearWrong : ChangeSpec := { name := "vecNear", fn := fun _ => fun
  | [d1, d2, d3] => { results := [.lit (.bool false)], args := [d1, d2, d3] }
  | _ => none }
def VecNearWrongFalsely : Prop := vecNearRow.holds Try.pinned (OpenSpec.ofChange vecNearWrong)

/-- 'afterimagelaw02.VecStays': WHATEVER THE INPUT: true; the input reads as it did. -/
def vecStaysSpec : ChangeSpec := { name := "vecStays", fn := fun _ => fun
  | [d1, d2, d3] => { results := [.lit (.bool true)], args := [d1, d2, d3] }
  | _ => none }
def vecStaysRow : OpenClaim := { program := "ytlfpgpfjdobpeaa", sum := "1124440bc518766b922879e6e39558b756b4b2d6c5e5c78bf4cd172a018078d0", func := "afterimage/afterimagelaw02.VecStays", spec := "vecStays", inPlace := ["math/bits.Add64"], unfollowed := true, recurses := true, named := ["math/bits.divideError", "math/bits.overflowError"], apart := false }
def VecStaysSaid : Prop := vecStaysRow.holds Try.pinned (OpenSpec.ofChange vecStaysSpec)

/-- ITS FALSE NEIGHBOUR: 'it returns false'. Refute it at one input. -/
def vecStaysWrong : ChangeSpec := { name := "vecStays", fn := fun _ => fun
  | [d1, d2, d3] => { results := [.lit (.bool false)], args := [d1, d2, d3] }
  | _ => none }
def VecStaysWrongFalsely : Prop := vecStaysRow.holds Try.pinned (OpenSpec.ofChange vecStaysWrong)

/-- 'afterimagelaw02.VecLines': WHATEVER THE INPUT: true; the input reads as it did. -/
def vecLinesSpec : ChangeSpec := { name := "vecLines", fn := fun _ => fun
  | [d1, d2, d3] => { results := [.lit (.bool true)], args := [d1, d2, d3] }
  | _ => none }
def vecLinesRow : OpenClaim := { program := "ytlfpgpfjdobpeaa", sum := "1124440bc518766b922879e6e39558b756b4b2d6c5e5c78bf4cd172a018078d0", func := "afterimage/afterimagelaw02.VecLines", spec := "vecLines", inPlace := ["math/bits.Sub64", "math/bits.Add64"], unfollowed := true, recurses := true, named := ["math/bits.divideError", "math/bits.overflowError"], apart := false }
def VecLinesSaid : Prop := vecLinesRow.holds Try.pinned (OpenSpec.ofChange vecLinesSpec)

/-- ITS FALSE NEIGHBOUR: 'it returns false'. Refute it at one input. -/
def vecLinesWrong : ChangeSpec := { name := "vecLines", fn := fun _ => fun
  | [d1, d2, d3] => { results := [.lit (.bool false)], args := [d1, d2, d3] }
  | _ => none }
def VecLinesWrongFalsely : Prop := vecLinesRow.holds Try.pinned (OpenSpec.ofChange vecLinesWrong)

/- THE SECOND FORM. 'bulk': how many values and letters a reading holds, each counted each time it is reached (what is shared counts as often as it is met; a slice's spare places count too). A statement '..UptoSaid' is the law's where the arguments, and the package variables that the reading takes, are together of bulk at most 1048576: NARROWER than '..Said'. Prove '..Said' where nothing that the law and all that it calls make is longer than what came in: it says more and counts as full. Else prove '..UptoSaid'. A law counts once. -/
mutual
def uptoBulk {H : Type} : DataW H → Nat
  | .lit (.string bytes) => bytes.length + 1
  | .lit _ => 1
  | .nil => 1
  | .ptr d => uptoBulk d + 1
  | .slice elems spare => uptoBulkAll elems + uptoBulkAll spare + 1
  | .agg parts => uptoBulkAll parts + 1
  | .iface _ d => uptoBulk d + 1
  | .map entries => uptoBulkEntries entries + 1
  | .held _ => 1
def uptoBulkAll {H : Type} : List (DataW H) → Nat
  | [] => 0
  | d :: r => uptoBulk d + uptoBulkAll r
def uptoBulkEntries {H : Type} : List (Lit × DataW H) → Nat
  | [] => 0
  | x :: r => uptoBulkEntry x + uptoBulkEntries r
def uptoBulkEntry {H : Type} : Lit × DataW H → Nat
  | (.string bytes, d) => bytes.length + uptoBulk d + 1
  | (_, d) => uptoBulk d + 1
 end
def uptoSmall : (H : Type) → List (DataW H) → Bool := fun _ ds => decide (uptoBulkAll ds ≤ 1048576)
def OpenSpec.upto (s : _root_.Go.ChangeSpec) : _root_.Go.OpenSpec := { _root_.Go.OpenSpec.ofChange s with cond := some uptoSmall }

/-- 'afterimagelaw02.VecReckons', WHERE WHAT IT READS IS OF BULK AT MOST 1048576: true; the input reads as it did. -/
def vecReckonsUptoRow : OpenClaim := { program := "ytlfpgpfjdobpeaa", sum := "1124440bc518766b922879e6e39558b756b4b2d6c5e5c78bf4cd172a018078d0", func := "afterimage/afterimagelaw02.VecReckons", spec := "vecReckons", inPlace := ["math/bits.Add64", "math/bits.Sub64"], unfollowed := true, recurses := true, named := ["math/bits.divideError", "math/bits.overflowError"], apart := false, narrowed := true }
def VecReckonsUptoSaid : Prop := vecReckonsUptoRow.holds Try.pinned (OpenSpec.upto vecReckonsSpec)

/-- 'afterimagelaw02.VecLerps', WHERE WHAT IT READS IS OF BULK AT MOST 1048576: true; the input reads as it did. -/
def vecLerpsUptoRow : OpenClaim := { program := "ytlfpgpfjdobpeaa", sum := "1124440bc518766b922879e6e39558b756b4b2d6c5e5c78bf4cd172a018078d0", func := "afterimage/afterimagelaw02.VecLerps", spec := "vecLerps", inPlace := ["math/bits.Sub64", "math/bits.Add64"], unfollowed := true, recurses := true, named := ["math/bits.divideError", "math/bits.overflowError"], apart := false, narrowed := true }
def VecLerpsUptoSaid : Prop := vecLerpsUptoRow.holds Try.pinned (OpenSpec.upto vecLerpsSpec)

/-- 'afterimagelaw02.VecBetween', WHERE WHAT IT READS IS OF BULK AT MOST 1048576: true; the input reads as it did. -/
def vecBetweenUptoRow : OpenClaim := { program := "ytlfpgpfjdobpeaa", sum := "1124440bc518766b922879e6e39558b756b4b2d6c5e5c78bf4cd172a018078d0", func := "afterimage/afterimagelaw02.VecBetween", spec := "vecBetween", inPlace := ["math/bits.Add64"], unfollowed := true, recurses := true, named := ["math/bits.divideError", "math/bits.overflowError"], apart := false, narrowed := true }
def VecBetweenUptoSaid : Prop := vecBetweenUptoRow.holds Try.pinned (OpenSpec.upto vecBetweenSpec)

/-- 'afterimagelaw02.VecNear', WHERE WHAT IT READS IS OF BULK AT MOST 1048576: true; the input reads as it did. -/
def vecNearUptoRow : OpenClaim := { program := "ytlfpgpfjdobpeaa", sum := "1124440bc518766b922879e6e39558b756b4b2d6c5e5c78bf4cd172a018078d0", func := "afterimage/afterimagelaw02.VecNear", spec := "vecNear", inPlace := ["math/bits.Add64"], unfollowed := true, recurses := true, named := ["math/bits.divideError", "math/bits.overflowError"], apart := false, narrowed := true }
def VecNearUptoSaid : Prop := vecNearUptoRow.holds Try.pinned (OpenSpec.upto vecNearSpec)

/-- 'afterimagelaw02.VecStays', WHERE WHAT IT READS IS OF BULK AT MOST 1048576: true; the input reads as it did. -/
def vecStaysUptoRow : OpenClaim := { program := "ytlfpgpfjdobpeaa", sum := "1124440bc518766b922879e6e39558b756b4b2d6c5e5c78bf4cd172a018078d0", func := "afterimage/afterimagelaw02.VecStays", spec := "vecStays", inPlace := ["math/bits.Add64"], unfollowed := true, recurses := true, named := ["math/bits.divideError", "math/bits.overflowError"], apart := false, narrowed := true }
def VecStaysUptoSaid : Prop := vecStaysUptoRow.holds Try.pinned (OpenSpec.upto vecStaysSpec)

/-- 'afterimagelaw02.VecLines', WHERE WHAT IT READS IS OF BULK AT MOST 1048576: true; the input reads as it did. -/
def vecLinesUptoRow : OpenClaim := { program := "ytlfpgpfjdobpeaa", sum := "1124440bc518766b922879e6e39558b756b4b2d6c5e5c78bf4cd172a018078d0", func := "afterimage/afterimagelaw02.VecLines", spec := "vecLines", inPlace := ["math/bits.Sub64", "math/bits.Add64"], unfollowed := true, recurses := true, named := ["math/bits.divideError", "math/bits.overflowError"], apart := false, narrowed := true }
def VecLinesUptoSaid : Prop := vecLinesUptoRow.holds Try.pinned (OpenSpec.upto vecLinesSpec)

end Rows
end Go.Proofs.Ytlfpgpfjdobpeaa
