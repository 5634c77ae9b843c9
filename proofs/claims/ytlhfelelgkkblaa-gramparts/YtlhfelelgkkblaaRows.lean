/-
  No cell of these rows narrows 'for every input' (looked for: loops, veiled, ifaces, maps, wideKeys, modest, calm, conditions, laid).
  DERIVED. THE GIVEN ROWS OF THIS SEAT. 6 by the template 'for every input the law returns true; each argument reads behind the call as it read before'; 0 by the template 'total and deterministic' (their statements: YtlhfelelgkkblaaTotals.lean).
  GIVEN WITH THE SEED: the statements are not yours to turn. If you find one false, say at which input.
  Laid BY PROGRAM, IN A SANDBOX (cutbox-rows.mjs): the forced cells as the released guide's own fill.sh prints them over the translation 2d0de807696524c4… (all of the seat's roots in one cut). By AI agents, Wed Nov 11 2026. No macro, syntax, notation, axiom, sorry.
-/
import Derived.Test.YtlhfelelgkkblaaChecked
import GoSem.Claim
import GoSem.ClaimJoined
import GoSem.ClaimMapViews
import Derived.JoinedTies
import Derived.KernelRfl
namespace Go.Proofs.Ytlhfelelgkkblaa
/- THE CELL 'sum', in the pinned program and in every row, IS THE sha256 OF THE DUMP (.gsa) THAT YtlhfelelgkkblaaProg.lean LOADS. Nothing in Lean hashes anything: it is a label: what it is worth is what the hold of that sum in a sandbox is worth. -/
noncomputable def Try.pinned : Pinned := { name := "ytlhfelelgkkblaa", sum := "2d0de807696524c408da36066667dba2d8333cf034d054559931c10273315f8c", checked := Try.checked }
namespace Rows
def none {H : Type} : Left H := { results := [], args := [] }

/-- 'afterimagelaw09.GramWrites': WHATEVER THE INPUT: true; the input reads as it did. -/
def gramWritesSpec : ChangeSpec := { name := "gramWrites", fn := fun _ => fun
  | [d] => { results := [.lit (.bool true)], args := [d] }
  | _ => none }
def gramWritesRow : OpenClaim := { program := "ytlhfelelgkkblaa", sum := "2d0de807696524c408da36066667dba2d8333cf034d054559931c10273315f8c", func := "afterimage/afterimagelaw09.GramWrites", spec := "gramWrites", unfollowed := true, recurses := true, apart := false }
def GramWritesSaid : Prop := gramWritesRow.holds Try.pinned (OpenSpec.ofChange gramWritesSpec)

/-- ITS FALSE NEIGHBOUR: 'it returns false'. Refute it at one input. -/
def gramWritesWrong : ChangeSpec := { name := "gramWrites", fn := fun _ => fun
  | [d] => { results := [.lit (.bool false)], args := [d] }
  | _ => none }
def GramWritesWrongFalsely : Prop := gramWritesRow.holds Try.pinned (OpenSpec.ofChange gramWritesWrong)

/-- 'afterimagelaw09.GramReads': WHATEVER THE INPUT: true; the input reads as it did. -/
def gramReadsSpec : ChangeSpec := { name := "gramReads", fn := fun _ => fun
  | [d] => { results := [.lit (.bool true)], args := [d] }
  | _ => none }
def gramReadsRow : OpenClaim := { program := "ytlhfelelgkkblaa", sum := "2d0de807696524c408da36066667dba2d8333cf034d054559931c10273315f8c", func := "afterimage/afterimagelaw09.GramReads", spec := "gramReads", unfollowed := true, recurses := true, apart := false }
def GramReadsSaid : Prop := gramReadsRow.holds Try.pinned (OpenSpec.ofChange gramReadsSpec)

/-- ITS FALSE NEIGHBOUR: 'it returns false'. Refute it at one input. -/
def gramReadsWrong : ChangeSpec := { name := "gramReads", fn := fun _ => fun
  | [d] => { results := [.lit (.bool false)], args := [d] }
  | _ => none }
def GramReadsWrongFalsely : Prop := gramReadsRow.holds Try.pinned (OpenSpec.ofChange gramReadsWrong)

/-- 'afterimagelaw09.GramBack': WHATEVER THE INPUT: true; the input reads as it did. -/
def gramBackSpec : ChangeSpec := { name := "gramBack", fn := fun _ => fun
  | [d1, d2] => { results := [.lit (.bool true)], args := [d1, d2] }
  | _ => none }
def gramBackRow : OpenClaim := { program := "ytlhfelelgkkblaa", sum := "2d0de807696524c408da36066667dba2d8333cf034d054559931c10273315f8c", func := "afterimage/afterimagelaw09.GramBack", spec := "gramBack", unfollowed := true, recurses := true, apart := false }
def GramBackSaid : Prop := gramBackRow.holds Try.pinned (OpenSpec.ofChange gramBackSpec)

/-- ITS FALSE NEIGHBOUR: 'it returns false'. Refute it at one input. -/
def gramBackWrong : ChangeSpec := { name := "gramBack", fn := fun _ => fun
  | [d1, d2] => { results := [.lit (.bool false)], args := [d1, d2] }
  | _ => none }
def GramBackWrongFalsely : Prop := gramBackRow.holds Try.pinned (OpenSpec.ofChange gramBackWrong)

/-- 'afterimagelaw09.GramOne': WHATEVER THE INPUT: true; the input reads as it did. -/
def gramOneSpec : ChangeSpec := { name := "gramOne", fn := fun _ => fun
  | [d] => { results := [.lit (.bool true)], args := [d] }
  | _ => none }
def gramOneRow : OpenClaim := { program := "ytlhfelelgkkblaa", sum := "2d0de807696524c408da36066667dba2d8333cf034d054559931c10273315f8c", func := "afterimage/afterimagelaw09.GramOne", spec := "gramOne", unfollowed := true, recurses := true, apart := false }
def GramOneSaid : Prop := gramOneRow.holds Try.pinned (OpenSpec.ofChange gramOneSpec)

/-- ITS FALSE NEIGHBOUR: 'it returns false'. Refute it at one input. -/
def gramOneWrong : ChangeSpec := { name := "gramOne", fn := fun _ => fun
  | [d] => { results := [.lit (.bool false)], args := [d] }
  | _ => none }
def GramOneWrongFalsely : Prop := gramOneRow.holds Try.pinned (OpenSpec.ofChange gramOneWrong)

/-- 'afterimagelaw09.GramParts': WHATEVER THE INPUT: true; the input reads as it did. -/
def gramPartsSpec : ChangeSpec := { name := "gramParts", fn := fun _ => fun
  | [d] => { results := [.lit (.bool true)], args := [d] }
  | _ => none }
def gramPartsRow : OpenClaim := { program := "ytlhfelelgkkblaa", sum := "2d0de807696524c408da36066667dba2d8333cf034d054559931c10273315f8c", func := "afterimage/afterimagelaw09.GramParts", spec := "gramParts", unfollowed := true, recurses := true, apart := false }
def GramPartsSaid : Prop := gramPartsRow.holds Try.pinned (OpenSpec.ofChange gramPartsSpec)

/-- ITS FALSE NEIGHBOUR: 'it returns false'. Refute it at one input. -/
def gramPartsWrong : ChangeSpec := { name := "gramParts", fn := fun _ => fun
  | [d] => { results := [.lit (.bool false)], args := [d] }
  | _ => none }
def GramPartsWrongFalsely : Prop := gramPartsRow.holds Try.pinned (OpenSpec.ofChange gramPartsWrong)

/-- 'afterimagelaw09.GramLong': WHATEVER THE INPUT: true; the input reads as it did. -/
def gramLongSpec : ChangeSpec := { name := "gramLong", fn := fun _ => fun
  | [d1, d2] => { results := [.lit (.bool true)], args := [d1, d2] }
  | _ => none }
def gramLongRow : OpenClaim := { program := "ytlhfelelgkkblaa", sum := "2d0de807696524c408da36066667dba2d8333cf034d054559931c10273315f8c", func := "afterimage/afterimagelaw09.GramLong", spec := "gramLong", unfollowed := true, recurses := true, apart := false }
def GramLongSaid : Prop := gramLongRow.holds Try.pinned (OpenSpec.ofChange gramLongSpec)

/-- ITS FALSE NEIGHBOUR: 'it returns false'. Refute it at one input. -/
def gramLongWrong : ChangeSpec := { name := "gramLong", fn := fun _ => fun
  | [d1, d2] => { results := [.lit (.bool false)], args := [d1, d2] }
  | _ => none }
def GramLongWrongFalsely : Prop := gramLongRow.holds Try.pinned (OpenSpec.ofChange gramLongWrong)

/- THE SECOND FORM. 'bulk': how many values and letters a reading holds, each counted each time it is reached (what is shared counts as often as it is met; a slice's spare places count too). A statement '..UptoSaid' is the law's where the arguments, and the package variables that the reading takes, are together of bulk at most 1048576: NARROWER than '..Said'. Prove '..Said' where nothing that the law and all that it calls make is longer than what came in: it says more and counts as full. Else prove '..UptoSaid'. A law counts once. -/
mutual
def uptoBulk {H : Type} : DataW H → Nat
  | .lit (.string bytes) => bytes.length + 1
  | .lit _ => 1
  | .nil => 1
  | .ptr d => uptoBulk d + 1
  | .slice elems spare => uptoBulkAll elems + uptoBulkAll spare + 1
  | .agg parts => uptoBulkAll parts + 1
  | .iface _ d => uptoBulk d + 1
  | .map entries => uptoBulkEntries entries + 1
  | .held _ => 1
def uptoBulkAll {H : Type} : List (DataW H) → Nat
  | [] => 0
  | d :: r => uptoBulk d + uptoBulkAll r
def uptoBulkEntries {H : Type} : List (Lit × DataW H) → Nat
  | [] => 0
  | x :: r => uptoBulkEntry x + uptoBulkEntries r
def uptoBulkEntry {H : Type} : Lit × DataW H → Nat
  | (.string bytes, d) => bytes.length + uptoBulk d + 1
  | (_, d) => uptoBulk d + 1
 end
def uptoSmall : (H : Type) → List (DataW H) → Bool := fun _ ds => decide (uptoBulkAll ds ≤ 1048576)
def OpenSpec.upto (s : _root_.Go.ChangeSpec) : _root_.Go.OpenSpec := { _root_.Go.OpenSpec.ofChange s with cond := some uptoSmall }

/-- 'afterimagelaw09.GramWrites', WHERE WHAT IT READS IS OF BULK AT MOST 1048576: true; the input reads as it did. -/
def gramWritesUptoRow : OpenClaim := { program := "ytlhfelelgkkblaa", sum := "2d0de807696524c408da36066667dba2d8333cf034d054559931c10273315f8c", func := "afterimage/afterimagelaw09.GramWrites", spec := "gramWrites", unfollowed := true, recurses := true, apart := false, narrowed := true }
def GramWritesUptoSaid : Prop := gramWritesUptoRow.holds Try.pinned (OpenSpec.upto gramWritesSpec)

/-- 'afterimagelaw09.GramReads', WHERE WHAT IT READS IS OF BULK AT MOST 1048576: true; the input reads as it did. -/
def gramReadsUptoRow : OpenClaim := { program := "ytlhfelelgkkblaa", sum := "2d0de807696524c408da36066667dba2d8333cf034d054559931c10273315f8c", func := "afterimage/afterimagelaw09.GramReads", spec := "gramReads", unfollowed := true, recurses := true, apart := false, narrowed := true }
def GramReadsUptoSaid : Prop := gramReadsUptoRow.holds Try.pinned (OpenSpec.upto gramReadsSpec)

/-- 'afterimagelaw09.GramBack', WHERE WHAT IT READS IS OF BULK AT MOST 1048576: true; the input reads as it did. -/
def gramBackUptoRow : OpenClaim := { program := "ytlhfelelgkkblaa", sum := "2d0de807696524c408da36066667dba2d8333cf034d054559931c10273315f8c", func := "afterimage/afterimagelaw09.GramBack", spec := "gramBack", unfollowed := true, recurses := true, apart := false, narrowed := true }
def GramBackUptoSaid : Prop := gramBackUptoRow.holds Try.pinned (OpenSpec.upto gramBackSpec)

/-- 'afterimagelaw09.GramOne', WHERE WHAT IT READS IS OF BULK AT MOST 1048576: true; the input reads as it did. -/
def gramOneUptoRow : OpenClaim := { program := "ytlhfelelgkkblaa", sum := "2d0de807696524c408da36066667dba2d8333cf034d054559931c10273315f8c", func := "afterimage/afterimagelaw09.GramOne", spec := "gramOne", unfollowed := true, recurses := true, apart := false, narrowed := true }
def GramOneUptoSaid : Prop := gramOneUptoRow.holds Try.pinned (OpenSpec.upto gramOneSpec)

/-- 'afterimagelaw09.GramParts', WHERE WHAT IT READS IS OF BULK AT MOST 1048576: true; the input reads as it did. -/
def gramPartsUptoRow : OpenClaim := { program := "ytlhfelelgkkblaa", sum := "2d0de807696524c408da36066667dba2d8333cf034d054559931c10273315f8c", func := "afterimage/afterimagelaw09.GramParts", spec := "gramParts", unfollowed := true, recurses := true, apart := false, narrowed := true }
def GramPartsUptoSaid : Prop := gramPartsUptoRow.holds Try.pinned (OpenSpec.upto gramPartsSpec)

/-- 'afterimagelaw09.GramLong', WHERE WHAT IT READS IS OF BULK AT MOST 1048576: true; the input reads as it did. -/
def gramLongUptoRow : OpenClaim := { program := "ytlhfelelgkkblaa", sum := "2d0de807696524c408da36066667dba2d8333cf034d054559931c10273315f8c", func := "afterimage/afterimagelaw09.GramLong", spec := "gramLong", unfollowed := true, recurses := true, apart := false, narrowed := true }
def GramLongUptoSaid : Prop := gramLongUptoRow.holds Try.pinned (OpenSpec.upto gramLongSpec)

end Rows
end Go.Proofs.Ytlhfelelgkkblaa
