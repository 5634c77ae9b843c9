/-
  No cell of these rows narrows 'for every input' (looked for: loops, veiled, ifaces, maps, wideKeys, modest, calm, conditions, laid).
  DERIVED. THE GIVEN ROWS OF THIS SEAT. 5 by the template 'for every input the law returns true; each argument reads behind the call as it read before'; 0 by the template 'total and deterministic' (their statements: YtnoogdegpkgpdaaTotals.lean).
  GIVEN WITH THE SEED: the statements are not yours to turn. If you find one false, say at which input.
  Laid BY PROGRAM, IN A SANDBOX (cutbox-rows.mjs): the forced cells as the released guide's own fill.sh prints them over the translation 5c808bf5cd69447c… (all of the seat's roots in one cut). By AI agents, Wed Nov 11 2026. No macro, syntax, notation, axiom, sorry.
-/
import Derived.Test.YtnoogdegpkgpdaaChecked
import GoSem.Claim
import GoSem.ClaimJoined
import GoSem.ClaimMapViews
import Derived.JoinedTies
import Derived.KernelRfl
namespace Go.Proofs.Ytnoogdegpkgpdaa
/- THE CELL 'sum', in the pinned program and in every row, IS THE sha256 OF THE DUMP (.gsa) THAT YtnoogdegpkgpdaaProg.lean LOADS. Nothing in Lean hashes anything: it is a label: what it is worth is what the hold of that sum in a sandbox is worth. -/
noncomputable def Try.pinned : Pinned := { name := "ytnoogdegpkgpdaa", sum := "5c808bf5cd69447c595b33900787da00f47b4be8f71f1592baadb96ce1254a44", checked := Try.checked }
namespace Rows
def none {H : Type} : Left H := { results := [], args := [] }

/-- 'afterimagelaw07.ReaderActs': WHATEVER THE INPUT: true; the input reads as it did. -/
def readerActsSpec : ChangeSpec := { name := "readerActs", fn := fun _ => fun
  | [d1, d2] => { results := [.lit (.bool true)], args := [d1, d2] }
  | _ => none }
def readerActsRow : OpenClaim := { program := "ytnoogdegpkgpdaa", sum := "5c808bf5cd69447c595b33900787da00f47b4be8f71f1592baadb96ce1254a44", func := "afterimage/afterimagelaw07.ReaderActs", spec := "readerActs", unfollowed := true, recurses := true, apart := false }
def ReaderActsSaid : Prop := readerActsRow.holds Try.pinned (OpenSpec.ofChange readerActsSpec)

/-- ITS FALSE NEIGHBOUR: 'it returns false'. Refute it at one input. -/
def readerActsWrong : ChangeSpec := { name := "readerActs", fn := fun _ => fun
  | [d1, d2] => { results := [.lit (.bool false)], args := [d1, d2] }
  | _ => none }
def ReaderActsWrongFalsely : Prop := readerActsRow.holds Try.pinned (OpenSpec.ofChange readerActsWrong)

/-- 'afterimagelaw07.ReaderNone': WHATEVER THE INPUT: true; the input reads as it did. -/
def readerNoneSpec : ChangeSpec := { name := "readerNone", fn := fun _ => fun
  | [d1, d2] => { results := [.lit (.bool true)], args := [d1, d2] }
  | _ => none }
def readerNoneRow : OpenClaim := { program := "ytnoogdegpkgpdaa", sum := "5c808bf5cd69447c595b33900787da00f47b4be8f71f1592baadb96ce1254a44", func := "afterimage/afterimagelaw07.ReaderNone", spec := "readerNone", unfollowed := true, recurses := true, apart := false }
def ReaderNoneSaid : Prop := readerNoneRow.holds Try.pinned (OpenSpec.ofChange readerNoneSpec)

/-- ITS FALSE NEIGHBOUR: 'it returns false'. Refute it at one input. -/
def readerNoneWrong : ChangeSpec := { name := "readerNone", fn := fun _ => fun
  | [d1, d2] => { results := [.lit (.bool false)], args := [d1, d2] }
  | _ => none }
def ReaderNoneWrongFalsely : Prop := readerNoneRow.holds Try.pinned (OpenSpec.ofChange readerNoneWrong)

/-- 'afterimagelaw07.ReaderBack': WHATEVER THE INPUT: true; the input reads as it did. -/
def readerBackSpec : ChangeSpec := { name := "readerBack", fn := fun _ => fun
  | [d1, d2] => { results := [.lit (.bool true)], args := [d1, d2] }
  | _ => none }
def readerBackRow : OpenClaim := { program := "ytnoogdegpkgpdaa", sum := "5c808bf5cd69447c595b33900787da00f47b4be8f71f1592baadb96ce1254a44", func := "afterimage/afterimagelaw07.ReaderBack", spec := "readerBack", unfollowed := true, recurses := true, apart := false }
def ReaderBackSaid : Prop := readerBackRow.holds Try.pinned (OpenSpec.ofChange readerBackSpec)

/-- ITS FALSE NEIGHBOUR: 'it returns false'. Refute it at one input. -/
def readerBackWrong : ChangeSpec := { name := "readerBack", fn := fun _ => fun
  | [d1, d2] => { results := [.lit (.bool false)], args := [d1, d2] }
  | _ => none }
def ReaderBackWrongFalsely : Prop := readerBackRow.holds Try.pinned (OpenSpec.ofChange readerBackWrong)

/-- 'afterimagelaw07.ReaderSticks': WHATEVER THE INPUT: true; the input reads as it did. -/
def readerSticksSpec : ChangeSpec := { name := "readerSticks", fn := fun _ => fun
  | [d1, d2, d3] => { results := [.lit (.bool true)], args := [d1, d2, d3] }
  | _ => none }
def readerSticksRow : OpenClaim := { program := "ytnoogdegpkgpdaa", sum := "5c808bf5cd69447c595b33900787da00f47b4be8f71f1592baadb96ce1254a44", func := "afterimage/afterimagelaw07.ReaderSticks", spec := "readerSticks", unfollowed := true, recurses := true, apart := false }
def ReaderSticksSaid : Prop := readerSticksRow.holds Try.pinned (OpenSpec.ofChange readerSticksSpec)

/-- ITS FALSE NEIGHBOUR: 'it returns false'. Refute it at one input. -/
def readerSticksWrong : ChangeSpec := { name := "readerSticks", fn := fun _ => fun
  | [d1, d2, d3] => { results := [.lit (.bool false)], args := [d1, d2, d3] }
  | _ => none }
def ReaderSticksWrongFalsely : Prop := readerSticksRow.holds Try.pinned (OpenSpec.ofChange readerSticksWrong)

/-- 'afterimagelaw07.ReaderCounts': WHATEVER THE INPUT: true; the input reads as it did. -/
def readerCountsSpec : ChangeSpec := { name := "readerCounts", fn := fun _ => fun
  | [d1, d2] => { results := [.lit (.bool true)], args := [d1, d2] }
  | _ => none }
def readerCountsRow : OpenClaim := { program := "ytnoogdegpkgpdaa", sum := "5c808bf5cd69447c595b33900787da00f47b4be8f71f1592baadb96ce1254a44", func := "afterimage/afterimagelaw07.ReaderCounts", spec := "readerCounts", unfollowed := true, recurses := true, apart := false }
def ReaderCountsSaid : Prop := readerCountsRow.holds Try.pinned (OpenSpec.ofChange readerCountsSpec)

/-- ITS FALSE NEIGHBOUR: 'it returns false'. Refute it at one input. -/
def readerCountsWrong : ChangeSpec := { name := "readerCounts", fn := fun _ => fun
  | [d1, d2] => { results := [.lit (.bool false)], args := [d1, d2] }
  | _ => none }
def ReaderCountsWrongFalsely : Prop := readerCountsRow.holds Try.pinned (OpenSpec.ofChange readerCountsWrong)

/- THE SECOND FORM. 'bulk': how many values and letters a reading holds, each counted each time it is reached (what is shared counts as often as it is met; a slice's spare places count too). A statement '..UptoSaid' is the law's where the arguments, and the package variables that the reading takes, are together of bulk at most 1048576: NARROWER than '..Said'. Prove '..Said' where nothing that the law and all that it calls make is longer than what came in: it says more and counts as full. Else prove '..UptoSaid'. A law counts once. -/
mutual
def uptoBulk {H : Type} : DataW H → Nat
  | .lit (.string bytes) => bytes.length + 1
  | .lit _ => 1
  | .nil => 1
  | .ptr d => uptoBulk d + 1
  | .slice elems spare => uptoBulkAll elems + uptoBulkAll spare + 1
  | .agg parts => uptoBulkAll parts + 1
  | .iface _ d => uptoBulk d + 1
  | .map entries => uptoBulkEntries entries + 1
  | .held _ => 1
def uptoBulkAll {H : Type} : List (DataW H) → Nat
  | [] => 0
  | d :: r => uptoBulk d + uptoBulkAll r
def uptoBulkEntries {H : Type} : List (Lit × DataW H) → Nat
  | [] => 0
  | x :: r => uptoBulkEntry x + uptoBulkEntries r
def uptoBulkEntry {H : Type} : Lit × DataW H → Nat
  | (.string bytes, d) => bytes.length + uptoBulk d + 1
  | (_, d) => uptoBulk d + 1
 end
def uptoSmall : (H : Type) → List (DataW H) → Bool := fun _ ds => decide (uptoBulkAll ds ≤ 1048576)
def OpenSpec.upto (s : _root_.Go.ChangeSpec) : _root_.Go.OpenSpec := { _root_.Go.OpenSpec.ofChange s with cond := some uptoSmall }

/-- 'afterimagelaw07.ReaderActs', WHERE WHAT IT READS IS OF BULK AT MOST 1048576: true; the input reads as it did. -/
def readerActsUptoRow : OpenClaim := { program := "ytnoogdegpkgpdaa", sum := "5c808bf5cd69447c595b33900787da00f47b4be8f71f1592baadb96ce1254a44", func := "afterimage/afterimagelaw07.ReaderActs", spec := "readerActs", unfollowed := true, recurses := true, apart := false, narrowed := true }
def ReaderActsUptoSaid : Prop := readerActsUptoRow.holds Try.pinned (OpenSpec.upto readerActsSpec)

/-- 'afterimagelaw07.ReaderNone', WHERE WHAT IT READS IS OF BULK AT MOST 1048576: true; the input reads as it did. -/
def readerNoneUptoRow : OpenClaim := { program := "ytnoogdegpkgpdaa", sum := "5c808bf5cd69447c595b33900787da00f47b4be8f71f1592baadb96ce1254a44", func := "afterimage/afterimagelaw07.ReaderNone", spec := "readerNone", unfollowed := true, recurses := true, apart := false, narrowed := true }
def ReaderNoneUptoSaid : Prop := readerNoneUptoRow.holds Try.pinned (OpenSpec.upto readerNoneSpec)

/-- 'afterimagelaw07.ReaderBack', WHERE WHAT IT READS IS OF BULK AT MOST 1048576: true; the input reads as it did. -/
def readerBackUptoRow : OpenClaim := { program := "ytnoogdegpkgpdaa", sum := "5c808bf5cd69447c595b33900787da00f47b4be8f71f1592baadb96ce1254a44", func := "afterimage/afterimagelaw07.ReaderBack", spec := "readerBack", unfollowed := true, recurses := true, apart := false, narrowed := true }
def ReaderBackUptoSaid : Prop := readerBackUptoRow.holds Try.pinned (OpenSpec.upto readerBackSpec)

/-- 'afterimagelaw07.ReaderSticks', WHERE WHAT IT READS IS OF BULK AT MOST 1048576: true; the input reads as it did. -/
def readerSticksUptoRow : OpenClaim := { program := "ytnoogdegpkgpdaa", sum := "5c808bf5cd69447c595b33900787da00f47b4be8f71f1592baadb96ce1254a44", func := "afterimage/afterimagelaw07.ReaderSticks", spec := "readerSticks", unfollowed := true, recurses := true, apart := false, narrowed := true }
def ReaderSticksUptoSaid : Prop := readerSticksUptoRow.holds Try.pinned (OpenSpec.upto readerSticksSpec)

/-- 'afterimagelaw07.ReaderCounts', WHERE WHAT IT READS IS OF BULK AT MOST 1048576: true; the input reads as it did. -/
def readerCountsUptoRow : OpenClaim := { program := "ytnoogdegpkgpdaa", sum := "5c808bf5cd69447c595b33900787da00f47b4be8f71f1592baadb96ce1254a44", func := "afterimage/afterimagelaw07.ReaderCounts", spec := "readerCounts", unfollowed := true, recurses := true, apart := false, narrowed := true }
def ReaderCountsUptoSaid : Prop := readerCountsUptoRow.holds Try.pinned (OpenSpec.upto readerCountsSpec)

end Rows
end Go.Proofs.Ytnoogdegpkgpdaa
