/-
  A library contract laid at this program: its numbers (written by tools/lay.py).
-/
import Derived.Test.YtfpngbeomgfmfaaRows
import Derived.Shelf.SlSorted.Search
namespace Go.Proofs.Ytfpngbeomgfmfaa
open Go.Shelf
def lay_search_ren : Go.Shelf.Ren := ⟨fun | 16 => 33 | n => n, fun | 3 => 3 | 35 => 81 | 4 => 4 | 38 => 75 | n => n, fun | n => n⟩
theorem lay_search : Go.Proofs.SlLaysO.n16 Try.prog lay_search_ren := {
  mixed := by kernel_rfl
  f16 := Try.func33.trans (congrArg some (by kernel_rfl))
  t3 := Try.underlying3
  a3 := Try.isAgg3
  z3 := Try.sizeOf3
  v3 := Try.zeroValue3
  t4 := Try.underlying4
  a4 := Try.isAgg4
  z4 := Try.sizeOf4
  v4 := Try.zeroValue4
  t35 := Try.underlying81
  a35 := Try.isAgg81
  z35 := Try.sizeOf81
  v35 := Try.zeroValue81
  t38 := Try.underlying75
  a38 := Try.isAgg75
  z38 := Try.sizeOf75
  v38 := Try.zeroValue75 }
end Go.Proofs.Ytfpngbeomgfmfaa
