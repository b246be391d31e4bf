/-
  The library contract of sort.Search, laid at this translation by program.
-/
import Derived.Shelf.SlSorted.Search
import Derived.Test.YtecnlpkfcggimaaProg
namespace Go.Proofs
open Go.Shelf
def Try.search_ren : Go.Shelf.Ren := ⟨fun | 16 => 25 | n => n, fun | 3 => 3 | 35 => 28 | 4 => 4 | 38 => 43 | n => n, fun | n => n⟩
theorem Try.search : Go.Proofs.SlLaysO.n16 Try.prog Try.search_ren := {
  mixed := by kernel_rfl
  f16 := Try.func25.trans (congrArg some (by kernel_rfl))
  t3 := Try.underlying3
  a3 := Try.isAgg3
  z3 := Try.sizeOf3
  v3 := Try.zeroValue3
  t4 := Try.underlying4
  a4 := Try.isAgg4
  z4 := Try.sizeOf4
  v4 := Try.zeroValue4
  t35 := Try.underlying28
  a35 := Try.isAgg28
  z35 := Try.sizeOf28
  v35 := Try.zeroValue28
  t38 := Try.underlying43
  a38 := Try.isAgg43
  z38 := Try.sizeOf43
  v38 := Try.zeroValue43 }
end Go.Proofs
