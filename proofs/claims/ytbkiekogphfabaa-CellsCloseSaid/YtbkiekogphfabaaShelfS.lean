/-
  The library contract of sort.Search, laid at this translation by program.
-/
import Derived.Shelf.SlSorted.Search
import Derived.Test.YtbkiekogphfabaaProg
namespace Go.Proofs
open Go.Shelf
def Try.search_ren : Go.Shelf.Ren := ⟨fun | 16 => 24 | n => n, fun | 3 => 3 | 35 => 59 | 4 => 4 | 38 => 47 | n => n, fun | n => n⟩
theorem Try.search : Go.Proofs.SlLaysO.n16 Try.prog Try.search_ren := {
  mixed := by kernel_rfl
  f16 := Try.func24.trans (congrArg some (by kernel_rfl))
  t3 := Try.underlying3
  a3 := Try.isAgg3
  z3 := Try.sizeOf3
  v3 := Try.zeroValue3
  t4 := Try.underlying4
  a4 := Try.isAgg4
  z4 := Try.sizeOf4
  v4 := Try.zeroValue4
  t35 := Try.underlying59
  a35 := Try.isAgg59
  z35 := Try.sizeOf59
  v35 := Try.zeroValue59
  t38 := Try.underlying47
  a38 := Try.isAgg47
  z38 := Try.sizeOf47
  v38 := Try.zeroValue47 }
end Go.Proofs
