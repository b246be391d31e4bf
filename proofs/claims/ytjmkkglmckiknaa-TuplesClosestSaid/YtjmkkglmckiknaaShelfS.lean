/-
  The library contract of sort.Search, laid at this translation by program.
-/
import Derived.Shelf.SlSorted.Search
import Derived.Test.YtjmkkglmckiknaaProg
namespace Go.Proofs
open Go.Shelf
def Try.search_ren : Go.Shelf.Ren := ⟨fun | 16 => 46 | n => n, fun | 3 => 3 | 35 => 89 | 4 => 4 | 38 => 90 | n => n, fun | n => n⟩
theorem Try.search : Go.Proofs.SlLaysO.n16 Try.prog Try.search_ren := {
  mixed := by kernel_rfl
  f16 := Try.func46.trans (congrArg some (by kernel_rfl))
  t3 := Try.underlying3
  a3 := Try.isAgg3
  z3 := Try.sizeOf3
  v3 := Try.zeroValue3
  t4 := Try.underlying4
  a4 := Try.isAgg4
  z4 := Try.sizeOf4
  v4 := Try.zeroValue4
  t35 := Try.underlying89
  a35 := Try.isAgg89
  z35 := Try.sizeOf89
  v35 := Try.zeroValue89
  t38 := Try.underlying90
  a38 := Try.isAgg90
  z38 := Try.sizeOf90
  v38 := Try.zeroValue90 }
end Go.Proofs
