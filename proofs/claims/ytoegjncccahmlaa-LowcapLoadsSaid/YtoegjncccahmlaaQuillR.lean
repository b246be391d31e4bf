/-
  Walks: the reference's bytes of numbers and of values.
-/
import Derived.Test.YtoegjncccahmlaaRows
import Derived.Test.YtoegjncccahmlaaQuillN
import Derived.Test.YtoegjncccahmlaaSignA
import Derived.Test.YtoegjncccahmlaaTwo
import Derived.WalkKit
import Derived.WalkSpells
import Derived.WalkLawsBesides
import Derived.WalkMore
import Derived.LoopTactic
import Derived.OneCell
import Derived.Lib.Strings
import Derived.Laws.BytesArg
import Derived.Laws.Concat
import Derived.Outline
import Derived.Deep.RegionHeld3
namespace Go.Proofs.Ytoegjncccahmlaa
set_option linter.unusedVariables false
set_option linter.unusedSimpArgs false
open Go.RowKit

theorem byte_atA' (s : ByteArray) (k : Nat) (h : k < s.size) : s.data.toList[k]? = some (s[k]'h) := by
  obtain ⟨⟨l⟩⟩ := s
  exact List.getElem?_eq_getElem h

end Go.Proofs.Ytoegjncccahmlaa