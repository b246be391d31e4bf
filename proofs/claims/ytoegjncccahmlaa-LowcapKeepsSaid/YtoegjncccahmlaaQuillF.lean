/-
  Walks: the number at the beginning of a text.
-/
import Derived.Test.YtoegjncccahmlaaQuillA
namespace Go.Proofs.Ytoegjncccahmlaa
set_option linter.unusedVariables false
set_option linter.unusedSimpArgs false
open Go.RowKit

theorem byte_atA (s : ByteArray) (k : Nat) (h : k < s.size) : s.data.toList[k]? = some (s[k]'h) := by
  obtain ⟨⟨l⟩⟩ := s
  exact List.getElem?_eq_getElem h

end Go.Proofs.Ytoegjncccahmlaa