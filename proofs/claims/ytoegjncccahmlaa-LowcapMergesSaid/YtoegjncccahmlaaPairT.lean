/-
  Walks: the reference's Bytes of rows of pairs.
-/
import Derived.Test.YtoegjncccahmlaaPairR
import Derived.Test.YtoegjncccahmlaaQuillR
import Derived.Deep.RegionHeld3
namespace Go.Proofs.Ytoegjncccahmlaa
set_option linter.unusedVariables false
set_option linter.unusedSimpArgs false
open Go.RowKit

end Go.Proofs.Ytoegjncccahmlaa