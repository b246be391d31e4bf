/-
  Walks: the reference's Bytes of rows of pairs.
-/
import Derived.Test.YtggdmlldolaojaaPairR
import Derived.Test.YtggdmlldolaojaaQuillR
import Derived.Deep.RegionHeld3
namespace Go.Proofs.Ytggdmlldolaojaa
set_option linter.unusedVariables false
set_option linter.unusedSimpArgs false
open Go.RowKit

end Go.Proofs.Ytggdmlldolaojaa