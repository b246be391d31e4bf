/-
  Walks: bits.Div64.
-/
import Derived.Test.YtnngjcpdnfchbaaDoorWideA
import Derived.Test.YtnngjcpdnfchbaaDoorDivMath
import Derived.Deep.DeepCutAuto
import Derived.Deep.CutBlock
import Derived.WalkSmall
namespace Go.Proofs.YtnngjcpdnfchbaaDoor
set_option linter.unusedVariables false
open Go.RowKit Go.Shelf

end Go.Proofs.YtnngjcpdnfchbaaDoor