/-
  Walks: the reference's Sub.
-/
import Derived.Test.YtnngjcpdnfchbaaDoorWideA
namespace Go.Proofs.YtnngjcpdnfchbaaDoor
set_option linter.unusedVariables false
open Go.RowKit Go.Shelf

end Go.Proofs.YtnngjcpdnfchbaaDoor