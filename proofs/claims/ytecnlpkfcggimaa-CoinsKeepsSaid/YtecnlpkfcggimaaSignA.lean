/-
  Walks: package sign's calls, and the reference's of layer 2.
-/
import Derived.Test.YtecnlpkfcggimaaRows
import Derived.Test.YtecnlpkfcggimaaSignM
import Derived.WalkKit
import Derived.WalkSpells
import Derived.WalkLawsBesides
namespace Go.Proofs.Ytecnlpkfcggimaa
set_option linter.unusedVariables false
open Go.RowKit

theorem ret_pair {k : IntKind} {a b : Int} {c d : Bool} (h : a = b) (h' : c = d) : Ending.returned (.tuple #[.int k a, .bool c]) = .returned (.tuple #[.int k b, .bool d]) := by rw [h, h']

end Go.Proofs.Ytecnlpkfcggimaa