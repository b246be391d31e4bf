/-
  Walks: the laws' same of layer 13; the laws BinsFinds, BinsAdds, from what package bins is to do.
-/
import Derived.Test.YtcijflakldggaaaGreatK7
namespace Go.Proofs.YtcijflakldggaaaGreat
set_option linter.unusedVariables false
set_option linter.unusedSimpArgs false
open Go.RowKit

end Go.Proofs.YtcijflakldggaaaGreat