/-
  Walks: the reference's Bytes of rows of pairs.
-/
import Derived.Test.YtpimbpkpgdcedaaPairR
import Derived.Test.YtpimbpkpgdcedaaQuillR
import Derived.Deep.RegionHeld3
namespace Go.Proofs.Ytpimbpkpgdcedaa
set_option linter.unusedVariables false
set_option linter.unusedSimpArgs false
open Go.RowKit

end Go.Proofs.Ytpimbpkpgdcedaa