/-
  What the landed code of runs does: all its calls' contracts.
-/
import Derived.Test.YtllnbbfeplgjjaaRunsP
import Derived.Test.YtllnbbfeplgjjaaRunsQ
import Derived.Test.YtllnbbfeplgjjaaRunsE
import Derived.Test.YtllnbbfeplgjjaaRunsI
import Derived.Test.YtllnbbfeplgjjaaRunsT
namespace Go.Proofs.Ytllnbbfeplgjjaa
end Go.Proofs.Ytllnbbfeplgjjaa
