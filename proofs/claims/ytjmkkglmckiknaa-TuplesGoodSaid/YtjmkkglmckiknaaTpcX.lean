/-
  The landed package tuples does what it is to do.
-/
import Derived.Test.YtjmkkglmckiknaaTpcN
import Derived.Test.YtjmkkglmckiknaaTpcO
namespace Go.Proofs.Ytjmkkglmckiknaa
set_option linter.unusedVariables false
set_option linter.unusedSimpArgs false
open Go.RowKit

theorem tup_does : TupDoes where
  good := tgood_any
  total := ttotal_any
  limit := tlimit_any
  insert := tinsert_any
  squeeze := tsqueeze_any
  merge := tmerge_any
  find := tfind_any
  rank := trank_any
end Go.Proofs.Ytjmkkglmckiknaa
