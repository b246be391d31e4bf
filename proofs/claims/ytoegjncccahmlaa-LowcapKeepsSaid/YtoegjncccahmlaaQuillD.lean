/-
  Walks: what the laws of quill ask first; small numbers.
-/
import Derived.Test.YtoegjncccahmlaaQuillB
import Derived.Test.YtoegjncccahmlaaQuillC
import Derived.Test.YtoegjncccahmlaaQuillR
import Derived.Outline
namespace Go.Proofs.Ytoegjncccahmlaa
set_option linter.unusedVariables false
set_option linter.unusedSimpArgs false
open Go.RowKit

theorem eye_sz {w w' : World} {B : Nat} (h : w.grownBy w' (some B)) : w.heap.size ≤ w'.heap.size := h.size
theorem grown_below' {n B : Nat} {a w w' : World} (h : Below n a w) (hg : w.grownBy w' (some B)) (hn : n ≤ B) (hs : n ≤ w.heap.size) : Below n a w' := h.trans (grown_below hg hn hs)

end Go.Proofs.Ytoegjncccahmlaa