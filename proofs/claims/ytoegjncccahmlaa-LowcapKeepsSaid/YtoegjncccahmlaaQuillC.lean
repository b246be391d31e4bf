/-
  A quill in memory: what it holds, what writing leaves alone; walks: a quill's Nat, Int, Raw, Text.
-/
import Derived.Test.YtoegjncccahmlaaRows
import Derived.Test.YtoegjncccahmlaaQuillM
import Derived.Test.YtoegjncccahmlaaSignA
import Derived.Test.YtoegjncccahmlaaTwo
import Derived.WalkKit
import Derived.WalkSpells
import Derived.WalkLawsBesides
import Derived.WalkMore
import Derived.LoopTactic
import Derived.OwnWalk
import Derived.OneCell
import Derived.Lib.Strings
import Derived.Lib.AppendStr
import Derived.Laws.BytesArg
import Derived.Outline
namespace Go.Proofs.Ytoegjncccahmlaa
set_option linter.unusedVariables false
set_option linter.unusedSimpArgs false
open Go.RowKit

/-- Numbers' bytes, one behind the other. -/
def natsB (xs : List Int) : List UInt8 := xs.flatMap fun x => natB x.toNat
theorem natsB_snoc (xs : List Int) (k : Nat) (x : Int) (h : xs[k]? = some x) : natsB (xs.take (k + 1)) = natsB (xs.take k) ++ natB x.toNat := by
  have hk : k < xs.length := by
    rcases Nat.lt_or_ge k xs.length with h' | h'
    · exact h'
    · rw [List.getElem?_eq_none h'] at h; cases h
  rw [List.take_succ_eq_append_getElem hk]
  rw [List.getElem?_eq_getElem hk] at h
  rw [Option.some.inj h]
  unfold natsB
  rw [List.flatMap_append]; simp
theorem natsB_len (xs : List Int) (h : ∀ x ∈ xs, Word x) : (natsB xs).length ≤ 10 * xs.length := by
  induction xs with
  | nil => simp [natsB]
  | cons x r ih =>
    have h1 := ih fun y hy => h y (List.mem_cons_of_mem _ hy)
    have h2 := natB_len10 (n := x.toNat) (by have := h x (List.mem_cons_self); unfold Word at this; omega)
    unfold natsB at *
    rw [List.flatMap_cons, List.length_append, List.length_cons]; omega

theorem natsB_one (x : Int) : natsB [x] = natB x.toNat := by unfold natsB; simp

end Go.Proofs.Ytoegjncccahmlaa