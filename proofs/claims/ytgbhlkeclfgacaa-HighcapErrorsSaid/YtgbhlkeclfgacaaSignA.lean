/-
  Walks: package sign's calls, and the reference's of layer 2.
-/
import Derived.Test.YtgbhlkeclfgacaaRows
import Derived.Test.YtgbhlkeclfgacaaSignM
import Derived.WalkKit
import Derived.WalkSpells
import Derived.WalkLawsBesides
namespace Go.Proofs.Ytgbhlkeclfgacaa
set_option linter.unusedVariables false
open Go.RowKit

theorem ret_pair {k : IntKind} {a b : Int} {c d : Bool} (h : a = b) (h' : c = d) : Ending.returned (.tuple #[.int k a, .bool c]) = .returned (.tuple #[.int k b, .bool d]) := by rw [h, h']

set_option maxHeartbeats 400000 in
theorem gap_any (a b : Int) (ha : I64 a) (hb : I64 b) (w : World) :
    Calls Try.prog 59 #[.int .i64 a, .int .i64 b] w fun e w' =>
      e = .returned (.int .u64 (gap a b)) ∧ w = w' := by
  obtain ⟨h1, h2⟩ := ha
  obtain ⟨h3, h4⟩ := hb
  go_enter Try.func59, Try.ntmps59
  go_wp2_with fail
  all_goals go_ret
  all_goals refine ⟨ret_int ?_, rfl⟩
  all_goals (simp only [IntKind.wrap_u64]; unfold gap; split <;> omega)

end Go.Proofs.Ytgbhlkeclfgacaa