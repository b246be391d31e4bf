/-
  Walks: an eye's Raw, Nat, Int, Small, Count.
-/
import Derived.Test.YtoegjncccahmlaaQuillF
import Derived.BigQuiet
namespace Go.Proofs.Ytoegjncccahmlaa
set_option linter.unusedVariables false
set_option linter.unusedSimpArgs false
open Go.RowKit

/-- What an eye tells, and what it is behind it, that is asked for a number of at most so much. -/
def gone (s : ByteArray) (bad : Bool) (most : Nat) : Bool := bad || decide ((takS s.data.toList most).2 = 0)
def nV (s : ByteArray) (bad : Bool) (most : Nat) : Int := if gone s bad most then 0 else ((takS s.data.toList most).1 : Nat)
def nS (s : ByteArray) (bad : Bool) (most : Nat) : ByteArray := if gone s bad most then ⟨#[]⟩ else s.extract (takS s.data.toList most).2 s.size
theorem nV_word (s : ByteArray) (bad : Bool) (most : Nat) : Word (nV s bad most) := by
  unfold nV Word; have := takS_lt s.data.toList most
  split <;> omega
theorem nV_most (s : ByteArray) (bad : Bool) (most : Nat) : nV s bad most ≤ most := by
  unfold nV; have := takS_most s.data.toList most
  split <;> omega
theorem nS_size (s : ByteArray) (bad : Bool) (most : Nat) : (nS s bad most).size ≤ s.size := by
  unfold nS; split
  · exact Nat.zero_le _
  · rw [Lib.size_eq, Lib.size_eq, ← Lib.toList_data, Lib.extract_toList, List.length_take, List.length_drop]; omega
theorem eye_nS {w : World} {B : Nat} {s : ByteArray} {bad : Bool} {most : Nat} (h : gone s bad most = true) (k : Eye w B ⟨#[]⟩ true) : Eye w B (nS s bad most) (gone s bad most) := by
  unfold nS; rw [h]; exact k

/-- Small's most. -/
def sm (n : Int) : Nat := n.toNat

/-- Count's answers. -/
def cgone (s : ByteArray) (bad : Bool) : Bool := gone s bad 9223372036854775807 || nV s bad 9223372036854775807 == 0
def cS (s : ByteArray) (bad : Bool) : ByteArray := if cgone s bad then ⟨#[]⟩ else nS s bad 9223372036854775807

/-- Raw's answers. -/
def rgone (s : ByteArray) (bad : Bool) (n : Int) : Bool := bad || decide (n < 0) || decide ((s.size : Int) < n)
def rV (s : ByteArray) (bad : Bool) (n : Int) : ByteArray := if rgone s bad n then ⟨#[]⟩ else s.extract 0 n.toNat
def rS (s : ByteArray) (bad : Bool) (n : Int) : ByteArray := if rgone s bad n then ⟨#[]⟩ else s.extract n.toNat s.size
theorem rS_size (s : ByteArray) (bad : Bool) (n : Int) : (rS s bad n).size ≤ s.size := by
  unfold rS; split
  · exact Nat.zero_le _
  · rw [Lib.size_eq, Lib.size_eq, ← Lib.toList_data, Lib.extract_toList, List.length_take, List.length_drop]; omega

end Go.Proofs.Ytoegjncccahmlaa