/-
  The law QuillSmall, walked.
-/
import Derived.Test.YtoegjncccahmlaaQuillD
namespace Go.Proofs.Ytoegjncccahmlaa
set_option linter.unusedVariables false
set_option linter.unusedSimpArgs false
open Go.RowKit

theorem mk_toList (l : List UInt8) : (⟨l.toArray⟩ : ByteArray).data.toList = l := rfl
theorem mk_size (l : List UInt8) : (⟨l.toArray⟩ : ByteArray).size = l.length := by rw [Lib.size_eq]
theorem ext_size (s : ByteArray) (a : Nat) : (s.extract a s.size).size = s.size - a := by
  rw [Lib.size_eq, ← Lib.toList_data, Lib.extract_toList, Lib.size_eq, List.length_take, List.length_drop]; omega
theorem below_eye {n : Nat} {a w w' : World} {B : Nat} (h : Below n a w) (hg : w.grownBy w' (some B)) (hB : n ≤ B) (hs : n ≤ w.heap.size) : Below n a w' := h.trans (grown_below hg hB hs)

end Go.Proofs.Ytoegjncccahmlaa