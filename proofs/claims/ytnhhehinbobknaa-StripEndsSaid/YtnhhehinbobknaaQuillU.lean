/-
  Walks: what the laws of quill ask first; small numbers.
  The law QuillSmall, walked.
  The law QuillNumbers, walked.
-/
import Derived.Test.YtnhhehinbobknaaQuillC
import Derived.Test.YtnhhehinbobknaaQuillR
import Derived.Outline
namespace Go.Proofs.Ytnhhehinbobknaa
set_option linter.unusedVariables false
set_option linter.unusedSimpArgs false
open Go.RowKit

theorem eye_sz {w w' : World} {B : Nat} (h : w.grownBy w' (some B)) : w.heap.size ≤ w'.heap.size := h.size
theorem grown_below' {n B : Nat} {a w w' : World} (h : Below n a w) (hg : w.grownBy w' (some B)) (hn : n ≤ B) (hs : n ≤ w.heap.size) : Below n a w' := h.trans (grown_below hg hn hs)

end Go.Proofs.Ytnhhehinbobknaa

namespace Go.Proofs.Ytnhhehinbobknaa
set_option linter.unusedVariables false
set_option linter.unusedSimpArgs false
open Go.RowKit

theorem mk_toList (l : List UInt8) : (⟨l.toArray⟩ : ByteArray).data.toList = l := rfl
theorem mk_size (l : List UInt8) : (⟨l.toArray⟩ : ByteArray).size = l.length := by rw [Lib.size_eq]
theorem ext_size (s : ByteArray) (a : Nat) : (s.extract a s.size).size = s.size - a := by
  rw [Lib.size_eq, ← Lib.toList_data, Lib.extract_toList, Lib.size_eq, List.length_take, List.length_drop]; omega
theorem below_eye {n : Nat} {a w w' : World} {B : Nat} (h : Below n a w) (hg : w.grownBy w' (some B)) (hB : n ≤ B) (hs : n ≤ w.heap.size) : Below n a w' := h.trans (grown_below hg hB hs)

end Go.Proofs.Ytnhhehinbobknaa

namespace Go.Proofs.Ytnhhehinbobknaa
set_option linter.unusedVariables false
set_option linter.unusedSimpArgs false
open Go.RowKit

theorem ext_list (s : ByteArray) (a : Nat) : (s.extract a s.size).data.toList = s.data.toList.drop a := by
  rw [← Lib.toList_data, Lib.extract_toList, Lib.size_eq, List.take_of_length_le (by rw [List.length_drop]; omega)]
/-- An eye on a number's bytes, and more. -/
theorem eye_got {t : ByteArray} {n m : Nat} {r : List UInt8} (hn : n < 18446744073709551616) (hm : n ≤ m) (ht : t.data.toList = natB n ++ r) :
    gone t false m = false ∧ nV t false m = n ∧ (nS t false m).data.toList = r := by
  have K := takS_nat hn hm r
  rw [← ht] at K
  have hp := natB_pos n
  have G : gone t false m = false := by unfold gone; rw [K]; show (false || decide ((natB n).length = 0)) = false; rw [decide_eq_false (by omega)]; rfl
  refine ⟨G, by unfold nV; rw [G, K]; rfl, ?_⟩
  unfold nS; rw [G, K]
  show (t.extract (natB n).length t.size).data.toList = r
  rw [ext_list, ht, List.drop_left]
/-- What the reference tells, and what an eye tells. -/
theorem eye_tak (t : ByteArray) (m a k : Nat) (h : takS t.data.toList m = (a, k)) : nV t false m = a ∧ gone t false m = ((k : Int) == 0) := by
  have G : gone t false m = decide (k = 0) := by unfold gone; rw [h]; rfl
  refine ⟨?_, ?_⟩
  · unfold nV; rw [G, h]
    by_cases hk : k = 0
    · have := takS_zero (l := t.data.toList) (m := m) (by rw [h]; exact hk)
      rw [h] at this
      have ha : a = 0 := this
      simp [hk, ha]
    · simp [hk]
  · rw [G]; by_cases hk : k = 0 <;> simp [hk]

end Go.Proofs.Ytnhhehinbobknaa