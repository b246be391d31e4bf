/-
  Plain mathematics of the reference's way to read a number: no program in sight.
  Walks: the reference's bytes of numbers and of values.
-/
import Derived.Test.YtnhhehinbobknaaQuillM
import Derived.Test.YtnhhehinbobknaaRows
import Derived.Test.YtnhhehinbobknaaSignA
import Derived.Test.YtnhhehinbobknaaTwo
import Derived.WalkKit
import Derived.WalkSpells
import Derived.WalkLawsBesides
import Derived.WalkMore
import Derived.LoopTactic
import Derived.OneCell
import Derived.Lib.Strings
import Derived.Laws.BytesArg
import Derived.Laws.Concat
import Derived.Outline
import Derived.Deep.RegionHeld3
namespace Go.Proofs.Ytnhhehinbobknaa
set_option linter.unusedVariables false
set_option linter.unusedSimpArgs false

/-- The reference's way: from the last byte to the first one. -/
def hor (l : List UInt8) (j t : Nat) : Nat := valL ((l.take (j + 1)).drop t) % 18446744073709551616
theorem hor_start {l : List UInt8} {j : Nat} (h : j < l.length) : hor l j (j + 1) = 0 := by
  unfold hor; rw [List.drop_of_length_le (by rw [List.length_take]; omega)]; rfl
theorem hor_step {l : List UInt8} {j t : Nat} {b : UInt8} (ht : t ≤ j) (h : l[t]? = some b) : hor l j t = (hor l j (t + 1) * 128 + b.toNat % 128) % 18446744073709551616 := by
  have ht' := lt_of_some h
  have e : (l.take (j + 1)).drop t = b :: (l.take (j + 1)).drop (t + 1) := by
    rw [List.drop_eq_getElem_cons (by rw [List.length_take]; omega)]
    congr 1
    rw [List.getElem_take]
    rw [List.getElem?_eq_getElem ht'] at h
    exact Option.some.inj h
  unfold hor
  rw [e]
  show (b.toNat % 128 + 128 * valL ((l.take (j + 1)).drop (t + 1))) % 18446744073709551616 = _
  omega
theorem hor_end (l : List UInt8) (j : Nat) : hor l j 0 = valL (l.take (j + 1)) % 18446744073709551616 := by unfold hor; rw [List.drop_zero]
theorem hor_lt (l : List UInt8) (j t : Nat) : hor l j t < 18446744073709551616 := Nat.mod_lt _ (by decide)
/-- What the reference tells at the first byte that ends. -/
theorem tak_at {l : List UInt8} {j : Nat} {b : UInt8} {most : Nat} (hj : j < 10) (h1 : (l.take j).all hiB = true) (h2 : l[j]? = some b) (h3 : hiB b = false) :
    takS l most = if natB (hor l j 0) = l.take (j + 1) ∧ hor l j 0 ≤ most then (hor l j 0, j + 1) else (0, 0) := by
  have e := take_some h2
  have hlen : (l.take j).length = j := by rw [List.length_take]; have := lt_of_some h2; omega
  have hi := natB_iff h1 h3
  have hF := firstS_at h1 h2 h3
  rw [← e, hlen] at hi
  rw [hor_end]
  by_cases hc : natB (valL (l.take (j + 1)) % 18446744073709551616) = l.take (j + 1)
  · have hv := hi.1 hc
    have hm : valL (l.take (j + 1)) % 18446744073709551616 = valL (l.take (j + 1)) := Nat.mod_eq_of_lt hv.1
    rw [if_pos ⟨hj, hv.1, hv.2⟩] at hF
    rw [hm] at hc ⊢
    unfold takS
    rw [hF]
    by_cases hle : valL (l.take (j + 1)) ≤ most
    · rw [if_neg (by simp only []; omega), if_pos ⟨hc, hle⟩]
    · rw [if_pos (Or.inr (by simp only []; omega)), if_neg (fun h => hle h.2)]
  · have hn : ¬ (j < 10 ∧ valL (l.take (j + 1)) < 18446744073709551616 ∧ (j = 0 ∨ b.toNat ≠ 0)) := fun h => hc (hi.2 h.2)
    rw [if_neg hn] at hF
    unfold takS
    rw [hF, if_pos (Or.inl rfl), if_neg (fun h => hc h.1)]
theorem tak_none {l : List UInt8} {most : Nat} (h : firstS l = (0, 0)) : takS l most = (0, 0) := by
  unfold takS; rw [h, if_pos (Or.inl rfl)]
end Go.Proofs.Ytnhhehinbobknaa

namespace Go.Proofs.Ytnhhehinbobknaa
set_option linter.unusedVariables false
set_option linter.unusedSimpArgs false
open Go.RowKit

theorem byte_atA' (s : ByteArray) (k : Nat) (h : k < s.size) : s.data.toList[k]? = some (s[k]'h) := by
  obtain ⟨⟨l⟩⟩ := s
  exact List.getElem?_eq_getElem h

end Go.Proofs.Ytnhhehinbobknaa