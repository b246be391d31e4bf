/-
  Walks: what the laws of quill ask first; small numbers.
-/
import Derived.Test.YtllnbbfeplgjjaaQuillB
import Derived.Test.YtllnbbfeplgjjaaQuillC
import Derived.Test.YtllnbbfeplgjjaaQuillR
import Derived.Outline
namespace Go.Proofs.Ytllnbbfeplgjjaa
set_option linter.unusedVariables false
set_option linter.unusedSimpArgs false
open Go.RowKit

theorem eye_sz {w w' : World} {B : Nat} (h : w.grownBy w' (some B)) : w.heap.size ≤ w'.heap.size := h.size
theorem grown_below' {n B : Nat} {a w w' : World} (h : Below n a w) (hg : w.grownBy w' (some B)) (hn : n ≤ B) (hs : n ≤ w.heap.size) : Below n a w' := h.trans (grown_below hg hn hs)

theorem quil_nat1 (w : World) (B L cap : Nat) (l : List UInt8) (x : Int) (hx : Word x) (hl : l.length ≤ 100000) (h : Quil w B l)
    (hL : w.heap[L]? = some (.cells #[.int .u64 x] 24 (0, 0))) :
    Calls Try.prog 35 #[.pointer (some ⟨B, 0, none⟩), .slice (some ⟨L, 0, none⟩) 1 cap] w fun e w' =>
      e = .returned (.tuple #[]) ∧ Quil w' B (l ++ natB x.toNat) ∧ Wrote B w w' := by
  have C := quil_nat w B L cap l [x] (fun y hy => by simp at hy; subst hy; exact hx) (by simp) hl h hL
  rw [natsB_one] at C
  exact C
theorem quil_nat2 (w : World) (B L cap : Nat) (l : List UInt8) (x y : Int) (hx : Word x) (hy : Word y) (hl : l.length ≤ 100000) (h : Quil w B l)
    (hL : w.heap[L]? = some (.cells #[.int .u64 x, .int .u64 y] 24 (0, 0))) :
    Calls Try.prog 35 #[.pointer (some ⟨B, 0, none⟩), .slice (some ⟨L, 0, none⟩) 2 cap] w fun e w' =>
      e = .returned (.tuple #[]) ∧ Quil w' B (l ++ (natB x.toNat ++ natB y.toNat)) ∧ Wrote B w w' := by
  have C := quil_nat w B L cap l [x, y] (fun z hz => by simp at hz; rcases hz with rfl | rfl <;> assumption) (by simp) hl h hL
  have e : natsB [x, y] = natB x.toNat ++ natB y.toNat := by unfold natsB; simp
  rw [e] at C
  exact C

end Go.Proofs.Ytllnbbfeplgjjaa