/-
  Walks: wide.Less, the reference's Fewer.
-/
import Derived.Test.YtnngjcpdnfchbaaDoorROver
import Derived.Test.YtnngjcpdnfchbaaDoorWideE
namespace Go.Proofs.YtnngjcpdnfchbaaDoor
set_option linter.unusedVariables false
open Go.RowKit Go.Shelf

/-- Whether a fraction is less than another one. -/
def fewB (an ad bn bd : Int) : Bool := if ad = 0 then false else if bd = 0 then true else decide (an * bd < bn * ad)
theorem few_a {an bn bd : Int} : fewB an 0 bn bd = false := by unfold fewB; rw [if_pos rfl]
theorem few_b {an ad bn : Int} (h : ¬ ad = 0) : fewB an ad bn 0 = true := by unfold fewB; rw [if_neg h, if_pos rfl]
theorem few_c {an ad bn bd : Int} (h : ¬ ad = 0) (h' : ¬ bd = 0) : fewB an ad bn bd = decide (an * bd < bn * ad) := by unfold fewB; rw [if_neg h, if_neg h']

theorem held_keep {B : Nat} {W w w' : World} {an ad bn bd : Int} (h : w.cell? ⟨B, 0, none⟩ = some (.int .u64 an) ∧ w.cell? ⟨B, 1, none⟩ = some (.int .u64 ad) ∧ w.cell? ⟨B + 1, 0, none⟩ = some (.int .u64 bn) ∧ w.cell? ⟨B + 1, 1, none⟩ = some (.int .u64 bd) ∧ Below W.heap.size W w) (hb : Below w.heap.size w w') :
    w'.cell? ⟨B, 0, none⟩ = some (.int .u64 an) ∧ w'.cell? ⟨B, 1, none⟩ = some (.int .u64 ad) ∧ w'.cell? ⟨B + 1, 0, none⟩ = some (.int .u64 bn) ∧ w'.cell? ⟨B + 1, 1, none⟩ = some (.int .u64 bd) ∧ Below W.heap.size W w' :=
  ⟨cell_later hb h.1, cell_later hb h.2.1, cell_later hb h.2.2.1, cell_later hb h.2.2.2.1, h.2.2.2.2.trans (hb.mono h.2.2.2.2.size)⟩

theorem held_bel {B : Nat} {W w : World} {an ad bn bd : Int} (h : w.cell? ⟨B, 0, none⟩ = some (.int .u64 an) ∧ w.cell? ⟨B, 1, none⟩ = some (.int .u64 ad) ∧ w.cell? ⟨B + 1, 0, none⟩ = some (.int .u64 bn) ∧ w.cell? ⟨B + 1, 1, none⟩ = some (.int .u64 bd) ∧ Below W.heap.size W w) : Below W.heap.size W w := h.2.2.2.2

/-! What the law says of the order. -/
theorem few_self (an ad : Int) : fewB an ad an ad = false := by
  unfold fewB
  split
  · rfl
  · simp
theorem few_anti {an ad bn bd : Int} (wad : Word ad) (wbd : Word bd) (h : fewB an ad bn bd = true) : fewB bn bd an ad = false := by
  unfold fewB at *
  by_cases h1 : ad = 0
  · rw [if_pos h1] at h; cases h
  · rw [if_neg h1] at h
    by_cases h2 : bd = 0
    · rw [if_pos h2]
    · rw [if_neg h2] at h ⊢
      rw [if_neg h1]
      rw [decide_eq_true_iff] at h
      apply decide_eq_false
      omega
theorem few_trans {an ad bn bd cn cd : Int} (wa : Word an) (wad : Word ad) (wb : Word bn) (wbd : Word bd) (wc : Word cn) (wcd : Word cd) (h : fewB an ad bn bd = true) (k : fewB bn bd cn cd = true) : fewB an ad cn cd = true := by
  unfold fewB at *
  by_cases h1 : ad = 0
  · rw [if_pos h1] at h; cases h
  · rw [if_neg h1] at h ⊢
    by_cases h3 : cd = 0
    · rw [if_pos h3]
    · rw [if_neg h3] at k ⊢
      by_cases h2 : bd = 0
      · rw [if_pos h2] at k; cases k
      · rw [if_neg h2] at h k
        rw [decide_eq_true_iff] at *
        have pa : 0 < ad := by have := wad.1; omega
        have pb : 0 < bd := by have := wbd.1; omega
        have pc : 0 < cd := by have := wcd.1; omega
        have e1 := Int.mul_lt_mul_of_pos_right h pc
        have e2 := Int.mul_lt_mul_of_pos_right k pa
        have e3 : an * cd * bd < cn * ad * bd := by
          have x1 : an * bd * cd = an * cd * bd := by rw [Int.mul_assoc, Int.mul_comm bd, ← Int.mul_assoc]
          have x2 : bn * ad * cd = bn * cd * ad := by rw [Int.mul_assoc, Int.mul_comm ad, ← Int.mul_assoc]
          have x3 : cn * bd * ad = cn * ad * bd := by rw [Int.mul_assoc, Int.mul_comm bd, ← Int.mul_assoc]
          rw [x1, x2] at e1; rw [x3] at e2; omega
        exact Int.lt_of_mul_lt_mul_right e3 (by omega)
end Go.Proofs.YtnngjcpdnfchbaaDoor
