/-
  wide.Compare and the reference's Less, of numbers below 2^128; what a held region keeps.
-/
import Derived.Test.YtnngjcpdnfchbaaDoorWideA
namespace Go.Proofs.YtnngjcpdnfchbaaDoor
set_option linter.unusedVariables false
open Go.RowKit Go.Shelf

theorem less_two (x y : Int) (x0 : 0 ≤ x) (x1 : x < 340282366920938463463374607431768211456) (y0 : 0 ≤ y) (y1 : y < 340282366920938463463374607431768211456) (w : World) :
    Calls Tryd.prog 16 #[.agg #[.int .u64 (hiW x), .int .u64 (loW x)], .agg #[.int .u64 (hiW y), .int .u64 (loW y)]] w fun e w' =>
      e = .returned (.bool (decide (x < y))) ∧ Below w.heap.size w w' := by
  have h := less_any (hiW x) (loW x) (hiW y) (loW y) (word_hi x) (word_lo x) (word_hi y) (word_lo y) w
  rw [wval_split x0 x1, wval_split y0 y1] at h
  have e : belowB (x - y) = decide (x < y) := by unfold belowB; apply decide_eq_decide.2; omega
  rw [e] at h
  exact h

theorem cmp_neg (x y : Int) : decide (cmpW x y < 0) = decide (x < y) := by
  unfold cmpW; apply decide_eq_decide.2; split <;> (try split) <;> omega

/-- Two cells of one block, and the world below, behind a callee that makes memory. -/
theorem keep2 {B : Nat} {W w w' : World} {x y : Value} (h : w.cell? ⟨B, 0, none⟩ = some x ∧ w.cell? ⟨B, 1, none⟩ = some y ∧ Below W.heap.size W w) (hb : Below w.heap.size w w') :
    w'.cell? ⟨B, 0, none⟩ = some x ∧ w'.cell? ⟨B, 1, none⟩ = some y ∧ Below W.heap.size W w' :=
  ⟨cell_later hb h.1, cell_later hb h.2.1, h.2.2.trans (hb.mono h.2.2.size)⟩
theorem keep2_bel {B : Nat} {W w : World} {x y : Value} (h : w.cell? ⟨B, 0, none⟩ = some x ∧ w.cell? ⟨B, 1, none⟩ = some y ∧ Below W.heap.size W w) : Below W.heap.size W w := h.2.2
end Go.Proofs.YtnngjcpdnfchbaaDoor
