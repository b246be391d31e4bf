/-
  Rows of pairs in memory, as they are read: what hangs on no type of the program (taken out of PairS).
-/
import Derived.Test.YtecnlpkfcggimaaPairM
import Derived.Test.YtecnlpkfcggimaaTwo
import Derived.Test.YtecnlpkfcggimaaRows
import Derived.WalkKit
import Derived.WalkSpells
import Derived.WalkLawsBesides
import Derived.WalkMore
import Derived.LoopTactic
import Derived.OwnWalk
import Derived.OneCell
import Derived.Outline
import Derived.Lib.Strings
import Derived.Deep.Slices
import Derived.Deep.Fields
import Derived.SizedLaws
import Derived.Carry
import Derived.Laws.AppendOwnNone
import Derived.Test.YtecnlpkfcggimaaSignA
import Derived.StillTailTactics
import Derived.Deep.QuietTactic
import Derived.BigQuiet
namespace Go.Proofs.Ytecnlpkfcggimaa
set_option linter.unusedVariables false
set_option linter.unusedSimpArgs false
open Go.RowKit

/-- A row of pairs in memory. -/
structure Pairs (w : World) (A : Option Addr) (L : List PairV) : Prop where
  ok : ∀ p, p ∈ L → okP p
  at_ : ∀ (i : Nat) (p : PairV), L[i]? = some p → ∃ b off, A = some ⟨b, off, none⟩ ∧ b < w.heap.size ∧ w.cell? ⟨b, off + i * 2, none⟩ = some (.int .i64 p.1) ∧ w.cell? ⟨b, off + i * 2 + 1, none⟩ = some (.int .u64 p.2)
theorem Pairs.call {w w' : World} {A : Option Addr} {L : List PairV} (h : Pairs w A L) (hb : Below w.heap.size w w') : Pairs w' A L :=
  ⟨h.ok, fun i it hi => by
    obtain ⟨b, off, hA, hlt, c0, c1⟩ := h.at_ i it hi
    exact ⟨b, off, hA, Nat.lt_of_lt_of_le hlt hb.size, cell_later hb c0, cell_later hb c1⟩⟩
theorem Pairs.nil (w : World) : Pairs w none [] := ⟨fun p h => (by cases h), fun i p h => by simp at h⟩
/-- A row's cells. -/
def cellsP (p : PairV) : List Value := [.int .i64 p.1, .int .u64 p.2]
def cellsQ (L : List PairV) : List Value := L.flatMap cellsP
theorem cellsQ_cons (p : PairV) (r : List PairV) : cellsQ (p :: r) = cellsP p ++ cellsQ r := by unfold cellsQ; rw [List.flatMap_cons]
theorem cellsQ_app (a b : List PairV) : cellsQ (a ++ b) = cellsQ a ++ cellsQ b := by unfold cellsQ; rw [List.flatMap_append]
theorem cellsQ_one' (p : PairV) : cellsQ [p] = [.int .i64 p.1, .int .u64 p.2] := by unfold cellsQ cellsP; simp
theorem cellsQ_len (L : List PairV) : (cellsQ L).length = L.length * 2 := by
  induction L with
  | nil => rfl
  | cons p r ih => rw [cellsQ_cons, List.length_append, ih, List.length_cons]; simp [cellsP]; omega
theorem cellsQ_one (L : List PairV) : ∀ u ∈ cellsQ L, u.oneCell' = true := by
  intro u hu
  unfold cellsQ at hu
  obtain ⟨p, _, h⟩ := List.mem_flatMap.1 hu
  simp only [cellsP, List.mem_cons, List.not_mem_nil, or_false] at h
  rcases h with rfl | rfl <;> rfl
theorem cellsQ_at : ∀ (L : List PairV) (i : Nat) (p : PairV), L[i]? = some p → (cellsQ L)[i * 2]? = some (.int .i64 p.1) ∧ (cellsQ L)[i * 2 + 1]? = some (.int .u64 p.2) := by
  intro L
  induction L with
  | nil => intro i p h; simp at h
  | cons q r ih =>
    intro i p h
    rw [cellsQ_cons]
    cases i with
    | zero => simp at h; subst h; simp [cellsP]
    | succ i =>
      have hr := ih i p (by simpa using h)
      have e : ∀ j, (cellsP q ++ cellsQ r)[(i + 1) * 2 + j]? = (cellsQ r)[i * 2 + j]? := by
        intro j
        rw [List.getElem?_append_right (by simp [cellsP]; omega)]
        congr 1
        simp [cellsP]; omega
      exact ⟨(e 0).trans hr.1, (e 1).trans hr.2⟩
theorem add_flat (b off j : Nat) : (⟨b, off, none⟩ : Addr).add j = ⟨b, off + j, none⟩ := by unfold Addr.add; split <;> simp_all
theorem ok_pos {L : List PairV} (h : ∀ p, p ∈ L → okP p) : ∀ p, p ∈ L → 0 ≤ p.2 := fun p hp => (h p hp).2.1
end Go.Proofs.Ytecnlpkfcggimaa
