/-
  Arguments of stage 18 opened: rows of steps, rows of tuples.
-/
import Derived.Test.YtecnlpkfcggimaaTupA
import Derived.Test.YtecnlpkfcggimaaTupO
import Derived.Test.YtecnlpkfcggimaaOpen
namespace Go.Proofs.Ytecnlpkfcggimaa
set_option linter.unusedVariables false
set_option linter.unusedSimpArgs false
set_option maxRecDepth 100000
open Go.ChangeShapes Go.WideShapes Go.ChangeAt Go.RowKit Go.Joins

theorem deep18 (a : Addr) (i j : Nat) : (a.add i).add j = a.add (i + j) := Go.Deep.add_add a i j
def okSt (x : StepV) : Prop := I64 x.x ∧ Word x.lim
/-- A row of steps in memory. -/
structure Stps (w : World) (A : Option Addr) (L : List StepV) : Prop where
  ok : ∀ x, x ∈ L → okSt x
  at_ : ∀ (i : Nat) (x : StepV), L[i]? = some x → ∃ b off, A = some ⟨b, off, none⟩ ∧ b < w.heap.size ∧ w.cell? ⟨b, off + i * 3, none⟩ = some (.int .i64 x.x) ∧ w.cell? ⟨b, off + i * 3 + 1, none⟩ = some (.int .u64 x.lim) ∧ w.cell? ⟨b, off + i * 3 + 2, none⟩ = some (.bool x.sq)
theorem Stps.call {w w' : World} {A : Option Addr} {L : List StepV} (h : Stps w A L) (hb : Below w.heap.size w w') : Stps w' A L :=
  ⟨h.ok, fun i it hi => by
    obtain ⟨b, off, hA, hlt, c0, c1, c2⟩ := h.at_ i it hi
    exact ⟨b, off, hA, Nat.lt_of_lt_of_le hlt hb.size, cell_later hb c0, cell_later hb c1, cell_later hb c2⟩⟩
theorem Stps.grown {w w' : World} {A : Option Addr} {L : List StepV} (h : Stps w A L) {base : Nat} {r : Option Nat} (hb : ∀ b off s, A = some ⟨b, off, s⟩ → b < base) (hr : ∀ g, r = some g → base ≤ g) (hg : w.grownBy w' r) : Stps w' A L :=
  ⟨h.ok, fun i it hi => by
    obtain ⟨b, off, hA, hlt, c0, c1, c2⟩ := h.at_ i it hi
    have e := hg.block b hlt (fun e => by have h1 := hb b off none hA; have h2 := hr b e.symm; omega)
    exact ⟨b, off, hA, Nat.lt_of_lt_of_le hlt hg.size, (World.cell?_of_block (a := ⟨b, off + i * 3, none⟩) e).trans c0, (World.cell?_of_block (a := ⟨b, off + i * 3 + 1, none⟩) e).trans c1, (World.cell?_of_block (a := ⟨b, off + i * 3 + 2, none⟩) e).trans c2⟩⟩
theorem Stps.nil (w : World) : Stps w none [] := ⟨fun p h => (by cases h), fun i p h => by simp at h⟩

end Go.Proofs.Ytecnlpkfcggimaa