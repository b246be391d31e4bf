/-
  A block of two cells that may be written: what is carried from world to world.
-/
import Derived.Test.YtecnlpkfcggimaaMath
import Derived.WalkKit
import Derived.WalkSpells
import Derived.WalkLawsBesides
import Derived.RowKit3
namespace Go.Proofs.Ytecnlpkfcggimaa
set_option linter.unusedVariables false
open Go.RowKit

structure Two (w : World) (B : Nat) (x y : Value) : Prop where
  c0 : w.cell? ⟨B, 0, none⟩ = some x
  c1 : w.cell? ⟨B, 1, none⟩ = some y
  f0 : w.frozen? ⟨B, 0, none⟩ = false
  f1 : w.frozen? ⟨B, 1, none⟩ = false
theorem Two.lt {w : World} {B : Nat} {x y : Value} (h : Two w B x y) : B < w.heap.size := World.block_lt_of_cell? (a := ⟨B, 0, none⟩) w h.c0
theorem Two.call {w w' : World} {B : Nat} {x y : Value} (h : Two w B x y) (hb : Below w.heap.size w w') : Two w' B x y :=
  ⟨cell_later hb h.c0, cell_later hb h.c1, ((bcell hb).2 _ _ h.lt).trans h.f0, ((bcell hb).2 _ _ h.lt).trans h.f1⟩
theorem Two.alloc {w : World} {B : Nat} {x y : Value} (h : Two w B x y) (o : Obj) : Two (w.alloc o) B x y :=
  h.call ((Below.refl _ _).alloc (Nat.le_refl _) _)
theorem Two.drew {w : World} {B : Nat} {x y : Value} (h : Two w B x y) : Two w.drew B x y :=
  h.call (Below.refl _ _).drew
theorem Two.new (w : World) (x y : Value) (t : TypeId) : Two (w.alloc (.cells #[x, y] t)) w.heap.size x y := by
  refine ⟨?_, ?_, ?_, ?_⟩
  · go_simp
  · go_simp
  · go_simp
  · go_simp
theorem two_far {b o b' o' : Nat} (h : b ≠ b') : (⟨b, o, none⟩ : Addr) ≠ ⟨b', o', none⟩ := fun e => h (Addr.mk.inj e).1
theorem two_off {b o o' : Nat} (h : o ≠ o') : (⟨b, o, none⟩ : Addr) ≠ ⟨b, o', none⟩ := fun e => h (Addr.mk.inj e).2.1
/-- Both cells written. -/
theorem Two.put {w : World} {B : Nat} {x y : Value} (h : Two w B x y) (x' y' : Value) : Two ((w.setCell ⟨B, 0, none⟩ x').setCell ⟨B, 1, none⟩ y') B x' y' := by
  refine ⟨?_, ?_, ?_, ?_⟩
  · rw [World.cell?_setCell_other _ _ _ _ (two_off (by omega))]; exact World.cell?_setCell_same _ _ _ h.c0
  · have e : (w.setCell ⟨B, 0, none⟩ x').cell? ⟨B, 1, none⟩ = some y := by
      rw [World.cell?_setCell_other _ _ _ _ (two_off (by omega))]; exact h.c1
    exact World.cell?_setCell_same _ _ _ e
  · rw [World.frozen?_setCell, World.frozen?_setCell]; exact h.f0
  · rw [World.frozen?_setCell, World.frozen?_setCell]; exact h.f1
/-- Another block written. -/
theorem Two.past {w : World} {B B' : Nat} {x y : Value} (h : Two w B x y) (hB : B' ≠ B) (x' y' : Value) : Two ((w.setCell ⟨B', 0, none⟩ x').setCell ⟨B', 1, none⟩ y') B x y := by
  refine ⟨?_, ?_, ?_, ?_⟩
  · rw [World.cell?_setCell_other _ _ _ _ (two_far hB), World.cell?_setCell_other _ _ _ _ (two_far hB)]; exact h.c0
  · rw [World.cell?_setCell_other _ _ _ _ (two_far hB), World.cell?_setCell_other _ _ _ _ (two_far hB)]; exact h.c1
  · rw [World.frozen?_setCell, World.frozen?_setCell]; exact h.f0
  · rw [World.frozen?_setCell, World.frozen?_setCell]; exact h.f1
theorem below_put {w0 w : World} {n B : Nat} (h : Below n w0 w) (hB : n ≤ B) (x y : Value) : Below n w0 ((w.setCell ⟨B, 0, none⟩ x).setCell ⟨B, 1, none⟩ y) :=
  (h.setCell (p := ⟨B, 0, none⟩) hB _).setCell (p := ⟨B, 1, none⟩) hB _
theorem size_put (w : World) (B : Nat) (x y : Value) : ((w.setCell ⟨B, 0, none⟩ x).setCell ⟨B, 1, none⟩ y).heap.size = w.heap.size := by
  simp [World.setCell]
end Go.Proofs.Ytecnlpkfcggimaa
