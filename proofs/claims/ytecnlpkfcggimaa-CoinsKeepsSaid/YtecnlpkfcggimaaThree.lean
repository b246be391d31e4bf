/-
  A block of three cells that may be written: what is carried from world to world.
-/
import Derived.Test.YtecnlpkfcggimaaTwo
namespace Go.Proofs.Ytecnlpkfcggimaa
set_option linter.unusedVariables false
open Go.RowKit

structure Three (w : World) (B : Nat) (x y z : Value) : Prop where
  c0 : w.cell? ⟨B, 0, none⟩ = some x
  c1 : w.cell? ⟨B, 1, none⟩ = some y
  c2 : w.cell? ⟨B, 2, none⟩ = some z
  f0 : w.frozen? ⟨B, 0, none⟩ = false
  f1 : w.frozen? ⟨B, 1, none⟩ = false
  f2 : w.frozen? ⟨B, 2, none⟩ = false
theorem Three.lt {w : World} {B : Nat} {x y z : Value} (h : Three w B x y z) : B < w.heap.size := World.block_lt_of_cell? (a := ⟨B, 0, none⟩) w h.c0
theorem Three.call {w w' : World} {B : Nat} {x y z : Value} (h : Three w B x y z) (hb : Below w.heap.size w w') : Three w' B x y z :=
  ⟨cell_later hb h.c0, cell_later hb h.c1, cell_later hb h.c2, ((bcell hb).2 _ _ h.lt).trans h.f0, ((bcell hb).2 _ _ h.lt).trans h.f1, ((bcell hb).2 _ _ h.lt).trans h.f2⟩
theorem Three.alloc {w : World} {B : Nat} {x y z : Value} (h : Three w B x y z) (o : Obj) : Three (w.alloc o) B x y z :=
  h.call ((Below.refl _ _).alloc (Nat.le_refl _) _)
theorem Three.drew {w : World} {B : Nat} {x y z : Value} (h : Three w B x y z) : Three w.drew B x y z :=
  h.call (Below.refl _ _).drew
theorem Three.new (w : World) (x y z : Value) (t : TypeId) : Three (w.alloc (.cells #[x, y, z] t)) w.heap.size x y z := by
  refine ⟨?_, ?_, ?_, ?_, ?_, ?_⟩
  · go_simp
  · go_simp
  · go_simp
  · go_simp
  · go_simp
  · go_simp
/-- One cell written. -/
theorem Three.put1 {w : World} {B : Nat} {x y z : Value} (h : Three w B x y z) (y' : Value) : Three (w.setCell ⟨B, 1, none⟩ y') B x y' z := by
  refine ⟨?_, World.cell?_setCell_same _ _ _ h.c1, ?_, ?_, ?_, ?_⟩
  · rw [World.cell?_setCell_other _ _ _ _ (two_off (by omega))]; exact h.c0
  · rw [World.cell?_setCell_other _ _ _ _ (two_off (by omega))]; exact h.c2
  · rw [World.frozen?_setCell]; exact h.f0
  · rw [World.frozen?_setCell]; exact h.f1
  · rw [World.frozen?_setCell]; exact h.f2
theorem Three.put2 {w : World} {B : Nat} {x y z : Value} (h : Three w B x y z) (z' : Value) : Three (w.setCell ⟨B, 2, none⟩ z') B x y z' := by
  refine ⟨?_, ?_, World.cell?_setCell_same _ _ _ h.c2, ?_, ?_, ?_⟩
  · rw [World.cell?_setCell_other _ _ _ _ (two_off (by omega))]; exact h.c0
  · rw [World.cell?_setCell_other _ _ _ _ (two_off (by omega))]; exact h.c1
  · rw [World.frozen?_setCell]; exact h.f0
  · rw [World.frozen?_setCell]; exact h.f1
  · rw [World.frozen?_setCell]; exact h.f2
end Go.Proofs.Ytecnlpkfcggimaa
