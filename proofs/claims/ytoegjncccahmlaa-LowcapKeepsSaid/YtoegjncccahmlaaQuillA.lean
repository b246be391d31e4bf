/-
  Walks: an eye: On, Bad, Left, Over, Shut, and the number at the beginning.
-/
import Derived.Test.YtoegjncccahmlaaRows
import Derived.Test.YtoegjncccahmlaaQuillM
import Derived.Test.YtoegjncccahmlaaSignA
import Derived.Test.YtoegjncccahmlaaTwo
import Derived.WalkKit
import Derived.WalkSpells
import Derived.WalkLawsBesides
import Derived.WalkMore
import Derived.LoopTactic
import Derived.Lib.Strings
import Derived.Outline
namespace Go.Proofs.Ytoegjncccahmlaa
set_option linter.unusedVariables false
set_option linter.unusedSimpArgs false
open Go.RowKit

/-- An eye at block B: what is left, and whether it is bad (then nothing is left). -/
structure Eye (w : World) (B : Nat) (s : ByteArray) (bad : Bool) : Prop where
  two : Two w B (.string s) (.bool bad)
  non : bad = true → s = ⟨#[]⟩
theorem Eye.call {w w' : World} {B : Nat} {s : ByteArray} {bad : Bool} (h : Eye w B s bad) (hb : Below w.heap.size w w') : Eye w' B s bad := ⟨h.two.call hb, h.non⟩
theorem two_only {w w' : World} {B B' : Nat} {x y : Value} (h : Two w B x y) (hg : w.grownBy w' (some B')) (hne : B ≠ B') : Two w' B x y := by
  have hlt := h.lt
  have hb := hg.block B hlt (fun e => hne (Option.some.inj e))
  exact ⟨(World.cell?_of_block (a := ⟨B, 0, none⟩) hb).trans h.c0, (World.cell?_of_block (a := ⟨B, 1, none⟩) hb).trans h.c1, (World.frozen?_of_block (a := ⟨B, 0, none⟩) hb).trans h.f0, (World.frozen?_of_block (a := ⟨B, 1, none⟩) hb).trans h.f1⟩
theorem grown_refl (w : World) (r : Option Nat) : w.grownBy w r := ⟨rfl, rfl, rfl, Nat.le_refl _, fun _ _ _ => rfl⟩
theorem grown_trans {a b c : World} {r : Option Nat} (h : a.grownBy b r) (k : b.grownBy c r) : a.grownBy c r :=
  ⟨k.os.trans h.os, k.tape.trans h.tape, k.output.trans h.output, Nat.le_trans h.size k.size, fun i hi hr => (k.block i (Nat.lt_of_lt_of_le hi h.size) hr).trans (h.block i hi hr)⟩
theorem grown_setCell (w : World) (B o : Nat) (v : Value) : w.grownBy (w.setCell ⟨B, o, none⟩ v) (some B) :=
  ⟨rfl, rfl, rfl, by simp [World.setCell], fun k hk hr => Below.heap_setCell _ _ _ _ (fun e => hr (by rw [e]))⟩
theorem grown_below {a b : World} {B n : Nat} (h : a.grownBy b (some B)) (hn : n ≤ B) (hs : n ≤ a.heap.size) : Below n a b :=
  ⟨h.os, h.tape, h.output, h.size, fun k hk => h.block k (by omega) (fun e => by have := Option.some.inj e; omega)⟩
theorem Two.low {w : World} {B : Nat} {x y : Value} (h : Two w B x y) (v : Value) : Two (w.setCell ⟨B, 0, none⟩ v) B v y := by
  refine ⟨?_, ?_, ?_, ?_⟩
  · exact World.cell?_setCell_same _ _ _ h.c0
  · rw [World.cell?_setCell_other _ _ _ _ (two_off (by omega))]; exact h.c1
  · rw [World.frozen?_setCell]; exact h.f0
  · rw [World.frozen?_setCell]; exact h.f1

end Go.Proofs.Ytoegjncccahmlaa