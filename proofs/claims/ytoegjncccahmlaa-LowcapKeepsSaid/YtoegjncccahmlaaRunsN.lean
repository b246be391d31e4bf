/-
  Walk: the landed code of runs: the pair behind a row.
-/
import Derived.Test.YtoegjncccahmlaaPairC
import Derived.Test.YtoegjncccahmlaaQuillB
import Derived.Deep.RegionWith
namespace Go.Proofs.Ytoegjncccahmlaa
set_option linter.unusedVariables false
set_option linter.unusedSimpArgs false
open Go.RowKit

theorem grown_alloc {a b : World} {r : Option Nat} (h : a.grownBy b r) (o : Obj) : a.grownBy (b.alloc o) r :=
  ⟨h.os, h.tape, h.output, Nat.le_trans h.size (by simp), fun i hi hr => (heap_alloc_old _ _ (Nat.lt_of_lt_of_le hi h.size)).trans (h.block i hi hr)⟩
theorem grown_own {a b c : World} {r r' : Option Nat} (h : a.grownBy b r) (k : b.grownBy c r') (hr : ∀ g, r' = some g → a.heap.size ≤ g) : a.grownBy c r :=
  ⟨k.os.trans h.os, k.tape.trans h.tape, k.output.trans h.output, Nat.le_trans h.size k.size, fun i hi hne => (k.block i (Nat.lt_of_lt_of_le hi h.size) (fun e => by have := hr i e.symm; omega)).trans (h.block i hi hne)⟩
theorem grown_call {a b c : World} {r : Option Nat} (h : a.grownBy b r) (k : Below b.heap.size b c) : a.grownBy c r :=
  ⟨k.os.trans h.os, k.tape.trans h.tape, k.output.trans h.output, Nat.le_trans h.size k.size, fun i hi hne => (k.block i (Nat.lt_of_lt_of_le hi h.size)).trans (h.block i hi hne)⟩
theorem grown_cell {a b : World} {B g o : Nat} {v : Value} (h : a.grownBy b (some B)) (hne : g ≠ B) (hc : a.cell? ⟨g, o, none⟩ = some v) : b.cell? ⟨g, o, none⟩ = some v := by
  have hlt := World.block_lt_of_cell? (a := ⟨g, o, none⟩) a hc
  exact (World.cell?_of_block (a := ⟨g, o, none⟩) (h.block g hlt (fun e => hne (Option.some.inj e)))).trans hc
theorem Eye.grown {w w' : World} {B : Nat} {s : ByteArray} {bad : Bool} {r : Option Nat} (h : Eye w B s bad) (hg : w.grownBy w' r) (hne : r ≠ some B) : Eye w' B s bad := by
  have hlt := h.two.lt
  have hb := hg.block B hlt (fun e => hne e.symm)
  exact ⟨⟨(World.cell?_of_block (a := ⟨B, 0, none⟩) hb).trans h.two.c0, (World.cell?_of_block (a := ⟨B, 1, none⟩) hb).trans h.two.c1, (World.frozen?_of_block (a := ⟨B, 0, none⟩) hb).trans h.two.f0, (World.frozen?_of_block (a := ⟨B, 1, none⟩) hb).trans h.two.f1⟩, h.non⟩
theorem Eye.lt {w : World} {B : Nat} {s : ByteArray} {bad : Bool} (h : Eye w B s bad) : B < w.heap.size := h.two.lt
theorem Eye.alloc {w : World} {B : Nat} {s : ByteArray} {bad : Bool} (h : Eye w B s bad) (o : Obj) : Eye (w.alloc o) B s bad := h.call ((Below.refl _ _).alloc (Nat.le_refl _) _)
theorem nS_le (s : ByteArray) (bad : Bool) (m : Nat) (n : Nat) (h : s.size ≤ n) : (nS s bad m).size ≤ n := Nat.le_trans (nS_size s bad m) h

/-- A result that lies in a cell of two. -/
theorem ret_agg {a b c d : Int} (h : a = c) (h' : b = d) : Ending.returned (.agg #[.int .i64 a, .int .u64 b]) = .returned (.agg #[.int .i64 c, .int .u64 d]) := by rw [h, h']

/-- The index so far behind one. -/
def nextI (q v : Int) : Int := (q + 1 + v + 9223372036854775808) % 18446744073709551616 - 9223372036854775808

end Go.Proofs.Ytoegjncccahmlaa