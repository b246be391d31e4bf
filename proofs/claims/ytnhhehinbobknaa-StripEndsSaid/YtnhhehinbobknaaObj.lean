/-
  Things that keep blocks of their own: what a call on one leaves alone.
-/
import Derived.Test.YtnhhehinbobknaaPairS
import Derived.Test.YtnhhehinbobknaaQuillC
namespace Go.Proofs.Ytnhhehinbobknaa
set_option linter.unusedVariables false
set_option linter.unusedSimpArgs false
open Go.RowKit

/-- All blocks but those of S are as they were. -/
structure Keeps (S : Nat → Prop) (w w' : World) : Prop where
  os : w'.os = w.os
  tape : w'.tape = w.tape
  output : w'.output = w.output
  size : w.heap.size ≤ w'.heap.size
  block : ∀ k, k < w.heap.size → ¬ S k → w'.heap[k]? = w.heap[k]?
theorem Keeps.refl (S : Nat → Prop) (w : World) : Keeps S w w := ⟨rfl, rfl, rfl, Nat.le_refl _, fun _ _ _ => rfl⟩
theorem Keeps.of_below {S : Nat → Prop} {w w' : World} (h : Below w.heap.size w w') : Keeps S w w' := ⟨h.os, h.tape, h.output, h.size, fun k hk _ => h.block k hk⟩
/-- Behind a call on a thing whose blocks are all new since a: all that a had is as it was. -/
theorem Keeps.below {S : Nat → Prop} {n : Nat} {a w w' : World} (h : Below n a w) (k : Keeps S w w') (hn : n ≤ w.heap.size) (hS : ∀ i, S i → n ≤ i) : Below n a w' :=
  ⟨k.os.trans h.os, k.tape.trans h.tape, k.output.trans h.output, Nat.le_trans h.size k.size, fun i hi => (k.block i (by omega) (fun hs => by have := hS i hs; omega)).trans (h.block i hi)⟩
theorem Keeps.cell {S : Nat → Prop} {w w' : World} (k : Keeps S w w') {b o : Nat} {v : Value} (hb : ¬ S b) (h : w.cell? ⟨b, o, none⟩ = some v) : w'.cell? ⟨b, o, none⟩ = some v := by
  have hlt := World.block_lt_of_cell? (a := ⟨b, o, none⟩) w h
  exact (World.cell?_of_block (a := ⟨b, o, none⟩) (k.block b hlt hb)).trans h
theorem Keeps.own {S : Nat → Prop} {w w' : World} (k : Keeps S w w') {base : Nat} {v : Value} {L : List PairV} (h : OwnP w base v L) (hv : ∀ g, v.ownBlock = some g → ¬ S g) : OwnP w' base v L := by
  refine ⟨h.1, ?_⟩
  rcases h.2 with hn | ⟨g, cap, cur, rfl, hb, hgg, rest⟩
  · exact .inl hn
  · refine .inr ⟨g, cap, cur, rfl, hb, ?_, rest⟩
    rw [k.block g (lt_of_block hgg) (hv g rfl)]
    exact hgg
end Go.Proofs.Ytnhhehinbobknaa
