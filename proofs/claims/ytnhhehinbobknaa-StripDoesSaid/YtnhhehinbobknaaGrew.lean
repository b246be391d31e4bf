/-
  Regions that draw their order, whose operations only read, and whose calls leave all that lay there as it was: one walk, in the order of the text. Worlds that have grown from one.
-/
import Derived.Test.YtnhhehinbobknaaRows
import Derived.WalkKit
import Derived.WalkSpells
import Derived.WalkLawsBesides
import Derived.Deep.QuietTactic
import Derived.BigQuiet
import Derived.Deep.RegionHeld3
import Derived.Sort.Grow
import Derived.Below
namespace Go.Proofs.Ytnhhehinbobknaa
set_option linter.unusedVariables false
set_option linter.unusedSimpArgs false
open Go.RowKit Go.Sort

/-- How a world has grown: so many draws, these blocks. -/
structure GrewP where
  d : Nat
  os : Array Obj
instance : Inhabited GrewP := ⟨⟨0, #[]⟩⟩
def grewTo (w : World) (d : Nat) (os : Array Obj) : World := grow { w with drawn := d } os
theorem below_grewTo (w : World) (d : Nat) (os : Array Obj) : Below w.heap.size w (grewTo w d os) :=
  ⟨rfl, rfl, rfl, by show w.heap.size ≤ (grow _ os).heap.size; rw [size_grow]; show w.heap.size ≤ w.heap.size + _; omega, fun k hk => heap_grow_old { w with drawn := d } os hk⟩
theorem grewTo_of_below {w w' : World} (h : Below w.heap.size w w') : ∃ p : GrewP, w' = grewTo w p.d p.os := by
  refine ⟨⟨w'.drawn, w'.heap.extract w.heap.size w'.heap.size⟩, ?_⟩
  have hs := h.size
  have hh : w'.heap = w.heap ++ w'.heap.extract w.heap.size w'.heap.size := by
    apply Array.ext_getElem?
    intro i
    by_cases hi : i < w.heap.size
    · rw [Array.getElem?_append_left hi]; exact h.block i hi
    · rw [Array.getElem?_append_right (by omega), Array.getElem?_extract]
      by_cases h2 : i < w'.heap.size
      · rw [if_pos (by omega)]; congr 1; omega
      · rw [if_neg (by omega), Array.getElem?_eq_none (by omega)]
  obtain ⟨h1, t1, d1, o1, u1⟩ := w'
  have e1 : t1 = w.tape := h.tape
  have e2 : o1 = w.os := h.os
  have e3 : u1 = w.output := h.output
  subst e1 e2 e3
  simp only at hh
  show (⟨h1, w.tape, d1, w.os, w.output⟩ : World) = ⟨w.heap ++ h1.extract w.heap.size h1.size, w.tape, d1, w.os, w.output⟩
  rw [← hh]
theorem cell_grewTo {w : World} {a : Addr} {v : Value} (h : w.cell? a = some v) (d : Nat) (os : Array Obj) : (grewTo w d os).cell? a = some v := by
  have hlt := World.block_lt_of_cell? (a := a) w h
  exact (World.cell?_of_block ((below_grewTo w d os).block _ hlt)).trans h
/-- A callee that leaves all as it was, in a world that has grown. -/
theorem calls_grew {P : Program} {f : FuncId} {args : Array Value} {w : World} {d : Nat} {os : Array Obj} {v : Value}
    (h : Calls P f args (grewTo w d os) fun e w' => e = .returned v ∧ Below (grewTo w d os).heap.size (grewTo w d os) w') : Calls P f args (grewTo w d os) fun e w'' => e = .returned v ∧ ∃ p : GrewP, w'' = grewTo w p.d p.os :=
  h.mono fun e w' ⟨he, hb⟩ => ⟨he, grewTo_of_below ((below_grewTo w d os).trans (hb.mono (below_grewTo w d os).size))⟩
/-- .. one that leaves the very world. -/
theorem calls_grew_same {P : Program} {f : FuncId} {args : Array Value} {w : World} {d : Nat} {os : Array Obj} {v : Value}
    (h : Calls P f args (grewTo w d os) fun e w' => e = .returned v ∧ grewTo w d os = w') : Calls P f args (grewTo w d os) fun e w'' => e = .returned v ∧ ∃ p : GrewP, w'' = grewTo w p.d p.os :=
  h.mono fun e w' ⟨he, hb⟩ => ⟨he, ⟨d, os⟩, hb.symm⟩

theorem wp_region_grew {P : Program} {id : Nat} {Q : Exit → Act → World → Prop} {a : Act} {w : World} {l : List Oper} (hm : P.follows .mixedOrders = true) (hB : Region.lexB .any l.toArray = true)
    (h : wpQuiet P l.toArray (fun w' => ∃ p : GrewP, w' = grewTo w p.d p.os) (fun a' => ∀ w', (∃ p : GrewP, w' = grewTo w p.d p.os) → Q .normal a' w') l a) : (Code.region id l.toArray true).wp P Q a w :=
  wp_region_quiet (C := fun w' => ∃ p : GrewP, w' = grewTo w p.d p.os) hm hB ⟨⟨w.drawn + 1, #[]⟩, by unfold grewTo; rw [grow_empty]⟩ (by simpa using h)

section
variable {P : Program} {ops : Array Oper} {md : Region.Mode} {C S : World → Prop}
/-- What holds with much held holds with less. -/
theorem wpAnyH_weaken {S' : World → Prop} {Q : Exit → Act → World → Prop} (hS : ∀ w, S' w → S w) : ∀ (fuel : Nat) (listed : Array Bool) (a : Act) (w : World), wpAnyH P md ops Q S' fuel listed a w → wpAnyH P md ops Q S fuel listed a w
  | 0, _, _, _, h => h
  | fuel + 1, _, _, _, h => ⟨h.1, fun i hi => wpOp_mono (fun a' w' h' => ⟨hS _ h'.1, wpAnyH_weaken hS fuel _ a' w' h'.2⟩) (h.2 i hi)⟩
theorem wpAnyH_of_quiet {Q : Act → Prop} {Q' : Exit → Act → World → Prop} (hS : ∀ w, C w → S w) (hQ : ∀ a w, C w → Q a → Q' .normal a w) : ∀ (fuel : Nat) (listed : Array Bool) (a : Act) (w : World), C w →
    wpAnyQ P md ops C Q fuel listed a → wpAnyH P md ops Q' S fuel listed a w
  | 0, _, _, _, hw, h => ⟨h.1, hQ _ _ hw h.2⟩
  | fuel + 1, _, _, _, hw, h => ⟨fun h0 => hQ _ _ hw (h.1 h0), fun i hi => wpOp_of_qOp hw (fun a' w' hw' hh => ⟨hS _ hw', wpAnyH_of_quiet hS hQ fuel _ a' w' hw' hh⟩) (h.2 i hi)⟩
/-- From the midst of a region on: what is left of it, in the order of the text. -/
theorem held_grew {Q : Exit → Act → World → Prop} {l : List Oper} {fuel k : Nat} {listed : Array Bool} {a : Act} {w : World} (hf : l.length = fuel) (hs : Region.noSelect ops = true) (hl : ops.toList.drop k = l) (hB : Region.lexFrom md ops l.length k listed = true)
    (hS : ∀ d os, S (grewTo w d os))
    (h : wpQuiet P ops (fun w' => ∃ p : GrewP, w' = grewTo w p.d p.os) (fun a' => ∀ w', (∃ p : GrewP, w' = grewTo w p.d p.os) → Q .normal a' w') l a) : wpAnyH P md ops Q S fuel listed a w := by
  subst hf
  refine wpAnyH_of_quiet (C := fun w' => ∃ p : GrewP, w' = grewTo w p.d p.os) (fun w' ⟨p, e⟩ => e ▸ hS p.d p.os) (Q := fun a' => ∀ w', (∃ p : GrewP, w' = grewTo w p.d p.os) → Q .normal a' w') (fun _ w' hw' hh => hh w' hw') _ _ _ _ ⟨⟨w.drawn, #[]⟩, by unfold grewTo; rw [grow_empty]⟩ ?_
  refine wpAnyQ_lex hs l k listed a (fun j => ?_) hB h
  rw [← hl, List.getElem?_drop, ← Array.getElem?_toList]
end
end Go.Proofs.Ytnhhehinbobknaa
