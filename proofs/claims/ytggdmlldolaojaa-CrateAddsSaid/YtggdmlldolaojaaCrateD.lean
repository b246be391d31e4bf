/-
  What package crate is to do, further: what All hands back, and a nil crate.
-/
import Derived.RangeFuncNested
import Derived.RangeFuncBound
import Derived.RangeFuncCalls
import Derived.RangeFuncLeaves
import Derived.Shelf.Abstract
import Derived.Shelf.RegionOpen
import Derived.OwnWalkIn
import Derived.TacticsInMore
import Derived.LoopNIn
import Derived.LoopIn
import Derived.Test.YtggdmlldolaojaaCrateC
namespace Go.Proofs.Ytggdmlldolaojaa
set_option linter.unusedVariables false
set_option linter.unusedSimpArgs false
open Go.RowKit Go.Shelf

/-- A pair as it is handed to a loop with two variables. -/
def encPr (x : PairV) : Array Value := #[.int .i64 x.1, .int .u64 x.2]
/-- These blocks are as they were. -/
def KeepU (U : Nat → Prop) (W W' : World) : Prop := ∀ k, U k → W'.heap[k]? = W.heap[k]?
theorem keepU_t {U : Nat → Prop} {A B C : World} (h : KeepU U A B) (k : KeepU U B C) : KeepU U A C := fun i hi => (k i hi).trans (h i hi)
theorem keepU_b {U : Nat → Prop} {n : Nat} (hU : ∀ k, U k → k < n) (W : World) (l : Nat) (o o' : Obj) (hl : n ≤ l) (_ : W.heap[l]? = some o) (_ : o.isCells = false) (_ : o.isWalk = false) : KeepU U W (W.putObj l o') :=
  fun k hk => World.putObj_heap_other (by have := hU k hk; omega)
/-- What goes over a row, pair by pair, of a thing with such blocks. -/
def Goes (n : Nat) (S : Nat → Prop) (L : List PairV) (w : World) (e : Ending) (w' : World) : Prop :=
  ∃ (gf : Nat) (lb : Array Value) (U : Nat → Prop), e = .returned (.func (.func gf) #[] lb) ∧ (∀ args w, (callFunc gf args).run Try.prog w = .ok (.enter gf args) w) ∧ Below w.heap.size w w' ∧ (∀ k, U k → (S k ∨ w.heap.size ≤ k) ∧ k < w'.heap.size) ∧
    SeqStopsK Fence.wide n Try.prog gf lb encPr (KeepU U) (fun ys => ys = L) (fun pre => pre <+: L) L.length w'
structure CrateAll (Cr : World → Nat → (Nat → Prop) → List PairV → Prop) : Prop where
  all : ∀ (n : Nat) (w : World) (B : Nat) (S : Nat → Prop) (L : List PairV), 1 ≤ n → Cr w B S L → Calls Try.prog 18 #[.pointer (some ⟨B, 0, none⟩)] w (Goes n S L w)
/-- A nil crate. -/
structure CrateNil : Prop where
  add : ∀ (w : World) (i c : Int), I64 i → Word c → Calls Try.prog 10 #[.pointer none, .int .i64 i, .int .u64 c] w fun e w' => e = .returned (.int .i64 2) ∧ Below w.heap.size w w'
  at_ : ∀ (w : World) (i : Int), I64 i → Calls Try.prog 16 #[.pointer none, .int .i64 i] w fun e w' => e = .returned (.int .u64 0) ∧ Below w.heap.size w w'
  total : ∀ (w : World), Calls Try.prog 14 #[.pointer none] w fun e w' => e = .returned (.int .u64 0) ∧ Below w.heap.size w w'
  pairs : ∀ (w : World), Calls Try.prog 13 #[.pointer none] w fun e w' => ∃ A cap, e = .returned (.slice A 0 cap) ∧ Below w.heap.size w w'
  find : ∀ (w : World) (t : Int), Word t → Calls Try.prog 19 #[.pointer none, .int .u64 t] w fun e w' => e = .returned (.tuple #[.int .i64 0, .bool false]) ∧ Below w.heap.size w w'
  below : ∀ (w : World) (i : Int), I64 i → Calls Try.prog 20 #[.pointer none, .int .i64 i] w fun e w' => e = .returned (.int .u64 0) ∧ Below w.heap.size w w'
  all : ∀ (n : Nat) (w : World), 1 ≤ n → Calls Try.prog 18 #[.pointer none] w (Goes n (fun _ => False) [] w)
end Go.Proofs.Ytggdmlldolaojaa
