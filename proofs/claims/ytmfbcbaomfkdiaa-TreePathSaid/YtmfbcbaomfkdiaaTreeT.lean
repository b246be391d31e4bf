/-
  The contract of a tree, as a Prop (a Tree is one whole number: its depth); the law's alive; the law TreeHalves.
-/
import Derived.Test.YtmfbcbaomfkdiaaTreeS
import Derived.Lib.SmallJoins
namespace Go.Proofs.Ytmfbcbaomfkdiaa
set_option linter.unusedVariables false
set_option linter.unusedSimpArgs false
open Go.RowKit Go.Joins

def treeV (b : Nat) : Value := .agg #[.int .i64 b]
def lvI (b : Nat) (v : Int) : Int := if goodT b v = true then (lvlT v.toNat : Int) else -1
def upI (b : Nat) (v : Int) : Int := if goodT b v = true then v / 2 else 0
def besI (b : Nat) (v : Int) : Int := if goodT b v = true ∧ v ≠ 1 then (if v % 2 = 0 then v + 1 else v - 1) else 0
def rloI (b : Nat) (v : Int) : Int := if goodT b v = true then loI b v.toNat else 0
def rhiI (b : Nat) (v : Int) : Int := if goodT b v = true then hiI b v.toNat else 0
def abI (b : Nat) (v w : Int) : Bool := goodT b v && goodT b w && decide (aboveT v.toNat w.toNat)
/-- What a tree does. -/
structure TreeDoes : Prop where
  new_ok : ∀ w (b : Nat), 1 ≤ b → b ≤ 24 → Calls Try.prog 9 #[.int .i64 b] w fun e w' => e = .returned (.tuple #[.agg #[.int .i64 b], .int .i64 0]) ∧ Below w.heap.size w w'
  new_no : ∀ w (d : Int), I64 d → ¬ (1 ≤ d ∧ d ≤ 24) → Calls Try.prog 9 #[.int .i64 d] w fun e w' => ∃ x, e = .returned (.tuple #[.agg #[.int .i64 x], .int .i64 1]) ∧ Below w.heap.size w w'
  leaves : ∀ w (b : Nat), 1 ≤ b → b ≤ 24 → Calls Try.prog 20 #[.agg #[.int .i64 b]] w fun e w' => e = .returned (.int .i64 ((2 ^ b : Nat) : Int)) ∧ Below w.heap.size w w'
  depth : ∀ w (b : Nat), 1 ≤ b → b ≤ 24 → Calls Try.prog 11 #[.agg #[.int .i64 b]] w fun e w' => e = .returned (.int .i64 b) ∧ Below w.heap.size w w'
  good : ∀ w (b : Nat) (v : Int), 1 ≤ b → b ≤ 24 → I64 v → Calls Try.prog 12 #[.agg #[.int .i64 b], .int .i64 v] w fun e w' => e = .returned (.bool (goodT b v)) ∧ Below w.heap.size w w'
  leaf_in : ∀ w (b : Nat) (x : Int), 1 ≤ b → b ≤ 24 → 0 ≤ x → x < ((2 ^ b : Nat) : Int) → Calls Try.prog 19 #[.agg #[.int .i64 b], .int .i64 x] w fun e w' => e = .returned (.tuple #[.int .i64 (((2 ^ b : Nat) : Int) + x), .bool true]) ∧ Below w.heap.size w w'
  leaf_out : ∀ w (b : Nat) (x : Int), 1 ≤ b → b ≤ 24 → I64 x → ¬ (0 ≤ x ∧ x < ((2 ^ b : Nat) : Int)) → Calls Try.prog 19 #[.agg #[.int .i64 b], .int .i64 x] w fun e w' => e = .returned (.tuple #[.int .i64 0, .bool false]) ∧ Below w.heap.size w w'
  up : ∀ w (b : Nat) (v : Int), 1 ≤ b → b ≤ 24 → I64 v → Calls Try.prog 15 #[.agg #[.int .i64 b], .int .i64 v] w fun e w' => e = .returned (.int .i64 (upI b v)) ∧ Below w.heap.size w w'
  beside : ∀ w (b : Nat) (v : Int), 1 ≤ b → b ≤ 24 → I64 v → Calls Try.prog 16 #[.agg #[.int .i64 b], .int .i64 v] w fun e w' => e = .returned (.int .i64 (besI b v)) ∧ Below w.heap.size w w'
  level : ∀ w (b : Nat) (v : Int), 1 ≤ b → b ≤ 24 → I64 v → Calls Try.prog 14 #[.agg #[.int .i64 b], .int .i64 v] w fun e w' => e = .returned (.int .i64 (lvI b v)) ∧ Below w.heap.size w w'
  range : ∀ w (b : Nat) (v : Int), 1 ≤ b → b ≤ 24 → I64 v → Calls Try.prog 10 #[.agg #[.int .i64 b], .int .i64 v] w fun e w' => e = .returned (.tuple #[.int .i64 (rloI b v), .int .i64 (rhiI b v)]) ∧ Below w.heap.size w w'
  above : ∀ w (b : Nat) (v u : Int), 1 ≤ b → b ≤ 24 → I64 v → I64 u → Calls Try.prog 21 #[.agg #[.int .i64 b], .int .i64 v, .int .i64 u] w fun e w' => e = .returned (.bool (abI b v u)) ∧ Below w.heap.size w w'
  before : ∀ w (b : Nat) (v u : Int), 1 ≤ b → b ≤ 24 → goodT b v = true → goodT b u = true → Calls Try.prog 23 #[.agg #[.int .i64 b], .int .i64 v, .int .i64 u] w fun e w' => e = .returned (.bool (beforeT b v.toNat u.toNat)) ∧ Below w.heap.size w w'
theorem tree_cell (w : World) (x : Value) : (w.alloc (.cells #[x] 24)).cell? ⟨w.heap.size, 0, none⟩ = some x := by
  have h : (w.alloc (.cells #[x] 24)).heap[w.heap.size]? = some (.cells #[x] 24 (0, 0)) := by
    unfold World.alloc
    exact Array.getElem?_push_size
  rw [Go.Joins.cell_of_block h]; rfl

set_option maxRecDepth 100000 in
set_option maxHeartbeats 1000000 in
theorem alive16_any (D : TreeDoes) (w : World) : Calls Try.prog 8 #[] w fun e w' => e = .returned (.bool true) ∧ Below w.heap.size w w' := by
  have HN := Lib.hid (D.new_ok w 3 (by decide) (by decide))
  have HL := Lib.hid (fun W => D.leaf_in W 3 5 (by decide) (by decide) (by decide) (by decide))
  have HU : Hid (∀ W, Calls Try.prog 15 #[.agg #[.int .i64 3], .int .i64 13] W fun e w' => e = .returned (.int .i64 6) ∧ Below W.heap.size W w') := Lib.hid fun W => by
    have := D.up W 3 13 (by decide) (by decide) ⟨by decide, by decide⟩
    rwa [show upI 3 13 = 6 by decide] at this
  have HV : Hid (∀ W, Calls Try.prog 20 #[.agg #[.int .i64 3]] W fun e w' => e = .returned (.int .i64 8) ∧ Below W.heap.size W w') := Lib.hid fun W => D.leaves W 3 (by decide) (by decide)
  clear D
  go_enter Try.func8, Try.ntmps8
  go_wp2_with fail
  refine HN.out.mono ?_
  rintro e w1 ⟨rfl, b1⟩
  have hb2 : Below w1.heap.size w1 (w1.alloc (.cells #[.int .i64 3] 24)) := (Below.refl _ _).alloc (Nat.le_refl _) _
  have c2 := tree_cell w1 (.int .i64 3)
  have b2 := b1.trans (hb2.mono b1.size)
  clear b1 hb2
  go_wp2_with fail
  refine (HL.out _).mono ?_
  rintro e w3 ⟨rfl, b3'⟩
  have b3 := b2.trans (b3'.mono b2.size)
  have c3 := cell_later b3' c2
  clear b2 b3'
  go_wp2_with fail
  refine (HU.out _).mono ?_
  rintro e w4 ⟨rfl, b4'⟩
  have b4 := b3.trans (b4'.mono b3.size)
  have c4 := cell_later b4' c3
  clear b3 b4'
  go_wp2_with fail
  refine (HV.out _).mono ?_
  rintro e w5 ⟨rfl, b5'⟩
  have b5 := b4.trans (b5'.mono b4.size)
  clear b4 b5'
  go_wp2_with fail
  go_ret
  exact ⟨rfl, b5⟩
end Go.Proofs.Ytmfbcbaomfkdiaa
