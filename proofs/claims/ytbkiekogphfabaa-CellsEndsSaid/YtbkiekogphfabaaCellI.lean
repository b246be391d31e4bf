/-
  Rows of cells, and rows of words, of the call's own: read, kept, appended to.
-/
import Derived.Test.YtbkiekogphfabaaCellM
import Derived.Test.YtbkiekogphfabaaTwo
import Derived.Test.YtbkiekogphfabaaRows
import Derived.WalkKit
import Derived.WalkSpells
import Derived.WalkLawsBesides
import Derived.WalkMore
import Derived.LoopTactic
import Derived.OwnWalk
import Derived.OneCell
import Derived.Carry
import Derived.Laws.AppendOwnNone
import Derived.Deep.RegionWith
import Derived.Deep.RegionLaw
import Derived.Deep.AppendLies
import Derived.Lib.SmallJoins
namespace Go.Proofs.Ytbkiekogphfabaa
set_option linter.unusedVariables false
set_option linter.unusedSimpArgs false
open Go.RowKit

/-- A cell: where it ends, and what stands for it. -/
abbrev CellV := Int × Int
def cellsC (p : CellV) : List Value := [.int .u64 p.1, .int .u64 p.2]
def cellsR (L : List CellV) : List Value := L.flatMap cellsC
theorem cellsR_cons (p : CellV) (r : List CellV) : cellsR (p :: r) = cellsC p ++ cellsR r := by unfold cellsR; rw [List.flatMap_cons]
theorem cellsR_app (a b : List CellV) : cellsR (a ++ b) = cellsR a ++ cellsR b := by unfold cellsR; rw [List.flatMap_append]
theorem cellsR_one' (p : CellV) : cellsR [p] = [.int .u64 p.1, .int .u64 p.2] := by unfold cellsR cellsC; simp
theorem cellsR_len (L : List CellV) : (cellsR L).length = L.length * 2 := by
  induction L with
  | nil => rfl
  | cons p r ih => rw [cellsR_cons, List.length_append, ih, List.length_cons]; simp [cellsC]; omega
theorem cellsR_one (L : List CellV) : ∀ u ∈ cellsR L, u.oneCell' = true := by
  intro u hu
  unfold cellsR at hu
  obtain ⟨p, _, h⟩ := List.mem_flatMap.1 hu
  simp only [cellsC, List.mem_cons, List.not_mem_nil, or_false] at h
  rcases h with rfl | rfl <;> rfl
theorem cellsR_at : ∀ (L : List CellV) (i : Nat) (p : CellV), L[i]? = some p → (cellsR L)[i * 2]? = some (.int .u64 p.1) ∧ (cellsR L)[i * 2 + 1]? = some (.int .u64 p.2) := by
  intro L
  induction L with
  | nil => intro i p h; simp at h
  | cons q r ih =>
    intro i p h
    rw [cellsR_cons]
    cases i with
    | zero => simp at h; subst h; simp [cellsC]
    | succ i =>
      have hr := ih i p (by simpa using h)
      have e : ∀ j, (cellsC q ++ cellsR r)[(i + 1) * 2 + j]? = (cellsR r)[i * 2 + j]? := by
        intro j
        rw [List.getElem?_append_right (by simp [cellsC]; omega)]
        congr 1
        simp [cellsC]; omega
      exact ⟨(e 0).trans hr.1, (e 1).trans hr.2⟩
theorem addr_flat (b off j : Nat) : (⟨b, off, none⟩ : Addr).add j = ⟨b, off + j, none⟩ := by unfold Addr.add; split <;> simp_all
theorem Try.infoCell : (Try.prog.info? 55).map (fun i => (i.zero, i.size, i.bytes)) = some (some (.agg #[.int .u64 0, .int .u64 0]), 2, 16) := by kernel_rfl

/-- A row of the call's own that holds cells. -/
def OwnR (w : World) (base : Nat) (v : Value) (L : List CellV) : Prop := w.ownsRow base 55 2 v L.length (cellsR L)
theorem OwnR.nil (w : World) (base : Nat) : OwnR w base (.slice none 0 0) [] := World.ownsRow_nil _ _ _ _
theorem OwnR.call {w w' : World} {base : Nat} {v : Value} {L : List CellV} (h : OwnR w base v L) (hb : Below w.heap.size w w') : OwnR w' base v L :=
  World.ownsRow.kept (row := none) h ⟨hb.os, hb.tape, hb.output, hb.size, fun i hi _ => hb.block i hi⟩ (by cases v.ownBlock <;> simp)
theorem OwnR.lt {w : World} {base : Nat} {v : Value} {L : List CellV} (h : OwnR w base v L) : ∀ k, v.ownBlock = some k → base ≤ k ∧ k < w.heap.size := World.ownsRow.lt h
theorem OwnR.form {w : World} {base : Nat} {v : Value} {L : List CellV} (h : OwnR w base v L) : ∃ A cap, v = .slice A L.length cap := by
  have h' : w.ownsRow base 55 2 v L.length (cellsR L) := h
  rcases h'.2 with ⟨rfl, h0⟩ | ⟨g, cap, cur, rfl, _⟩
  · exact ⟨none, 0, by rw [h0]⟩
  · exact ⟨_, _, rfl⟩
theorem OwnR.below {a w w' : World} {base : Nat} {v : Value} {L : List CellV} (h : OwnR w base v L) (hb : Below base a w) (hg : w.grownBy w' v.ownBlock) (hs : base ≤ w.heap.size) : Below base a w' := hb.grown hg hs (fun k hk => (h.lt k hk).1)
/-- A row with cells has an address, and is read there. -/
theorem OwnR.some_ {w : World} {base : Nat} {v : Value} {L : List CellV} (h : OwnR w base v L) (hn : 1 ≤ L.length) : ∃ g cap, v = .slice (some ⟨g, 0, none⟩) L.length cap ∧ base ≤ g := by
  have h' : w.ownsRow base 55 2 v L.length (cellsR L) := h
  rcases h'.2 with ⟨rfl, h0⟩ | ⟨g, cap, cur, rfl, hb, _⟩
  · omega
  · exact ⟨_, _, rfl, hb⟩
theorem OwnR.at_ {w : World} {base g n cap : Nat} {L : List CellV} (h : OwnR w base (.slice (some ⟨g, 0, none⟩) n cap) L) {i : Nat} {p : CellV} (hi : L[i]? = some p) :
    w.cell? ⟨g, i * 2, none⟩ = some (.int .u64 p.1) ∧ w.cell? ⟨g, i * 2 + 1, none⟩ = some (.int .u64 p.2) := by
  have hh : w.ownsRow base 55 2 (.slice (some ⟨g, 0, none⟩) n cap) L.length (cellsR L) := h
  have hc := hh.cells (g := g) rfl
  obtain ⟨c0, c1⟩ := cellsR_at L i p hi
  have a := hc _ _ c0
  have b := hc _ _ c1
  rw [addr_flat, Nat.zero_add] at a b
  exact ⟨a, b⟩
theorem OwnR.keep {w w' : World} {base g n cap : Nat} {L : List CellV} (h : OwnR w base (.slice (some ⟨g, 0, none⟩) n cap) L) (hk : w'.heap[g]? = w.heap[g]?) : OwnR w' base (.slice (some ⟨g, 0, none⟩) n cap) L := by
  have h' : w.ownsRow base 55 2 (.slice (some ⟨g, 0, none⟩) n cap) L.length (cellsR L) := h
  refine ⟨h'.1, ?_⟩
  rcases h'.2 with ⟨e, _⟩ | ⟨g', cap', cur, e, hb, hg, r⟩
  · cases e
  · refine .inr ⟨g', cap', cur, e, hb, ?_, r⟩
    injection e with e1 e2 e3; injection e1 with e1; injection e1 with e1; subst e1
    rw [hk]; exact hg
/-- Appending one cell, that lies in a block of its own: one step of a region that draws. -/
theorem step_append_cell {w : World} {ops : Array Oper} {o : Oper} {a : Act} {K : Act → World → Prop} {Q : Exit → Act → World → Prop} {E : Prop} (hgd : o.guard = none) (s x : Operand)
    (ho : o.op = .call { callee := .builtin .append, args := #[s, x], argTypes := #[51, 51] })
    (base : Nat) (v : Value) (L : List CellV) (g : Nat) (p : CellV) (hs : a.eval s = v) (hown : OwnR w base v L)
    (hx : a.eval x = .slice (some ⟨g, 0, none⟩) 1 1) (h0 : w.cell? ⟨g, 0, none⟩ = some (.int .u64 p.1)) (h1 : w.cell? ⟨g, 1, none⟩ = some (.int .u64 p.2)) (hn : L.length ≤ 100000) (hbase : base ≤ w.heap.size)
    (h : ∀ v' w', OwnR w' base v' (L ++ [p]) → w.grownBy w' v.ownBlock → K (a.put o.dst v') w') : if Region.wanted o (yielded ops a.tmps) = true then Oper.wp Try.prog o a w K Q else E := by
  have hw : Region.wanted o (yielded ops a.tmps) = true := by simp [Region.wanted, hgd]
  rw [if_pos hw]
  obtain ⟨i0, hi, hz0, hz1, hz2⟩ := info_parts Try.infoCell
  refine wp_append_own w s x _ ho base _ i0 _ 2 16 Try.underlying51 hi hz0 hz1 hz2 rfl (by decide) v L.length (cellsR L) hs hown ⟨g, 0, none⟩ 1 1 (cellsR [p]) hx (cellsR_len [p]) ?_ (cellsR_one [p])
      (by unfold maxLen; omega) (by omega) hbase (fun v' w' h1 h2 _ => h v' w' ?_ h2)
  · intro j u hu
    rw [cellsR_one'] at hu
    rw [addr_flat]
    match j, hu with
    | 0, hu => simp at hu; subst hu; exact h0
    | 1, hu => simp at hu; subst hu; exact h1
  · unfold OwnR
    rw [cellsR_app, List.length_append]
    exact h1

/-- A row of the call's own that holds words. -/
def wordsL (L : List Int) : List Value := L.map (Value.int .u64)
theorem Try.infoWord : (Try.prog.info? 22).map (fun i => (i.zero, i.size, i.bytes)) = some (some (.int .u64 0), 1, 8) := by kernel_rfl
def OwnW (w : World) (base : Nat) (v : Value) (L : List Int) : Prop := w.ownsRow base 22 1 v L.length (wordsL L)
theorem OwnW.nil (w : World) (base : Nat) : OwnW w base (.slice none 0 0) [] := World.ownsRow_nil _ _ _ _
theorem OwnW.call {w w' : World} {base : Nat} {v : Value} {L : List Int} (h : OwnW w base v L) (hb : Below w.heap.size w w') : OwnW w' base v L :=
  World.ownsRow.kept (row := none) h ⟨hb.os, hb.tape, hb.output, hb.size, fun i hi _ => hb.block i hi⟩ (by cases v.ownBlock <;> simp)
theorem OwnW.other {w w' : World} {base : Nat} {v : Value} {L : List Int} {r : Option Nat} (h : OwnW w base v L) (hg : w.grownBy w' r) (hne : v.ownBlock = none ∨ v.ownBlock ≠ r) : OwnW w' base v L := World.ownsRow.kept h hg hne
theorem OwnW.alloc {w : World} {base : Nat} {v : Value} {L : List Int} (h : OwnW w base v L) (o : Obj) : OwnW (w.alloc o) base v L := World.ownsRow.alloc h o
theorem OwnW.lt {w : World} {base : Nat} {v : Value} {L : List Int} (h : OwnW w base v L) : ∀ k, v.ownBlock = some k → base ≤ k ∧ k < w.heap.size := World.ownsRow.lt h
theorem OwnW.form {w : World} {base : Nat} {v : Value} {L : List Int} (h : OwnW w base v L) : ∃ A cap, v = .slice A L.length cap := by
  have h' : w.ownsRow base 22 1 v L.length (wordsL L) := h
  rcases h'.2 with ⟨rfl, h0⟩ | ⟨g, cap, cur, rfl, _⟩
  · exact ⟨none, 0, by rw [h0]⟩
  · exact ⟨_, _, rfl⟩
theorem OwnW.form_at {w : World} {base n : Nat} {v : Value} {L : List Int} (h : OwnW w base v L) (hn : L.length = n) : ∃ A cap, v = .slice A n cap := by subst hn; exact h.form
theorem OwnW.below {a w w' : World} {base : Nat} {v : Value} {L : List Int} (h : OwnW w base v L) (hb : Below base a w) (hg : w.grownBy w' v.ownBlock) (hs : base ≤ w.heap.size) : Below base a w' := hb.grown hg hs (fun k hk => (h.lt k hk).1)
theorem OwnW.at_ {w : World} {base n cap : Nat} {A : Option Addr} {L : List Int} (h : OwnW w base (.slice A n cap) L) {i : Nat} {x : Int} (hi : L[i]? = some x) :
    ∃ g, A = some ⟨g, 0, none⟩ ∧ g < w.heap.size ∧ w.cell? ⟨g, i, none⟩ = some (.int .u64 x) := by
  have hh : w.ownsRow base 22 1 (.slice A n cap) L.length (wordsL L) := h
  rcases hh.2 with ⟨e, h0⟩ | ⟨g, cap', cur, e, hb, hg, r⟩
  · have : L = [] := List.eq_nil_of_length_eq_zero h0
    subst this; simp at hi
  · have e' := e
    injection e' with e1 e2 e3
    subst e1
    refine ⟨g, rfl, lt_of_block hg, ?_⟩
    have hc := hh.cells (g := g) rfl
    have a := hc i (.int .u64 x) (by unfold wordsL; rw [List.getElem?_map, hi]; rfl)
    rw [addr_flat, Nat.zero_add] at a
    exact a
theorem wpList_append_word {w : World} {ops : Array Oper} {rest : List Oper} {o : Oper} {a : Act} {Q : Exit → Act → World → Prop} (hgd : o.guard = none) (s x : Operand)
    (ho : o.op = .call { callee := .builtin .append, args := #[s, x], argTypes := #[31, 31] })
    (base : Nat) (v : Value) (L : List Int) (n : Nat) (hln : L.length = n) (g : Nat) (p : Int) (hs : a.eval s = v) (hown : OwnW w base v L)
    (hx : a.eval x = .slice (some ⟨g, 0, none⟩) 1 1) (h0 : w.cell? ⟨g, 0, none⟩ = some (.int .u64 p)) (hn : n ≤ 100000) (hbase : base ≤ w.heap.size)
    (h : ∀ g' cap w', OwnW w' base (.slice (some ⟨g', 0, none⟩) (n + 1) cap) (L ++ [p]) → w.grownBy w' v.ownBlock → (v.ownBlock = some g' ∨ g' = w.heap.size) → wpList Try.prog ops Q rest (a.put o.dst (.slice (some ⟨g', 0, none⟩) (n + 1) cap)) w') : wpList Try.prog ops Q (o :: rest) a w := by
  subst hln
  obtain ⟨i0, hi, hz0, hz1, hz2⟩ := info_parts Try.infoWord
  refine wpList_append_lies w hgd s x _ ho base _ i0 _ 1 8 Try.underlying31 hi hz0 hz1 hz2 rfl (by decide) v L.length (wordsL L) hs hown ⟨g, 0, none⟩ 1 1 (wordsL [p]) hx rfl ?_ ?_
      (by decide) (by unfold maxLen; omega) (by omega) hbase _ rfl (fun g' cap w' h1 h2 h3 _ => h g' cap w' ?_ h2 h3)
  · intro j u hu
    rw [addr_flat]
    match j, hu with
    | 0, hu => simp [wordsL] at hu; subst hu; exact h0
  · intro u hu; simp [wordsL] at hu; subst hu; rfl
  · unfold OwnW
    rw [show wordsL (L ++ [p]) = wordsL L ++ wordsL [p] by unfold wordsL; rw [List.map_append], List.length_append]
    exact h1
end Go.Proofs.Ytbkiekogphfabaa
