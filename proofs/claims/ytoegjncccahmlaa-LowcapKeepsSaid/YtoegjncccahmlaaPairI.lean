/-
  Rows of pairs in memory: as they are read; as rows of the call's own; appended to.
-/
import Derived.Test.YtoegjncccahmlaaPairM
import Derived.Test.YtoegjncccahmlaaTwo
import Derived.Test.YtoegjncccahmlaaRows
import Derived.WalkKit
import Derived.WalkSpells
import Derived.WalkLawsBesides
import Derived.WalkMore
import Derived.LoopTactic
import Derived.OwnWalk
import Derived.OneCell
import Derived.Outline
import Derived.Lib.Strings
import Derived.Deep.Slices
import Derived.Deep.Fields
import Derived.SizedLaws
import Derived.Carry
import Derived.Laws.AppendOwnNone
namespace Go.Proofs.Ytoegjncccahmlaa
set_option linter.unusedVariables false
set_option linter.unusedSimpArgs false
open Go.RowKit

/-- A row of pairs in memory. -/
structure Pairs (w : World) (A : Option Addr) (L : List PairV) : Prop where
  ok : ∀ p, p ∈ L → okP p
  at_ : ∀ (i : Nat) (p : PairV), L[i]? = some p → ∃ b off, A = some ⟨b, off, none⟩ ∧ b < w.heap.size ∧ w.cell? ⟨b, off + i * 2, none⟩ = some (.int .i64 p.1) ∧ w.cell? ⟨b, off + i * 2 + 1, none⟩ = some (.int .u64 p.2)
theorem Pairs.call {w w' : World} {A : Option Addr} {L : List PairV} (h : Pairs w A L) (hb : Below w.heap.size w w') : Pairs w' A L :=
  ⟨h.ok, fun i it hi => by
    obtain ⟨b, off, hA, hlt, c0, c1⟩ := h.at_ i it hi
    exact ⟨b, off, hA, Nat.lt_of_lt_of_le hlt hb.size, cell_later hb c0, cell_later hb c1⟩⟩
theorem Pairs.nil (w : World) : Pairs w none [] := ⟨fun p h => (by cases h), fun i p h => by simp at h⟩
/-- A row's cells. -/
def cellsP (p : PairV) : List Value := [.int .i64 p.1, .int .u64 p.2]
def cellsQ (L : List PairV) : List Value := L.flatMap cellsP
theorem cellsQ_cons (p : PairV) (r : List PairV) : cellsQ (p :: r) = cellsP p ++ cellsQ r := by unfold cellsQ; rw [List.flatMap_cons]
theorem cellsQ_app (a b : List PairV) : cellsQ (a ++ b) = cellsQ a ++ cellsQ b := by unfold cellsQ; rw [List.flatMap_append]
theorem cellsQ_one' (p : PairV) : cellsQ [p] = [.int .i64 p.1, .int .u64 p.2] := by unfold cellsQ cellsP; simp
theorem cellsQ_len (L : List PairV) : (cellsQ L).length = L.length * 2 := by
  induction L with
  | nil => rfl
  | cons p r ih => rw [cellsQ_cons, List.length_append, ih, List.length_cons]; simp [cellsP]; omega
theorem cellsQ_one (L : List PairV) : ∀ u ∈ cellsQ L, u.oneCell' = true := by
  intro u hu
  unfold cellsQ at hu
  obtain ⟨p, _, h⟩ := List.mem_flatMap.1 hu
  simp only [cellsP, List.mem_cons, List.not_mem_nil, or_false] at h
  rcases h with rfl | rfl <;> rfl
theorem cellsQ_at : ∀ (L : List PairV) (i : Nat) (p : PairV), L[i]? = some p → (cellsQ L)[i * 2]? = some (.int .i64 p.1) ∧ (cellsQ L)[i * 2 + 1]? = some (.int .u64 p.2) := by
  intro L
  induction L with
  | nil => intro i p h; simp at h
  | cons q r ih =>
    intro i p h
    rw [cellsQ_cons]
    cases i with
    | zero => simp at h; subst h; simp [cellsP]
    | succ i =>
      have hr := ih i p (by simpa using h)
      have e : ∀ j, (cellsP q ++ cellsQ r)[(i + 1) * 2 + j]? = (cellsQ r)[i * 2 + j]? := by
        intro j
        rw [List.getElem?_append_right (by simp [cellsP]; omega)]
        congr 1
        simp [cellsP]; omega
      exact ⟨(e 0).trans hr.1, (e 1).trans hr.2⟩
theorem add_flat (b off j : Nat) : (⟨b, off, none⟩ : Addr).add j = ⟨b, off + j, none⟩ := by unfold Addr.add; split <;> simp_all
theorem own_pairs {w : World} {base : Nat} {v : Value} {L : List PairV} (h : w.ownsRow base 34 2 v L.length (cellsQ L)) (hok : ∀ p, p ∈ L → okP p) :
    ∃ A cap, v = .slice A L.length cap ∧ Pairs w A L := by
  have hh := h
  rcases h.2 with ⟨rfl, h0⟩ | ⟨g, cap, cur, rfl, _, hg, _⟩
  · have e : L = [] := List.eq_nil_of_length_eq_zero h0
    subst e
    exact ⟨none, 0, rfl, hok, fun i p hi => by simp at hi⟩
  · refine ⟨some ⟨g, 0, none⟩, cap, rfl, hok, fun i p hi => ?_⟩
    have hc := hh.cells (g := g) rfl
    obtain ⟨c0, c1⟩ := cellsQ_at L i p hi
    refine ⟨g, 0, rfl, lt_of_block hg, ?_, ?_⟩
    · rw [← add_flat]; exact hc _ _ c0
    · rw [Nat.add_assoc, ← add_flat]; exact hc _ _ c1
theorem Try.infoPair : (Try.prog.info? 34).map (fun i => (i.zero, i.size, i.bytes)) = some (some (.agg #[.int .i64 0, .int .u64 0]), 2, 16) := by kernel_rfl

/-- A row of the call's own that holds pairs. -/
def OwnP (w : World) (base : Nat) (v : Value) (L : List PairV) : Prop := w.ownsRow base 34 2 v L.length (cellsQ L)
theorem OwnP.nil (w : World) (base : Nat) : OwnP w base (.slice none 0 0) [] := World.ownsRow_nil _ _ _ _
theorem OwnP.call {w w' : World} {base : Nat} {v : Value} {L : List PairV} (h : OwnP w base v L) (hb : Below w.heap.size w w') : OwnP w' base v L :=
  World.ownsRow.kept (row := none) h ⟨hb.os, hb.tape, hb.output, hb.size, fun i hi _ => hb.block i hi⟩ (by cases v.ownBlock <;> simp)
theorem OwnP.other {w w' : World} {base : Nat} {v : Value} {L : List PairV} {r : Option Nat} (h : OwnP w base v L) (hg : w.grownBy w' r) (hne : v.ownBlock = none ∨ v.ownBlock ≠ r) : OwnP w' base v L := World.ownsRow.kept h hg hne
theorem OwnP.pairs {w : World} {base : Nat} {v : Value} {L : List PairV} (h : OwnP w base v L) (hok : ∀ p, p ∈ L → okP p) : ∃ A cap, v = .slice A L.length cap ∧ Pairs w A L := own_pairs h hok
theorem OwnP.lt {w : World} {base : Nat} {v : Value} {L : List PairV} (h : OwnP w base v L) : ∀ k, v.ownBlock = some k → base ≤ k ∧ k < w.heap.size := World.ownsRow.lt h
theorem OwnP.form {w : World} {base : Nat} {v : Value} {L : List PairV} (h : OwnP w base v L) : ∃ A cap, v = .slice A L.length cap := by
  have h' : w.ownsRow base 34 2 v L.length (cellsQ L) := h
  rcases h'.2 with ⟨rfl, h0⟩ | ⟨g, cap, cur, rfl, _⟩
  · exact ⟨none, 0, by rw [h0]⟩
  · exact ⟨_, _, rfl⟩
/-- Appending one pair, that lies in a block of its own, to such a row. -/
theorem wpList_append_pair {w : World} {ops : Array Oper} {rest : List Oper} {o : Oper} {a : Act} {Q : Exit → Act → World → Prop} (hgd : o.guard = none) (s x : Operand)
    (ho : o.op = .call { callee := .builtin .append, args := #[s, x], argTypes := #[22, 22] })
    (base : Nat) (v : Value) (L : List PairV) (g : Nat) (p : PairV) (hs : a.eval s = v) (hown : OwnP w base v L)
    (hx : a.eval x = .slice (some ⟨g, 0, none⟩) 1 1) (h0 : w.cell? ⟨g, 0, none⟩ = some (.int .i64 p.1)) (h1 : w.cell? ⟨g, 1, none⟩ = some (.int .u64 p.2)) (hn : L.length ≤ 100000) (hbase : base ≤ w.heap.size)
    (h : ∀ v' w', OwnP w' base v' (L ++ [p]) → w.grownBy w' v.ownBlock → wpList Try.prog ops Q rest (a.put o.dst v') w') : wpList Try.prog ops Q (o :: rest) a w := by
  obtain ⟨i0, hi, hz0, hz1, hz2⟩ := info_parts Try.infoPair
  refine wpList_append_own w hgd s x _ ho base _ i0 _ 2 16 Try.underlying22 hi hz0 hz1 hz2 rfl (by decide) v L.length (cellsQ L) hs hown ⟨g, 0, none⟩ 1 1 (cellsQ [p]) hx (cellsQ_len [p]) ?_ (cellsQ_one [p])
      (by unfold maxLen; omega) (by omega) hbase (fun v' w' h1 h2 _ => h v' w' ?_ h2)
  · intro j u hu
    rw [cellsQ_one'] at hu
    rw [add_flat]
    match j, hu with
    | 0, hu => simp at hu; subst hu; exact h0
    | 1, hu => simp at hu; subst hu; exact h1
  · unfold OwnP
    rw [cellsQ_app, List.length_append]
    exact h1
end Go.Proofs.Ytoegjncccahmlaa
