/-
  Rows of tuples and of spots in memory: read; of the call's own; appended to.
-/
import Derived.Test.YtecnlpkfcggimaaTupN
import Derived.Test.YtecnlpkfcggimaaThree
import Derived.Test.YtecnlpkfcggimaaRows
import Derived.WalkKit
import Derived.WalkSpells
import Derived.WalkLawsBesides
import Derived.WalkMore
import Derived.LoopTactic
import Derived.OwnWalk
import Derived.OneCell
import Derived.Outline
import Derived.Lib.Strings
import Derived.Deep.Slices
import Derived.Deep.Fields
import Derived.SizedLaws
import Derived.Carry
import Derived.Laws.AppendOwnNone
import Derived.Test.YtecnlpkfcggimaaSignA
import Derived.StillTailTactics
import Derived.Deep.QuietTactic
import Derived.BigQuiet
import Derived.Lib.AppendZerosOnto
import Derived.Laws.OwnMore
import Derived.Deep.AppendLies
import Derived.Deep.Onto
namespace Go.Proofs.Ytecnlpkfcggimaa
set_option linter.unusedVariables false
set_option linter.unusedSimpArgs false
set_option maxRecDepth 100000
open Go.RowKit

theorem flat3 (b off j : Nat) : (⟨b, off, none⟩ : Addr).add j = ⟨b, off + j, none⟩ := by unfold Addr.add; split <;> simp_all
theorem below_drewT {B : Nat} {a w : World} (h : Below B a w) (n : Nat) : Below B a (w.drewN n) := by
  induction n with
  | zero => exact h
  | succ n ih => exact ih.drew
def okTu (p : TupV) : Prop := I64 p.x ∧ (0 ≤ p.st ∧ p.st < 18446744073709551616) ∧ 0 ≤ p.sl ∧ p.sl < 18446744073709551616
def okSp (p : SpotV) : Prop := I64 p.x ∧ (0 ≤ p.lo ∧ p.lo < 18446744073709551616) ∧ 0 ≤ p.hi ∧ p.hi < 18446744073709551616

/-- A row of tuples in memory. -/
structure Tups (w : World) (A : Option Addr) (L : List TupV) : Prop where
  ok : ∀ p, p ∈ L → okTu p
  at_ : ∀ (i : Nat) (p : TupV), L[i]? = some p → ∃ b off, A = some ⟨b, off, none⟩ ∧ b < w.heap.size ∧ w.cell? ⟨b, off + i * 3, none⟩ = some (.int .i64 p.x) ∧ w.cell? ⟨b, off + i * 3 + 1, none⟩ = some (.int .u64 p.st) ∧ w.cell? ⟨b, off + i * 3 + 2, none⟩ = some (.int .u64 p.sl)
theorem Tups.call {w w' : World} {A : Option Addr} {L : List TupV} (h : Tups w A L) (hb : Below w.heap.size w w') : Tups w' A L :=
  ⟨h.ok, fun i it hi => by
    obtain ⟨b, off, hA, hlt, c0, c1, c2⟩ := h.at_ i it hi
    exact ⟨b, off, hA, Nat.lt_of_lt_of_le hlt hb.size, cell_later hb c0, cell_later hb c1, cell_later hb c2⟩⟩
theorem Tups.nil (w : World) (A : Option Addr) : Tups w A [] := ⟨fun p h => (by cases h), fun i p h => by simp at h⟩
/-- A row's cells. -/
def cellsTu1 (p : TupV) : List Value := [.int .i64 p.x, .int .u64 p.st, .int .u64 p.sl]
def cellsTu (L : List TupV) : List Value := L.flatMap cellsTu1
theorem cellsTu_cons (p : TupV) (r : List TupV) : cellsTu (p :: r) = cellsTu1 p ++ cellsTu r := by unfold cellsTu; rw [List.flatMap_cons]
theorem cellsTu_app (a b : List TupV) : cellsTu (a ++ b) = cellsTu a ++ cellsTu b := by unfold cellsTu; rw [List.flatMap_append]
theorem cellsTu_one' (p : TupV) : cellsTu [p] = [.int .i64 p.x, .int .u64 p.st, .int .u64 p.sl] := by unfold cellsTu cellsTu1; simp
theorem cellsTu_len (L : List TupV) : (cellsTu L).length = L.length * 3 := by
  induction L with
  | nil => rfl
  | cons p r ih => rw [cellsTu_cons, List.length_append, ih, List.length_cons]; simp [cellsTu1]; omega
theorem cellsTu_one (L : List TupV) : ∀ u ∈ cellsTu L, u.oneCell' = true := by
  intro u hu
  unfold cellsTu at hu
  obtain ⟨p, _, h⟩ := List.mem_flatMap.1 hu
  simp only [cellsTu1, List.mem_cons, List.not_mem_nil, or_false] at h
  rcases h with rfl | rfl | rfl <;> rfl
theorem cellsTu_at : ∀ (L : List TupV) (i : Nat) (p : TupV), L[i]? = some p → (cellsTu L)[i * 3]? = some (.int .i64 p.x) ∧ (cellsTu L)[i * 3 + 1]? = some (.int .u64 p.st) ∧ (cellsTu L)[i * 3 + 2]? = some (.int .u64 p.sl) := by
  intro L
  induction L with
  | nil => intro i p h; simp at h
  | cons q r ih =>
    intro i p h
    rw [cellsTu_cons]
    cases i with
    | zero => simp at h; subst h; simp [cellsTu1]
    | succ i =>
      have hr := ih i p (by simpa using h)
      have e : ∀ j, (cellsTu1 q ++ cellsTu r)[(i + 1) * 3 + j]? = (cellsTu r)[i * 3 + j]? := by
        intro j
        rw [List.getElem?_append_right (by simp [cellsTu1]; omega)]
        congr 1
        simp [cellsTu1]; omega
      exact ⟨(e 0).trans hr.1, (e 1).trans hr.2.1, (e 2).trans hr.2.2⟩
theorem Tups.cell {w : World} {b off : Nat} {L : List TupV} (h : Tups w (some ⟨b, off, none⟩) L) : ∀ (j : Nat) (u : Value), (cellsTu L)[j]? = some u → w.cell? ⟨b, off + j, none⟩ = some u := by
  intro j u hu
  have hj : j < L.length * 3 := by
    rcases Nat.lt_or_ge j (L.length * 3) with h1 | h1
    · exact h1
    · rw [List.getElem?_eq_none (by rw [cellsTu_len]; exact h1)] at hu; cases hu
  have hq := List.getElem?_eq_getElem (l := L) (i := j / 3) (by omega)
  obtain ⟨b', off', e, _, c0, c1, c2⟩ := h.at_ (j / 3) _ hq
  obtain ⟨rfl, rfl⟩ : b = b' ∧ off = off' := by
    have := Option.some.inj e
    exact ⟨(Addr.mk.inj this).1, (Addr.mk.inj this).2.1⟩
  obtain ⟨q0, q1, q2⟩ := cellsTu_at L (j / 3) _ hq
  have h3 : j % 3 = 0 ∨ j % 3 = 1 ∨ j % 3 = 2 := by omega
  rcases h3 with h2 | h2 | h2
  · have e1 : j / 3 * 3 = j := by omega
    rw [e1] at q0 c0; rw [q0] at hu; rw [c0, ← Option.some.inj hu]
  · have e1 : j / 3 * 3 + 1 = j := by omega
    rw [Nat.add_assoc, e1] at c1; rw [e1] at q1; rw [q1] at hu; rw [c1, ← Option.some.inj hu]
  · have e1 : j / 3 * 3 + 2 = j := by omega
    rw [Nat.add_assoc, e1] at c2; rw [e1] at q2; rw [q2] at hu; rw [c2, ← Option.some.inj hu]
theorem Tups.take {w : World} {A : Option Addr} {L : List TupV} (h : Tups w A L) (k : Nat) : Tups w A (L.take k) :=
  ⟨fun p hp => h.ok p (List.mem_of_mem_take hp), fun i p hi => by
    have : L[i]? = some p := by
      rw [List.getElem?_take] at hi
      split at hi
      · exact hi
      · cases hi
    exact h.at_ i p this⟩
theorem Tups.drop {w : World} {b off : Nat} {L : List TupV} (h : Tups w (some ⟨b, off, none⟩) L) (k : Nat) : Tups w (some ⟨b, off + k * 3, none⟩) (L.drop k) :=
  ⟨fun p hp => h.ok p (List.mem_of_mem_drop hp), fun i p hi => by
    rw [List.getElem?_drop] at hi
    obtain ⟨b', off', e, hlt, c0, c1, c2⟩ := h.at_ (k + i) p hi
    obtain ⟨rfl, rfl⟩ : b = b' ∧ off = off' := by
      have := Option.some.inj e
      exact ⟨(Addr.mk.inj this).1, (Addr.mk.inj this).2.1⟩
    have e2 : off + (k + i) * 3 = off + k * 3 + i * 3 := by omega
    rw [e2] at c0 c1 c2
    exact ⟨b, _, rfl, hlt, c0, c1, c2⟩⟩

/-- A row of spots in memory. -/
structure Spts (w : World) (A : Option Addr) (L : List SpotV) : Prop where
  ok : ∀ p, p ∈ L → okSp p
  at_ : ∀ (i : Nat) (p : SpotV), L[i]? = some p → ∃ b off, A = some ⟨b, off, none⟩ ∧ b < w.heap.size ∧ w.cell? ⟨b, off + i * 3, none⟩ = some (.int .i64 p.x) ∧ w.cell? ⟨b, off + i * 3 + 1, none⟩ = some (.int .u64 p.lo) ∧ w.cell? ⟨b, off + i * 3 + 2, none⟩ = some (.int .u64 p.hi)
theorem Spts.call {w w' : World} {A : Option Addr} {L : List SpotV} (h : Spts w A L) (hb : Below w.heap.size w w') : Spts w' A L :=
  ⟨h.ok, fun i it hi => by
    obtain ⟨b, off, hA, hlt, c0, c1, c2⟩ := h.at_ i it hi
    exact ⟨b, off, hA, Nat.lt_of_lt_of_le hlt hb.size, cell_later hb c0, cell_later hb c1, cell_later hb c2⟩⟩
theorem Spts.nil (w : World) (A : Option Addr) : Spts w A [] := ⟨fun p h => (by cases h), fun i p h => by simp at h⟩
/-- A row's cells. -/
def cellsSp1 (p : SpotV) : List Value := [.int .i64 p.x, .int .u64 p.lo, .int .u64 p.hi]
def cellsSp (L : List SpotV) : List Value := L.flatMap cellsSp1
theorem cellsSp_cons (p : SpotV) (r : List SpotV) : cellsSp (p :: r) = cellsSp1 p ++ cellsSp r := by unfold cellsSp; rw [List.flatMap_cons]
theorem cellsSp_app (a b : List SpotV) : cellsSp (a ++ b) = cellsSp a ++ cellsSp b := by unfold cellsSp; rw [List.flatMap_append]
theorem cellsSp_one' (p : SpotV) : cellsSp [p] = [.int .i64 p.x, .int .u64 p.lo, .int .u64 p.hi] := by unfold cellsSp cellsSp1; simp
theorem cellsSp_len (L : List SpotV) : (cellsSp L).length = L.length * 3 := by
  induction L with
  | nil => rfl
  | cons p r ih => rw [cellsSp_cons, List.length_append, ih, List.length_cons]; simp [cellsSp1]; omega
theorem cellsSp_one (L : List SpotV) : ∀ u ∈ cellsSp L, u.oneCell' = true := by
  intro u hu
  unfold cellsSp at hu
  obtain ⟨p, _, h⟩ := List.mem_flatMap.1 hu
  simp only [cellsSp1, List.mem_cons, List.not_mem_nil, or_false] at h
  rcases h with rfl | rfl | rfl <;> rfl
theorem cellsSp_at : ∀ (L : List SpotV) (i : Nat) (p : SpotV), L[i]? = some p → (cellsSp L)[i * 3]? = some (.int .i64 p.x) ∧ (cellsSp L)[i * 3 + 1]? = some (.int .u64 p.lo) ∧ (cellsSp L)[i * 3 + 2]? = some (.int .u64 p.hi) := by
  intro L
  induction L with
  | nil => intro i p h; simp at h
  | cons q r ih =>
    intro i p h
    rw [cellsSp_cons]
    cases i with
    | zero => simp at h; subst h; simp [cellsSp1]
    | succ i =>
      have hr := ih i p (by simpa using h)
      have e : ∀ j, (cellsSp1 q ++ cellsSp r)[(i + 1) * 3 + j]? = (cellsSp r)[i * 3 + j]? := by
        intro j
        rw [List.getElem?_append_right (by simp [cellsSp1]; omega)]
        congr 1
        simp [cellsSp1]; omega
      exact ⟨(e 0).trans hr.1, (e 1).trans hr.2.1, (e 2).trans hr.2.2⟩
theorem Spts.cell {w : World} {b off : Nat} {L : List SpotV} (h : Spts w (some ⟨b, off, none⟩) L) : ∀ (j : Nat) (u : Value), (cellsSp L)[j]? = some u → w.cell? ⟨b, off + j, none⟩ = some u := by
  intro j u hu
  have hj : j < L.length * 3 := by
    rcases Nat.lt_or_ge j (L.length * 3) with h1 | h1
    · exact h1
    · rw [List.getElem?_eq_none (by rw [cellsSp_len]; exact h1)] at hu; cases hu
  have hq := List.getElem?_eq_getElem (l := L) (i := j / 3) (by omega)
  obtain ⟨b', off', e, _, c0, c1, c2⟩ := h.at_ (j / 3) _ hq
  obtain ⟨rfl, rfl⟩ : b = b' ∧ off = off' := by
    have := Option.some.inj e
    exact ⟨(Addr.mk.inj this).1, (Addr.mk.inj this).2.1⟩
  obtain ⟨q0, q1, q2⟩ := cellsSp_at L (j / 3) _ hq
  have h3 : j % 3 = 0 ∨ j % 3 = 1 ∨ j % 3 = 2 := by omega
  rcases h3 with h2 | h2 | h2
  · have e1 : j / 3 * 3 = j := by omega
    rw [e1] at q0 c0; rw [q0] at hu; rw [c0, ← Option.some.inj hu]
  · have e1 : j / 3 * 3 + 1 = j := by omega
    rw [Nat.add_assoc, e1] at c1; rw [e1] at q1; rw [q1] at hu; rw [c1, ← Option.some.inj hu]
  · have e1 : j / 3 * 3 + 2 = j := by omega
    rw [Nat.add_assoc, e1] at c2; rw [e1] at q2; rw [q2] at hu; rw [c2, ← Option.some.inj hu]
theorem Spts.take {w : World} {A : Option Addr} {L : List SpotV} (h : Spts w A L) (k : Nat) : Spts w A (L.take k) :=
  ⟨fun p hp => h.ok p (List.mem_of_mem_take hp), fun i p hi => by
    have : L[i]? = some p := by
      rw [List.getElem?_take] at hi
      split at hi
      · exact hi
      · cases hi
    exact h.at_ i p this⟩
theorem Spts.drop {w : World} {b off : Nat} {L : List SpotV} (h : Spts w (some ⟨b, off, none⟩) L) (k : Nat) : Spts w (some ⟨b, off + k * 3, none⟩) (L.drop k) :=
  ⟨fun p hp => h.ok p (List.mem_of_mem_drop hp), fun i p hi => by
    rw [List.getElem?_drop] at hi
    obtain ⟨b', off', e, hlt, c0, c1, c2⟩ := h.at_ (k + i) p hi
    obtain ⟨rfl, rfl⟩ : b = b' ∧ off = off' := by
      have := Option.some.inj e
      exact ⟨(Addr.mk.inj this).1, (Addr.mk.inj this).2.1⟩
    have e2 : off + (k + i) * 3 = off + k * 3 + i * 3 := by omega
    rw [e2] at c0 c1 c2
    exact ⟨b, _, rfl, hlt, c0, c1, c2⟩⟩

/-! ### Rows of whole numbers of the call's own -/
def intsL (L : List Int) : List Value := L.map (Value.int .i64)
theorem Try.infoInt18 : (Try.prog.info? 2).map (fun i => (i.zero, i.size, i.bytes)) = some (some (.int .i64 0), 1, 8) := by kernel_rfl

def OwnN (w : World) (base : Nat) (v : Value) (L : List Int) : Prop := w.ownsRow base 2 1 v L.length (intsL L)
theorem OwnN.nil (w : World) (base : Nat) : OwnN w base (.slice none 0 0) [] := World.ownsRow_nil _ _ _ _
theorem OwnN.call {w w' : World} {base : Nat} {v : Value} {L : List Int} (h : OwnN w base v L) (hb : Below w.heap.size w w') : OwnN w' base v L :=
  World.ownsRow.kept (row := none) h ⟨hb.os, hb.tape, hb.output, hb.size, fun i hi _ => hb.block i hi⟩ (by cases v.ownBlock <;> simp)
theorem OwnN.other {w w' : World} {base : Nat} {v : Value} {L : List Int} {r : Option Nat} (h : OwnN w base v L) (hg : w.grownBy w' r) (hne : v.ownBlock = none ∨ v.ownBlock ≠ r) : OwnN w' base v L := World.ownsRow.kept h hg hne
theorem OwnN.lt {w : World} {base : Nat} {v : Value} {L : List Int} (h : OwnN w base v L) : ∀ k, v.ownBlock = some k → base ≤ k ∧ k < w.heap.size := World.ownsRow.lt h
theorem OwnN.mono {w : World} {base base' : Nat} {v : Value} {L : List Int} (h : OwnN w base v L) (hb : base' ≤ base) : OwnN w base' v L := World.ownsRow.mono h hb
theorem OwnN.form {w : World} {base : Nat} {v : Value} {L : List Int} (h : OwnN w base v L) : ∃ A cap, v = .slice A L.length cap := by
  have h' : w.ownsRow base 2 1 v L.length (intsL L) := h
  rcases h'.2 with ⟨rfl, h0⟩ | ⟨g, cap, cur, rfl, _⟩
  · exact ⟨none, 0, by rw [h0]⟩
  · exact ⟨_, _, rfl⟩
theorem OwnN.below {a w w' : World} {base : Nat} {v : Value} {L : List Int} (h : OwnN w base v L) (hb : Below base a w) (hg : w.grownBy w' v.ownBlock) (hs : base ≤ w.heap.size) : Below base a w' := hb.grown hg hs (fun k hk => (h.lt k hk).1)
/-- A row of whole numbers in memory. -/
structure Nums (w : World) (A : Option Addr) (L : List Int) : Prop where
  ok : ∀ p, p ∈ L → I64 p
  at_ : ∀ (i : Nat) (p : Int), L[i]? = some p → ∃ b off, A = some ⟨b, off, none⟩ ∧ b < w.heap.size ∧ w.cell? ⟨b, off + i, none⟩ = some (.int .i64 p)
theorem Nums.call {w w' : World} {A : Option Addr} {L : List Int} (h : Nums w A L) (hb : Below w.heap.size w w') : Nums w' A L :=
  ⟨h.ok, fun i it hi => by
    obtain ⟨b, off, hA, hlt, c0⟩ := h.at_ i it hi
    exact ⟨b, off, hA, Nat.lt_of_lt_of_le hlt hb.size, cell_later hb c0⟩⟩

theorem OwnN.rows {w : World} {base : Nat} {v : Value} {L : List Int} (h : OwnN w base v L) (hok : ∀ p, p ∈ L → I64 p) : ∃ A cap, v = .slice A L.length cap ∧ Nums w A L := by
  have h' : w.ownsRow base 2 1 v L.length (intsL L) := h
  have hh := h'
  rcases h'.2 with ⟨rfl, h0⟩ | ⟨g, cap, cur, rfl, _, hg, _⟩
  · have e : L = [] := List.eq_nil_of_length_eq_zero h0
    subst e
    exact ⟨none, 0, rfl, hok, fun i p hi => by simp at hi⟩
  · refine ⟨some ⟨g, 0, none⟩, cap, rfl, hok, fun i p hi => ?_⟩
    have hc := hh.cells (g := g) rfl i (.int .i64 p) (by unfold intsL; rw [List.getElem?_map, hi]; rfl)
    refine ⟨g, 0, rfl, lt_of_block hg, ?_⟩
    rw [← flat3]; exact hc
theorem wpList_append_num {w : World} {ops : Array Oper} {rest : List Oper} {o : Oper} {a : Act} {Q : Exit → Act → World → Prop} (hgd : o.guard = none) (s x : Operand)
    (ho : o.op = .call { callee := .builtin .append, args := #[s, x], argTypes := #[31, 31] })
    (base : Nat) (v : Value) (L : List Int) (n : Nat) (hln : L.length = n) (g : Nat) (p : Int) (hs : a.eval s = v) (hown : OwnN w base v L)
    (hx : a.eval x = .slice (some ⟨g, 0, none⟩) 1 1) (h0 : w.cell? ⟨g, 0, none⟩ = some (.int .i64 p)) (hn : n ≤ 100000) (hbase : base ≤ w.heap.size)
    (h : ∀ g' cap w', OwnN w' base (.slice (some ⟨g', 0, none⟩) (n + 1) cap) (L ++ [p]) → w.grownBy w' v.ownBlock → (v.ownBlock = some g' ∨ g' = w.heap.size) → wpList Try.prog ops Q rest (a.put o.dst (.slice (some ⟨g', 0, none⟩) (n + 1) cap)) w') : wpList Try.prog ops Q (o :: rest) a w := by
  subst hln
  obtain ⟨i0, hi, hz0, hz1, hz2⟩ := info_parts Try.infoInt18
  refine wpList_append_lies w hgd s x _ ho base _ i0 _ 1 8 Try.underlying31 hi hz0 hz1 hz2 rfl (by decide) v L.length (intsL L) hs hown ⟨g, 0, none⟩ 1 1 (intsL [p]) hx rfl ?_ ?_
      (by decide) (by unfold maxLen; omega) (by omega) hbase _ rfl (fun g' cap w' h1 h2 h3 _ => h g' cap w' ?_ h2 h3)
  · intro j u hu
    rw [flat3]
    match j, hu with
    | 0, hu => simp [intsL] at hu; subst hu; exact h0
  · intro u hu; simp [intsL] at hu; subst hu; rfl
  · unfold OwnN
    rw [show intsL (L ++ [p]) = intsL L ++ intsL [p] by unfold intsL; rw [List.map_append], List.length_append]
    exact h1

end Go.Proofs.Ytecnlpkfcggimaa
