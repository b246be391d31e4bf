/-
  Rows of values of the call's own.
-/
import Derived.Test.YthjcdbnjmpjikaaGreatK4
import Derived.Lib.AppendZerosOnto
import Derived.Laws.OwnMore
namespace Go.Proofs.YthjcdbnjmpjikaaGreat
set_option linter.unusedVariables false
set_option linter.unusedSimpArgs false
set_option maxRecDepth 100000
open Go.RowKit

theorem own_valsD {w : World} {base : Nat} {v : Value} {L : List PairV} (h : w.ownsRow base 44 2 v L.length (cellsQ L)) (hok : ∀ p, p ∈ L → okP p) :
    ∃ A cap, v = .slice A L.length cap ∧ Pairs w A L := by
  have hh := h
  rcases h.2 with ⟨rfl, h0⟩ | ⟨g, cap, cur, rfl, _, hg, _⟩
  · have e : L = [] := List.eq_nil_of_length_eq_zero h0
    subst e
    exact ⟨none, 0, rfl, hok, fun i p hi => by simp at hi⟩
  · refine ⟨some ⟨g, 0, none⟩, cap, rfl, hok, fun i p hi => ?_⟩
    have hc := hh.cells (g := g) rfl
    obtain ⟨c0, c1⟩ := cellsQ_at L i p hi
    refine ⟨g, 0, rfl, lt_of_block hg, ?_, ?_⟩
    · rw [← add_flat]; exact hc _ _ c0
    · rw [Nat.add_assoc, ← add_flat]; exact hc _ _ c1
theorem Tryz.infoValD : (Tryz.prog.info? 44).map (fun i => (i.zero, i.size, i.bytes)) = some (some (.agg #[.int .i64 0, .int .u64 0]), 2, 16) := by kernel_rfl
def OwnVD (w : World) (base : Nat) (v : Value) (L : List PairV) : Prop := w.ownsRow base 44 2 v L.length (cellsQ L)
theorem OwnVD.nil (w : World) (base : Nat) : OwnVD w base (.slice none 0 0) [] := World.ownsRow_nil _ _ _ _
theorem OwnVD.call {w w' : World} {base : Nat} {v : Value} {L : List PairV} (h : OwnVD w base v L) (hb : Below w.heap.size w w') : OwnVD w' base v L :=
  World.ownsRow.kept (row := none) h ⟨hb.os, hb.tape, hb.output, hb.size, fun i hi _ => hb.block i hi⟩ (by cases v.ownBlock <;> simp)
theorem OwnVD.pairs {w : World} {base : Nat} {v : Value} {L : List PairV} (h : OwnVD w base v L) (hok : ∀ p, p ∈ L → okP p) : ∃ A cap, v = .slice A L.length cap ∧ Pairs w A L := own_valsD h hok
theorem OwnVD.lt {w : World} {base : Nat} {v : Value} {L : List PairV} (h : OwnVD w base v L) : ∀ k, v.ownBlock = some k → base ≤ k ∧ k < w.heap.size := World.ownsRow.lt h

theorem OwnVD.form {w : World} {base : Nat} {v : Value} {L : List PairV} (h : OwnVD w base v L) : ∃ A cap, v = .slice A L.length cap := by
  have h' : w.ownsRow base 44 2 v L.length (cellsQ L) := h
  rcases h'.2 with ⟨rfl, h0⟩ | ⟨g, cap, cur, rfl, _⟩
  · exact ⟨none, 0, by rw [h0]⟩
  · exact ⟨_, _, rfl⟩
/-- Appending a whole row of pairs, a nil one too, to one of the call's own. -/
theorem wpList_append_valsD {w : World} {ops : Array Oper} {rest : List Oper} {o : Oper} {a : Act} {Q : Exit → Act → World → Prop} (hgd : o.guard = none) (s x : Operand)
    (ho : o.op = .call { callee := .builtin .append, args := #[s, x], argTypes := #[24, 24] })
    (base : Nat) (v : Value) (M : List PairV) (A : Option Addr) (cap : Nat) (L : List PairV) (hs : a.eval s = v) (hown : OwnVD w base v M)
    (hx : a.eval x = .slice A L.length cap) (hsrc : Pairs w A L) (hn : M.length + L.length ≤ 100000) (hbase : base ≤ w.heap.size)
    (h : ∀ v' w', OwnVD w' base v' (M ++ L) → w.grownBy w' v.ownBlock → wpList Tryz.prog ops Q rest (a.put o.dst v') w') : wpList Tryz.prog ops Q (o :: rest) a w := by
  obtain ⟨i0, hi, hz0, hz1, hz2⟩ := info_parts Tryz.infoValD
  by_cases hL : L = []
  · subst hL
    have hx' : a.eval x = .slice A 0 cap := hx
    have hrun : (Builtin.append_ #[24, 24] o.type #[v, .slice A 0 cap]).run Tryz.prog w = .ok v w := by
      have hl : ∀ (b : Option Addr) (n c : Nat), (Builtin.firstCells 2 0 (.slice A 0 cap)).run Tryz.prog w = .ok #[] w := by
        intro b n c
        cases A with
        | none => exact run_firstCells_none w 2 0 0 cap
        | some ad => exact run_firstCells_some w 2 0 ad 0 cap [] rfl (fun j v hj => by simp at hj)
      rcases hown.2 with ⟨rfl, h0⟩ | ⟨g, c2, cur, rfl, _, _, hnc, _⟩
      · rw [show (0 : Nat) = 0 from rfl] at *
        simp [Builtin.append_, run_underlying Tryz.underlying24, sizeOf, typeInfo, hi, hz1, Builtin.lenOf, hl none 0 0]
      · simp [Builtin.append_, run_underlying Tryz.underlying24, sizeOf, typeInfo, hi, hz1, Builtin.lenOf, hnc, storeCells, hl none 0 0]
    refine wpList_plain hgd fun K hK => ?_
    unfold Oper.wp
    simp [execOp, ho, resolve, invoke, builtin, hs, hx', hrun, Result.andThen]
    exact hK _ _ (h v w (by rw [List.append_nil]; exact hown) (World.grownBy.refl _ _))
  · obtain ⟨p, hp⟩ : ∃ p, L[0]? = some p := by
      cases L with
      | nil => exact absurd rfl hL
      | cons p r => exact ⟨p, rfl⟩
    obtain ⟨b, off, rfl, _, _, _⟩ := hsrc.at_ 0 p hp
    refine wpList_append_own w hgd s x _ ho base _ i0 _ 2 16 Tryz.underlying24 hi hz0 hz1 hz2 rfl (by decide) v M.length (cellsQ M) hs hown ⟨b, off, none⟩ L.length cap (cellsQ L) hx (cellsQ_len L) ?_ (cellsQ_one L)
      (by unfold maxLen; omega) (by omega) hbase (fun v' w' h1 h2 _ => h v' w' ?_ h2)
    · intro j u hu
      rw [add_flat]
      have hj : j < L.length * 2 := by
        rcases Nat.lt_or_ge j (L.length * 2) with h1 | h1
        · exact h1
        · rw [List.getElem?_eq_none (by rw [cellsQ_len]; exact h1)] at hu; cases hu
      have hq := List.getElem?_eq_getElem (l := L) (i := j / 2) (by omega)
      obtain ⟨b', off', e, _, c0, c1⟩ := hsrc.at_ (j / 2) _ hq
      obtain ⟨rfl, rfl⟩ : b = b' ∧ off = off' := by
        have := Option.some.inj e
        exact ⟨(Addr.mk.inj this).1, (Addr.mk.inj this).2.1⟩
      obtain ⟨q0, q1⟩ := cellsQ_at L (j / 2) _ hq
      rcases Nat.mod_two_eq_zero_or_one j with h2 | h2
      · have e1 : j / 2 * 2 = j := by omega
        rw [e1] at q0 c0; rw [q0] at hu; rw [c0, ← Option.some.inj hu]
      · have e1 : j / 2 * 2 + 1 = j := by omega
        rw [Nat.add_assoc, e1] at c1; rw [e1] at q1; rw [q1] at hu; rw [c1, ← Option.some.inj hu]
    · unfold OwnVD
      rw [cellsQ_app, List.length_append]
      exact h1


theorem OwnVD.below {a w w' : World} {base : Nat} {v : Value} {L : List PairV} (h : OwnVD w base v L) (hb : Below base a w) (hg : w.grownBy w' v.ownBlock) (hs : base ≤ w.heap.size) : Below base a w' := hb.grown hg hs (fun k hk => (h.lt k hk).1)

theorem OwnVD.lies {w : World} {base n cap : Nat} {a : Option Addr} {L : List PairV} (h : OwnVD w base (.slice a n cap) L) : ∀ (i : Nat) (p : PairV), L[i]? = some p → ∃ b off, a = some ⟨b, off, none⟩ ∧ base ≤ b := by
  intro i p hi
  have h' : w.ownsRow base 44 2 (.slice a n cap) L.length (cellsQ L) := h
  rcases h'.2 with ⟨_, h0⟩ | ⟨g, cap, cur, e, hb, _⟩
  · have : L = [] := List.eq_nil_of_length_eq_zero h0
    rw [this] at hi; simp at hi
  · injection e with e1 e2 e3
    exact ⟨g, 0, e1, hb⟩
theorem OwnVD.row {w : World} {base n cap : Nat} {a : Option Addr} {L : List PairV} (h : OwnVD w base (.slice a n cap) L) (hok : ∀ p, p ∈ L → okP p) : Pairs w a L := by
  obtain ⟨a', c', e, hP⟩ := h.pairs hok
  injection e with e1 e2 e3
  rw [e1]; exact hP
end Go.Proofs.YthjcdbnjmpjikaaGreat
