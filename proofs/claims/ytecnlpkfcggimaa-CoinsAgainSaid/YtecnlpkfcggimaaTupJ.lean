/-
  Appending a whole row of whole numbers to one of the call's own.
-/
import Derived.Test.YtecnlpkfcggimaaTupA
namespace Go.Proofs.Ytecnlpkfcggimaa
set_option linter.unusedVariables false
set_option linter.unusedSimpArgs false
set_option maxRecDepth 100000
open Go.RowKit

/-- Appending a whole row, a nil one too, to one of the call's own. -/
theorem wpList_append_nums {w : World} {ops : Array Oper} {rest : List Oper} {o : Oper} {a : Act} {Q : Exit → Act → World → Prop} (hgd : o.guard = none) (s x : Operand)
    (ho : o.op = .call { callee := .builtin .append, args := #[s, x], argTypes := #[31, 31] })
    (base : Nat) (v : Value) (M : List Int) (A : Option Addr) (cap : Nat) (L : List Int) (hs : a.eval s = v) (hown : OwnN w base v M)
    (hx : a.eval x = .slice A L.length cap) (hsrc : Nums w A L) (hn : M.length + L.length ≤ 100000) (hbase : base ≤ w.heap.size)
    (h : ∀ v' w', OwnN w' base v' (M ++ L) → w.grownBy w' v.ownBlock → wpList Try.prog ops Q rest (a.put o.dst v') w') : wpList Try.prog ops Q (o :: rest) a w := by
  obtain ⟨i0, hi, hz0, hz1, hz2⟩ := info_parts Try.infoInt18
  by_cases hL : L = []
  · subst hL
    have hx' : a.eval x = .slice A 0 cap := hx
    have hrun : (Builtin.append_ #[31, 31] o.type #[v, .slice A 0 cap]).run Try.prog w = .ok v w := by
      have hl : ∀ (b : Option Addr) (n c : Nat), (Builtin.firstCells 1 0 (.slice A 0 cap)).run Try.prog w = .ok #[] w := by
        intro b n c
        cases A with
        | none => exact run_firstCells_none w 1 0 0 cap
        | some ad => exact run_firstCells_some w 1 0 ad 0 cap [] rfl (fun j v hj => by simp at hj)
      rcases hown.2 with ⟨rfl, h0⟩ | ⟨g, c2, cur, rfl, _, _, hnc, _⟩
      · rw [show (0 : Nat) = 0 from rfl] at *
        simp [Builtin.append_, run_underlying Try.underlying31, sizeOf, typeInfo, hi, hz1, Builtin.lenOf, hl none 0 0]
      · simp [Builtin.append_, run_underlying Try.underlying31, sizeOf, typeInfo, hi, hz1, Builtin.lenOf, hnc, storeCells, hl none 0 0]
    refine wpList_plain hgd fun K hK => ?_
    unfold Oper.wp
    simp [execOp, ho, resolve, invoke, builtin, hs, hx', hrun, Result.andThen]
    exact hK _ _ (h v w (by rw [List.append_nil]; exact hown) (World.grownBy.refl _ _))
  · obtain ⟨p, hp⟩ : ∃ p, L[0]? = some p := by
      cases L with
      | nil => exact absurd rfl hL
      | cons p r => exact ⟨p, rfl⟩
    obtain ⟨b, off, rfl, _, _⟩ := hsrc.at_ 0 p hp
    refine wpList_append_own w hgd s x _ ho base _ i0 _ 1 8 Try.underlying31 hi hz0 hz1 hz2 rfl (by decide) v M.length (intsL M) hs hown ⟨b, off, none⟩ L.length cap (intsL L) hx (by unfold intsL; rw [List.length_map, Nat.mul_one]) ?_ (fun u hu => by
        unfold intsL at hu
        obtain ⟨z, _, rfl⟩ := List.mem_map.1 hu
        rfl)
      (by unfold maxLen; omega) (by omega) hbase (fun v' w' h1 h2 _ => h v' w' ?_ h2)
    · intro j u hu
      rw [flat3]
      unfold intsL at hu
      rw [List.getElem?_map] at hu
      cases hL2 : L[j]? with
      | none => rw [hL2] at hu; cases hu
      | some z =>
        rw [hL2] at hu
        obtain ⟨b', off', e, _, c0⟩ := hsrc.at_ j z hL2
        obtain ⟨rfl, rfl⟩ : b = b' ∧ off = off' := by
          have := Option.some.inj e
          exact ⟨(Addr.mk.inj this).1, (Addr.mk.inj this).2.1⟩
        rw [c0]; exact hu
    · unfold OwnN
      rw [show intsL (M ++ L) = intsL M ++ intsL L by unfold intsL; rw [List.map_append], List.length_append]
      exact h1

end Go.Proofs.Ytecnlpkfcggimaa
