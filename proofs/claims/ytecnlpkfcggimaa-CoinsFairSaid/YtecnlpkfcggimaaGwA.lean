/-
  Rows of whole numbers of the call's own: appended to, as steps of a region that draws; read.
-/
import Derived.Test.YtecnlpkfcggimaaTupJ
import Derived.Deep.RegionLaw
namespace Go.Proofs.Ytecnlpkfcggimaa
set_option linter.unusedVariables false
set_option linter.unusedSimpArgs false
open Go.RowKit

/-- append of a row of whole numbers, as one step of a region that draws. -/
theorem step_append_nums {w : World} {ops : Array Oper} {o : Oper} {a : Act} {K : Act → World → Prop} {Q : Exit → Act → World → Prop} {E : Prop} (hgd : o.guard = none) (s x : Operand)
    (ho : o.op = .call { callee := .builtin .append, args := #[s, x], argTypes := #[31, 31] })
    (base : Nat) (v : Value) (M : List Int) (A : Option Addr) (n cap : Nat) (L : List Int) (hs : a.eval s = v) (hown : OwnN w base v M)
    (hx : a.eval x = .slice A n cap) (hl : L.length = n) (hsrc : Nums w A L) (hn : M.length + n ≤ 100000) (hbase : base ≤ w.heap.size)
    (h : ∀ v' w', OwnN w' base v' (M ++ L) → w.grownBy w' v.ownBlock → K (a.put o.dst v') w') : if Region.wanted o (yielded ops a.tmps) = true then Oper.wp Try.prog o a w K Q else E := by
  have hw : Region.wanted o (yielded ops a.tmps) = true := by simp [Region.wanted, hgd]
  rw [if_pos hw]
  subst hl
  obtain ⟨i0, hi, hz0, hz1, hz2⟩ := info_parts Try.infoInt18
  by_cases hL : L = []
  · subst hL
    have hx' : a.eval x = .slice A 0 cap := hx
    have hrun : (Builtin.append_ #[31, 31] o.type #[v, .slice A 0 cap]).run Try.prog w = .ok v w := by
      have hl : ∀ (b : Option Addr) (n c : Nat), (Builtin.firstCells 1 0 (.slice A 0 cap)).run Try.prog w = .ok #[] w := by
        intro b n c
        cases A with
        | none => exact run_firstCells_none w 1 0 0 cap
        | some ad => exact run_firstCells_some w 1 0 ad 0 cap [] rfl (fun j v hj => by simp at hj)
      rcases hown.2 with ⟨rfl, h0⟩ | ⟨g, c2, cur, rfl, _, _, hnc, _⟩
      · rw [show (0 : Nat) = 0 from rfl] at *
        simp [Builtin.append_, run_underlying Try.underlying31, sizeOf, typeInfo, hi, hz1, Builtin.lenOf, hl none 0 0]
      · simp [Builtin.append_, run_underlying Try.underlying31, sizeOf, typeInfo, hi, hz1, Builtin.lenOf, hnc, storeCells, hl none 0 0]
    unfold Oper.wp
    simp [execOp, ho, resolve, invoke, builtin, hs, hx', hrun, Result.andThen]
    exact h v w (by rw [List.append_nil]; exact hown) (World.grownBy.refl _ _)
  · obtain ⟨p, hp⟩ : ∃ p, L[0]? = some p := by
      cases L with
      | nil => exact absurd rfl hL
      | cons p r => exact ⟨p, rfl⟩
    obtain ⟨b, off, rfl, _, _⟩ := hsrc.at_ 0 p hp
    refine wp_append_own w s x _ ho base _ i0 _ 1 8 Try.underlying31 hi hz0 hz1 hz2 rfl (by decide) v M.length (intsL M) hs hown ⟨b, off, none⟩ L.length cap (intsL L) hx (by unfold intsL; rw [List.length_map, Nat.mul_one]) ?_ (fun u hu => by
        unfold intsL at hu
        obtain ⟨z, _, rfl⟩ := List.mem_map.1 hu
        rfl)
      (by unfold maxLen; omega) (by omega) hbase (fun v' w' h1 h2 _ => h v' w' ?_ h2)
    · intro j u hu
      rw [flat3]
      unfold intsL at hu
      rw [List.getElem?_map] at hu
      cases hL2 : L[j]? with
      | none => rw [hL2] at hu; cases hu
      | some z =>
        rw [hL2] at hu
        obtain ⟨b', off', e, _, c0⟩ := hsrc.at_ j z hL2
        obtain ⟨rfl, rfl⟩ : b = b' ∧ off = off' := by
          have := Option.some.inj e
          exact ⟨(Addr.mk.inj this).1, (Addr.mk.inj this).2.1⟩
        rw [c0]; exact hu
    · unfold OwnN
      rw [show intsL (M ++ L) = intsL M ++ intsL L by unfold intsL; rw [List.map_append], List.length_append]
      exact h1

/-- Nothing, in a block of its own. -/
theorem own_emptyN {W : World} {base g : Nat} (h : W.heap[g]? = some (.cells #[] 2 (0, 0))) (hb : base ≤ g) : OwnN W base (.slice (some ⟨g, 0, none⟩) 0 0) [] :=
  ⟨rfl, Or.inr ⟨g, 0, #[], rfl, hb, h, Nat.le_refl _, Nat.zero_le _, rfl, rfl⟩⟩
theorem one_num {W : World} {g : Nat} {x : Int} (hx : I64 x) (h : W.cell? ⟨g, 0, none⟩ = some (.int .i64 x)) : Nums W (some ⟨g, 0, none⟩) [x] :=
  ⟨fun p hp => by rw [List.mem_singleton.1 hp]; exact hx, fun i p hi => by
    match i, hi with
    | 0, hi =>
      have e : x = p := Option.some.inj hi
      subst e
      exact ⟨g, 0, rfl, World.block_lt_of_cell? (a := ⟨g, 0, none⟩) W h, h⟩⟩
theorem Nums.nil (w : World) (A : Option Addr) : Nums w A [] := ⟨fun p h => (by cases h), fun i p h => by simp at h⟩
theorem Nums.take {w : World} {A : Option Addr} {L : List Int} (h : Nums w A L) (k : Nat) : Nums w A (L.take k) :=
  ⟨fun p hp => h.ok p (List.mem_of_mem_take hp), fun i p hi => by
    have : L[i]? = some p := by
      rw [List.getElem?_take] at hi
      split at hi
      · exact hi
      · cases hi
    exact h.at_ i p this⟩
theorem Nums.drop {w : World} {b off : Nat} {L : List Int} (h : Nums w (some ⟨b, off, none⟩) L) (k : Nat) : Nums w (some ⟨b, off + k, none⟩) (L.drop k) :=
  ⟨fun p hp => h.ok p (List.mem_of_mem_drop hp), fun i p hi => by
    rw [List.getElem?_drop] at hi
    obtain ⟨b', off', e, hlt, c0⟩ := h.at_ (k + i) p hi
    obtain ⟨rfl, rfl⟩ : b = b' ∧ off = off' := by
      have := Option.some.inj e
      exact ⟨(Addr.mk.inj this).1, (Addr.mk.inj this).2.1⟩
    rw [← Nat.add_assoc] at c0
    exact ⟨b, _, rfl, hlt, c0⟩⟩
theorem OwnN.some_ {w : World} {base : Nat} {v : Value} {L : List Int} (h : OwnN w base v L) (hok : ∀ p, p ∈ L → I64 p) (hn : 1 ≤ L.length) : ∃ g off cap, v = .slice (some ⟨g, off, none⟩) L.length cap ∧ Nums w (some ⟨g, off, none⟩) L ∧ base ≤ g ∧ g < w.heap.size ∧ L.length ≤ cap := by
  obtain ⟨A, cap, rfl, hN⟩ := h.rows hok
  have h' : w.ownsRow base 2 1 (.slice A L.length cap) L.length (intsL L) := h
  rcases h'.2 with ⟨e, h0⟩ | ⟨g, cap', cur, e, hb, hg, hle, _⟩
  · omega
  · injection e with e1 e2 e3
    subst e1 e3
    exact ⟨g, 0, cap, rfl, hN, hb, lt_of_block hg, hle⟩
/-- Blocks of one's own that another row's growing leaves alone. -/
theorem Nums.grown {w w' : World} {A : Option Addr} {L : List Int} {r : Option Nat} (h : Nums w A L) (hg : w.grownBy w' r) (hne : ∀ a, A = some a → some a.block ≠ r) : Nums w' A L :=
  ⟨h.ok, fun i p hi => by
    obtain ⟨b, off, rfl, hlt, c0⟩ := h.at_ i p hi
    exact ⟨b, off, rfl, Nat.lt_of_lt_of_le hlt hg.size, hg.cell c0 (show some b ≠ r from hne ⟨b, off, none⟩ rfl)⟩⟩
end Go.Proofs.Ytecnlpkfcggimaa
