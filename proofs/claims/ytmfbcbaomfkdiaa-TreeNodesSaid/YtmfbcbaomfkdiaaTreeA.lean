/-
  Rows of whole numbers of the call's own; the reference's Path.
-/
import Derived.Test.YtmfbcbaomfkdiaaTreeM
import Derived.Test.YtmfbcbaomfkdiaaSignM
import Derived.Test.YtmfbcbaomfkdiaaTwo
import Derived.Test.YtmfbcbaomfkdiaaRows
import Derived.WalkKit
import Derived.WalkSpells
import Derived.WalkLawsBesides
import Derived.WalkMore
import Derived.LoopTactic
import Derived.OwnWalk
import Derived.OneCell
import Derived.Outline
import Derived.Lib.Strings
import Derived.Deep.Slices
import Derived.Deep.Fields
import Derived.SizedLaws
import Derived.Carry
import Derived.Laws.AppendOwnNone
import Derived.Test.YtmfbcbaomfkdiaaSignA
import Derived.StillTailTactics
import Derived.Deep.QuietTactic
import Derived.BigQuiet
import Derived.Deep.LoopGhost
namespace Go.Proofs.Ytmfbcbaomfkdiaa
set_option linter.unusedVariables false
set_option linter.unusedSimpArgs false
open Go.RowKit

theorem addI (b j : Nat) : (⟨b, 0, none⟩ : Addr).add j = ⟨b, j, none⟩ := by unfold Addr.add; split <;> simp_all
def cellsI (L : List Int) : List Value := L.map (Value.int .i64 ·)
theorem cellsI_len (L : List Int) : (cellsI L).length = L.length * 1 := by unfold cellsI; simp
theorem cellsI_at (L : List Int) (i : Nat) (x : Int) (h : L[i]? = some x) : (cellsI L)[i]? = some (.int .i64 x) := by unfold cellsI; simp [h]
def OwnI (w : World) (base : Nat) (v : Value) (L : List Int) : Prop := w.ownsRow base 3 1 v L.length (cellsI L)
theorem OwnI.nil (w : World) (base : Nat) : OwnI w base (.slice none 0 0) [] := World.ownsRow_nil _ _ _ _
theorem OwnI.call {w w' : World} {base : Nat} {v : Value} {L : List Int} (h : OwnI w base v L) (hb : Below w.heap.size w w') : OwnI w' base v L :=
  World.ownsRow.kept (row := none) h ⟨hb.os, hb.tape, hb.output, hb.size, fun i hi _ => hb.block i hi⟩ (by cases v.ownBlock <;> simp)
theorem OwnI.lt {w : World} {base : Nat} {v : Value} {L : List Int} (h : OwnI w base v L) : ∀ k, v.ownBlock = some k → base ≤ k ∧ k < w.heap.size := World.ownsRow.lt h
theorem OwnI.form {w : World} {base : Nat} {v : Value} {L : List Int} (h : OwnI w base v L) : ∃ A cap, v = .slice A L.length cap := by
  have h' : w.ownsRow base 3 1 v L.length (cellsI L) := h
  rcases h'.2 with ⟨rfl, h0⟩ | ⟨g, cap, cur, rfl, _⟩
  · exact ⟨none, 0, by rw [h0]⟩
  · exact ⟨some ⟨g, 0, none⟩, cap, rfl⟩
/-- One of its numbers, where it lies. -/
theorem OwnI.at_ {w : World} {base : Nat} {v : Value} {L : List Int} (h : OwnI w base v L) : ∃ A cap, v = .slice A L.length cap ∧ ∀ (i : Nat) (x : Int), L[i]? = some x → ∃ g, A = some ⟨g, 0, none⟩ ∧ w.cell? ⟨g, i, none⟩ = some (.int .i64 x) := by
  have hh : w.ownsRow base 3 1 v L.length (cellsI L) := h
  rcases hh.2 with ⟨rfl, h0⟩ | ⟨g, cap, cur, rfl, _, hg, _⟩
  · refine ⟨none, 0, by rw [h0], fun i x hi => ?_⟩
    have : L = [] := List.eq_nil_of_length_eq_zero h0
    subst this; simp at hi
  · refine ⟨some ⟨g, 0, none⟩, cap, rfl, fun i x hi => ⟨g, rfl, ?_⟩⟩
    have hc := hh.cells (g := g) rfl
    have := hc _ _ (cellsI_at L i x hi)
    rwa [addI] at this
theorem Try.infoInt : (Try.prog.info? 3).map (fun i => (i.zero, i.size, i.bytes)) = some (some (.int .i64 0), 1, 8) := by kernel_rfl
/-- A row of one, made by the call. -/
theorem own_one (w : World) (x : Int) : OwnI (w.alloc (.cells #[.int .i64 x] 3)) w.heap.size (.slice (some ⟨w.heap.size, 0, none⟩) 1 1) [x] :=
  ⟨by simp [cellsI], .inr ⟨w.heap.size, 1, #[.int .i64 x], rfl, Nat.le_refl _, heap_alloc_new w _, Nat.le_refl _, by decide, rfl, rfl⟩⟩
/-- Appending a row of the call's own to another one. -/
theorem wpList_append_ints {w : World} {ops : Array Oper} {rest : List Oper} {o : Oper} {a : Act} {Q : Exit → Act → World → Prop} (hgd : o.guard = none) (s x : Operand)
    (ho : o.op = .call { callee := .builtin .append, args := #[s, x], argTypes := #[35, 35] })
    (base : Nat) (v : Value) (M : List Int) (b2 : Nat) (v2 : Value) (L : List Int) (hs : a.eval s = v) (hown : OwnI w base v M)
    (hx : a.eval x = v2) (hsrc : OwnI w b2 v2 L) (hn : M.length + L.length ≤ 100000) (hbase : base ≤ w.heap.size)
    (h : ∀ v' w', OwnI w' base v' (M ++ L) → w.grownBy w' v.ownBlock → wpList Try.prog ops Q rest (a.put o.dst v') w') : wpList Try.prog ops Q (o :: rest) a w := by
  obtain ⟨i0, hi, hz0, hz1, hz2⟩ := info_parts Try.infoInt
  obtain ⟨A, cap, rfl, hat⟩ := hsrc.at_
  by_cases hL : L = []
  · subst hL
    have hx' : a.eval x = .slice A 0 cap := hx
    have hrun : (Builtin.append_ #[35, 35] o.type #[v, .slice A 0 cap]).run Try.prog w = .ok v w := by
      have hl : ∀ (b : Option Addr) (n c : Nat), (Builtin.firstCells 1 0 (.slice A 0 cap)).run Try.prog w = .ok #[] w := by
        intro b n c
        cases A with
        | none => exact run_firstCells_none w 1 0 0 cap
        | some ad => exact run_firstCells_some w 1 0 ad 0 cap [] rfl (fun j v hj => by simp at hj)
      rcases hown.2 with ⟨rfl, h0⟩ | ⟨g, c2, cur, rfl, _, _, hnc, _⟩
      · rw [show (0 : Nat) = 0 from rfl] at *
        simp [Builtin.append_, run_underlying Try.underlying35, sizeOf, typeInfo, hi, hz1, Builtin.lenOf, hl none 0 0]
      · simp [Builtin.append_, run_underlying Try.underlying35, sizeOf, typeInfo, hi, hz1, Builtin.lenOf, hnc, storeCells, hl none 0 0]
    refine wpList_plain hgd fun K hK => ?_
    unfold Oper.wp
    simp [execOp, ho, resolve, invoke, builtin, hs, hx', hrun, Result.andThen]
    exact hK _ _ (h v w (by rw [List.append_nil]; exact hown) (World.grownBy.refl _ _))
  · obtain ⟨p, hp⟩ : ∃ p, L[0]? = some p := by
      cases L with
      | nil => exact absurd rfl hL
      | cons p r => exact ⟨p, rfl⟩
    obtain ⟨b, rfl, _⟩ := hat 0 p hp
    refine wpList_append_own w hgd s x _ ho base _ i0 _ 1 8 Try.underlying35 hi hz0 hz1 hz2 rfl (by decide) v M.length (cellsI M) hs hown ⟨b, 0, none⟩ L.length cap (cellsI L) hx (cellsI_len L) ?_ (fun u hu => ?_)
      (by unfold maxLen; omega) (by omega) hbase (fun v' w' h1 h2 _ => h v' w' ?_ h2)
    · intro j u hu
      have hj : j < L.length := by
        rcases Nat.lt_or_ge j L.length with h1 | h1
        · exact h1
        · rw [List.getElem?_eq_none (by rw [cellsI_len, Nat.mul_one]; exact h1)] at hu; cases hu
      have hq := List.getElem?_eq_getElem (l := L) (i := j) hj
      obtain ⟨b', e, c0⟩ := hat j _ hq
      obtain rfl : b = b' := (Addr.mk.inj (Option.some.inj e)).1
      rw [cellsI_at L j _ hq] at hu
      rw [← Option.some.inj hu]
      rw [addI]; exact c0
    · unfold cellsI at hu
      obtain ⟨y, _, rfl⟩ := List.mem_map.1 hu
      rfl
    · unfold OwnI
      have : cellsI (M ++ L) = cellsI M ++ cellsI L := by unfold cellsI; simp
      rw [this, List.length_append]
      exact h1

/-- The nodes from the first one down to one. -/
def pathI (v : Int) : List Int := if 1 ≤ v then (pathT v.toNat (lvlT v.toNat + 1)).map Int.ofNat else []
def pathK (n k : Nat) : List Int := (pathT n k).map Int.ofNat
theorem pathK_len (n k : Nat) : (pathK n k).length = k := by unfold pathK; rw [List.length_map, path_len]
theorem pathK_succ (n k : Nat) : pathK n (k + 1) = [((n / 2 ^ k : Nat) : Int)] ++ pathK n k := by unfold pathK; rw [path_succ, List.map_cons]; rfl

set_option maxRecDepth 100000 in
set_option maxHeartbeats 2000000 in
theorem rpath_any (w : World) (v : Int) (hv : I64 v) :
    Calls Try.prog 18 #[.int .i64 v] w fun e w' => ∃ r, e = .returned r ∧ OwnI w' w.heap.size r (pathI v) ∧ Below w.heap.size w w' := by
  obtain ⟨v0, v1⟩ := hv
  by_cases h1 : 1 ≤ v
  case neg =>
    have e : pathI v = [] := by unfold pathI; rw [if_neg h1]
    rw [e]
    clear e
    go_enter Try.func18, Try.ntmps18
    go_wp2_with fail
    go_loopg [0, 3] 0 (fun g j r wr => j = .int .i64 v ∧ r = .slice none 0 0 ∧ wr = w)
    case atStart => exact ⟨rfl, rfl, rfl⟩
    case round =>
      obtain ⟨rfl, rfl, rfl⟩ := hrel
      go_wp2_with fail
      go_ret
      exact ⟨_, rfl, OwnI.nil _ _, Below.refl _ _⟩
  case pos =>
    obtain ⟨n, rfl⟩ : ∃ n : Nat, v = n := ⟨v.toNat, by omega⟩
    have hn1 : 1 ≤ n := by omega
    have e : pathI (n : Int) = pathK n (lvlT n + 1) := by unfold pathI pathK; rw [if_pos h1]; rfl
    rw [e]
    have hl : lvlT n ≤ 62 := lvl_le hn1 (by omega)
    have HE := Lib.hid (fun k => path_ends hn1 (k := k))
    clear e v0
    go_enter Try.func18, Try.ntmps18
    go_wp2_with fail
    go_loopg [0, 3] (lvlT n + 1) (fun g j r wr => ∃ (k q : Nat), k ≤ lvlT n + 1 ∧ g = lvlT n + 1 - k ∧ q = n / 2 ^ k ∧ j = .int .i64 q ∧ OwnI wr w.heap.size r (pathK n k) ∧ Below w.heap.size w wr)
    case atStart => exact ⟨0, n, Nat.zero_le _, rfl, by rw [Nat.pow_zero, Nat.div_one], rfl, OwnI.nil _ _, Below.refl _ _⟩
    case round =>
      obtain ⟨k, q, hk, rfl, hq, rfl, ho, hb⟩ := hrel
      have HQ := Lib.hid hq
      have HO := Lib.hid ho
      have HB := Lib.hid hb
      clear hq ho hb
      have hq63 : q ≤ n := by have := HQ.out; rw [this]; exact Nat.div_le_self _ _
      by_cases hlt : k ≤ lvlT n
      · have kq : (1 : Int) ≤ (q : Int) := by have := (HE.out k).2 hlt; have := HQ.out; omega
        have HO1 := Lib.hid (own_one wr q)
        have HB1 : Hid (Below wr.heap.size wr (wr.alloc (.cells #[.int .i64 q] 3))) := Lib.hid ((Below.refl _ _).alloc (Nat.le_refl _) _)
        have q0 : 0 ≤ (q : Int) := by omega
        have q1 : (q : Int) ≤ 9223372036854775807 := by omega
        have HO2 := Lib.hid (HO.out.call HB1.out)
        go_wp2_with (at_builtin; refine wpList_append_ints rfl _ _ rfl wr.heap.size _ [(q : Int)] w.heap.size _ (pathK n k) rfl HO1.out rfl HO2.out ?c1 ?c2 ?_)
        case c1 => rw [pathK_len]; simp; omega
        case c2 => exact HB1.out.size
        intro r' w3 hown hg
        have hb3 : Below wr.heap.size wr w3 := HB1.out.grown hg HB1.out.size (fun g hg => (HO1.out.lt g hg).1)
        have HO3 : Hid (OwnI w3 w.heap.size r' (pathK n (k + 1))) := Lib.hid (by
          rw [pathK_succ, ← HQ.out]
          obtain ⟨a, b⟩ := hown
          refine ⟨a, b.imp id ?_⟩
          rintro ⟨g, cap, cur, h1, h2, h3⟩
          exact ⟨g, cap, cur, h1, Nat.le_trans HB.out.size h2, h3⟩)
        have HB3 := Lib.hid (HB.out.trans (hb3.mono HB.out.size))
        clear hown hg hb3
        go_wp2_with fail
        go_roundg (lvlT n + 1 - (k + 1))
        case measure => omega
        case rel => exact ⟨k + 1, q / 2, by omega, rfl, by rw [HQ.out, Nat.pow_succ, Nat.div_div_eq_div_mul], congrArg (Value.int .i64) (show (q : Int) / 2 = ((q / 2 : Nat) : Int) by omega), HO3.out, HB3.out⟩
      · obtain rfl : k = lvlT n + 1 := by omega
        have kq : ¬ (1 : Int) ≤ (q : Int) := by have := (HE.out (lvlT n + 1)).1; have := HQ.out; omega
        go_wp2_with fail
        go_ret
        exact ⟨_, rfl, HO.out, HB.out⟩
end Go.Proofs.Ytmfbcbaomfkdiaa
