/-
  Walks: the library's slices.Grow of nothing, and slices.Concat, at rows of pairs.
-/
import Derived.Test.YtgbhlkeclfgacaaPairJ
import Derived.Lib.AppendZerosOnto
import Derived.Lib.SliceRun
import Derived.Lib.Walk
import Derived.Laws.OwnMore
namespace Go.Proofs.Ytgbhlkeclfgacaa
set_option linter.unusedVariables false
set_option linter.unusedSimpArgs false
open Go.RowKit

/-- Appending a whole row of pairs, a nil one too, to one of the call's own. -/
theorem wpList_append_pairs {w : World} {ops : Array Oper} {rest : List Oper} {o : Oper} {a : Act} {Q : Exit → Act → World → Prop} (hgd : o.guard = none) (s x : Operand)
    (ho : o.op = .call { callee := .builtin .append, args := #[s, x], argTypes := #[22, 22] })
    (base : Nat) (v : Value) (M : List PairV) (A : Option Addr) (cap : Nat) (L : List PairV) (hs : a.eval s = v) (hown : OwnP w base v M)
    (hx : a.eval x = .slice A L.length cap) (hsrc : Pairs w A L) (hn : M.length + L.length ≤ 100000) (hbase : base ≤ w.heap.size)
    (h : ∀ v' w', OwnP w' base v' (M ++ L) → w.grownBy w' v.ownBlock → wpList Try.prog ops Q rest (a.put o.dst v') w') : wpList Try.prog ops Q (o :: rest) a w := by
  obtain ⟨i0, hi, hz0, hz1, hz2⟩ := info_parts Try.infoPair
  by_cases hL : L = []
  · subst hL
    have hx' : a.eval x = .slice A 0 cap := hx
    have hrun : (Builtin.append_ #[22, 22] o.type #[v, .slice A 0 cap]).run Try.prog w = .ok v w := by
      have hl : ∀ (b : Option Addr) (n c : Nat), (Builtin.firstCells 2 0 (.slice A 0 cap)).run Try.prog w = .ok #[] w := by
        intro b n c
        cases A with
        | none => exact run_firstCells_none w 2 0 0 cap
        | some ad => exact run_firstCells_some w 2 0 ad 0 cap [] rfl (fun j v hj => by simp at hj)
      rcases hown.2 with ⟨rfl, h0⟩ | ⟨g, c2, cur, rfl, _, _, hnc, _⟩
      · rw [show (0 : Nat) = 0 from rfl] at *
        simp [Builtin.append_, run_underlying Try.underlying22, sizeOf, typeInfo, hi, hz1, Builtin.lenOf, hl none 0 0]
      · simp [Builtin.append_, run_underlying Try.underlying22, sizeOf, typeInfo, hi, hz1, Builtin.lenOf, hnc, storeCells, hl none 0 0]
    refine wpList_plain hgd fun K hK => ?_
    unfold Oper.wp
    simp [execOp, ho, resolve, invoke, builtin, hs, hx', hrun, Result.andThen]
    exact hK _ _ (h v w (by rw [List.append_nil]; exact hown) (World.grownBy.refl _ _))
  · obtain ⟨p, hp⟩ : ∃ p, L[0]? = some p := by
      cases L with
      | nil => exact absurd rfl hL
      | cons p r => exact ⟨p, rfl⟩
    obtain ⟨b, off, rfl, _, _, _⟩ := hsrc.at_ 0 p hp
    refine wpList_append_own w hgd s x _ ho base _ i0 _ 2 16 Try.underlying22 hi hz0 hz1 hz2 rfl (by decide) v M.length (cellsQ M) hs hown ⟨b, off, none⟩ L.length cap (cellsQ L) hx (cellsQ_len L) ?_ (cellsQ_one L)
      (by unfold maxLen; omega) (by omega) hbase (fun v' w' h1 h2 _ => h v' w' ?_ h2)
    · intro j u hu
      rw [add_flat]
      have hj : j < L.length * 2 := by
        rcases Nat.lt_or_ge j (L.length * 2) with h1 | h1
        · exact h1
        · rw [List.getElem?_eq_none (by rw [cellsQ_len]; exact h1)] at hu; cases hu
      have hq := List.getElem?_eq_getElem (l := L) (i := j / 2) (by omega)
      obtain ⟨b', off', e, _, c0, c1⟩ := hsrc.at_ (j / 2) _ hq
      obtain ⟨rfl, rfl⟩ : b = b' ∧ off = off' := by
        have := Option.some.inj e
        exact ⟨(Addr.mk.inj this).1, (Addr.mk.inj this).2.1⟩
      obtain ⟨q0, q1⟩ := cellsQ_at L (j / 2) _ hq
      rcases Nat.mod_two_eq_zero_or_one j with h2 | h2
      · have e1 : j / 2 * 2 = j := by omega
        rw [e1] at q0 c0; rw [q0] at hu; rw [c0, ← Option.some.inj hu]
      · have e1 : j / 2 * 2 + 1 = j := by omega
        rw [Nat.add_assoc, e1] at c1; rw [e1] at q1; rw [q1] at hu; rw [c1, ← Option.some.inj hu]
    · unfold OwnP
      rw [cellsQ_app, List.length_append]
      exact h1

set_option maxRecDepth 100000 in
set_option maxHeartbeats 1000000 in
/-- slices.Grow of a nil row. -/
theorem grow_nil (w : World) (n : Nat) (hn : n ≤ 1000000) :
    Calls Try.prog 63 #[.slice none 0 0, .int .i64 n] w fun e w' => ∃ v, e = .returned v ∧ OwnP w' w.heap.size v [] ∧ Below w.heap.size w w' := by
  by_cases h0 : n = 0
  · subst h0
    go_enter Try.func63, Try.ntmps63
    go_wp2_with fail
    go_ret
    exact ⟨_, rfl, OwnP.nil _ _, Below.refl _ _⟩
  · obtain ⟨i0, hi, hz0, hz1, hz2⟩ := info_parts Try.infoPair
    have hold : (Builtin.firstCells i0.size 0 (.slice none 0 0)).run Try.prog w.drew = .ok ([] : List Value).toArray w.drew := run_firstCells_none w.drew i0.size 0 0 0
    have hrz : ∀ ty, (Builtin.append_ #[22, 3] ty #[.slice none 0 0, .int .i64 (n : Int)]).run Try.prog w =
        .ok (.slice (some ⟨w.heap.size, 0, none⟩) n (grownCap w n 0 34)) (w.drew.alloc (.cells (([] : List Value).toArray ++ Builtin.zeroCells (Value.agg #[.int .i64 0, .int .u64 0]).cells n ++ Builtin.zeroCells (Value.agg #[.int .i64 0, .int .u64 0]).cells (grownCap w n 0 34 - n)) 34)) := fun ty => by
      have h := Lib.run_append_grow_zeros w 22 3 ty 34 i0 _ .i64 .i64 Try.underlying22 Try.underlying3 hi hz0 none 0 0 [] hold n (by omega) (by omega) (by omega) (by omega)
        (by rw [hz2]; omega) (by rw [hz2, Nat.zero_add]; exact growslice_fits (by omega) (by omega))
      rw [Nat.zero_add] at h
      exact h
    have hGn : n ≤ grownCap w n 0 34 := grownCap_ge w _ _ _
    have hGm := grownCap_le_maxLen w n 0 34 (by unfold maxLen; omega)
    obtain ⟨G, hG⟩ : ∃ G, G = grownCap w n 0 34 := ⟨_, rfl⟩
    rw [← hG] at hrz hGn hGm
    have hG63 : G ≤ 9223372036854775807 := by unfold maxLen at hGm; omega
    obtain ⟨cur, hcur⟩ : ∃ cur, (([] : List Value).toArray ++ Builtin.zeroCells (Value.agg #[.int .i64 0, .int .u64 0]).cells n ++ Builtin.zeroCells (Value.agg #[.int .i64 0, .int .u64 0]).cells (G - n)) = cur := ⟨_, rfl⟩
    have hsz : cur.size = G * 2 := by
      rw [← hcur]
      simp [Builtin.zeroCells, Value.cells]; omega
    rw [hcur] at hrz
    have HO : Hid (OwnP (w.drew.alloc (.cells cur 34)) w.heap.size (.slice (some ⟨w.heap.size, 0, none⟩) 0 G) []) := Lib.hid (World.ownsRow_made (w := w.drew) cur G (Nat.le_refl _) hGm hsz)
    have n0 : ¬ ((n : Int) < 0) := by omega
    have n1 : 0 < (n : Int) := by omega
    have HRZ := Lib.hid hrz
    clear hold hG hcur hsz hGm hi hz0 hz1 hz2 hrz h0
    go_enter Try.func63, Try.ntmps63
    go_wp2_with (at_builtin; refine Lib.wpList_append_run _ rfl _ _ _ _ rfl _ _ rfl rfl _ _ (HRZ.out _) ?_)
    go_ret
    exact ⟨_, rfl, HO.out, (Below.refl _ _).drew.alloc (Nat.le_refl _) _⟩
theorem allP_take {R : List RowV} {k : Nat} {r : RowV} (h : R[k]? = some r) : allP (R.take (k + 1)) = allP (R.take k) ++ r.l := by
  rw [take_snocP h, allP_app, allP_one]
theorem allP_take_len (R : List RowV) (k : Nat) : (allP (R.take k)).length ≤ (allP R).length := by
  have h : allP R = allP (R.take k) ++ allP (R.drop k) := by rw [← allP_app, List.take_append_drop]
  rw [h, List.length_append]; omega

set_option maxRecDepth 100000 in
set_option maxHeartbeats 1000000 in
/-- slices.Concat: all rows, one behind the other, in a new one. -/
theorem concat_any (w : World) (A : Option Addr) (n cap : Nat) (R : List RowV) (h : Rows2 w A R) (hn : n = R.length) (hl : n ≤ 1000) (hall : (allP R).length ≤ 50000) :
    Calls Try.prog 61 #[.slice A n cap] w fun e w' => ∃ v, e = .returned v ∧ OwnP w' w.heap.size v (allP R) ∧ Below w.heap.size w w' := by
  subst hn
  have HI := Lib.hid h
  have HL := Lib.hid (fun k => allP_take_len R k)
  have HA := Lib.hid hall
  clear h hall
  go_enter Try.func61, Try.ntmps61
  go_wp2_with fail
  go_loop [3, 11] (fun s j => ∃ k z : Nat, k ≤ R.length ∧ j = .int .i64 k ∧ s = .int .i64 z ∧ (allP (R.take k)).length = z) (fun _ j => R.length - (intOf j).toNat)
  case atStart => exact ⟨0, 0, Nat.zero_le _, rfl, rfl, rfl⟩
  case round =>
    obtain ⟨k, z, hk, rfl, rfl, hz⟩ := hrel
    have hzl : z ≤ 50000 := by have := HL.out k; have := HA.out; omega
    have HZ := Lib.hid hz
    clear hz
    by_cases hlt : k < R.length
    · have kk : (k : Int) < R.length := by omega
      have hxk : R[k]? = some R[k] := List.getElem?_eq_getElem hlt
      generalize hit : R[k] = r at *
      obtain ⟨ra, rc, rl⟩ := r
      obtain ⟨b0, off, rfl, hbl, c0⟩ := HI.out.at_ k _ hxk
      have hst := allP_take hxk
      simp only at c0 hst
      have hlen : (allP (R.take (k + 1))).length = z + rl.length := by rw [hst, List.length_append, HZ.out]
      have hzl2 : z + rl.length ≤ 50000 := by have := HL.out (k + 1); have := HA.out; omega
      have HLEN := Lib.hid hlen
      clear hxk hit hst hlen
      go_wp2_with fail
      go_round
      case rel => exact ⟨k + 1, z + rl.length, by omega, by go_num, by go_num, HLEN.out⟩
      case measure => simp [intOf]; omega
    · obtain rfl : k = R.length := by omega
      have kk : ¬ (R.length : Int) < R.length := by omega
      rw [List.take_length] at HZ
      go_wp2_with fail
      refine (grow_nil w z (by omega)).mono ?_
      rintro e w1 ⟨v1, rfl, ho1, hb1⟩
      have HO1 := Lib.hid ho1
      have hb1s := hb1.size
      clear ho1
      go_wp2_with fail
      go_loopw [6, 27] (fun v j wr => ∃ k : Nat, k ≤ R.length ∧ j = .int .i64 k ∧ OwnP wr w.heap.size v (allP (R.take k)) ∧ Below w.heap.size w wr) (fun _ j _ => R.length - (intOf j).toNat)
      case atStart => exact ⟨0, Nat.zero_le _, rfl, HO1.out, hb1⟩
      case round =>
        clear hb1 hb1s
        obtain ⟨k, hk, rfl, hown, hb2⟩ := hrel
        have hbs := hb2.size
        have HO := Lib.hid hown
        clear hown
        by_cases hlt : k < R.length
        · have kk : (k : Int) < R.length := by omega
          have hxk : R[k]? = some R[k] := List.getElem?_eq_getElem hlt
          generalize hit : R[k] = r at *
          have hP := (HI.out.each r (List.mem_of_getElem? hxk)).1.call hb2
          obtain ⟨ra, rc, rl⟩ := r
          obtain ⟨b0, off, rfl, hbl, c0⟩ := (HI.out.call hb2).at_ k _ hxk
          have hst := allP_take hxk
          simp only at c0 hst hP
          have hzl2 : (allP (R.take k)).length + rl.length ≤ 50000 := by
            have h1 := HL.out (k + 1); have := HA.out
            rw [hst, List.length_append] at h1; omega
          have HST := Lib.hid hst
          have HP := Lib.hid hP
          obtain ⟨vA, vc, hv⟩ := HO.out.form
          clear hxk hit hst hP
          subst hv
          go_wp2_with (at_builtin; refine wpList_append_pairs rfl _ _ rfl w.heap.size _ (allP (R.take k)) ra rc rl rfl HO.out rfl HP.out ?c1 ?c2 ?_)
          case c1 => omega
          case c2 => exact hbs
          intro v' w3 hown' hgrow
          have hb3 := hb2.grown hgrow hbs (fun g hg => (HO.out.lt g hg).1)
          rw [← HST.out] at hown'
          clear hgrow
          go_wp2_with fail
          go_roundw
          case rel => exact ⟨k + 1, by omega, by go_num, hown', hb3⟩
          case measure => simp [intOf]; omega
        · obtain rfl : k = R.length := by omega
          rw [List.take_length] at HO
          have kk : ¬ (R.length : Int) < R.length := by omega
          go_wp2_with fail
          go_ret
          exact ⟨_, rfl, HO.out, hb2⟩
end Go.Proofs.Ytgbhlkeclfgacaa
