/-
  Walks: layer 8's reference: a strip's Last.
-/
import Derived.Test.YtnhhehinbobknaaRef8
import Derived.Deep.RegionWith
import Derived.Deep.RegionLaw
import Derived.Deep.CutRange
import Derived.Deep.CutBlock
import Derived.Deep.DeepCutAuto
namespace Go.Proofs.Ytnhhehinbobknaa
set_option linter.unusedVariables false
set_option linter.unusedSimpArgs false
open Go.RowKit

/-- append of a row of pairs, as one step of a region that draws. -/
theorem step_append_pairs {w : World} {ops : Array Oper} {o : Oper} {a : Act} {K : Act → World → Prop} {Q : Exit → Act → World → Prop} {E : Prop} (hgd : o.guard = none) (s x : Operand)
    (ho : o.op = .call { callee := .builtin .append, args := #[s, x], argTypes := #[41, 41] })
    (base : Nat) (v : Value) (M : List PairV) (A : Option Addr) (n cap : Nat) (L : List PairV) (hs : a.eval s = v) (hown : OwnP w base v M)
    (hx : a.eval x = .slice A n cap) (hl : L.length = n) (hsrc : Pairs w A L) (hn : M.length + n ≤ 100000) (hbase : base ≤ w.heap.size)
    (h : ∀ v' w', OwnP w' base v' (M ++ L) → w.grownBy w' v.ownBlock → K (a.put o.dst v') w') : if Region.wanted o (yielded ops a.tmps) = true then Oper.wp Try.prog o a w K Q else E := by
  have hw : Region.wanted o (yielded ops a.tmps) = true := by simp [Region.wanted, hgd]
  rw [if_pos hw]
  subst hl
  obtain ⟨i0, hi, hz0, hz1, hz2⟩ := info_parts Try.infoPair
  by_cases hL : L = []
  · subst hL
    have hx' : a.eval x = .slice A 0 cap := hx
    have hrun : (Builtin.append_ #[41, 41] o.type #[v, .slice A 0 cap]).run Try.prog w = .ok v w := by
      have hl : ∀ (b : Option Addr) (n c : Nat), (Builtin.firstCells 2 0 (.slice A 0 cap)).run Try.prog w = .ok #[] w := by
        intro b n c
        cases A with
        | none => exact run_firstCells_none w 2 0 0 cap
        | some ad => exact run_firstCells_some w 2 0 ad 0 cap [] rfl (fun j v hj => by simp at hj)
      rcases hown.2 with ⟨rfl, h0⟩ | ⟨g, c2, cur, rfl, _, _, hnc, _⟩
      · rw [show (0 : Nat) = 0 from rfl] at *
        simp [Builtin.append_, run_underlying Try.underlying41, sizeOf, typeInfo, hi, hz1, Builtin.lenOf, hl none 0 0]
      · simp [Builtin.append_, run_underlying Try.underlying41, sizeOf, typeInfo, hi, hz1, Builtin.lenOf, hnc, storeCells, hl none 0 0]
    unfold Oper.wp
    simp [execOp, ho, resolve, invoke, builtin, hs, hx', hrun, Result.andThen]
    exact h v w (by rw [List.append_nil]; exact hown) (World.grownBy.refl _ _)
  · obtain ⟨p, hp⟩ : ∃ p, L[0]? = some p := by
      cases L with
      | nil => exact absurd rfl hL
      | cons p r => exact ⟨p, rfl⟩
    obtain ⟨b, off, rfl, _, _, _⟩ := hsrc.at_ 0 p hp
    refine wp_append_own w s x _ ho base _ i0 _ 2 16 Try.underlying41 hi hz0 hz1 hz2 rfl (by decide) v M.length (cellsQ M) hs hown ⟨b, off, none⟩ L.length cap (cellsQ L) hx (cellsQ_len L) ?_ (cellsQ_one L)
      (by unfold maxLen; omega) (by omega) hbase (fun v' w' h1 h2 _ => h v' w' ?_ h2)
    · intro j u hu
      rw [add_flat]
      have hj : j < L.length * 2 := by
        rcases Nat.lt_or_ge j (L.length * 2) with h1 | h1
        · exact h1
        · rw [List.getElem?_eq_none (by rw [cellsQ_len]; exact h1)] at hu; cases hu
      have hq := List.getElem?_eq_getElem (l := L) (i := j / 2) (by omega)
      obtain ⟨b', off', e, _, c0, c1⟩ := hsrc.at_ (j / 2) _ hq
      obtain ⟨rfl, rfl⟩ : b = b' ∧ off = off' := by
        have := Option.some.inj e
        exact ⟨(Addr.mk.inj this).1, (Addr.mk.inj this).2.1⟩
      obtain ⟨q0, q1⟩ := cellsQ_at L (j / 2) _ hq
      rcases Nat.mod_two_eq_zero_or_one j with h2 | h2
      · have e1 : j / 2 * 2 = j := by omega
        rw [e1] at q0 c0; rw [q0] at hu; rw [c0, ← Option.some.inj hu]
      · have e1 : j / 2 * 2 + 1 = j := by omega
        rw [Nat.add_assoc, e1] at c1; rw [e1] at q1; rw [q1] at hu; rw [c1, ← Option.some.inj hu]
    · unfold OwnP
      rw [cellsQ_app, List.length_append]
      exact h1

theorem step_append_fresh {w : World} {ops : Array Oper} {o : Oper} {a : Act} {K : Act → World → Prop} {Q : Exit → Act → World → Prop} {E : Prop} (hgd : o.guard = none) (s x : Operand)
    (ho : o.op = .call { callee := .builtin .append, args := #[s, x], argTypes := #[41, 41] })
    (base : Nat) (v : Value) (A : Option Addr) (n cap : Nat) (L : List PairV) (hs : a.eval s = v) (hown : OwnP w base v [])
    (hx : a.eval x = .slice A n cap) (hl : L.length = n) (hsrc : Pairs w A L) (hn : n ≤ 1000) (hbase : base ≤ w.heap.size)
    (h : ∀ A' c' w', OwnP w' base (.slice A' n c') L → w.grownBy w' v.ownBlock → K (a.put o.dst (.slice A' n c')) w') : if Region.wanted o (yielded ops a.tmps) = true then Oper.wp Try.prog o a w K Q else E := by
  refine step_append_pairs hgd s x ho base v [] A n cap L hs hown hx hl hsrc (by simp; omega) hbase fun v' w' h1 h2 => ?_
  obtain ⟨A', c', rfl⟩ := h1.form
  have e : ([] ++ L : List PairV).length = n := hl
  rw [e] at h1 ⊢
  exact h A' c' w' h1 h2

set_option maxRecDepth 100000 in
set_option maxHeartbeats 2000000 in
theorem rslast_any (w : World) (M : Nat) (m : Int) (v : Value) (L : List PairV) (h : RefS w M m v L) (hL : Stp m L) (hl : L.length ≤ 900) :
    Calls Try.prog 22 #[.pointer (some ⟨M, 0, none⟩)] w fun e w' =>
      e = .returned (.tuple #[.agg #[.int .i64 (lasP L).1, .int .u64 (lasP L).2], .bool (!L.isEmpty)]) ∧ Done8 w M m v L.dropLast w' := by
  have HR := Lib.hid h
  have hlt := h.lt
  obtain ⟨hv, ho⟩ := h
  obtain ⟨c0, c1, f0, f1⟩ := hv
  obtain ⟨A, cap, rfl, hP⟩ := ho.pairs hL.ok
  by_cases hne : L = []
  · subst hne
    have HF : Hid (lasP [] = (0, 0) ∧ (!([] : List PairV).isEmpty) = false ∧ ([] : List PairV).dropLast = []) := Lib.hid ⟨rfl, rfl, rfl⟩
    rw [HF.out.1, HF.out.2.1, HF.out.2.2]
    have hB := (Below.refl w.heap.size w).alloc (Nat.le_refl _) (.cells #[.int .i64 0, .int .u64 0] 30)
    have HB := Lib.hid hB
    clear ho hP hB
    go_enter Try.func22, Try.ntmps22
    go_wp2_with fail
    refine bodyPost_ret (v := .tuple #[.agg #[.int .i64 0, .int .u64 0], .bool false]) (by simp [results, Try.results22, go_sem]) rfl ⟨rfl, ?_⟩
    exact Done8.same HR.out HB.out
  · have hpos : 0 < L.length := by cases L with
      | nil => exact absurd rfl hne
      | cons p r => simp
    obtain ⟨n, hn⟩ : ∃ n, L.length - 1 = n := ⟨_, rfl⟩
    obtain ⟨px, pc, hx0⟩ : ∃ px pc, L[n]? = some (px, pc) := by
      have hlt' : n < L.length := by omega
      exact ⟨L[n].1, L[n].2, List.getElem?_eq_getElem hlt'⟩
    have kk : (0 : Int) < L.length := by omega
    have kk1 : ((L.length : Int) == 0) = false := by simp; omega
    have hcap : L.length ≤ cap := by
      have h2 : w.ownsRow (M + 1) 30 2 (.slice A L.length cap) L.length (cellsQ L) := ho
      rcases h2.2 with ⟨e, h0⟩ | ⟨g, cp, cur, e, _, _, hle, _⟩
      · omega
      · injection e with _ _ e3; omega
    have kc : (n : Int) ≤ cap := by omega
    obtain ⟨b0, off, rfl, hbl, d0, d1⟩ := hP.at_ n _ hx0
    have u1 : IntKind.i64.wrap ((L.length : Int) - 1) = (n : Int) := by rw [IntKind.wrap_i64]; omega
    have u2 : (L.length : Int) - 1 = (n : Int) := by omega
    have u3 : (n : Int) < L.length := by omega
    have u4 : (0 : Int) ≤ (n : Int) := by omega
    have u6 : IntKind.i64.wrap (n : Int) = (n : Int) := by rw [IntKind.wrap_i64]; omega
    have htl : L.take n = L.dropLast := by rw [List.dropLast_eq_take, hn]
    have HF : Hid (lasP L = (px, pc) ∧ (!L.isEmpty) = true) := Lib.hid (by
      refine ⟨?_, by cases L with
        | nil => exact absurd rfl hne
        | cons p r => rfl⟩
      unfold lasP
      rw [List.getLast?_eq_getElem?, hn, hx0]; rfl)
    rw [HF.out.1, HF.out.2]
    have hT : Pairs w (some ⟨b0, off, none⟩) (L.take n) := ⟨fun p hp => hP.ok p (List.mem_of_mem_take hp), fun i p hi => hP.at_ i p (by
      rw [List.getElem?_take] at hi
      split at hi
      · exact hi
      · cases hi)⟩
    rw [htl] at hT
    have HT := Lib.hid hT
    have HTL : Hid (L.dropLast.length = n) := Lib.hid (by rw [List.length_dropLast]; exact hn)
    simp only at d0 d1
    have HN9 : Hid (L.dropLast.length ≤ 900) := Lib.hid (by rw [HTL.out]; omega)
    have T2 : Two w M (.int .i64 m) (.slice (some ⟨b0, off, none⟩) L.length cap) := ⟨c0, c1, f0, f1⟩
    have HT2 := Lib.hid T2
    clear ho hP hT htl hne hx0 T2
    go_enter Try.func22, Try.ntmps22
    go_upto_region 3 with fail
    go_cut [4] (fun x wx => x = .pointer (some ⟨w.heap.size + 1, 0, none⟩) ∧ Two wx (w.heap.size + 1) (.int .i64 px) (.int .u64 pc) ∧ Two wx w.heap.size (.int .i64 0) (.int .u64 0) ∧ Below w.heap.size w wx ∧ w.heap.size + 2 ≤ wx.heap.size)
    case first =>
      go_region_with (fail)
      all_goals
        go_wp2_with fail
        go_meet
        refine ⟨rfl, ?_, ?_, (((Below.refl _ _).alloc (Nat.le_refl _) _).alloc (by simp) _).drew, by simp⟩
        · have := Two.new (w.alloc (.cells #[.int .i64 0, .int .u64 0] 30)) (.int .i64 px) (.int .u64 pc) 30
          rw [World.size_alloc] at this
          exact this.drew
        · exact ((Two.new w _ _ _).alloc _).drew
    case rest =>
      obtain ⟨rfl, hp2, hz2, hbc, hsz⟩ := hcut
      obtain ⟨e0, e1, e2, e3⟩ := HT2.out.call hbc
      obtain ⟨p0, p1, _, _⟩ := hp2
      have HB := Lib.hid hbc
      have HP2 := Lib.hid (show Two wc (w.heap.size + 1) (.int .i64 px) (.int .u64 pc) from ⟨p0, p1, by assumption, by assumption⟩)
      have HZ2 := Lib.hid hz2
      have HS2 := Lib.hid hsz
      have bD : Below w.heap.size w (wc.drew.alloc (.cells #[] 30)) := hbc.drew.alloc hbc.size _
      have HBD := Lib.hid bD
      have HP4 := Lib.hid (HT.out.call bD)
      have hO := World.ownsRow_made (base := w.heap.size + 1) (e := 30) (size := 2) wc.drew #[] 0 (by have := hsz; simp; omega) (by decide) rfl
      have HO0 : Hid (OwnP (wc.drew.alloc (.cells #[] 30)) (w.heap.size + 1) (.slice (some ⟨wc.heap.size, 0, none⟩) 0 0) []) := Lib.hid hO
      have HS5 : Hid (w.heap.size + 1 ≤ (wc.drew.alloc (.cells #[] 30)).heap.size) := Lib.hid (by have := hsz; simp; omega)
      have HN5 : Hid (n ≤ 1000) := Lib.hid (by omega)
      have HC0 : Hid (∀ w', (wc.drew.alloc (.cells #[] 30)).grownBy w' (some wc.heap.size) →
          Below w.heap.size w w' ∧ w'.cell? ⟨w.heap.size + 1, 0, none⟩ = some (.int .i64 px) ∧ w'.cell? ⟨w.heap.size + 1, 1, none⟩ = some (.int .u64 pc) ∧ w'.frozen? ⟨M, 1, none⟩ = false ∧ Two w' w.heap.size (.int .i64 0) (.int .u64 0) ∧ (∀ u, ((w'.setCell ⟨M, 1, none⟩ u).setCell ⟨w.heap.size, 0, none⟩ (.int .i64 px)).cell? ⟨w.heap.size, 0, none⟩ = some (.int .i64 px)) ∧ (∀ u, (((w'.setCell ⟨M, 1, none⟩ u).setCell ⟨w.heap.size, 0, none⟩ (.int .i64 px)).setCell ⟨w.heap.size, 1, none⟩ (.int .u64 pc)).cell? ⟨w.heap.size, 1, none⟩ = some (.int .u64 pc))) := Lib.hid fun w' hg => by
        have hb := HBD.out.grown hg (by have := HS2.out; simp; omega) (fun k hk => by have := Option.some.inj hk; have := HS2.out; omega)
        have hk : ∀ {B x y}, B ≤ w.heap.size + 1 → Two wc B x y → Two w' B x y := fun {B x y} hB h => (h.drew.alloc _).block (hg.block B (by have := HS2.out; simp; omega) (fun e => by have := Option.some.inj e; have := HS2.out; omega))
        have hT2 := hk (by omega) HZ2.out
        have hP2 := hk (by omega) HP2.out
        have hq : ∀ u o x, w'.cell? ⟨w.heap.size, o, none⟩ = some x → (w'.setCell ⟨M, 1, none⟩ u).cell? ⟨w.heap.size, o, none⟩ = some x := fun u o x h => by rw [World.cell?_setCell_other _ _ _ _ (two_far (by omega))]; exact h
        exact ⟨hb, hP2.c0, hP2.c1, ((bcell hb).2 _ _ hlt).trans HT2.out.f1, hT2, fun u => World.cell?_setCell_same _ _ _ (hq u 0 _ hT2.c0), fun u => World.cell?_setCell_same _ _ _ (u := .int .u64 0) (by rw [World.cell?_setCell_other _ _ _ _ (two_off (by omega))]; exact hq u 1 _ hT2.c1)⟩
      have ea : (wc.alloc (.cells #[] 30)).cell? ⟨M, 1, none⟩ = some (.slice (some ⟨b0, off, none⟩) L.length cap) := ((HT2.out.call hbc).alloc _).c1
      have hMw : M < wc.heap.size := by omega
      clear hz2 hsz bD hO d0 d1 c0 c1 f0 f1
      go_wp2_with fail
      go_region_law (refine step_append_fresh rfl (.tmp 25) (.tmp 36) rfl (w.heap.size + 1) _ (some ⟨b0, off, none⟩) n cap L.dropLast rfl HO0.out rfl HTL.out HP4.out HN5.out HS5.out ?_; intro A5 k5 w5 hown5 hg5; obtain ⟨hb5, g0, g1, g2, ⟨j0, j1, j2, j3⟩, q5, q6⟩ := HC0.out w5 hg5; have h5 := cell_later hb5 HT2.out.c1; have HO5 := Lib.hid hown5; have HB5 := Lib.hid hb5; have Q5 := Lib.hid q5; have Q6 := Lib.hid q6; clear hown5 hg5 hb5 q5 q6)
      all_goals
        go_wp2_with fail
        refine bodyPost_ret (v := .tuple #[.agg #[.int .i64 px, .int .u64 pc], .bool true]) (by simp [results, Try.results22, go_sem, Q5.out, Q6.out]) rfl ⟨rfl, ?_⟩
        exact Done8.put2 HR.out HB5.out HO5.out _ _
end Go.Proofs.Ytnhhehinbobknaa
