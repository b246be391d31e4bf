/-
  Walk: slices.Backward of a row of pairs: it goes over the row from its end to its beginning.
-/
import Derived.RangeFuncNested
import Derived.RangeFuncBound
import Derived.RangeFuncCalls
import Derived.RangeFuncLeaves
import Derived.Shelf.Abstract
import Derived.Shelf.RegionOpen
import Derived.WalkKit
import Derived.OwnWalkIn
import Derived.TacticsInMore
import Derived.LoopNIn
import Derived.LoopIn
import Derived.Lib.SmallJoins
import Derived.Test.YtoegjncccahmlaaPairI
namespace Go.Proofs.Ytoegjncccahmlaa
set_option linter.unusedVariables false
set_option linter.unusedSimpArgs false
open Go.RowKit Go.Shelf
attribute [local go_sem] Oper.semAt_some

/-- An index and its pair, as they are handed to a loop. -/
def encBk (L : List PairV) (k : Fin L.length) : Array Value := #[.int .i64 (k.1 : Int), .agg #[.int .i64 (L[k.1]).1, .int .u64 (L[k.1]).2]]
/-- All indexes, the last one first. -/
def bkL (L : List PairV) : List (Fin L.length) := (List.finRange L.length).reverse
theorem bkL_len (L : List PairV) : (bkL L).length = L.length := by unfold bkL; simp
theorem bkL_at (L : List PairV) (k q : Nat) (h : q < L.length) (hq : q + k + 1 = L.length) : (bkL L)[k]? = some ⟨q, h⟩ := by
  unfold bkL
  rw [List.getElem?_reverse (by simp; omega), List.getElem?_eq_getElem (by simp; omega)]
  simp
  omega
/-- These blocks are as they were. -/
def KeepB (U : Nat → Prop) (W W' : World) : Prop := ∀ k, U k → W'.heap[k]? = W.heap[k]?
theorem keepB_t {U : Nat → Prop} {A B C : World} (h : KeepB U A B) (k : KeepB U B C) : KeepB U A C := fun i hi => (k i hi).trans (h i hi)
theorem keepB_b {U : Nat → Prop} {n : Nat} (hU : ∀ k, U k → k < n) (W : World) (l : Nat) (o o' : Obj) (hl : n ≤ l) (_ : W.heap[l]? = some o) (_ : o.isCells = false) (_ : o.isWalk = false) : KeepB U W (W.putObj l o') :=
  fun k hk => World.putObj_heap_other (by have := hU k hk; omega)

set_option maxRecDepth 1000000 in
set_option maxHeartbeats 1000000 in
theorem back_in {L : List PairV} (n : Nat) (hn : 1 ≤ n) (l Bx : Nat) (A : Option Addr) (cap : Nat) (U : Nat → Prop) (w : World) (hUb : U Bx) (hUg : ∀ g off, A = some ⟨g, off, none⟩ → U g) (hP : Pairs w A L) (hl : L.length ≤ 100000) (hbx : w.cell? ⟨Bx, 0, none⟩ = some (.slice A L.length cap))
    (J Jx : List (Fin L.length) → World → Prop)
    (hY : ∀ pre x W1, J pre W1 → pre.length < L.length → YieldAt Fence.wide (n - 1) Try.prog l (encBk L x) W1 fun e W' =>
      (e = .returned (.bool true) ∧ J (pre ++ [x]) W' ∧ KeepB U W1 W') ∨ (e = .returned (.bool false) ∧ Jx (pre ++ [x]) W'))
    (W : World) (hk : KeepB U w W) (h0 : J [] W) :
    CallsIn Fence.wide n Try.prog 54 #[.func (.yield l) #[] #[], .pointer (some ⟨Bx, 0, none⟩)] W fun e W' => (∃ v, e = .returned v) ∧
      ((∃ ys, ys = bkL L ∧ J ys W') ∨ (∃ pre, True ∧ Jx pre W')) := by
  have HBX : Hid (∀ W', KeepB U w W' → W'.cell? ⟨Bx, 0, none⟩ = some (.slice A L.length cap)) := Lib.hid (fun W' h => (World.cell?_of_block (a := ⟨Bx, 0, none⟩) (h Bx hUb)).trans hbx)
  have HC : Hid (∀ W' k p, KeepB U w W' → L[k]? = some p → ∃ g off, A = some ⟨g, off, none⟩ ∧ W'.cell? ⟨g, off + k * 2, none⟩ = some (.int .i64 p.1) ∧ W'.cell? ⟨g, off + k * 2 + 1, none⟩ = some (.int .u64 p.2)) := Lib.hid (fun W' k p h hp => by
    obtain ⟨g, off, hA, _, c0, c1⟩ := hP.at_ k p hp
    have hg := h g (hUg g off hA)
    exact ⟨g, off, hA, (World.cell?_of_block (a := ⟨g, off + k * 2, none⟩) hg).trans c0, (World.cell?_of_block (a := ⟨g, off + k * 2 + 1, none⟩) hg).trans c1⟩)
  have HY := Lib.hid hY
  have HK := Lib.hid hk
  have HJ0 : Hid (J ((bkL L).take 0) W) := Lib.hid h0
  have HLEN := Lib.hid (bkL_len L)
  have HAT := Lib.hid (bkL_at L)
  have b0 := HBX.out W hk
  obtain ⟨N, hN⟩ : ∃ N, L.length = N := ⟨_, rfl⟩
  have HN := Lib.hid hN
  rw [hN] at b0 hl
  have u1 : IntKind.i64.wrap ((N : Int) - 1) = (N : Int) - 1 := by rw [IntKind.wrap_i64]; omega
  clear hY hk h0 hP hbx hUb hUg hN
  refine callsIn_of_wp Try.func54 rfl trivial ?_ rfl
  simp only [Try.ntmps54, List.size_toArray, List.length_cons, List.length_nil, Nat.reduceAdd, Nat.reduceSub, Array.replicate_succ, Array.replicate_zero, List.push_toArray, List.append_toArray, List.nil_append, List.cons_append]
  gi_wp2
  gi_loopw [3] (fun j wr => ∃ k : Nat, k ≤ N ∧ j = .int .i64 ((N : Int) - 1 - k) ∧ J ((bkL L).take k) wr ∧ KeepB U w wr) (fun j _ => (intOf j + 1).toNat)
  case atStart => exact ⟨0, Nat.zero_le _, by simp, HJ0.out, HK.out⟩
  case round =>
    clear HJ0 HK b0 u1
    obtain ⟨k, hk, rfl, hJ1, hk1⟩ := hrel
    have HJ1 := Lib.hid hJ1
    have HK1 := Lib.hid hk1
    clear hJ1 hk1
    by_cases hlt : k < N
    · obtain ⟨q, hq⟩ : ∃ q : Nat, q + k + 1 = N := ⟨N - k - 1, by omega⟩
      have hql : q < L.length := by have := HN.out; omega
      have hxq : L[q]? = some L[q] := List.getElem?_eq_getElem hql
      have HNX := Lib.hid (take_snocP (HAT.out k q hql (by have := HN.out; omega)))
      have hjq : (N : Int) - 1 - k = (q : Int) := by omega
      rw [hjq]
      have hYY := HY.out ((bkL L).take k) ⟨q, hql⟩ wr HJ1.out (by rw [List.length_take, HLEN.out]; have := HN.out; omega)
      rw [← HNX.out] at hYY
      have he : encBk L ⟨q, hql⟩ = #[.int .i64 (q : Int), .agg #[.int .i64 (L[q]).1, .int .u64 (L[q]).2]] := rfl
      rw [he] at hYY
      obtain ⟨g, off, rfl, c0, c1⟩ := HC.out wr q _ HK1.out hxq
      have b1 := HBX.out wr HK1.out
      rw [HN.out] at b1
      have HYY := Lib.hid hYY
      have q1 : (q : Int) < (N : Int) := by omega
      have q2 : (0 : Int) ≤ (q : Int) := by omega
      have q3 : IntKind.i64.wrap ((q : Int) - 1) = (q : Int) - 1 := by rw [IntKind.wrap_i64]; omega
      have HQQ : Hid ((q : Int) - 1 = (N : Int) - 1 - ((k + 1 : Nat) : Int)) := Lib.hid (by omega)
      generalize hpx : (L[q]).1 = px at *
      generalize hpc : (L[q]).2 = pc at *
      clear hYY he hxq hpx hpc hq hjq
      obtain ⟨fn, tmps, assign, body, hy, hR⟩ := HYY.out
      gi_wp2
      refine hR.mono ?_
      rintro e W3 (⟨rfl, hJ3, hk3⟩ | ⟨rfl, hJx3⟩)
      · have HJ3 := Lib.hid hJ3
        have HK3 := Lib.hid (keepB_t HK1.out hk3)
        clear hJ3 hk3
        gi_wp2
        go_roundw
        case rel => exact ⟨k + 1, by omega, by rw [← HQQ.out], HJ3.out, HK3.out⟩
        case measure => (simp [intOf]; try omega)
      · gi_wp2
        refine bodyPost_ret (results_none rfl _ _ _) rfl ?_
        exact ⟨⟨_, rfl⟩, .inr ⟨_, trivial, hJx3⟩⟩
    · obtain rfl : k = N := by omega
      have HJL : Hid (J (bkL L) wr) := Lib.hid (by
        have := HJ1.out
        rwa [List.take_of_length_le (Nat.le_of_eq (by rw [HLEN.out, HN.out]))] at this)
      have q1 : (k : Int) - 1 - (k : Int) = -1 := by omega
      rw [q1]
      gi_wp2
      go_end0
      exact ⟨⟨_, rfl⟩, .inl ⟨_, rfl, HJL.out⟩⟩

set_option maxHeartbeats 400000 in
theorem call_back (A : Option Addr) (n cap : Nat) (w : World) :
    Calls Try.prog 43 #[.slice A n cap] w fun e w' => e = .returned (.func (.func 54) #[] #[.pointer (some ⟨w.heap.size, 0, none⟩)]) ∧ w' = w.alloc (.cells #[.slice A n cap] 22) := by
  go_enter Try.func43, Try.ntmps43
  go_wp2_with fail
  go_ret
  exact ⟨rfl, rfl⟩
theorem enters_back : ∀ args w, (callFunc 54 args).run Try.prog w = .ok (.enter 54 args) w :=
  enters_of Try.func54 (by kernel_rfl) rfl
/-- The blocks that it reads. -/
def backU (w : World) (A : Option Addr) (k : Nat) : Prop := k = w.heap.size ∨ ∃ off, A = some ⟨k, off, none⟩
theorem back_stops (n : Nat) (hn : 1 ≤ n) (w : World) (A : Option Addr) (cap : Nat) (L : List PairV) (hP : Pairs w A L) (hl : L.length ≤ 100000) (hA : ∀ g off, A = some ⟨g, off, none⟩ → g < w.heap.size) :
    SeqStopsK Fence.wide n Try.prog 54 #[.pointer (some ⟨w.heap.size, 0, none⟩)] (encBk L) (KeepB (backU w A)) (fun ys => ys = bkL L) (fun _ => True) L.length (w.alloc (.cells #[.slice A L.length cap] 22)) := by
  intro l J Jx W hW _ _ hY h0
  have hb : Below w.heap.size w (w.alloc (.cells #[.slice A L.length cap] 22)) := (Below.refl _ _).alloc (Nat.le_refl _) _
  refine back_in n hn l w.heap.size A cap (backU w A) (w.alloc (.cells #[.slice A L.length cap] 22)) (Or.inl rfl) (fun g off h => Or.inr ⟨off, h⟩) (hP.call hb) hl ?_ J Jx hY W (fun k hk => hW.block k ?_) h0
  · have h : (w.alloc (.cells #[.slice A L.length cap] 22)).heap[w.heap.size]? = some (.cells #[.slice A L.length cap] 22 (0, 0)) := heap_alloc_new _ _
    rw [Joins.cell_of_block h]; rfl
  · rw [World.size_alloc]
    rcases hk with rfl | ⟨off, h⟩
    · omega
    · have := hA _ _ h; omega
end Go.Proofs.Ytoegjncccahmlaa
