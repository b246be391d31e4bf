/-
  Walks: share.Even: what it hands back goes over all steps, or over a part of them.
-/
import Derived.RangeFuncNested
import Derived.RangeFuncBound
import Derived.RangeFuncCalls
import Derived.RangeFuncLeaves
import Derived.Shelf.Abstract
import Derived.Shelf.RegionOpen
import Derived.WalkKit
import Derived.OwnWalkIn
import Derived.TacticsInMore
import Derived.LoopNIn
import Derived.LoopIn
import Derived.Test.YtbllnhkfnbadgaaShareV
namespace Go.Proofs.Ytbllnhkfnbadgaa
set_option linter.unusedVariables false
set_option linter.unusedSimpArgs false
open Go.RowKit Go.Shelf
attribute [local go_sem] Oper.semAt_some

/-- The parts, from nothing to all, so many of them. -/
def evK (m k : Nat) : List (Int × Int) := List.map (fun (i : Nat) => ((i : Int), (m : Int))) (List.range k)
theorem evK_next (m k : Nat) : evK m k ++ [((k : Int), (m : Int))] = evK m (k + 1) := by
  unfold evK; rw [List.range_succ, List.map_append]; rfl
theorem evK_len (m k : Nat) : (evK m k).length = k := by unfold evK; simp
theorem evK_pre (m k j : Nat) (h : k ≤ j) : evK m k <+: evK m j := by
  unfold evK
  refine List.IsPrefix.map _ ?_
  have e : List.range j = List.range k ++ (List.range (j - k)).map (k + ·) := by
    rw [← List.range_add]; congr 1; omega
  rw [e]
  exact List.prefix_append _ _

set_option maxRecDepth 1000000 in
set_option maxHeartbeats 1000000 in
theorem even1_in (F : Fence) (n : Nat) (h6 : F.fn 24) (hro : F.round = none) (hn : 1 ≤ n) (l Bn n₀ m : Nat) (hm : 1 ≤ m) (hm2 : m ≤ 1000) (J Jx : List (Int × Int) → World → Prop)
    (hY : ∀ pre x W, J pre W → pre.length < m + 1 → YieldAt F (n - 1) Try.prog l #[.agg #[.int .u64 x.1, .int .u64 x.2]] W fun e W' =>
      (e = .returned (.bool true) ∧ J (pre ++ [x]) W' ∧ Below n₀ W W') ∨ (e = .returned (.bool false) ∧ Jx (pre ++ [x]) W'))
    (W : World) (hBn : W.cell? ⟨Bn, 0, none⟩ = some (.int .i64 (m : Int))) (h0 : J [] W) :
    CallsIn F n Try.prog 24 #[.func (.yield l) #[] #[], .pointer (some ⟨Bn, 0, none⟩)] W fun e W' => (∃ v, e = .returned v) ∧
      ((∃ ys, ys = evK m (m + 1) ∧ J ys W') ∨ (∃ pre, pre <+: evK m (m + 1) ∧ Jx pre W')) := by
  have i1 : ¬ (m : Int) < 1 := by omega
  have i2 : (m : Int) < 18446744073709551616 := by omega
  refine callsIn_of_wp Try.func24 rfl h6 ?_ hro
  simp only [Try.ntmps24, List.size_toArray, List.length_cons, List.length_nil, Nat.reduceAdd, Nat.reduceSub, Array.replicate_succ, Array.replicate_zero, List.push_toArray, List.append_toArray, List.nil_append, List.cons_append]
  gi_wp2
  gi_loopw [4] (fun p wr => ∃ k : Nat, k ≤ m + 1 ∧ p = .int .u64 (k : Int) ∧ J (evK m k) wr) (fun p _ => m + 1 - intU p)
  case atStart => exact ⟨0, by omega, rfl, h0⟩
  case round =>
    obtain ⟨k, hk, rfl, hJ⟩ := hrel
    by_cases hlt : k ≤ m
    · have hle : (k : Int) ≤ (m : Int) := by omega
      have hk2 : (k : Int) + 1 < 18446744073709551616 := by omega
      obtain ⟨fn, tmps, assign, body, hy, hR⟩ := hY (evK m k) ((k : Int), (m : Int)) wr hJ (by rw [evK_len]; omega)
      rw [evK_next] at hR
      dsimp only at hy
      gi_wp2
      refine hR.mono ?_
      rintro e W3 (⟨rfl, hJ3, hk3⟩ | ⟨rfl, hJx3⟩)
      · gi_wp2
        go_roundw
        case rel => exact ⟨k + 1, by omega, by go_num, hJ3⟩
        case measure => simp [intU]; omega
      · gi_wp2
        refine bodyPost_ret (results_none rfl _ _ _) rfl ?_
        exact ⟨⟨_, rfl⟩, .inr ⟨evK m (k + 1), evK_pre m _ _ (by omega), hJx3⟩⟩
    · have e : k = m + 1 := by omega
      have hle : ¬ (k : Int) ≤ (m : Int) := by omega
      rw [e] at hJ
      clear e hk hlt
      gi_wp2
      go_end0
      exact ⟨⟨_, rfl⟩, .inl hJ⟩

set_option maxHeartbeats 1000000 in
/-- None of fewer than one step. -/
theorem even0_in (F : Fence) (n : Nat) (h6 : F.fn 24) (hro : F.round = none) (hn : 1 ≤ n) (l Bn : Nat) (s : Int) (hs : s < 1) (J Jx : List (Int × Int) → World → Prop)
    (W : World) (hBn : W.cell? ⟨Bn, 0, none⟩ = some (.int .i64 s)) (h0 : J [] W) :
    CallsIn F n Try.prog 24 #[.func (.yield l) #[] #[], .pointer (some ⟨Bn, 0, none⟩)] W fun e W' => (∃ v, e = .returned v) ∧
      ((∃ ys, ys = [] ∧ J ys W') ∨ (∃ pre, pre = [] ∧ Jx pre W')) := by
  refine callsIn_of_wp Try.func24 rfl h6 ?_ hro
  simp only [Try.ntmps24, List.size_toArray, List.length_cons, List.length_nil, Nat.reduceAdd, Nat.reduceSub, Array.replicate_succ, Array.replicate_zero, List.push_toArray, List.append_toArray, List.nil_append, List.cons_append]
  gi_wp2
  refine bodyPost_ret (results_none rfl _ _ _) rfl ?_
  exact ⟨⟨_, rfl⟩, .inl ⟨[], rfl, h0⟩⟩

set_option maxHeartbeats 1000000 in
theorem even_in (F : Fence) (n : Nat) (h5 : F.fn 17) (hro : F.round = none) (s : Int) (w : World) :
    CallsIn F n Try.prog 17 #[.int .i64 s] w fun e w' => e = .returned (.func (.func 24) #[] #[.pointer (some ⟨w.heap.size, 0, none⟩)]) ∧ w' = w.alloc (.cells #[.int .i64 s] 3) := by
  refine callsIn_of_wp Try.func17 rfl h5 ?_ hro
  simp only [Try.ntmps17, List.size_toArray, List.length_cons, List.length_nil, Nat.reduceAdd, Nat.reduceSub, Array.replicate_succ, Array.replicate_zero, List.push_toArray, List.append_toArray, List.nil_append, List.cons_append]
  gi_wp2
  go_ret
  exact ⟨rfl, rfl⟩

theorem even_stops (F : Fence) (n : Nat) (h6 : F.fn 24) (hro : F.round = none) (hn : 1 ≤ n) (Bn n₀ m : Nat) (hm : 1 ≤ m) (hm2 : m ≤ 1000) (w : World) (hBn : Bn < w.heap.size) (hn₀ : n₀ ≤ w.heap.size)
    (hc : w.cell? ⟨Bn, 0, none⟩ = some (.int .i64 (m : Int))) :
    SeqStopsK F n Try.prog 24 #[.pointer (some ⟨Bn, 0, none⟩)] (fun x : Int × Int => #[Value.agg #[.int .u64 x.1, .int .u64 x.2]]) (Below n₀) (fun ys => ys = evK m (m + 1)) (fun pre => pre <+: evK m (m + 1)) (m + 1) w := fun l J Jx W hW _ _ hY h0 =>
  even1_in F n h6 hro hn l Bn n₀ m hm hm2 J Jx hY W ((hW.cell (p := ⟨Bn, 0, none⟩) hBn).trans hc) h0
theorem even_none (F : Fence) (n : Nat) (h6 : F.fn 24) (hro : F.round = none) (hn : 1 ≤ n) (Bn n₀ : Nat) (s : Int) (hs : s < 1) (w : World) (hBn : Bn < w.heap.size) (hn₀ : n₀ ≤ w.heap.size)
    (hc : w.cell? ⟨Bn, 0, none⟩ = some (.int .i64 s)) :
    SeqStopsK F n Try.prog 24 #[.pointer (some ⟨Bn, 0, none⟩)] (fun x : Int × Int => #[Value.agg #[.int .u64 x.1, .int .u64 x.2]]) (Below n₀) (fun ys => ys = []) (fun pre => pre = []) 0 w := fun l J Jx W hW _ _ hY h0 =>
  even0_in F n h6 hro hn l Bn s hs J Jx W ((hW.cell (p := ⟨Bn, 0, none⟩) hBn).trans hc) h0
end Go.Proofs.Ytbllnhkfnbadgaa
