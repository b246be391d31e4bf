/-
  Walks: a crate's reach and widen.
-/
import Derived.Test.YtggdmlldolaojaaCrateL
import Derived.Laws.CopyOwn
import Derived.Laws.MakeOwn
import Derived.Laws.OwnMore
import Derived.Deep.RegionLaw
namespace Go.Proofs.Ytggdmlldolaojaa
set_option linter.unusedVariables false
set_option linter.unusedSimpArgs false
open Go.RowKit

theorem ret_two {k k' : IntKind} {a b c d : Int} (h : a = b) (h' : c = d) : Ending.returned (.tuple #[.int k a, .int k' c]) = .returned (.tuple #[.int k b, .int k' d]) := by rw [h, h']
set_option maxHeartbeats 400000 in
theorem reach_void (w : World) (B : Nat) (i : Int) (hi : I64 i) (h : w.cell? ⟨B, 3, none⟩ = some (.int .u64 0)) :
    Calls Try.prog 23 #[.pointer (some ⟨B, 0, none⟩), .int .i64 i] w fun e w' => e = .returned (.tuple #[.int .i64 i, .int .i64 i]) ∧ w = w' := by
  go_enter Try.func23, Try.ntmps23
  go_wp2_with fail
  go_ret2
  exact ⟨rfl, rfl⟩

set_option maxRecDepth 100000 in
set_option maxHeartbeats 1000000 in
theorem reach_lay (w : World) (B : Nat) (lo hi t i a z : Int) (c0 : w.cell? ⟨B, 0, none⟩ = some (.int .i64 lo)) (c1 : w.cell? ⟨B, 1, none⟩ = some (.int .i64 hi)) (c3 : w.cell? ⟨B, 3, none⟩ = some (.int .u64 t)) (ht : 0 < t)
    (hl : I64 lo) (hh : I64 hi) (hii : I64 i) (ha : min lo i = a) (hz : max hi i = z) :
    Calls Try.prog 23 #[.pointer (some ⟨B, 0, none⟩), .int .i64 i] w fun e w' => e = .returned (.tuple #[.int .i64 a, .int .i64 z]) ∧ ∃ m, w' = w.drewN m := by
  obtain ⟨l0, l1⟩ := hl
  obtain ⟨h0, h1⟩ := hh
  obtain ⟨i0, i1⟩ := hii
  have t0 : (t == 0) = false := by simp; omega
  have HA := Lib.hid ha
  have HZ := Lib.hid hz
  clear ha hz
  go_enter Try.func23, Try.ntmps23
  go_wp2_with fail
  go_quiet (fail)
  go_wp2_with fail
  all_goals go_ret2
  all_goals exact ⟨ret_two (by have := HA.out; omega) (by have := HZ.out; omega), _, rfl⟩

theorem set_cells {w : World} {b : Nat} {cs : Array Value} {t : TypeId} (h : w.heap[b]? = some (.cells cs t (0, 0))) (o : Nat) (u : Value) : (w.setCell ⟨b, o, none⟩ u).heap[b]? = some (.cells (cs.setIfInBounds o u) t (0, 0)) := by
  have hlt := lt_of_block h
  have h' : w.heap[b] = .cells cs t (0, 0) := by simpa [Array.getElem?_eq_getElem hlt] using h
  show (w.heap.modify b _)[b]? = _
  rw [Array.getElem?_eq_getElem (by simpa using hlt), Array.getElem_modify_self, h']
  rfl
theorem Try.infoWord : (Try.prog.info? 29).map (fun i => (i.zero, i.size, i.bytes)) = some (some (.int .u64 0), 1, 8) := by kernel_rfl
theorem make_words (n : Nat) (hn : n ≤ 1000000) (w W : World) (hW : w.alloc (.cells (List.replicate n (Value.int .u64 0)).toArray 29) = W) :
    (Instr.makeSlice 50 (.int .i64 (n : Int)) (.int .i64 (n : Int))).run Try.prog w = .ok (.slice (some ⟨w.heap.size, 0, none⟩) n n) W := by
  obtain ⟨i0, hi, hz0, hz1, hz2⟩ := info_parts Try.infoWord
  have hr := run_make (P := Try.prog) w 50 29 i0 (.int .u64 0) Try.underlying50 hi hz0 .i64 .i64 (n : Int) (n : Int) (by omega) (Int.le_refl _) (by rw [hz2]; omega) (by omega)
  rw [hz1, Int.toNat_natCast, Nat.mul_one] at hr
  rw [← hW, ← toList_madeCells_one, Array.toArray_toList]
  exact hr

/-- Behind the three stores. -/
theorem lay_new {w W : World} {B : Nat} {a z t : Int} {n : Nat} {L : List PairV} {x0 x1 x2 : Value} (hb : W.heap[B]? = some (.cells #[x0, x1, x2, .int .u64 t] 52 (0, 0))) (hg : W.heap[w.heap.size]? = some (.cells (tabC L a n).toArray 29 (0, 0))) (hB : B < w.heap.size) :
    Lay (((W.setCell ⟨B, 0, none⟩ (.int .i64 a)).setCell ⟨B, 1, none⟩ (.int .i64 z)).setCell ⟨B, 2, none⟩ (.slice (some ⟨w.heap.size, 0, none⟩) n n)) B w.heap.size a z n L t := by
  refine ⟨set_cells (set_cells (set_cells hb 0 _) 1 _) 2 _, ?_⟩
  rw [Below.heap_setCell _ _ _ _ (by show w.heap.size ≠ B; omega), Below.heap_setCell _ _ _ _ (by show w.heap.size ≠ B; omega), Below.heap_setCell _ _ _ _ (by show w.heap.size ≠ B; omega)]
  exact hg
theorem keeps_new {w W : World} {B : Nat} {S : Nat → Prop} (h : Below w.heap.size w W) (hS : S B) (u0 u1 u2 : Value) :
    Keeps S w (((W.setCell ⟨B, 0, none⟩ u0).setCell ⟨B, 1, none⟩ u1).setCell ⟨B, 2, none⟩ u2) := by
  refine ⟨h.os, h.tape, h.output, by simpa [World.setCell] using h.size, fun k hk hn => ?_⟩
  have hne : k ≠ B := fun e => hn (e ▸ hS)
  rw [Below.heap_setCell _ _ _ _ hne, Below.heap_setCell _ _ _ _ hne, Below.heap_setCell _ _ _ _ hne]
  exact h.block k hk

set_option maxRecDepth 100000 in
set_option maxHeartbeats 1000000 in
theorem widen_same (w : World) (B : Nat) (a z : Int) (n : Nat) (A : Option Addr) (ha : I64 a) (hz : I64 z) (hn : (n : Int) = z - a + 1) (hn1 : n ≤ 4096) (c2 : w.cell? ⟨B, 2, none⟩ = some (.slice A n n)) :
    Calls Try.prog 26 #[.pointer (some ⟨B, 0, none⟩), .int .i64 a, .int .i64 z] w fun e w' => (∃ v, e = .returned v) ∧ w = w' := by
  obtain ⟨a0, a1⟩ := ha
  obtain ⟨z0, z1⟩ := hz
  have e1 : z - a + 1 = (n : Int) := by omega
  have e2 : z - a = (n : Int) - 1 := by omega
  clear hn
  go_enter Try.func26, Try.ntmps26
  go_wp2_with fail
  refine bodyPost_ret (results_none rfl _ _ _) rfl ?_
  exact ⟨⟨_, rfl⟩, rfl⟩

set_option maxRecDepth 100000 in
set_option maxHeartbeats 1000000 in
theorem widen_void (w : World) (B : Nat) (a z : Int) (n : Nat) (ha : I64 a) (hz : I64 z) (hn : (n : Int) = z - a + 1) (hn0 : 0 < n) (hn1 : n ≤ 4096) (h : Void w B) :
    Calls Try.prog 26 #[.pointer (some ⟨B, 0, none⟩), .int .i64 a, .int .i64 z] w fun e w' => (∃ v, e = .returned v) ∧ Lay w' B w.heap.size a z n [] 0 ∧ Keeps (fun k => k = B) w w' := by
  obtain ⟨a0, a1⟩ := ha
  obtain ⟨z0, z1⟩ := hz
  have e1 : z - a + 1 = (n : Int) := by omega
  have e2 : z - a = (n : Int) - 1 := by omega
  have c2 := h.c2
  obtain ⟨W, hW⟩ : ∃ W, w.alloc (.cells (List.replicate n (Value.int .u64 0)).toArray 29) = W := ⟨_, rfl⟩
  have hmk := make_words n (by omega) w W hW
  have hbel : Below w.heap.size w W := by rw [← hW]; exact (Below.refl _ _).alloc (Nat.le_refl _) _
  have hV := h.call hbel
  have c3 := hV.c3
  have k0 := hV.c0
  have k1 := hV.c1
  have k2 := hV.c2
  have f0 := hV.fb 0
  have f1 := hV.fb 1
  have f2 := hV.fb 2
  have hlt := lt_of_block h
  have hg : W.heap[w.heap.size]? = some (.cells (tabC [] a n).toArray 29 (0, 0)) := by rw [← hW, tabC_nil]; exact heap_alloc_new _ _
  have HG := Lib.hid hg
  have HV := Lib.hid hV
  have HB := Lib.hid hbel
  have n0 : (n : Int) ≠ 0 := by omega
  have n0' : ((n : Int) == 0) = false := by simp; omega
  clear hn h hW hg hV hbel
  go_enter Try.func26, Try.ntmps26
  go_wp2_with fail
  go_end0
  exact ⟨⟨_, rfl⟩, lay_new HV.out HG.out hlt, keeps_new (S := fun k => k = B) HB.out rfl _ _ _⟩

set_option maxRecDepth 100000 in
set_option maxHeartbeats 2000000 in
theorem widen_lay (w : World) (B G : Nat) (lo hi t a z : Int) (n n' : Nat) (L : List PairV) (h : Lay w B G lo hi n L t) (hl : I64 lo) (ha : I64 a) (hz : I64 z) (hn : (n' : Int) = z - a + 1) (hn0 : 0 < n) (hn1 : n' ≤ 4096) (hne : n' ≠ n)
    (h0 : a ≤ lo) (h1 : lo + n ≤ z + 1) (ht : 0 < t) (hBG : B ≠ G) (hout : ∀ j, j < lo ∨ lo + n ≤ j → countP L j = 0) :
    Calls Try.prog 26 #[.pointer (some ⟨B, 0, none⟩), .int .i64 a, .int .i64 z] w fun e w' => (∃ v, e = .returned v) ∧ Lay w' B w.heap.size a z n' L t ∧ Keeps (fun k => k = B) w w' := by
  obtain ⟨a0, a1⟩ := ha
  obtain ⟨z0, z1⟩ := hz
  obtain ⟨l0, l1⟩ := hl
  obtain ⟨off, ho⟩ : ∃ off : Nat, lo - a = off := ⟨(lo - a).toNat, by omega⟩
  have e1 : z - a + 1 = (n' : Int) := by omega
  have e2 : z - a = (n' : Int) - 1 := by omega
  have e3 : ((n' : Int) == (n : Int)) = false := by simp; omega
  have e4 : IntKind.i64.wrap (lo - a) = (off : Int) := by rw [IntKind.wrap_i64]; omega
  have hoff : off + n ≤ n' := by omega
  have hoff2 : (off : Int) < n' := by omega
  have hoff3 : off ≤ n' := by omega
  have hoff4 : ¬ n' = off := by omega
  have c2 := h.c2
  obtain ⟨W, hW⟩ : ∃ W, w.alloc (.cells (List.replicate n' (Value.int .u64 0)).toArray 29) = W := ⟨_, rfl⟩
  have hmk := make_words n' (by omega) w W hW
  have hbel : Below w.heap.size w W := by rw [← hW]; exact (Below.refl _ _).alloc (Nat.le_refl _) _
  have hV := h.call hbel
  have c3 := hV.c3
  have k0 := hV.c0
  have k2 := hV.c2
  have t0 : (t != 0) = true := by simp; omega
  have hlt := lt_of_block h.b
  have hg : W.heap[w.heap.size]? = some (.cells (List.replicate n' (Value.int .u64 0)).toArray 29 (0, 0)) := by rw [← hW]; exact heap_alloc_new _ _
  have HG := Lib.hid hg
  have HV := Lib.hid hV
  have HB := Lib.hid hbel
  have HT := Lib.hid (tabC_wide (n' := n') hout ho hoff)
  have HLT := Lib.hid hlt
  have HLB := Lib.hid h.b
  have HSZ : Hid ((Try.prog.info? 29).map (·.size) = some 1) := Lib.hid (by kernel_rfl)
  have HDB : Hid (Below w.heap.size w W.drew) := Lib.hid (hbel.trans ⟨rfl, rfl, rfl, Nat.le_refl _, fun _ _ => rfl⟩)
  have HSRC : Hid (∀ j v, (tabC L lo n)[j]? = some v → W.cell? ((⟨G, 0, none⟩ : Addr).add j) = some v) := Lib.hid (fun j v hv => by
    rw [add_flat, Nat.zero_add, Joins.cell_of_block hV.g, List.getElem?_toArray]; exact hv)
  have HN1 : Hid ((tabC L lo n).length = Nat.min n (n' - off)) := Lib.hid (by rw [tabC_len]; exact (Nat.min_eq_left (by omega)).symm)
  have HN3 : Hid (off + (tabC L lo n).length ≤ (List.replicate n' (Value.int .u64 0)).length) := Lib.hid (by rw [tabC_len, List.length_replicate]; exact hoff)
  clear hn h hW hg hV hbel hout hne ho
  go_enter Try.func26, Try.ntmps26
  go_wp2_with fail
  go_region_law (refine step_copy_splice rfl (.tmp 33) (.tmp 37) 50 50 rfl 29 Try.underlying50 HSZ.out _ _ _ _ _ _ rfl rfl w.heap.size off _ 29 HG.out (tabC L lo n) HN1.out (fun _ => ⟨rfl, _, rfl, HSRC.out⟩) HN3.out (tabC_one L lo n) w.heap.size w HDB.out (Nat.le_refl _) ?_; intro w4 hg4 hb4)
  all_goals
    have hB4 := (hb4.block B HLT.out).trans HLB.out
    have hg5 := hg4.out
    rw [HT.out] at hg5
    have HB4 := Lib.hid hB4
    have HG5 := Lib.hid hg5
    have HBL4 := Lib.hid hb4
    have d0 : w4.cell? ⟨B, 0, none⟩ = some (.int .i64 lo) := by rw [Joins.cell_of_block hB4]; rfl
    have d1 : w4.cell? ⟨B, 1, none⟩ = some (.int .i64 hi) := by rw [Joins.cell_of_block hB4]; rfl
    have d2 : w4.cell? ⟨B, 2, none⟩ = some (.slice (some ⟨G, 0, none⟩) n n) := by rw [Joins.cell_of_block hB4]; rfl
    have f0 := free_of_block hB4 0
    have f1 := free_of_block hB4 1
    have f2 := free_of_block hB4 2
    clear hB4 hg5 hb4 hg4
    go_wp2_with fail
    go_end0
    exact ⟨⟨_, rfl⟩, lay_new HB4.out HG5.out HLT.out, keeps_new (S := fun k => k = B) HBL4.out rfl _ _ _⟩
end Go.Proofs.Ytggdmlldolaojaa
