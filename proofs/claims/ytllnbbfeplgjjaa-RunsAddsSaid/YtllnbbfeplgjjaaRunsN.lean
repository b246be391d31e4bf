/-
  Walk: the landed code of runs: the pair behind a row.
-/
import Derived.Test.YtllnbbfeplgjjaaPairC
import Derived.Test.YtllnbbfeplgjjaaQuillB
import Derived.Deep.RegionWith
namespace Go.Proofs.Ytllnbbfeplgjjaa
set_option linter.unusedVariables false
set_option linter.unusedSimpArgs false
open Go.RowKit

theorem grown_alloc {a b : World} {r : Option Nat} (h : a.grownBy b r) (o : Obj) : a.grownBy (b.alloc o) r :=
  ⟨h.os, h.tape, h.output, Nat.le_trans h.size (by simp), fun i hi hr => (heap_alloc_old _ _ (Nat.lt_of_lt_of_le hi h.size)).trans (h.block i hi hr)⟩
theorem grown_own {a b c : World} {r r' : Option Nat} (h : a.grownBy b r) (k : b.grownBy c r') (hr : ∀ g, r' = some g → a.heap.size ≤ g) : a.grownBy c r :=
  ⟨k.os.trans h.os, k.tape.trans h.tape, k.output.trans h.output, Nat.le_trans h.size k.size, fun i hi hne => (k.block i (Nat.lt_of_lt_of_le hi h.size) (fun e => by have := hr i e.symm; omega)).trans (h.block i hi hne)⟩
theorem grown_call {a b c : World} {r : Option Nat} (h : a.grownBy b r) (k : Below b.heap.size b c) : a.grownBy c r :=
  ⟨k.os.trans h.os, k.tape.trans h.tape, k.output.trans h.output, Nat.le_trans h.size k.size, fun i hi hne => (k.block i (Nat.lt_of_lt_of_le hi h.size)).trans (h.block i hi hne)⟩
theorem grown_cell {a b : World} {B g o : Nat} {v : Value} (h : a.grownBy b (some B)) (hne : g ≠ B) (hc : a.cell? ⟨g, o, none⟩ = some v) : b.cell? ⟨g, o, none⟩ = some v := by
  have hlt := World.block_lt_of_cell? (a := ⟨g, o, none⟩) a hc
  exact (World.cell?_of_block (a := ⟨g, o, none⟩) (h.block g hlt (fun e => hne (Option.some.inj e)))).trans hc
theorem Eye.grown {w w' : World} {B : Nat} {s : ByteArray} {bad : Bool} {r : Option Nat} (h : Eye w B s bad) (hg : w.grownBy w' r) (hne : r ≠ some B) : Eye w' B s bad := by
  have hlt := h.two.lt
  have hb := hg.block B hlt (fun e => hne e.symm)
  exact ⟨⟨(World.cell?_of_block (a := ⟨B, 0, none⟩) hb).trans h.two.c0, (World.cell?_of_block (a := ⟨B, 1, none⟩) hb).trans h.two.c1, (World.frozen?_of_block (a := ⟨B, 0, none⟩) hb).trans h.two.f0, (World.frozen?_of_block (a := ⟨B, 1, none⟩) hb).trans h.two.f1⟩, h.non⟩
theorem Eye.lt {w : World} {B : Nat} {s : ByteArray} {bad : Bool} (h : Eye w B s bad) : B < w.heap.size := h.two.lt
theorem Eye.alloc {w : World} {B : Nat} {s : ByteArray} {bad : Bool} (h : Eye w B s bad) (o : Obj) : Eye (w.alloc o) B s bad := h.call ((Below.refl _ _).alloc (Nat.le_refl _) _)
theorem nS_le (s : ByteArray) (bad : Bool) (m : Nat) (n : Nat) (h : s.size ≤ n) : (nS s bad m).size ≤ n := Nat.le_trans (nS_size s bad m) h

/-- A result that lies in a cell of two. -/
theorem ret_agg {a b c d : Int} (h : a = c) (h' : b = d) : Ending.returned (.agg #[.int .i64 a, .int .u64 b]) = .returned (.agg #[.int .i64 c, .int .u64 d]) := by rw [h, h']

set_option maxRecDepth 100000 in
set_option maxHeartbeats 1000000 in
theorem next_first (w : World) (B : Nat) (t : ByteArray) (bd : Bool) (A : Option Addr) (cap : Nat) (hs : t.size ≤ 100000) (h : Eye w B t bd) :
    Calls Try.prog 39 #[.pointer (some ⟨B, 0, none⟩), .slice A 0 cap] w fun e w' =>
      e = .returned (.agg #[.int .i64 (zag (nV t bd 18446744073709551615)), .int .u64 (nV (nS t bd 18446744073709551615) (gone t bd 18446744073709551615) 9223372036854775807)]) ∧
      Eye w' B (cS (nS t bd 18446744073709551615) (gone t bd 18446744073709551615)) (cgone (nS t bd 18446744073709551615) (gone t bd 18446744073709551615)) ∧ w.grownBy w' (some B) := by
  have hBw := h.lt
  obtain ⟨rc, hrc⟩ : ∃ rc : Obj, rc = .cells #[.int .i64 0, .int .u64 0] 26 := ⟨_, rfl⟩
  have C1 := eye_int (w.alloc rc) B t bd (by omega) (h.alloc rc)
  have hsz := nS_le t bd 18446744073709551615 1000000 (by omega)
  obtain ⟨i, hi⟩ : ∃ i, zag (nV t bd 18446744073709551615) = i := ⟨_, rfl⟩
  obtain ⟨s1, hs1⟩ : ∃ s1, nS t bd 18446744073709551615 = s1 := ⟨_, rfl⟩
  obtain ⟨b1, hb1⟩ : ∃ b1, gone t bd 18446744073709551615 = b1 := ⟨_, rfl⟩
  rw [hi, hs1, hb1] at C1
  rw [hi, hs1, hb1]
  rw [hs1] at hsz
  have C2 := fun w1 (h1 : Eye w1 B s1 b1) => eye_count w1 B s1 b1 hsz h1
  obtain ⟨c, hc⟩ : ∃ c, nV s1 b1 9223372036854775807 = c := ⟨_, rfl⟩
  obtain ⟨s2, hs2⟩ : ∃ s2, cS s1 b1 = s2 := ⟨_, rfl⟩
  obtain ⟨b2, hb2⟩ : ∃ b2, cgone s1 b1 = b2 := ⟨_, rfl⟩
  rw [hc, hs2, hb2] at C2 ⊢
  subst hrc
  have H1 := Lib.hid C1
  have H2 := Lib.hid C2
  clear C1 C2 hi hs1 hb1 hc hs2 hb2 h
  go_enter Try.func39, Try.ntmps39
  go_wp2_with fail
  refine H1.out.mono ?_
  rintro e w1 ⟨rfl, hE1, hG1⟩
  go_wp2_with fail
  refine (H2.out _ hE1).mono ?_
  rintro e w2 ⟨rfl, hE2, hG2⟩
  have hG3 := grown_trans hG1 hG2
  have T2 : Two w2 w.heap.size (.int .i64 0) (.int .u64 0) := two_only (Two.new w _ _ _) hG3 (by omega)
  have hG4 : w.grownBy w2 (some B) := grown_trans (grown_alloc (grown_refl w _) _) hG3
  have T3 := T2.put (.int .i64 i) (.int .u64 c)
  obtain ⟨d0, d1, f0, f1⟩ := T2
  have HE := Lib.hid hE2
  have HG := Lib.hid hG4
  have HT := Lib.hid T3
  clear hG1 hG2 hE1 hE2 hG3 hG4 T3
  go_wp2_with fail
  have hE3 : Eye ((w2.setCell ⟨w.heap.size, 0, none⟩ (.int .i64 i)).setCell ⟨w.heap.size, 1, none⟩ (.int .u64 c)) B s2 b2 := ⟨HE.out.two.past (by omega) _ _, HE.out.non⟩
  have hG5 : w.grownBy ((w2.setCell ⟨w.heap.size, 0, none⟩ (.int .i64 i)).setCell ⟨w.heap.size, 1, none⟩ (.int .u64 c)) (some B) :=
    grown_own (grown_own HG.out (grown_setCell _ w.heap.size 0 _) (fun g hg => by have := Option.some.inj hg; omega)) (grown_setCell _ w.heap.size 1 _) (fun g hg => by have := Option.some.inj hg; omega)
  obtain ⟨x0, x1, _, _⟩ := HT.out
  generalize (w2.setCell ⟨w.heap.size, 0, none⟩ (.int .i64 i)).setCell ⟨w.heap.size, 1, none⟩ (.int .u64 c) = W at *
  exact bodyPost_ret (v := .agg #[.int .i64 i, .int .u64 c]) (by simp [results, Try.results39, go_sem, x0, x1]) rfl ⟨rfl, hE3, hG5⟩

/-- The index so far behind one. -/
def nextI (q v : Int) : Int := (q + 1 + v + 9223372036854775808) % 18446744073709551616 - 9223372036854775808

set_option maxRecDepth 100000 in
set_option maxHeartbeats 1000000 in
theorem next_more (w : World) (B : Nat) (t : ByteArray) (bd : Bool) (A : Option Addr) (cap n : Nat) (M : List PairV) (q : PairV) (hs : t.size ≤ 100000) (h : Eye w B t bd) (hM : Pairs w A M) (hA : ∀ b off, A = some ⟨b, off, none⟩ → b ≠ B) (hn : n = M.length) (hl : n ≤ 100000) (hlast : M.getLast? = some q) :
    Calls Try.prog 39 #[.pointer (some ⟨B, 0, none⟩), .slice A n cap] w fun e w' =>
      e = .returned (.agg #[.int .i64 (nextI q.1 (nV t bd 18446744073709551615)), .int .u64 (nV (nS t bd 18446744073709551615) (gone t bd 18446744073709551615) 9223372036854775807)]) ∧
      Eye w' B (cS (nS t bd 18446744073709551615) (gone t bd 18446744073709551615)) (cgone (nS t bd 18446744073709551615) (gone t bd 18446744073709551615)) ∧ w.grownBy w' (some B) := by
  have hBw := h.lt
  obtain ⟨u, hu⟩ : ∃ u, n = u + 1 := by
    cases n with
    | zero => have e : M = [] := List.eq_nil_of_length_eq_zero hn.symm
              subst e; cases hlast
    | succ u => exact ⟨u, rfl⟩
  have hxu : M[u]? = some q := by rw [List.getLast?_eq_getElem?] at hlast; rw [← hlast]; congr 1; omega
  obtain ⟨b0, off, hAA, hbl, c0, c1⟩ := hM.at_ u q hxu
  have hqok := (hM.ok q (List.mem_of_getElem? hxu)).1
  subst hAA
  have hbB := hA b0 off rfl
  obtain ⟨qx, qc⟩ := q
  simp only at c0 hqok
  obtain ⟨rc, hrc⟩ : ∃ rc : Obj, rc = .cells #[.int .i64 0, .int .u64 0] 26 := ⟨_, rfl⟩
  have C1 : Calls Try.prog 47 #[.pointer (some ⟨B, 0, none⟩), .int .u64 18446744073709551615] (w.alloc rc).drew fun e w' =>
      e = .returned (.int .u64 (nV t bd 18446744073709551615)) ∧ Eye w' B (nS t bd 18446744073709551615) (gone t bd 18446744073709551615) ∧ (w.alloc rc).grownBy w' (some B) :=
    (eye_nat (w.alloc rc).drew B t bd 18446744073709551615 ⟨by decide, by decide⟩ (by omega) ((h.alloc rc).call (Below.refl _ _).drew)).mono fun e w' hh => ⟨hh.1, hh.2.1, ⟨hh.2.2.os, hh.2.2.tape, hh.2.2.output, hh.2.2.size, hh.2.2.block⟩⟩
  have hsz := nS_le t bd 18446744073709551615 1000000 (by omega)
  have hvw := nV_word t bd 18446744073709551615
  obtain ⟨v, hv⟩ : ∃ v, nV t bd 18446744073709551615 = v := ⟨_, rfl⟩
  obtain ⟨s1, hs1⟩ : ∃ s1, nS t bd 18446744073709551615 = s1 := ⟨_, rfl⟩
  obtain ⟨b1, hb1⟩ : ∃ b1, gone t bd 18446744073709551615 = b1 := ⟨_, rfl⟩
  rw [hv, hs1, hb1] at C1
  rw [hv, hs1, hb1]
  rw [hs1] at hsz
  rw [hv] at hvw
  have C2 := fun w1 (h1 : Eye w1 B s1 b1) => eye_count w1 B s1 b1 hsz h1
  obtain ⟨c, hc⟩ : ∃ c, nV s1 b1 9223372036854775807 = c := ⟨_, rfl⟩
  obtain ⟨s2, hs2⟩ : ∃ s2, cS s1 b1 = s2 := ⟨_, rfl⟩
  obtain ⟨b2, hb2⟩ : ∃ b2, cgone s1 b1 = b2 := ⟨_, rfl⟩
  rw [hc, hs2, hb2] at C2 ⊢
  subst hrc
  have e0 : (w.alloc (.cells #[.int .i64 0, .int .u64 0] 26)).cell? ⟨b0, off + u * 2, none⟩ = some (.int .i64 qx) := cell_later ((Below.refl _ _).alloc (Nat.le_refl _) _) c0
  have HX : Hid (∀ wC, (w.alloc (.cells #[.int .i64 0, .int .u64 0] 26)).grownBy wC (some B) → wC.cell? ⟨b0, off + u * 2, none⟩ = some (.int .i64 qx)) := Lib.hid fun wC hg => grown_cell hg hbB e0
  obtain ⟨i, hi⟩ : ∃ i, nextI qx v = i := ⟨_, rfl⟩
  have q1 : IntKind.i64.wrap (IntKind.i64.wrap (qx + 1) + IntKind.i64.wrap v) = i := by
    rw [← hi]; unfold nextI; simp only [IntKind.wrap_i64]; omega
  have u1 : IntKind.i64.wrap ((n : Int) - 1) = (u : Int) := by rw [IntKind.wrap_i64]; omega
  have u2 : (n : Int) - 1 = (u : Int) := by omega
  have u3 : (u : Int) < n := by omega
  have u4 : (0 : Int) ≤ (u : Int) := by omega
  have u5 : u < n := by omega
  have u6 : IntKind.i64.wrap (u : Int) = (u : Int) := by rw [IntKind.wrap_i64]; omega
  have n1 : ((n : Int) == 0) = false := by simp; omega
  rw [hi]
  have H1 := Lib.hid C1
  have H2 := Lib.hid C2
  clear C1 C2 hi hs1 hb1 hc hs2 hb2 h hv c0 c1 hA hM hxu hlast hn hu
  go_enter Try.func39, Try.ntmps39
  go_wp2_with fail
  go_region_with (go_at_call 47; refine H1.out.mono ?_; rintro e w1 ⟨rfl, hE1, hG1⟩; have hcc := HX.out _ hG1)
  all_goals
    clear q1 u1 u2 u6 n1 e0 hcc
    go_wp2_with fail
    refine (H2.out _ hE1).mono ?_
    rintro e w2 ⟨rfl, hE2, hG2⟩
    have hG3 := grown_trans hG1 hG2
    have T2 : Two w2 w.heap.size (.int .i64 0) (.int .u64 0) := two_only (Two.new w _ _ _) hG3 (by omega)
    have hG4 : w.grownBy w2 (some B) := grown_trans (grown_alloc (grown_refl w _) _) hG3
    have T3 := T2.put (.int .i64 i) (.int .u64 c)
    obtain ⟨d0, d1, f0, f1⟩ := T2
    have HE := Lib.hid hE2
    have HGG := Lib.hid hG4
    have HT := Lib.hid T3
    clear hG1 hG2 hE1 hE2 hG3 hG4 T3
    go_wp2_with fail
    have hE3 : Eye ((w2.setCell ⟨w.heap.size, 0, none⟩ (.int .i64 i)).setCell ⟨w.heap.size, 1, none⟩ (.int .u64 c)) B s2 b2 := ⟨HE.out.two.past (by omega) _ _, HE.out.non⟩
    have hG5 : w.grownBy ((w2.setCell ⟨w.heap.size, 0, none⟩ (.int .i64 i)).setCell ⟨w.heap.size, 1, none⟩ (.int .u64 c)) (some B) :=
      grown_own (grown_own HGG.out (grown_setCell _ w.heap.size 0 _) (fun g hg => by have := Option.some.inj hg; omega)) (grown_setCell _ w.heap.size 1 _) (fun g hg => by have := Option.some.inj hg; omega)
    obtain ⟨x0, x1, _, _⟩ := HT.out
    generalize (w2.setCell ⟨w.heap.size, 0, none⟩ (.int .i64 i)).setCell ⟨w.heap.size, 1, none⟩ (.int .u64 c) = W at *
    exact bodyPost_ret (v := .agg #[.int .i64 i, .int .u64 c]) (by simp [results, Try.results39, go_sem, x0, x1]) rfl ⟨rfl, hE3, hG5⟩
end Go.Proofs.Ytllnbbfeplgjjaa
