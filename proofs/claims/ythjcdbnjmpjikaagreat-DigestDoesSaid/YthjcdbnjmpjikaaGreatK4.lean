/-
  Texts joined, in build order: InsA, InsB, StripA, StripX, DgcF, DgcD, DgcG, DigZ, Open, DigY, HdV, OpenS, PairV, ValO, DigB, DigD, DigE, DigI.
-/
import Derived.Test.YthjcdbnjmpjikaaGreatK3
import Derived.Lib.AppendZerosOnto
import Derived.Lib.JoinLaws
import Derived.Lib.Overlaps
import Derived.Lib.SmallJoins
import Derived.Laws.CopyRow
import Derived.Laws.NewBlocks
import Derived.Shelf.Spec.SlicesInsertGrow
import Derived.Deep.RegionLaw
import Derived.Deep.QuietTactic
import Derived.BigQuiet
import Derived.Deep.RegionWith
import Derived.Test.YthjcdbnjmpjikaaGreatRows
import Derived.WalkKit
import Derived.ProofKit
import Derived.OpenShut
import Derived.Laws.IdiomArrays
import Derived.SizedLaws
import Derived.Laws.Shifts
/-
  Walk: the library's slices.Insert of one pair into a row of pairs that may be written: in its own room, or in a new block.
-/
namespace Go.Proofs.YthjcdbnjmpjikaaGreat
set_option linter.unusedVariables false
set_option linter.unusedSimpArgs false
open Go.RowKit

/-- Putting v between A and H, where there is room behind. -/
theorem shift_in {A H R v : List Value} {a h : Nat} (hA : A.length = a) (hH : H.length = h) (hv : v.length = 2) :
    (((A ++ H ++ R).take (a + 2) ++ H ++ (A ++ H ++ R).drop (a + 2 + h)).take a) ++ v ++ (((A ++ H ++ R).take (a + 2) ++ H ++ (A ++ H ++ R).drop (a + 2 + h)).drop (a + 2)) = A ++ v ++ H ++ R.drop 2 ∨ (A ++ H ++ R).length < a + 2 := by
  by_cases hl : (A ++ H ++ R).length < a + 2
  · exact Or.inr hl
  left
  subst hA hH
  have h1 : ((A ++ H ++ R).take (A.length + 2)).length = A.length + 2 := by rw [List.length_take]; omega
  have h2 : (A ++ H ++ R).drop (A.length + 2 + H.length) = R.drop 2 := by
    rw [List.drop_append, List.drop_of_length_le (by rw [List.length_append]; omega), List.nil_append, List.length_append]
    congr 1; omega
  have hT : List.take A.length ((A ++ H ++ R).take (A.length + 2)) = A := by
    rw [List.take_take, Nat.min_eq_left (by omega), List.append_assoc, List.take_left' rfl]
  rw [h2]
  generalize (A ++ H ++ R).take (A.length + 2) = T at *
  rw [List.append_assoc T, List.take_append_of_le_length (by omega), hT, List.drop_left' h1]
  simp
theorem shift_new {A H W v : List Value} {a h : Nat} (hA : A.length = a) (hH : H.length = h) (hv : v.length = 2) :
    ((((A ++ W).take a ++ v ++ (A ++ W).drop (a + 2)).take (a + 2)) ++ H ++ (((A ++ W).take a ++ v ++ (A ++ W).drop (a + 2)).drop (a + 2 + h))) = A ++ v ++ H ++ W.drop (2 + h) := by
  subst hA hH
  have h1 : (A ++ W).take A.length = A := by rw [List.take_append, List.take_length, Nat.sub_self, List.take_zero, List.append_nil]
  have h2 : (A ++ W).drop (A.length + 2) = W.drop 2 := by
    rw [List.drop_append, List.drop_of_length_le (by omega), List.nil_append]; congr 1; omega
  have h3 : (A ++ v).length = A.length + 2 := by rw [List.length_append]; omega
  rw [h1, h2, List.take_append, List.drop_append, List.take_of_length_le (by omega), h3, Nat.sub_self, List.take_zero, List.append_nil, List.drop_of_length_le (by omega), List.nil_append, List.drop_drop]
  congr 2; omega

/-- What a block's cells say of a row in it, and back. -/
theorem pairs_cells {w : World} {g off : Nat} {cs : Array Value} {L : List PairV} (h : Pairs w (some ⟨g, off, none⟩) L) (hg : w.heap[g]? = some (.cells cs 61 (0, 0))) (hl : off + L.length * 2 ≤ cs.size) :
    cs.toList = cs.toList.take off ++ cellsQ L ++ cs.toList.drop (off + L.length * 2) := by
  have hQ := cellsQ_len L
  have key : (cs.toList.drop off).take (L.length * 2) = cellsQ L := by
    apply List.ext_getElem?
    intro j
    by_cases hj : j < L.length * 2
    · rw [List.getElem?_take_of_lt hj, List.getElem?_drop]
      have hq := List.getElem?_eq_getElem (l := L) (i := j / 2) (by omega)
      obtain ⟨b', off', e, _, c0, c1⟩ := h.at_ (j / 2) _ hq
      obtain ⟨rfl, rfl, _⟩ := Addr.mk.inj (Option.some.inj e)
      obtain ⟨q0, q1⟩ := cellsQ_at L (j / 2) _ hq
      rw [Joins.cell_of_block hg] at c0 c1
      rcases Nat.mod_two_eq_zero_or_one j with h2 | h2
      · have e1 : j / 2 * 2 = j := by omega
        rw [e1] at q0 c0; rw [q0, ← c0]; simp
      · have e1 : j / 2 * 2 + 1 = j := by omega
        rw [Nat.add_assoc, e1] at c1; rw [e1] at q1; rw [q1, ← c1]; simp
    · rw [List.getElem?_eq_none (by rw [List.length_take]; omega), List.getElem?_eq_none (by omega)]
  rw [List.append_assoc, ← key]
  have h2 : (cs.toList.drop off).drop (L.length * 2) = cs.toList.drop (off + L.length * 2) := by rw [List.drop_drop]
  rw [← h2, List.take_append_drop, List.take_append_drop]
theorem cells_pairs {w : World} {g off : Nat} {cs : Array Value} {L : List PairV} (ok : ∀ p, p ∈ L → okP p) (hg : w.heap[g]? = some (.cells cs 61 (0, 0))) {P R : List Value} (hP : P.length = off) (hc : cs.toList = P ++ cellsQ L ++ R) :
    Pairs w (some ⟨g, off, none⟩) L := by
  refine ⟨ok, fun i p hi => ⟨g, off, rfl, lt_of_block hg, ?_, ?_⟩⟩
  all_goals
    obtain ⟨q0, q1⟩ := cellsQ_at L i p hi
    have hlt : i < L.length := by
      rcases Nat.lt_or_ge i L.length with h1 | h1
      · exact h1
      · rw [List.getElem?_eq_none h1] at hi; cases hi
    have hQ := cellsQ_len L
    rw [Joins.cell_of_block hg]
    have e : ∀ o, cs[o]? = cs.toList[o]? := fun o => Array.getElem?_toList.symm
    rw [e, hc, List.append_assoc, List.getElem?_append_right (by omega), List.getElem?_append_left (by omega)]
  · rw [show off + i * 2 - P.length = i * 2 by omega]; exact q0
  · rw [show off + i * 2 + 1 - P.length = i * 2 + 1 by omega]; exact q1

/-- copy at rows of pairs: all is read before anything is written. -/
theorem run_copy_pairs (w : World) (ty : TypeId) (g o dLen dCap : Nat) (a : Addr) (sLen sCap : Nat) (cur : Array Value) (t : TypeId) (k : Nat) (cs : List Value)
    (hg : w.heap[g]? = some (.cells cur t (0, 0))) (hk : k = Nat.min sLen dLen) (hn : cs.length = k * 2)
    (hsrc : ∀ j v, cs[j]? = some v → w.cell? (a.add j) = some v) (hfit : o + cs.length ≤ cur.size) (h1 : ∀ v ∈ cs, v.oneCell' = true) :
    (Builtin.copy_ #[46, 46] ty #[.slice (some ⟨g, o, none⟩) dLen dCap, .slice (some a) sLen sCap]).run Tryz.prog w =
      .ok (goInt k) (w.setRow g (cur.toList.take o ++ cs ++ cur.toList.drop (o + cs.length)).toArray) := by
  have hl := run_loadCells_list (P := Tryz.prog) w a cs hsrc
  have hst := run_storeCells_at Tryz.prog g o t cs 0 cur w hg (by simpa using hfit) h1
  obtain ⟨i0, hi, hz0, hz1, hz2⟩ := info_parts Tryz.infoPair
  simp [Builtin.copy_, run_underlying Tryz.underlying46, Builtin.lenOf, Builtin.firstCells, sizeOf, typeInfo, hi, hz1, ← hk, ← hn, hl, hst]
theorem run_copy_pairs0 (w : World) (ty : TypeId) (d a : Addr) (dLen dCap sLen sCap : Nat) (hk : Nat.min sLen dLen = 0) :
    (Builtin.copy_ #[46, 46] ty #[.slice (some d) dLen dCap, .slice (some a) sLen sCap]).run Tryz.prog w = .ok (goInt 0) w := by
  obtain ⟨i0, hi, hz0, hz1, hz2⟩ := info_parts Tryz.infoPair
  have hl : (loadCells a 0).run Tryz.prog w = .ok #[] w := run_loadCells_list (P := Tryz.prog) w a [] (fun j v hj => by simp at hj)
  simp [Builtin.copy_, run_underlying Tryz.underlying46, Builtin.lenOf, Builtin.firstCells, sizeOf, typeInfo, hi, hz1, hk, hl, storeCells]
end Go.Proofs.YthjcdbnjmpjikaaGreat

namespace Go.Proofs.YthjcdbnjmpjikaaGreat
set_option linter.unusedVariables false
set_option linter.unusedSimpArgs false
open Go.RowKit

theorem setCells_row {w : World} {g o : Nat} {cur : Array Value} {t : TypeId} {vs : List Value} (hg : w.heap[g]? = some (.cells cur t (0, 0))) (hl : o + vs.length ≤ cur.size) (h1 : ∀ v ∈ vs, v.oneCell' = true) :
    w.setCells g o vs = w.setRow g (cur.toList.take o ++ vs ++ cur.toList.drop (o + vs.length)).toArray := by
  have a := run_storeCells_at Tryz.prog g o t vs 0 cur w hg (by simpa using hl) h1
  have b := run_storeCells_cells (P := Tryz.prog) g o vs 0 w (fun j hj => by rw [Joins.cell_of_block hg, Array.getElem?_eq_getElem (by omega)]; rfl) (fun j hj => free8 hg _) h1
  rw [a] at b
  simp only [Nat.add_zero] at b
  injection b with _ b2
  exact b2.symm
theorem grown_setRow (w : World) (g : Nat) (cs : Array Value) : w.grownBy (w.setRow g cs) (some g) :=
  ⟨rfl, rfl, rfl, by simp [World.setRow], fun k hk hr => setRow_other w g k cs (fun e => hr (by rw [e]))⟩
theorem slab_of_cells {w : World} {g off cap : Nat} {X : Array Value} {L : List PairV} {P R : List Value} (ok : ∀ p, p ∈ L → okP p) (hg : w.heap[g]? = some (.cells X 61 (0, 0))) (hP : P.length = off) (hc : X.toList = P ++ cellsQ L ++ R)
    (hfit : L.length ≤ cap) (hr : off + cap * 2 ≤ X.size) (hcap : cap ≤ 9223372036854775807) : Slab w (some ⟨g, off, none⟩) cap L :=
  ⟨cells_pairs ok hg hP hc, hfit, Or.inr ⟨g, off, X, rfl, hg⟩, (fun g' off' cs' e hg' => by
    obtain ⟨rfl, rfl, _⟩ := Addr.mk.inj (Option.some.inj e)
    rw [hg] at hg'
    obtain ⟨rfl, _⟩ := Obj.cells.inj (Option.some.inj hg')
    exact hr), hcap⟩

/-- The pair that is put in, as its call lays it: in a block of its own. -/
structure OneP (w : World) (vb : Nat) (i c : Int) : Prop where
  blk : w.heap[vb]? = some (.cells #[.int .i64 i, .int .u64 c] 61 (0, 0))
theorem OneP.at_ {w : World} {vb : Nat} {i c : Int} (h : OneP w vb i c) : ∀ (j : Nat) (u : Value), [Value.int .i64 i, .int .u64 c][j]? = some u → w.cell? ((⟨vb, 0, none⟩ : Addr).add j) = some u := by
  intro j u hj
  rw [Addr.add_lit, Nat.zero_add, Joins.cell_of_block h.blk]
  rw [← hj]; simp

theorem cells_mid (lo hi : List PairV) (i c : Int) : cellsQ (lo ++ ((i, c) :: hi)) = cellsQ lo ++ [.int .i64 i, .int .u64 c] ++ cellsQ hi := by
  rw [cellsQ_app, cellsQ_cons]; simp [cellsP]

set_option maxRecDepth 100000 in
set_option maxHeartbeats 4000000 in
/-- At the end, where there is room. -/
theorem ins_end_room (w : World) (g off cap n vb : Nat) (L : List PairV) (i c : Int) (h : Slab w (some ⟨g, off, none⟩) cap L) (hn : L.length = n) (hlt : n < cap) (hv : OneP w vb i c) (hi : I64 i) (hc : Word c) :
    Calls Tryz.prog 74 #[.slice (some ⟨g, off, none⟩) n cap, .int .i64 n, .slice (some ⟨vb, 0, none⟩) 1 1] w (AddedV w (some ⟨g, off, none⟩) (L ++ [(i, c)])) := by
  obtain ⟨i0, hi0, hz0, hz1, hz2⟩ := info_parts Tryz.infoPair
  obtain ⟨cs, hg⟩ : ∃ cs, w.heap[g]? = some (.cells cs 61 (0, 0)) := by
    rcases h.blk with ⟨e, _⟩ | ⟨g', off', cs, e, hb⟩
    · cases e
    · obtain ⟨rfl, rfl, _⟩ := Addr.mk.inj (Option.some.inj e)
      exact ⟨cs, hb⟩
  have hr := h.room _ _ _ rfl hg
  have hcm := h.capm
  have hsrc : Src Tryz.prog i0.size 46 (.slice (some ⟨vb, 0, none⟩) 1 1) 1 [.int .i64 i, .int .u64 c] w := Src.ofSlice w Tryz.underlying46 ⟨vb, 0, none⟩ 1 1 _ (by rw [hz1]; rfl) hv.at_ (by intro u hu; simp at hu; rcases hu with rfl | rfl <;> rfl)
  have hE := setCells_row (o := off + n * i0.size) (vs := [.int .i64 i, .int .u64 c]) hg (by rw [hz1]; simp; omega) (by intro u hu; simp at hu; rcases hu with rfl | rfl <;> rfl)
  have hroom1 : ∀ j, j < [Value.int .i64 i, .int .u64 c].length → (w.cell? ⟨g, off + n * i0.size + j, none⟩).isSome = true := fun j hj => by
    rw [hz1, Joins.cell_of_block hg, Array.getElem?_eq_getElem (by simp at hj; omega)]; rfl
  have hfin : AddedV w (some ⟨g, off, none⟩) (L ++ [(i, c)]) (.returned (.slice (some ⟨g, off, none⟩) (n + 1) cap)) (w.setCells g (off + n * i0.size) [.int .i64 i, .int .u64 c]) := by
    rw [hE]
    have hc1 := pairs_cells h.pairs hg (by omega)
    have hT : (cs.toList.take off).length = off := by rw [List.length_take]; simp; omega
    have hQ := cellsQ_len L
    refine ⟨some ⟨g, off, none⟩, cap, by simp [hn], ?_, grown_setRow w g _, Or.inl rfl⟩
    refine slab_of_cells (P := cs.toList.take off) (R := (cs.toList.drop (off + L.length * 2)).drop 2) (by intro p hp; rcases List.mem_append.1 hp with h1 | h1; exact h.pairs.ok p h1; simp at h1; subst h1; exact ⟨hi, hc⟩) (setRow_heap w g _ _ _ _ hg) hT ?_ (by simp; omega) ?_ hcm
    · have e1 : cs.toList.take (off + n * i0.size) = cs.toList.take off ++ cellsQ L := by
        rw [hz1, ← hn, List.take_add]
        congr 1
        have : cs.toList.drop off = cellsQ L ++ cs.toList.drop (off + L.length * 2) := by
          conv => lhs; rw [hc1, List.append_assoc, List.drop_append, List.drop_of_length_le (by omega), hT, Nat.sub_self, List.drop_zero, List.nil_append]
        rw [this, List.take_append, ← hQ, List.take_length, Nat.sub_self, List.take_zero, List.append_nil]
      rw [e1, cellsQ_app, cellsQ_one', hz1, ← hn]
      simp [List.drop_drop]
    · rw [hz1]; simp; omega
  rw [hz1] at hfin
  have HF := Lib.hid hfin
  clear hfin hE hr
  go_enter Tryz.func74, Tryz.ntmps74
  go_wp2_with (at_builtin; refine wpList_append_room_src _ rfl (.tmp 23) (.tmp 24) 46 46 rfl 61 i0 Tryz.underlying46 hi0 g off n cap rfl _ rfl 1 _ hsrc hlt hroom1 (fun j hj => free8 hg _) ?_)
  go_ret
  exact HF.out

theorem zero_len (z : Array Value) (n : Nat) : (Builtin.zeroCells z n).size = n * z.size := by simp [Builtin.zeroCells]
theorem old_cells {w : World} {A : Option Addr} {cap : Nat} {L : List PairV} (h : Slab w A cap L) (sz k c2 : Nat) (hz : sz = 2) (hk : k ≤ L.length) : (Builtin.firstCells sz k (.slice A k c2)).run Tryz.prog w = .ok (cellsQ (L.take k)).toArray w := by
  subst hz
  have hlen : (L.take k).length = k := by rw [List.length_take]; omega
  rcases h.form with ⟨rfl, rfl, rfl⟩ | ⟨g, off, rfl⟩
  · have : k = 0 := by simpa using hk
    subst this
    exact run_firstCells_none w 2 0 0 c2
  · refine run_firstCells_some w 2 k ⟨g, off, none⟩ k c2 (cellsQ (L.take k)) (by rw [cellsQ_len, hlen]) fun j u hj => ?_
    have hjl : j < k * 2 := by
      rcases Nat.lt_or_ge j (k * 2) with h1 | h1
      · exact h1
      · rw [List.getElem?_eq_none (by rw [cellsQ_len, hlen]; omega)] at hj; cases hj
    have hq := List.getElem?_eq_getElem (l := L.take k) (i := j / 2) (by omega)
    have hq2 : L[j / 2]? = some ((L.take k)[j / 2]'(by omega)) := by rw [← hq, List.getElem?_take_of_lt (by omega)]
    obtain ⟨b', off', e, _, c0, c1⟩ := h.pairs.at_ (j / 2) _ hq2
    obtain ⟨rfl, rfl, _⟩ := Addr.mk.inj (Option.some.inj e)
    obtain ⟨q0, q1⟩ := cellsQ_at (L.take k) (j / 2) _ hq
    rw [Addr.add_lit]
    rcases Nat.mod_two_eq_zero_or_one j with h2 | h2
    · have e1 : j / 2 * 2 = j := by omega
      rw [e1] at q0 c0; rw [c0, ← hj, q0]
    · have e1 : j / 2 * 2 + 1 = j := by omega
      rw [Nat.add_assoc, e1] at c1; rw [e1] at q1; rw [c1, ← hj, q1]

set_option maxRecDepth 100000 in
set_option maxHeartbeats 4000000 in
/-- At the end, where there is no room: a new block. -/
theorem ins_end_grow (w : World) (A : Option Addr) (n vb : Nat) (L : List PairV) (i c : Int) (h : Slab w A n L) (hn : L.length = n) (hl : n ≤ 100000) (hv : OneP w vb i c) (hi : I64 i) (hc : Word c) :
    Calls Tryz.prog 74 #[.slice A n n, .int .i64 n, .slice (some ⟨vb, 0, none⟩) 1 1] w (AddedV w A (L ++ [(i, c)])) := by
  obtain ⟨i0, hi0, hz0, hz1, hz2⟩ := info_parts Tryz.infoPair
  have hsrc : Src Tryz.prog i0.size 46 (.slice (some ⟨vb, 0, none⟩) 1 1) 1 [.int .i64 i, .int .u64 c] w := Src.ofSlice w Tryz.underlying46 ⟨vb, 0, none⟩ 1 1 _ (by rw [hz1]; rfl) hv.at_ (by intro u hu; simp at hu; rcases hu with rfl | rfl <;> rfl)
  have hdr : Slab w.drew A n L := h.keep fun k hk => rfl
  have hold := old_cells hdr i0.size n n hz1 (by omega)
  rw [List.take_of_length_le (by omega)] at hold
  have hrun : ∀ ty, (Builtin.append_ #[46, 46] ty #[.slice A n n, .slice (some ⟨vb, 0, none⟩) 1 1]).run Tryz.prog w = _ := fun ty =>
    run_append_grow_src w 46 46 ty 61 i0 _ Tryz.underlying46 hi0 hz0 A n n (cellsQ L) hold _ 1 _ hsrc (by omega) (by omega) (by rw [hz2]; exact growslice_fits (by omega) (by omega))
  obtain ⟨G, hG⟩ : ∃ G, G = grownCap w (n + 1) n 61 := ⟨_, rfl⟩
  have hGn : n + 1 ≤ G := by rw [hG]; exact grownCap_ge w _ _ _
  have hGm := grownCap_le_maxLen w (n + 1) n 61 (by unfold maxLen; omega)
  rw [← hG] at hrun hGm
  have hG63 : G ≤ 9223372036854775807 := by unfold maxLen at hGm; omega
  obtain ⟨X, hX⟩ : ∃ X : Array Value, X = (cellsQ L ++ [Value.int .i64 i, Value.int .u64 c]).toArray ++ Builtin.zeroCells (Value.agg #[.int .i64 0, .int .u64 0]).cells (G - (n + 1)) := ⟨_, rfl⟩
  rw [← hX] at hrun
  have hfin : AddedV w A (L ++ [(i, c)]) (.returned (.slice (some ⟨w.heap.size, 0, none⟩) (n + 1) G)) (w.drew.alloc (.cells X 61)) := by
    refine ⟨some ⟨w.heap.size, 0, none⟩, G, by simp [hn], ?_, grown_call (grown_refl w _) ((Below.refl _ _).drew.alloc (Nat.le_refl _) _), Or.inr fun k hk => by cases hk; exact Nat.le_refl _⟩
    refine slab_of_cells (P := []) (R := (Builtin.zeroCells (Value.agg #[.int .i64 0, .int .u64 0]).cells (G - (n + 1))).toList) (by intro p hp; rcases List.mem_append.1 hp with h1 | h1; exact h.pairs.ok p h1; simp at h1; subst h1; exact ⟨hi, hc⟩) (heap_alloc_new w.drew _) rfl ?_ (by simp; omega) ?_ hG63
    · rw [hX, cellsQ_app, cellsQ_one']; simp
    · have hQ := cellsQ_len L
      rw [hX]; simp [zero_len, Value.cells, hQ]; omega
  have HF := Lib.hid hfin
  have hform := h.form
  have HR := Lib.hid hrun
  clear hfin hold hdr hG hGm hX hrun hz0 hz1 hz2 hsrc h
  rcases hform with ⟨rfl, rfl, rfl⟩ | ⟨g, off, rfl⟩
  · go_enter Tryz.func74, Tryz.ntmps74
    go_wp2_with (at_builtin; refine Lib.wpList_append_run _ rfl _ _ _ _ rfl _ _ rfl rfl _ _ (HR.out _) ?_)
    go_ret
    exact HF.out
  · go_enter Tryz.func74, Tryz.ntmps74
    go_wp2_with (at_builtin; refine Lib.wpList_append_run _ rfl _ _ _ _ rfl _ _ rfl rfl _ _ (HR.out _) ?_)
    all_goals (go_ret; exact HF.out)
end Go.Proofs.YthjcdbnjmpjikaaGreat

/-
  Walk: the library's slices.Insert of one pair into a row of pairs, not at its end: all behind it moves up.
-/
namespace Go.Proofs.YthjcdbnjmpjikaaGreat
set_option linter.unusedVariables false
set_option linter.unusedSimpArgs false
open Go.RowKit

theorem ok_mid {lo hi : List PairV} {i c : Int} (h : ∀ p, p ∈ lo ++ hi → okP p) (hi' : I64 i) (hc : Word c) : ∀ p, p ∈ lo ++ ((i, c) :: hi) → okP p := by
  intro p hp
  rcases List.mem_append.1 hp with h1 | h1
  · exact h p (List.mem_append_left _ h1)
  · rcases List.mem_cons.1 h1 with rfl | h2
    · exact ⟨hi', hc⟩
    · exact h p (List.mem_append_right _ h2)
/-- A block of pairs, split at an index. -/
theorem split_cells {w : World} {g off n N : Nat} {cs : Array Value} {lo hi : List PairV} (h : Pairs w (some ⟨g, off, none⟩) (lo ++ hi)) (hg : w.heap[g]? = some (.cells cs 61 (0, 0))) (hn : lo.length = n) (hN : (lo ++ hi).length = N) (hl : off + N * 2 ≤ cs.size) :
    ∃ A R : List Value, cs.toList = A ++ cellsQ hi ++ R ∧ A.length = off + n * 2 ∧ (cellsQ hi).length = (N - n) * 2 ∧ (∃ P : List Value, P.length = off ∧ A = P ++ cellsQ lo) ∧ R.length = cs.size - (off + N * 2) := by
  have hc := pairs_cells h hg (by omega)
  have hQ1 := cellsQ_len lo
  have hQ2 := cellsQ_len hi
  have hNN : lo.length + hi.length = N := by rw [← hN, List.length_append]
  refine ⟨cs.toList.take off ++ cellsQ lo, cs.toList.drop (off + (lo ++ hi).length * 2), ?_, ?_, ?_, ⟨_, ?_, rfl⟩, ?_⟩
  · rw [List.append_assoc (cs.toList.take off), ← cellsQ_app]; exact hc
  · rw [List.length_append, List.length_take]; simp; omega
  · omega
  · rw [List.length_take]; simp; omega
  · rw [hN, List.length_drop]; simp

set_option maxRecDepth 100000 in
set_option maxHeartbeats 4000000 in
/-- There is room: in its own block. -/
theorem ins_shift (w : World) (g off cap n N vb : Nat) (lo hi : List PairV) (i c : Int) (h : Slab w (some ⟨g, off, none⟩) cap (lo ++ hi)) (hn : lo.length = n) (hN : (lo ++ hi).length = N) (hlt : n < N) (hroom : N < cap) (hv : OneP w vb i c) (hvg : vb ≠ g) (hi' : I64 i) (hc : Word c) :
    Calls Tryz.prog 74 #[.slice (some ⟨g, off, none⟩) N cap, .int .i64 n, .slice (some ⟨vb, 0, none⟩) 1 1] w (AddedV w (some ⟨g, off, none⟩) (lo ++ ((i, c) :: hi))) := by
  obtain ⟨cs, hg⟩ : ∃ cs, w.heap[g]? = some (.cells cs 61 (0, 0)) := by
    rcases h.blk with ⟨e, _⟩ | ⟨g', off', cs, e, hb⟩
    · cases e
    · obtain ⟨rfl, rfl, _⟩ := Addr.mk.inj (Option.some.inj e)
      exact ⟨cs, hb⟩
  have hr := h.room _ _ _ rfl hg
  have hcm := h.capm
  obtain ⟨CA, CR, hcs, hA, hH, ⟨CP, hP, hAP⟩, hR⟩ := split_cells h.pairs hg hn hN (by omega)
  have hgd : w.drew.heap[g]? = some (.cells cs 61 (0, 0)) := hg
  obtain ⟨H, hHe⟩ : ∃ H, cellsQ hi = H := ⟨_, rfl⟩
  have hH1 : ∀ v ∈ H, v.oneCell' = true := by rw [← hHe]; exact cellsQ_one hi
  have hv1 : ∀ u ∈ [Value.int .i64 i, .int .u64 c], u.oneCell' = true := by intro u hu; simp at hu; rcases hu with rfl | rfl <;> rfl
  rw [hHe] at hcs hH
  have hsrc : ∀ j v, H[j]? = some v → w.drew.cell? ((⟨g, off + n * 2, none⟩ : Addr).add j) = some v := fun j v hj => by
    rw [Addr.add_lit, Joins.cell_of_block hgd, ← Array.getElem?_toList, hcs, List.append_assoc, List.getElem?_append_right (by omega), show off + n * 2 + j - CA.length = j by omega]
    have hjl : j < H.length := by
      rcases Nat.lt_or_ge j H.length with h1 | h1
      · exact h1
      · rw [List.getElem?_eq_none h1] at hj; cases hj
    rw [List.getElem?_append_left hjl]; exact hj
  obtain ⟨Y, hY⟩ : ∃ Y : Array Value, (cs.toList.take (off + (n + 1) * 2) ++ H ++ cs.toList.drop (off + (n + 1) * 2 + H.length)).toArray = Y := ⟨_, rfl⟩
  have hYs : Y.size = cs.size := by
    have e1 : cs.toList.length = cs.size := by simp
    rw [← hY]; simp; omega
  have hcp1 : ∀ ty dc sc, (Builtin.copy_ #[46, 46] ty #[.slice (some ⟨g, off + (n + 1) * 2, none⟩) (N - n) dc, .slice (some ⟨g, off + n * 2, none⟩) (N + 1 - n) sc]).run Tryz.prog w.drew = .ok (goInt ((N - n : Nat) : Int)) (w.drew.setRow g Y) := fun ty dc sc => by
    rw [← hY]
    exact run_copy_pairs w.drew ty g (off + (n + 1) * 2) _ dc ⟨g, off + n * 2, none⟩ _ sc cs 61 (N - n) H hgd (by simp only [Nat.min_def]; split <;> omega) hH hsrc (by omega) hH1
  obtain ⟨W1, hW1⟩ : ∃ W1, w.drew.setRow g Y = W1 := ⟨_, rfl⟩
  have hg1 : W1.heap[g]? = some (.cells Y 61 (0, 0)) := by rw [← hW1]; exact setRow_heap w.drew g _ _ _ _ hgd
  have hv2 : OneP W1 vb i c := ⟨by rw [← hW1, setRow_other _ _ _ _ hvg]; exact hv.blk⟩
  obtain ⟨Z, hZ⟩ : ∃ Z : Array Value, (Y.toList.take (off + n * 2) ++ [Value.int .i64 i, .int .u64 c] ++ Y.toList.drop (off + n * 2 + [Value.int .i64 i, .int .u64 c].length)).toArray = Z := ⟨_, rfl⟩
  have hcp2 : ∀ (W : World), W.heap = W1.heap → ∀ ty dc, (Builtin.copy_ #[46, 46] ty #[.slice (some ⟨g, off + n * 2, none⟩) (N + 1 - n) dc, .slice (some ⟨vb, 0, none⟩) 1 1]).run Tryz.prog W = .ok (goInt ((1 : Nat) : Int)) (W.setRow g Z) := fun W hW ty dc => by
    rw [← hZ]
    exact run_copy_pairs W ty g (off + n * 2) _ dc ⟨vb, 0, none⟩ 1 1 Y 61 1 _ (by rw [hW]; exact hg1) (by simp only [Nat.min_def]; split <;> omega) rfl (fun j v hj => by
      have := hv2.at_ j v hj
      rwa [World.cell?_of_block (w := W1) (w' := W) (by rw [hW])]) (by simp; omega) hv1
  have hshape : w.shape? g = some (61, cs.size) := by simp [World.shape?, hg]
  have hshape2 : w.shape? vb = some (61, 2) := by simp [World.shape?, hv.blk]
  have hov : ∀ lb cb, (callFunc 99 #[.slice (some ⟨vb, 0, none⟩) 1 1, .slice (some ⟨g, off + (n + 1) * 2, none⟩) lb cb]).run Tryz.prog w = .ok (.value (.bool false)) w := fun lb cb => by
    obtain ⟨i0, hi0, hz0, hz1, hz2⟩ := info_parts Tryz.infoPair
    rw [run_callFunc_extern Tryz.func99 (by kernel_rfl) (by kernel_rfl) (by kernel_rfl) (e := Extern.SlicesOverlaps.overlaps #[46, 46] #[4]) (by kernel_rfl),
      Lib.run_overlaps_apart w 46 4 61 Tryz.underlying46 2 (fun w => by simp [sizeOf, typeInfo, hi0, hz1]) ⟨vb, 0, none⟩ ⟨g, off + (n + 1) * 2, none⟩ 1 1 lb cb hvg 61 61 2 cs.size hshape2 hshape (by omega) (free8 hv.blk _) (free8 hv.blk _)]
    rfl
  have hfin : ∀ W : World, W.heap = W1.heap → W.os = w.os → W.tape = w.tape → W.output = w.output → AddedV w (some ⟨g, off, none⟩) (lo ++ ((i, c) :: hi)) (.returned (.slice (some ⟨g, off, none⟩) (N + 1) cap)) (W.setRow g Z) := fun W hW ho ht hu => by
    have hl3 : (lo ++ ((i, c) :: hi)).length = N + 1 := by rw [← hN]; simp; omega
    have hsh := shift_in (A := CA) (H := H) (R := CR) (v := [Value.int .i64 i, .int .u64 c]) hA hH rfl
    have hlen : (CA ++ H ++ CR).length = cs.size := by rw [← hcs]; simp
    rcases hsh with hsh | hbad
    · have hg2 : (W.setRow g Z).heap[g]? = some (.cells Z 61 (0, 0)) := setRow_heap W g _ _ _ _ (by rw [hW]; exact hg1)
      have hZL : Z.toList = CP ++ cellsQ (lo ++ ((i, c) :: hi)) ++ CR.drop 2 := by
        rw [← hZ, ← hY, cells_mid, ← List.append_assoc CP, ← List.append_assoc CP, ← hAP, hHe, ← hsh, ← hcs]
        simp only [List.length_cons, List.length_nil]
        rw [show off + (n + 1) * 2 = off + n * 2 + 2 by omega, hH]
      refine ⟨some ⟨g, off, none⟩, cap, by rw [hl3], slab_of_cells (P := CP) (R := CR.drop 2) (ok_mid h.pairs.ok hi' hc) hg2 hP hZL (by omega) ?_ hcm, ?_, Or.inl rfl⟩
      · have : Z.size = cs.size := by
          have e1 : Z.size = Z.toList.length := by simp
          have hQ := cellsQ_len lo
          rw [e1, hZL, cells_mid, hHe]; simp only [List.length_append, List.length_drop, hH, hR, hP, hQ, List.length_cons, List.length_nil]
          rw [hAP, List.length_append, hP, hQ] at hA
          omega
        omega
      · have hk : W1.heap = (w.drew.setRow g Y).heap := by rw [hW1]
        exact grown_trans ⟨ho, ht, hu, by rw [hW, hk]; simp [World.setRow], fun k hk' hr' => by rw [hW, hk]; exact (setRow_other w.drew g k Y (fun e => hr' (by rw [e]; rfl)))⟩ (grown_setRow W g Z)
    · omega
  have ho1 : W1.os = w.os ∧ W1.tape = w.tape ∧ W1.output = w.output := by rw [← hW1]; exact ⟨rfl, rfl, rfl⟩
  have HF := Lib.hid (hfin W1 rfl ho1.1 ho1.2.1 ho1.2.2)
  rw [hW1] at hcp1
  have HC1 := Lib.hid hcp1
  have hA2 := hcp2 W1 rfl
  generalize W1.setRow g Z = W2 at *
  have hw1 : IntKind.i64.wrap ((n : Int) + 1) = (n : Int) + 1 := by rw [IntKind.wrap_i64]; omega
  have hw2 : IntKind.i64.wrap ((N : Int) + 1) = (N : Int) + 1 := by rw [IntKind.wrap_i64]; omega
  have hb1 : (0 : Int) ≤ (n : Int) + 1 := by omega
  have hb0 : (0 : Int) ≤ (N : Int) + 1 := by omega
  have htn : ((n : Int) + 1).toNat = n + 1 := by omega
  have htN : ((N : Int) + 1).toNat = N + 1 := by omega
  have hb2 : ¬ (cap = n + 1) := by omega
  have hb4 : ¬ (cap = n) := by omega
  have hz2 : ¬ ((n : Int) = (N : Int)) := by omega
  have hin : n ≤ N := by omega
  have hin2 : n ≤ cap := by omega
  have hb3 : (n : Int) ≤ (N : Int) + 1 := by omega
  have hb5 : (n : Int) + 1 ≤ (N : Int) + 1 := by omega
  have hb6 : ¬ ((cap : Int) < (N : Int) + 1) := by omega
  have hb7 : (N : Int) + 1 ≤ (cap : Int) := by omega
  clear hfin hcp1 hcp2 hg1 ho1 hW1 hZ hY hYs hsrc hcs hA hH hP hAP hR hHe hH1 hv1 hgd hr h hv2 hn hN hshape hshape2 hg
  go_enter Tryz.func74, Tryz.ntmps74
  go_wp2_with (simp only [hov])
  go_region_law (refine step_copy_runI rfl _ _ 46 46 rfl (.slice (some ⟨g, off + (n + 1) * 2, none⟩) (N - n) (cap - (n + 1))) (.slice (some ⟨g, off + n * 2, none⟩) (N + 1 - n) (cap - n)) (by simp [Act.eval, Act.put]) (by simp [Act.eval, Act.put]) (HC1.out _ _ _) ?_)
  go_wp2_with fail
  go_ret
  exact HF.out

set_option maxRecDepth 100000 in
set_option maxHeartbeats 4000000 in
/-- There is no room: a new block. -/
theorem ins_grow (w : World) (g off n N vb : Nat) (lo hi : List PairV) (i c : Int) (h : Slab w (some ⟨g, off, none⟩) N (lo ++ hi)) (hn : lo.length = n) (hN : (lo ++ hi).length = N) (hlt : n < N) (hl : N ≤ 100000) (hv : OneP w vb i c) (hi' : I64 i) (hc : Word c) :
    Calls Tryz.prog 74 #[.slice (some ⟨g, off, none⟩) N N, .int .i64 n, .slice (some ⟨vb, 0, none⟩) 1 1] w (AddedV w (some ⟨g, off, none⟩) (lo ++ ((i, c) :: hi))) := by
  obtain ⟨i0, hi0, hz0, hz1, hz2⟩ := info_parts Tryz.infoPair
  obtain ⟨cs, hg⟩ : ∃ cs, w.heap[g]? = some (.cells cs 61 (0, 0)) := by
    rcases h.blk with ⟨e, _⟩ | ⟨g', off', cs, e, hb⟩
    · cases e
    · obtain ⟨rfl, rfl, _⟩ := Addr.mk.inj (Option.some.inj e)
      exact ⟨cs, hb⟩
  have hgw : g < w.heap.size := lt_of_block hg
  have hvw : vb < w.heap.size := lt_of_block hv.blk
  have hr := h.room _ _ _ rfl hg
  have hQ := cellsQ_len lo
  have hQh := cellsQ_len hi
  have hNN : lo.length + hi.length = N := by rw [← hN, List.length_append]
  have hdr : Slab w.drew (some ⟨g, off, none⟩) N (lo ++ hi) := h.keep fun k hk => rfl
  have hold := old_cells hdr i0.size n N hz1 (by omega)
  rw [List.take_append_of_le_length (by omega), List.take_of_length_le (by omega)] at hold
  have hik : n + (N + 1 - n) = N + 1 := by omega
  have hkk : (N : Int) + 1 - (n : Int) = ((N + 1 - n : Nat) : Int) := by omega
  obtain ⟨G, hG⟩ : ∃ G, G = grownCap w (N + 1) N 61 := ⟨_, rfl⟩
  have hGn : N + 1 ≤ G := by rw [hG]; exact grownCap_ge w _ _ _
  have hGm := grownCap_le_maxLen w (N + 1) N 61 (by unfold maxLen; omega)
  rw [← hG] at hGm
  have hG63 : G ≤ 9223372036854775807 := by unfold maxLen at hGm; omega
  obtain ⟨V, hV⟩ : ∃ V : List Value, V = (Builtin.zeroCells (Value.agg #[.int .i64 0, .int .u64 0]).cells (N + 1 - n)).toList ++ (Builtin.zeroCells (Value.agg #[.int .i64 0, .int .u64 0]).cells (G - (N + 1))).toList := ⟨_, rfl⟩
  have hVl : V.length = (G - n) * 2 := by
    rw [hV, List.length_append]; simp [zero_len, Value.cells]; omega
  obtain ⟨X, hX⟩ : ∃ X : Array Value, X = (cellsQ lo).toArray ++ Builtin.zeroCells (Value.agg #[.int .i64 0, .int .u64 0]).cells (N + 1 - n) ++ Builtin.zeroCells (Value.agg #[.int .i64 0, .int .u64 0]).cells (G - (N + 1)) := ⟨_, rfl⟩
  have hXL : X.toList = cellsQ lo ++ V := by rw [hX, hV]; simp
  have hXs : X.size = G * 2 := by
    have : X.size = X.toList.length := by simp
    rw [this, hXL, List.length_append]; omega
  have hrz : ∀ ty, (Builtin.append_ #[46, 3] ty #[.slice (some ⟨g, off, none⟩) n N, .int .i64 ((N : Int) + 1 - (n : Int))]).run Tryz.prog w =
      .ok (.slice (some ⟨w.heap.size, 0, none⟩) (N + 1) G) (w.drew.alloc (.cells X 61)) := fun ty => by
    have h1 := Lib.run_append_grow_zeros w 46 3 ty 61 i0 _ .i64 .i64 Tryz.underlying46 Tryz.underlying3 hi0 hz0 (some ⟨g, off, none⟩) n N (cellsQ lo) hold (N + 1 - n) (by omega) (by omega) (by omega) (by omega) (by rw [hz2]; omega) (by rw [hz2, hik]; exact growslice_fits (by omega) (by omega))
    rw [hik, ← hG, ← hX] at h1
    rw [hkk]
    exact h1
  obtain ⟨W1, hW1⟩ : ∃ W1, w.drew.alloc (.cells X 61) = W1 := ⟨_, rfl⟩
  have hb1' : Below w.heap.size w W1 := by rw [← hW1]; exact (Below.refl _ _).drew.alloc (Nat.le_refl _) _
  have hg1 : W1.heap[w.heap.size]? = some (.cells X 61 (0, 0)) := by rw [← hW1]; exact heap_alloc_new w.drew _
  have hv1 : ∀ u ∈ [Value.int .i64 i, .int .u64 c], u.oneCell' = true := by intro u hu; simp at hu; rcases hu with rfl | rfl <;> rfl
  have hvW : OneP W1 vb i c := ⟨(hb1'.block _ hvw).trans hv.blk⟩
  obtain ⟨Y, hY⟩ : ∃ Y : Array Value, (X.toList.take (n * 2) ++ [Value.int .i64 i, .int .u64 c] ++ X.toList.drop (n * 2 + [Value.int .i64 i, .int .u64 c].length)).toArray = Y := ⟨_, rfl⟩
  have hYs : Y.size = X.size := by
    have e1 : X.toList.length = X.size := by simp
    rw [← hY]; simp; omega
  have hcpA : ∀ (W : World), W.heap = W1.heap → ∀ ty dc, (Builtin.copy_ #[46, 46] ty #[.slice (some ⟨w.heap.size, n * 2, none⟩) (N + 1 - n) dc, .slice (some ⟨vb, 0, none⟩) 1 1]).run Tryz.prog W = .ok (goInt ((1 : Nat) : Int)) (W.setRow w.heap.size Y) := fun W hW ty dc => by
    rw [← hY]
    exact run_copy_pairs W ty w.heap.size (n * 2) _ dc ⟨vb, 0, none⟩ 1 1 X 61 1 _ (by rw [hW]; exact hg1) (by simp only [Nat.min_def]; split <;> omega) rfl (fun j v hj => by
      have := hvW.at_ j v hj
      rwa [World.cell?_of_block (w := W1) (w' := W) (by rw [hW])]) (by simp; omega) hv1
  obtain ⟨H, hHe⟩ : ∃ H, cellsQ hi = H := ⟨_, rfl⟩
  have hH1 : ∀ v ∈ H, v.oneCell' = true := by rw [← hHe]; exact cellsQ_one hi
  have hHl : H.length = (N - n) * 2 := by rw [← hHe]; omega
  obtain ⟨CA, CR, hcs, hA, hH, _, _⟩ := split_cells h.pairs hg hn hN (by omega)
  rw [hHe] at hcs
  have hsrc : ∀ (W : World), W.heap[g]? = w.heap[g]? → ∀ j v, H[j]? = some v → W.cell? ((⟨g, off + n * 2, none⟩ : Addr).add j) = some v := fun W hW j v hj => by
    rw [Addr.add_lit, Joins.cell_of_block (hW.trans hg), ← Array.getElem?_toList, hcs, List.append_assoc, List.getElem?_append_right (by omega), show off + n * 2 + j - CA.length = j by omega]
    have hjl : j < H.length := by
      rcases Nat.lt_or_ge j H.length with h1 | h1
      · exact h1
      · rw [List.getElem?_eq_none h1] at hj; cases hj
    rw [List.getElem?_append_left hjl]; exact hj
  obtain ⟨Z, hZ⟩ : ∃ Z : Array Value, (Y.toList.take ((n + 1) * 2) ++ H ++ Y.toList.drop ((n + 1) * 2 + H.length)).toArray = Z := ⟨_, rfl⟩
  have hcpB : ∀ (W : World), W.heap[w.heap.size]? = some (.cells Y 61 (0, 0)) → W.heap[g]? = w.heap[g]? → ∀ ty dc sc, (Builtin.copy_ #[46, 46] ty #[.slice (some ⟨w.heap.size, (n + 1) * 2, none⟩) (N + 1 - (n + 1)) dc, .slice (some ⟨g, off + n * 2, none⟩) (N - n) sc]).run Tryz.prog W = .ok (goInt ((N - n : Nat) : Int)) (W.setRow w.heap.size Z) := fun W hW hWg ty dc sc => by
    rw [← hZ]
    exact run_copy_pairs W ty w.heap.size ((n + 1) * 2) _ dc ⟨g, off + n * 2, none⟩ _ sc Y 61 (N - n) H hW (by simp only [Nat.min_def]; split <;> omega) hHl (hsrc W hWg) (by omega) hH1
  have hW2 : ∀ W : World, W.heap = W1.heap → (W.setRow w.heap.size Y).heap[w.heap.size]? = some (.cells Y 61 (0, 0)) ∧ (W.setRow w.heap.size Y).heap[g]? = w.heap[g]? := fun W hW =>
    ⟨setRow_heap W _ _ _ _ _ (by rw [hW]; exact hg1), by rw [setRow_other _ _ _ _ (by omega), hW]; exact hb1'.block _ hgw⟩
  have hfin : ∀ W : World, W.heap = W1.heap → W.os = w.os → W.tape = w.tape → W.output = w.output → AddedV w (some ⟨g, off, none⟩) (lo ++ ((i, c) :: hi)) (.returned (.slice (some ⟨w.heap.size, 0, none⟩) (N + 1) G)) (((W.setRow w.heap.size Y).drew).setRow w.heap.size Z) := fun W hW ho ht hu => by
    have hl3 : (lo ++ ((i, c) :: hi)).length = N + 1 := by rw [← hN]; simp; omega
    have hsh := shift_new (A := cellsQ lo) (H := H) (W := V) (v := [Value.int .i64 i, .int .u64 c]) (a := n * 2) (h := (N - n) * 2) (by omega) hHl rfl
    have hg2 : (((W.setRow w.heap.size Y).drew).setRow w.heap.size Z).heap[w.heap.size]? = some (.cells Z 61 (0, 0)) := setRow_heap _ _ _ _ _ _ (hW2 W hW).1
    have hZL : Z.toList = [] ++ cellsQ (lo ++ ((i, c) :: hi)) ++ V.drop (2 + (N - n) * 2) := by
      rw [← hZ, ← hY, hXL, cells_mid, hHe, List.nil_append, ← hsh]
      simp only [List.length_cons, List.length_nil]
      rw [show (n + 1) * 2 = n * 2 + 2 by omega, hHl]
    refine ⟨some ⟨w.heap.size, 0, none⟩, G, by rw [hl3], slab_of_cells (P := []) (R := V.drop (2 + (N - n) * 2)) (ok_mid h.pairs.ok hi' hc) hg2 rfl hZL (by omega) ?_ hG63, ?_, Or.inr fun k hk => by cases hk; exact Nat.le_refl _⟩
    · have : Z.size = Z.toList.length := by simp
      rw [this, hZL, cells_mid, hHe]; simp only [List.length_append, List.length_drop, List.length_cons, List.length_nil]
      omega
    · refine grown_call (grown_refl w _) ⟨ho, ht, hu, ?_, fun k hk => ?_⟩
      · have := hb1'.size
        simp only [World.setRow, Array.size_modify]
        show w.heap.size ≤ (W.heap.modify _ _).size
        rw [Array.size_modify, hW]; exact this
      · rw [setRow_other _ _ _ _ (by omega)]
        show (W.setRow w.heap.size Y).heap[k]? = _
        rw [setRow_other _ _ _ _ (by omega), hW]; exact hb1'.block k hk
  rw [hW1] at hrz
  have HR := Lib.hid hrz
  have ho1 : W1.os = w.os ∧ W1.tape = w.tape ∧ W1.output = w.output := by rw [← hW1]; exact ⟨rfl, rfl, rfl⟩
  have HF := Lib.hid (hfin W1 rfl ho1.1 ho1.2.1 ho1.2.2)
  have hA1 := hcpA W1 rfl
  have HB := Lib.hid (fun ty dc sc => hcpB (W1.setRow w.heap.size Y).drew (hW2 W1 rfl).1 (hW2 W1 rfl).2 ty dc sc)
  have HG2 : Hid ((W1.setRow w.heap.size Y).heap.size = (W1.setRow w.heap.size Y).heap.size) := Lib.hid rfl
  generalize W1.setRow w.heap.size Y = W2 at *
  have hw1 : IntKind.i64.wrap ((n : Int) + 1) = (n : Int) + 1 := by rw [IntKind.wrap_i64]; omega
  have hw2 : IntKind.i64.wrap ((N : Int) + 1) = (N : Int) + 1 := by rw [IntKind.wrap_i64]; omega
  have hw3 : IntKind.i64.wrap ((N : Int) + 1 - n) = (N : Int) + 1 - n := by rw [IntKind.wrap_i64]; omega
  have hb1 : (0 : Int) ≤ (n : Int) + 1 := by omega
  have htn : ((n : Int) + 1).toNat = n + 1 := by omega
  have hz2' : ¬ ((n : Int) = (N : Int)) := by omega
  have hz3 : (N : Int) < (N : Int) + 1 := by omega
  have hin : n ≤ N := by omega
  have hb3 : (n : Int) ≤ (N : Int) := by omega
  have hb5 : (n : Int) + 1 ≤ (N : Int) + 1 := by omega
  have hb8 : (n : Int) ≤ (N : Int) + 1 := by omega
  have hci : ¬ (N = n) := by omega
  have hGi : ¬ (G = n) := by omega
  have hGim : ¬ (G = n + 1) := by omega
  have hNG : (N : Int) + 1 ≤ (G : Int) := by omega
  clear HG2 hfin hrz hcpA hcpB hW2 hW1 ho1 hZ hY hYs hsrc hcs hA hH hHe hH1 hHl hv1 hvW hg1 hb1' hXs hXL hX hVl hV hG hGm hGn hik hkk hold hdr hQ hQh hNN hr hn hN h hz0 hz1 hz2 hgw hvw hg hv
  go_enter Tryz.func74, Tryz.ntmps74
  go_wp2_with (at_builtin; refine Lib.wpList_append_run _ rfl _ _ _ _ rfl _ _ rfl rfl _ _ (HR.out _) ?_)
  go_region_law (refine step_copy_runI rfl _ _ 46 46 rfl (.slice (some ⟨w.heap.size, (n + 1) * 2, none⟩) (N + 1 - (n + 1)) (G - (n + 1))) (.slice (some ⟨g, off + n * 2, none⟩) (N - n) (N - n)) (by simp [Act.eval, Act.put]) (by simp [Act.eval, Act.put]) (HB.out _ _ _) ?_)
  go_wp2_with fail
  go_ret
  exact HF.out

theorem ins_any (w : World) (A : Option Addr) (cap n N vb : Nat) (lo hi : List PairV) (i c : Int) (h : Slab w A cap (lo ++ hi)) (hn : lo.length = n) (hN : (lo ++ hi).length = N) (hl : N ≤ 100000) (hv : OneP w vb i c) (hvg : blkA A ≠ some vb) (hi' : I64 i) (hc : Word c) :
    Calls Tryz.prog 74 #[.slice A N cap, .int .i64 n, .slice (some ⟨vb, 0, none⟩) 1 1] w (AddedV w A (lo ++ ((i, c) :: hi))) := by
  have hfit := h.fit
  have hNN : lo.length + hi.length = N := by rw [← hN, List.length_append]
  by_cases he : n = N
  · have hh : hi = [] := List.eq_nil_of_length_eq_zero (by omega)
    subst hh he
    rw [List.append_nil] at h hfit
    by_cases hr : n < cap
    · rcases h.form with ⟨rfl, rfl, rfl⟩ | ⟨g, off, rfl⟩
      · omega
      · exact ins_end_room w g off cap n vb lo i c h hn hr hv hi' hc
    · obtain rfl : cap = n := by omega
      exact ins_end_grow w A cap vb lo i c h hn hl hv hi' hc
  · rcases h.form with ⟨rfl, e, rfl⟩ | ⟨g, off, rfl⟩
    · rw [e] at hN; simp at hN; omega
    · by_cases hr : N < cap
      · exact ins_shift w g off cap n N vb lo hi i c h hn hN (by omega) hr hv (fun e => hvg (by rw [e]; rfl)) hi' hc
      · obtain rfl : cap = N := by omega
        exact ins_grow w g off n cap vb lo hi i c h hn hN (by omega) hl hv hi' hc
end Go.Proofs.YthjcdbnjmpjikaaGreat

/-
  How package strip lays a strip in memory; walks: New, own, Len, Total, At, Ends, of a strip and of a nil one.
  Walk: package strip: Add, of a strip and of a nil one.
-/
namespace Go.Proofs.YthjcdbnjmpjikaaGreat
set_option linter.unusedVariables false
set_option linter.unusedSimpArgs false
open Go.RowKit

/-- At block B lies a strip: how many pairs at most, its row, their sum. -/
structure LayS (w : World) (B : Nat) (A : Option Addr) (n cap : Nat) (m t : Int) (L : List PairV) : Prop where
  b : w.heap[B]? = some (.cells #[.int .i64 m, .slice A n cap, .int .u64 t] 109 (0, 0))
  row : Slab w A cap L
theorem LayS.c0 {w : World} {B : Nat} {A : Option Addr} {n cap : Nat} {m t : Int} {L : List PairV} (h : LayS w B A n cap m t L) : w.cell? ⟨B, 0, none⟩ = some (.int .i64 m) := by rw [Joins.cell_of_block h.b]; rfl
theorem LayS.c1 {w : World} {B : Nat} {A : Option Addr} {n cap : Nat} {m t : Int} {L : List PairV} (h : LayS w B A n cap m t L) : w.cell? ⟨B, 1, none⟩ = some (.slice A n cap) := by rw [Joins.cell_of_block h.b]; rfl
theorem LayS.c2 {w : World} {B : Nat} {A : Option Addr} {n cap : Nat} {m t : Int} {L : List PairV} (h : LayS w B A n cap m t L) : w.cell? ⟨B, 2, none⟩ = some (.int .u64 t) := by rw [Joins.cell_of_block h.b]; rfl
theorem LayS.f {w : World} {B : Nat} {A : Option Addr} {n cap : Nat} {m t : Int} {L : List PairV} (h : LayS w B A n cap m t L) (o : Nat) : w.frozen? ⟨B, o, none⟩ = false := free8 h.b o
theorem LayS.lt {w : World} {B : Nat} {A : Option Addr} {n cap : Nat} {m t : Int} {L : List PairV} (h : LayS w B A n cap m t L) : B < w.heap.size := lt_of_block h.b
theorem LayS.ne {w : World} {B : Nat} {A : Option Addr} {n cap : Nat} {m t : Int} {L : List PairV} (h : LayS w B A n cap m t L) {k : Nat} (hk : blkA A = some k) : k ≠ B := by
  rintro rfl
  rcases h.row.blk with ⟨rfl, _⟩ | ⟨g, off, cs, rfl, hb⟩
  · cases hk
  · cases hk
    have h1 := h.b
    rw [hb] at h1
    injection h1 with h2
    injection h2 with _ h3
    revert h3
    decide
theorem LayS.keep {w w' : World} {B : Nat} {A : Option Addr} {n cap : Nat} {m t : Int} {L : List PairV} (h : LayS w B A n cap m t L) (h1 : w'.heap[B]? = w.heap[B]?) (h2 : ∀ k, blkA A = some k → w'.heap[k]? = w.heap[k]?) : LayS w' B A n cap m t L := ⟨h1.trans h.b, h.row.keep h2⟩
theorem LayS.call {w w' : World} {B : Nat} {A : Option Addr} {n cap : Nat} {m t : Int} {L : List PairV} (h : LayS w B A n cap m t L) (hb : Below w.heap.size w w') : LayS w' B A n cap m t L := ⟨(hb.block _ h.lt).trans h.b, h.row.call hb⟩

/-- A strip at block B, of m pairs at most, whose row is L; S are its blocks. -/
def StX (w : World) (B : Nat) (S : Nat → Prop) (m : Int) (L : List PairV) : Prop :=
  Stp m L ∧ I64 m ∧ ∃ A cap, LayS w B A L.length cap m (sumP L) L ∧ ∀ k, S k ↔ k = B ∨ blkA A = some k
theorem stx_keep (w w' : World) (B : Nat) (S : Nat → Prop) (m : Int) (L : List PairV) (h : StX w B S m L) (hk : ∀ k, S k → w'.heap[k]? = w.heap[k]?) : StX w' B S m L := by
  obtain ⟨h1, h2, A, cap, h3, h4⟩ := h
  exact ⟨h1, h2, A, cap, h3.keep (hk B ((h4 B).2 (Or.inl rfl))) (fun k hA => hk k ((h4 k).2 (Or.inr hA))), h4⟩
theorem stx_lt (w : World) (B : Nat) (S : Nat → Prop) (m : Int) (L : List PairV) (h : StX w B S m L) : ∀ k, S k → k < w.heap.size := by
  obtain ⟨h1, h2, A, cap, h3, h4⟩ := h
  intro k hk
  rcases (h4 k).1 hk with rfl | hA
  · exact h3.lt
  · exact h3.row.lt hA
theorem stx_cells (w : World) (B : Nat) (S : Nat → Prop) (m : Int) (L : List PairV) (h : StX w B S m L) : ∀ k, S k → ∃ cs t z, w.heap[k]? = some (.cells cs t z) := by
  obtain ⟨h1, h2, A, cap, h3, h4⟩ := h
  intro k hk
  rcases (h4 k).1 hk with rfl | hA
  · exact ⟨_, _, _, h3.b⟩
  · rcases h3.row.blk with ⟨rfl, _⟩ | ⟨g, off, cs, rfl, hb⟩
    · cases hA
    · cases hA; exact ⟨_, _, _, hb⟩

set_option maxHeartbeats 400000 in
theorem snew_any (w : World) (m : Int) (h1 : 1 ≤ m) (h2 : m ≤ 4096) :
    Calls Tryz.prog 80 #[.int .i64 m] w fun e w' => ∃ B S, e = .returned (.tuple #[.pointer (some ⟨B, 0, none⟩), .int .i64 0]) ∧ StX w' B S m [] ∧ (∀ k, S k → w.heap.size ≤ k) ∧ Below w.heap.size w w' := by
  have q1 : ¬ m < 1 := by omega
  have q2 : ¬ 4096 < m := by omega
  go_enter Tryz.func80, Tryz.ntmps80
  go_wp2_with fail
  refine bodyPost_ret (v := .tuple #[.pointer (some ⟨w.heap.size, 0, none⟩), .int .i64 0]) (by simp [results, Tryz.results80, go_sem]) rfl ?_
  refine ⟨w.heap.size, rfl, fun k => k = w.heap.size, ⟨Stp.nil (by omega), ⟨by omega, by omega⟩, none, 0, ⟨heap_alloc_new _ _, Slab.nil _⟩, fun k => ⟨Or.inl, fun h => by rcases h with h | h; exact h; cases h⟩⟩, fun k hk => by subst hk; exact Nat.le_refl _, (Below.refl _ _).alloc (Nat.le_refl _) _⟩
set_option maxHeartbeats 400000 in
theorem sbad_any (w : World) (m : Int) (hm : I64 m) (hb : m < 1 ∨ 4096 < m) :
    Calls Tryz.prog 80 #[.int .i64 m] w fun e w' => e = .returned (.tuple #[.pointer none, .int .i64 1]) ∧ Below w.heap.size w w' := by
  by_cases q2 : m < 1
  · go_enter Tryz.func80, Tryz.ntmps80
    go_wp2_with fail
    go_ret2
    exact ⟨rfl, Below.refl _ _⟩
  · have q3 : 4096 < m := by omega
    go_enter Tryz.func80, Tryz.ntmps80
    go_wp2_with fail
    go_ret2
    exact ⟨rfl, Below.refl _ _⟩

set_option maxHeartbeats 400000 in
theorem sown_at (w : World) (B : Nat) (v : Value) (h : w.cell? ⟨B, 1, none⟩ = some v) :
    Calls Tryz.prog 65 #[.pointer (some ⟨B, 0, none⟩)] w fun e w' => e = .returned v ∧ w = w' := by
  go_enter Tryz.func65, Tryz.ntmps65
  go_wp2_with fail
  go_ret
  exact ⟨rfl, rfl⟩
set_option maxHeartbeats 400000 in
theorem sown_none (w : World) :
    Calls Tryz.prog 65 #[.pointer none] w fun e w' => e = .returned (.slice none 0 0) ∧ w = w' := by
  go_enter Tryz.func65, Tryz.ntmps65
  go_wp2_with fail
  go_ret
  exact ⟨rfl, rfl⟩
/-- A strip, or none: what its own row is. -/
def OwnsV (w : World) (p : Option Addr) (A : Option Addr) (n cap : Nat) : Prop := ∀ w', Below w.heap.size w w' → Calls Tryz.prog 65 #[.pointer p] w' fun e w'' => e = .returned (.slice A n cap) ∧ w' = w''
theorem owns_at {w : World} {B : Nat} {A : Option Addr} {n cap : Nat} (h : w.cell? ⟨B, 1, none⟩ = some (.slice A n cap)) : OwnsV w (some ⟨B, 0, none⟩) A n cap := fun w' hb => sown_at w' B _ (cell_later hb h)
theorem owns_none (w : World) : OwnsV w none none 0 0 := fun w' _ => sown_none w'
theorem OwnsV.now {w : World} {p A : Option Addr} {n cap : Nat} (h : OwnsV w p A n cap) : Calls Tryz.prog 65 #[.pointer p] w fun e w' => e = .returned (.slice A n cap) ∧ w = w' := h w (Below.refl _ _)

set_option maxHeartbeats 400000 in
theorem slen_of (w : World) (p A : Option Addr) (n cap : Nat) (h : OwnsV w p A n cap) :
    Calls Tryz.prog 68 #[.pointer p] w fun e w' => e = .returned (.int .i64 n) ∧ w = w' := by
  have H := Lib.hid h
  clear h
  go_enter Tryz.func68, Tryz.ntmps68
  go_wp2_with fail
  refine H.out.now.mono ?_
  rintro e w2 ⟨rfl, rfl⟩
  go_wp2_with fail
  go_ret
  exact ⟨rfl, rfl⟩
set_option maxHeartbeats 400000 in
theorem stotal_at (w : World) (B : Nat) (t : Int) (h : w.cell? ⟨B, 2, none⟩ = some (.int .u64 t)) :
    Calls Tryz.prog 40 #[.pointer (some ⟨B, 0, none⟩)] w fun e w' => e = .returned (.int .u64 t) ∧ w = w' := by
  go_enter Tryz.func40, Tryz.ntmps40
  go_wp2_with fail
  go_ret
  exact ⟨rfl, rfl⟩
set_option maxHeartbeats 400000 in
theorem stotal_none (w : World) :
    Calls Tryz.prog 40 #[.pointer none] w fun e w' => e = .returned (.int .u64 0) ∧ w = w' := by
  go_enter Tryz.func40, Tryz.ntmps40
  go_wp2_with fail
  go_ret
  exact ⟨rfl, rfl⟩

/-- Where an index stands in a good row, and how many of it there are. -/
theorem good_where {L : List PairV} (i : Int) (hg : GoodP L) : ∃ n, (lowP L i).length = n ∧ n ≤ L.length ∧
    ((isP L i = true ∧ n < L.length ∧ L[n]? = some (i, countP L i) ∧ belowP L i = sumP (L.take (n + 1)) ∧ (∀ c, 0 < c → 0 ≤ countP L i → (addP L i c).length = L.length)) ∨
     (isP L i = false ∧ countP L i = 0 ∧ belowP L i = sumP (L.take n) ∧ (∀ c, 0 < c → (addP L i c).length = L.length + 1))) := by
  have hlo : ∀ A : List PairV, (∀ p, p ∈ A → p.1 < i) → A.filter (fun p => decide (p.1 ≤ i)) = A := fun A h => List.filter_eq_self.2 fun p hp => by have := h p hp; simp; omega
  have hhi : ∀ A : List PairV, (∀ p, p ∈ A → i < p.1) → A.filter (fun p => decide (p.1 ≤ i)) = [] := fun A h => List.filter_eq_nil_iff.2 fun p hp => by have := h p hp; simp; omega
  have h1 := hlo (lowP L i) fun p hp => (lowP_mem hp).2
  have h2 := hhi (highP L i) fun p hp => (highP_mem hp).2
  refine ⟨_, rfl, List.length_filter_le _ _, ?_⟩
  rcases good_part i hg with ⟨m, e1, e2, e3⟩ | ⟨e1, e2⟩
  · refine Or.inl ⟨by rw [← e1]; exact (is_part (L := L)).2 m, ?_, ?_, ?_, fun c hc _ => ?_⟩
    · have := congrArg List.length e1; simp only [List.length_append, List.length_cons] at this; omega
    · rw [e2]
      have : (lowP L i ++ ((i, m) :: highP L i))[(lowP L i).length]? = some (i, m) := by rw [List.getElem?_append_right (Nat.le_refl _), Nat.sub_self]; rfl
      rwa [e1] at this
    · have h3 : belowP (lowP L i ++ ((i, m) :: highP L i)) i = sumP ((lowP L i ++ ((i, m) :: highP L i)).take ((lowP L i).length + 1)) := by
        unfold belowP
        rw [List.filter_append, h1, List.filter_cons_of_pos (by simp), h2, List.take_append, List.take_of_length_le (Nat.le_succ _), Nat.add_sub_cancel_left]
        rfl
      rwa [e1] at h3
    · have h4 := congrArg List.length e1
      unfold addP
      rw [e2]
      unfold midP
      rw [if_pos (by omega)]
      simp only [List.length_append, List.length_cons, List.length_nil] at h4 ⊢
      omega
  · refine Or.inr ⟨by rw [← e1]; exact (is_part (L := L)).1, e2, ?_, fun c hc => ?_⟩
    · have h3 : belowP (lowP L i ++ highP L i) i = sumP ((lowP L i ++ highP L i).take (lowP L i).length) := by
        unfold belowP
        rw [List.filter_append, h1, h2, List.take_append_of_le_length (Nat.le_refl _), List.take_length, List.append_nil]
      rwa [e1] at h3
    · have h4 := congrArg List.length e1
      unfold addP
      rw [e2]
      unfold midP
      rw [if_pos (by omega)]
      simp only [List.length_append, List.length_cons, List.length_nil] at h4 ⊢
      omega

end Go.Proofs.YthjcdbnjmpjikaaGreat

namespace Go.Proofs.YthjcdbnjmpjikaaGreat
set_option linter.unusedVariables false
set_option linter.unusedSimpArgs false
open Go.RowKit

theorem Keeps.set {S : Nat → Prop} {w w1 : World} (k : Keeps S w w1) {b : Nat} (o : Nat) (u : Value) (h : S b ∨ w.heap.size ≤ b) : Keeps S w (w1.setCell ⟨b, o, none⟩ u) :=
  ⟨k.os, k.tape, k.output, by simpa [World.setCell] using k.size, fun j hj hn => by
    rw [Below.heap_setCell _ _ _ _ (by show j ≠ b; rintro rfl; rcases h with h | h; exact hn h; omega)]; exact k.block j hj hn⟩
theorem Keeps.new {S : Nat → Prop} {w w1 : World} (k : Keeps S w w1) (o : Obj) : Keeps S w (w1.alloc o) :=
  ⟨k.os, k.tape, k.output, Nat.le_trans k.size (by simp), fun j hj hn => (heap_alloc_old _ _ (Nat.lt_of_lt_of_le hj k.size)).trans (k.block j hj hn)⟩
theorem Keeps.draws {S : Nat → Prop} {w w1 : World} (k : Keeps S w w1) (m : Nat) : Keeps S w (w1.drewN m) := by
  have h := below_drewN (Below.refl w1.heap.size w1) m
  exact ⟨h.os.trans k.os, h.tape.trans k.tape, h.output.trans k.output, Nat.le_trans k.size h.size, fun j hj hn => (h.block j (Nat.lt_of_lt_of_le hj k.size)).trans (k.block j hj hn)⟩
theorem keeps_grown {S : Nat → Prop} {w w1 : World} {r : Option Nat} (h : w.grownBy w1 r) (hS : ∀ k, r = some k → S k) : Keeps S w w1 :=
  ⟨h.os, h.tape, h.output, h.size, fun j hj hn => h.block j hj (fun e => hn (hS j e.symm))⟩
theorem two_new8 (w : World) (x y : Value) (t : TypeId) : (w.alloc (.cells #[x, y] t)).cell? ⟨w.heap.size, 0, none⟩ = some x ∧ (w.alloc (.cells #[x, y] t)).cell? ⟨w.heap.size, 1, none⟩ = some y := by
  have h : (w.alloc (.cells #[x, y] t)).heap[w.heap.size]? = some (.cells #[x, y] t (0, 0)) := heap_alloc_new w _
  exact ⟨by rw [Joins.cell_of_block h]; rfl, by rw [Joins.cell_of_block h]; rfl⟩

set_option maxHeartbeats 400000 in
theorem sadd_none (w : World) (i c : Int) (hi : I64 i) (hc : Word c) :
    Calls Tryz.prog 47 #[.pointer none, .int .i64 i, .int .u64 c] w fun e w' => e = .returned (.int .i64 2) ∧ Below w.heap.size w w' := by
  go_enter Tryz.func47, Tryz.ntmps47
  go_wp2_with fail
  go_ret
  exact ⟨rfl, Below.refl _ _⟩

/-- What Add comes to. -/
def AddsS (w : World) (B : Nat) (S : Nat → Prop) (m : Int) (L : List PairV) (i c : Int) (e : Ending) (w' : World) : Prop :=
  ∃ S', e = .returned (.int .i64 (stErr m L i c)) ∧ StX w' B S' m (stRow m L i c) ∧ Keeps S w w' ∧ (∀ k, S' k → S k ∨ w.heap.size ≤ k)
theorem adds_same {w w' : World} {B : Nat} {S : Nat → Prop} {m : Int} {L : List PairV} {i c x : Int} (h : StX w B S m L) (he : stErr m L i c = x) (hx : x ≠ 0) (hb : Below w.heap.size w w') : AddsS w B S m L i c (.returned (.int .i64 x)) w' :=
  ⟨S, by rw [he], by unfold stRow; rw [if_neg (by omega)]; exact stx_keep _ _ _ _ _ _ h (fun k hk => hb.block k (stx_lt _ _ _ _ _ h k hk)), Keeps.of_below hb, fun k hk => Or.inl hk⟩

set_option maxRecDepth 100000 in
set_option maxHeartbeats 2000000 in
theorem sadd_no (w : World) (B : Nat) (S : Nat → Prop) (m : Int) (L : List PairV) (i c : Int) (h : StX w B S m L) (hl : L.length ≤ 900) (hi : I64 i) (hc : Word c) (hcase : c = 0 ∧ stErr m L i c = 1 ∨ (0 < c ∧ 9223372036854775807 - sumP L < c ∧ stErr m L i c = 6)) :
    Calls Tryz.prog 47 #[.pointer (some ⟨B, 0, none⟩), .int .i64 i, .int .u64 c] w (AddsS w B S m L i c) := by
  have HX := Lib.hid h
  obtain ⟨hst, hm, A, cap, hL, hS⟩ := h
  rcases hcase with ⟨rfl, e⟩ | ⟨hc0, hbig, e⟩
  · have E := Lib.hid e
    clear e hst hL hS
    go_enter Tryz.func47, Tryz.ntmps47
    go_wp2_with fail
    go_ret
    exact adds_same HX.out E.out (by decide) (Below.refl _ _)
  · have E := Lib.hid e
    have c1 := hL.c1
    have c2 := hL.c2
    have hs0 := sumP_pos (ok_pos hst.ok)
    have hs1 := hst.sum
    obtain ⟨t, ht⟩ : ∃ t, sumP L = t := ⟨_, rfl⟩
    rw [ht] at c2 hs0 hs1 hbig
    have P1 : Hid (plus2B t c = false) := Lib.hid (by unfold plus2B; apply decide_eq_false; omega)
    have P2 : Hid (plus2Q t c = 0) := Lib.hid (by unfold plus2Q; rw [P1.out]; rfl)
    have c00 : (c == 0) = false := by simp; omega
    obtain ⟨n, b, hF⟩ : ∃ (n : Nat) (b : Bool), ∀ w', Below w.heap.size w w' → Calls Tryz.prog 73 #[.slice A L.length cap, .int .i64 i] w' fun e w'' => e = .returned (.tuple #[.int .i64 n, .bool b]) ∧ Below w'.heap.size w' w'' :=
      ⟨_, _, fun w' hb => find_big w' A cap L i _ _ (hL.row.pairs.call hb) (by omega) hst.good hi rfl rfl⟩
    have HF := Lib.hid hF
    obtain ⟨hc1, hc2⟩ := hc
    clear e hst hL hS ht hF
    go_enter Tryz.func47, Tryz.ntmps47
    go_wp2_with fail
    refine (plus_two t c 0 false _ _ _ ⟨by omega, by omega⟩ ⟨by omega, by omega⟩ (two_new8 w _ _ _).1 (two_new8 w _ _ _).2 P2.out P1.out).mono ?_
    rintro e w3 ⟨rfl, rfl⟩
    have hb3 : Below w.heap.size w (w.alloc (.cells #[.int .u64 t, .int .u64 c] 25)) := (Below.refl _ _).alloc (Nat.le_refl _) _
    have d1 := cell_later hb3 c1
    have HB3 := Lib.hid hb3
    clear hb3
    go_wp2_with fail
    refine (HF.out _ HB3.out).mono ?_
    rintro e w4 ⟨rfl, hb4⟩
    have HB4 := Lib.hid (HB3.out.trans (hb4.mono HB3.out.size))
    clear hb4 d1
    go_wp2_with fail
    go_quiet (fail)
    go_wp2_with fail
    go_ret
    exact adds_same HX.out E.out (by decide) (below_drewN HB4.out _)

set_option maxRecDepth 100000 in
set_option maxHeartbeats 2000000 in
theorem sadd_full (w : World) (B : Nat) (S : Nat → Prop) (m : Int) (L : List PairV) (i c : Int) (h : StX w B S m L) (hl : L.length ≤ 900) (hi : I64 i) (hc : Word c) (hc0 : 0 < c) (hfit : c ≤ 9223372036854775807 - sumP L) (hf : m < ((addP L i c).length : Int)) (e : stErr m L i c = 6) :
    Calls Tryz.prog 47 #[.pointer (some ⟨B, 0, none⟩), .int .i64 i, .int .u64 c] w (AddsS w B S m L i c) := by
  have HX := Lib.hid h
  obtain ⟨hst, hm, A, cap, hL, hS⟩ := h
  have E := Lib.hid e
  have c0 := hL.c0
  have c1 := hL.c1
  have c2 := hL.c2
  have hs0 := sumP_pos (ok_pos hst.ok)
  have hs1 := hst.sum
  obtain ⟨n, hn, hnl, ⟨hb, _, _, _, hlen⟩ | ⟨hb, _, _, hlen⟩⟩ := good_where i hst.good
  · have h1 := hlen c hc0 (hst.cnt i).1
    have h2 := hst.most
    omega
  have h1 := hlen c hc0
  have k7 : m ≤ (L.length : Int) := by omega
  have k8 : decide (m ≤ (L.length : Int)) = true := decide_eq_true k7
  obtain ⟨t, ht⟩ : ∃ t, sumP L = t := ⟨_, rfl⟩
  rw [ht] at c2 hs0 hs1 hfit
  have P1 : Hid (plus2B t c = true) := Lib.hid (by unfold plus2B; apply decide_eq_true; omega)
  have P2 : Hid (plus2Q t c = t + c) := Lib.hid (by unfold plus2Q; rw [P1.out]; rfl)
  have c00 : (c == 0) = false := by simp; omega
  have hF : ∀ w', Below w.heap.size w w' → Calls Tryz.prog 73 #[.slice A L.length cap, .int .i64 i] w' fun e w'' => e = .returned (.tuple #[.int .i64 n, .bool false]) ∧ Below w'.heap.size w' w'' :=
    fun w' hb' => find_big w' A cap L i _ _ (hL.row.pairs.call hb') (by omega) hst.good hi hn hb
  have HF := Lib.hid hF
  obtain ⟨hc1, hc2⟩ := hc
  obtain ⟨m0, m1⟩ := hm
  clear e hst hL hS ht hF hn hb hlen h1
  go_enter Tryz.func47, Tryz.ntmps47
  go_wp2_with fail
  refine (plus_two t c (t + c) true _ _ _ ⟨by omega, by omega⟩ ⟨by omega, by omega⟩ (two_new8 w _ _ _).1 (two_new8 w _ _ _).2 P2.out P1.out).mono ?_
  rintro e w3 ⟨rfl, rfl⟩
  have hb3 : Below w.heap.size w (w.alloc (.cells #[.int .u64 t, .int .u64 c] 25)) := (Below.refl _ _).alloc (Nat.le_refl _) _
  have d1 := cell_later hb3 c1
  have d0 := cell_later hb3 c0
  have HB3 := Lib.hid hb3
  clear hb3
  go_wp2_with fail
  refine (HF.out _ HB3.out).mono ?_
  rintro e w4 ⟨rfl, hb4⟩
  have g1 := cell_later hb4 d1
  have g0 := cell_later hb4 d0
  have HB4 := Lib.hid (HB3.out.trans (hb4.mono HB3.out.size))
  clear hb4 d1 d0 c0 c1 c2
  go_wp2_with fail
  go_quiet (fail)
  go_wp2_with fail
  go_ret
  exact adds_same HX.out E.out (by decide) (below_drewN HB4.out _)

set_option maxRecDepth 100000 in
set_option maxHeartbeats 2000000 in
theorem sadd_in (w : World) (B : Nat) (S : Nat → Prop) (m : Int) (L : List PairV) (i c mm : Int) (h : StX w B S m L) (hl : L.length ≤ 900) (hi : I64 i) (hc : Word c) (hc0 : 0 < c) (hfit : c ≤ 9223372036854775807 - sumP L) (e : stErr m L i c = 0)
    (hp : lowP L i ++ ((i, mm) :: highP L i) = L) (hm2 : countP L i = mm) (hm1 : 1 ≤ mm) :
    Calls Tryz.prog 47 #[.pointer (some ⟨B, 0, none⟩), .int .i64 i, .int .u64 c] w (AddsS w B S m L i c) := by
  have HST := Lib.hid (stp_add h.1 hi hc)
  have HRW : Hid (stRow m L i c = addP L i c) := Lib.hid (by unfold stRow; rw [if_pos e])
  have HM := Lib.hid h.2.1
  obtain ⟨hst, hm, A, cap, hL, hS⟩ := h
  have E := Lib.hid e
  have hs0 := sumP_pos (ok_pos hst.ok)
  have hs1 := hst.sum
  have hcn := hst.cnt i
  have HSM : Hid (sumP (addP L i c) = sumP L + c) := Lib.hid (add_sum (by omega))
  have HS := Lib.hid hS
  obtain ⟨n, hn⟩ : ∃ n, (lowP L i).length = n := ⟨_, rfl⟩
  have his : isP L i = true := by rw [← hp]; exact (is_part (L := L)).2 mm
  have hxn : L[n]? = some (i, mm) := by
    have : (lowP L i ++ ((i, mm) :: highP L i))[n]? = some (i, mm) := by rw [List.getElem?_append_right (by omega), hn, Nat.sub_self]; rfl
    rwa [hp] at this
  have hnl : n < L.length := by
    rcases Nat.lt_or_ge n L.length with h1 | h1
    · exact h1
    · rw [List.getElem?_eq_none h1] at hxn; cases hxn
  obtain ⟨g, off, rfl, hbl, d0, d1⟩ := hL.row.pairs.at_ n _ hxn
  have hadd : addP L i c = lowP L i ++ ((i, mm + c) :: highP L i) := by unfold addP; rw [hm2]; unfold midP; rw [if_pos (by omega)]; rfl
  have hlen : (addP L i c).length = L.length := by rw [hadd]; have := congrArg List.length hp; simp only [List.length_append, List.length_cons] at this ⊢; exact this
  obtain ⟨t, ht⟩ : ∃ t, sumP L = t := ⟨_, rfl⟩
  rw [ht] at hs0 hs1 hfit hL HSM hcn
  have HL := Lib.hid hL
  have P1 : Hid (plus2B t c = true) := Lib.hid (by unfold plus2B; apply decide_eq_true; omega)
  have P2 : Hid (plus2Q t c = t + c) := Lib.hid (by unfold plus2Q; rw [P1.out]; rfl)
  have c00 : (c == 0) = false := by simp; omega
  have hF : ∀ w', Below w.heap.size w w' → Calls Tryz.prog 73 #[.slice (some ⟨g, off, none⟩) L.length cap, .int .i64 i] w' fun e w'' => e = .returned (.tuple #[.int .i64 n, .bool true]) ∧ Below w'.heap.size w' w'' :=
    fun w' hb' => find_big w' _ cap L i _ _ (hL.row.pairs.call hb') (by omega) hst.good hi hn his
  have HF := Lib.hid hF
  have hBw := hL.lt
  have hBg : g ≠ B := hL.ne rfl
  have hBg' : ¬ B = g := fun e => hBg e.symm
  have fin : ∀ w5, Below w.heap.size w w5 → w5.cell? ⟨B, 1, none⟩ = some (.slice (some ⟨g, off, none⟩) L.length cap) ∧ w5.cell? ⟨B, 2, none⟩ = some (.int .u64 t) ∧ w5.frozen? ⟨B, 2, none⟩ = false ∧ w5.cell? ⟨g, off + n * 2 + 1, none⟩ = some (.int .u64 mm) ∧ w5.frozen? ⟨g, off + n * 2 + 1, none⟩ = false ∧
      AddsS w B S m L i c (.returned (.int .i64 0)) ((w5.setCell ⟨g, off + n * 2 + 1, none⟩ (.int .u64 (mm + c))).setCell ⟨B, 2, none⟩ (.int .u64 (t + c))) := by
    intro w5 hb5
    have hL5 := HL.out.call hb5
    have hr := hL5.row.put hp hn hi (m' := mm + c) ⟨by omega, by omega⟩
    rw [← hadd] at hr
    have hb6 : (w5.setCell ⟨g, off + n * 2 + 1, none⟩ (.int .u64 (mm + c))).heap[B]? = some (.cells #[.int .i64 m, .slice (some ⟨g, off, none⟩) L.length cap, .int .u64 t] 109 (0, 0)) := by
      rw [Below.heap_setCell _ _ _ _ hBg.symm]; exact hL5.b
    have hfz : w5.frozen? ⟨g, off + n * 2 + 1, none⟩ = false := by
      rcases hL5.row.blk with ⟨e, _⟩ | ⟨g', off', cs, e, hb⟩
      · cases e
      · obtain ⟨rfl, rfl, _⟩ := Addr.mk.inj (Option.some.inj e)
        exact free8 hb _
    refine ⟨hL5.c1, hL5.c2, hL5.f 2, cell_later hb5 d1, hfz, S, by rw [E.out], ?_, ?_, fun k hk => Or.inl hk⟩
    · rw [HRW.out]
      have hst2 := HST.out
      rw [HRW.out] at hst2
      refine ⟨hst2, HM.out, some ⟨g, off, none⟩, cap, ⟨?_, hr.keep fun k hk => ?_⟩, HS.out⟩
      · rw [HSM.out, hlen]
        exact set_cells8 hb6 2 _
      · rw [Below.heap_setCell _ _ _ _ (by show k ≠ B; cases hk; exact hBg)]
    · have hk1 : Keeps S w (w5.setCell ⟨g, off + n * 2 + 1, none⟩ (.int .u64 (mm + c))) := (Keeps.of_below hb5).set _ _ (Or.inl ((HS.out g).2 (Or.inr rfl)))
      exact hk1.set 2 _ (Or.inl ((HS.out B).2 (Or.inl rfl)))
  have FIN := Lib.hid fin
  have hc1' := hL.c1
  have hc2' := hL.c2
  have hc0' := hL.c0
  have hm64 : mm < 18446744073709551616 := by omega
  have hmc2 : IntKind.u64.wrap (mm + c) = mm + c := by rw [IntKind.wrap_u64]; omega
  obtain ⟨hc1, hc2⟩ := hc
  obtain ⟨m0, m1⟩ := hm
  obtain ⟨i0, i1⟩ := hi
  have nn : (n : Int) < L.length := by omega
  clear fin e hst hL hS ht hF hn his hxn hadd hlen hp hm2 d0 d1 hbl
  go_enter Tryz.func47, Tryz.ntmps47
  go_wp2_with fail
  refine (plus_two t c (t + c) true _ _ _ ⟨by omega, by omega⟩ ⟨by omega, by omega⟩ (two_new8 w _ _ _).1 (two_new8 w _ _ _).2 P2.out P1.out).mono ?_
  rintro e w3 ⟨rfl, rfl⟩
  have hb3 : Below w.heap.size w (w.alloc (.cells #[.int .u64 t, .int .u64 c] 25)) := (Below.refl _ _).alloc (Nat.le_refl _) _
  have d1 := cell_later hb3 hc1'
  have d0 := cell_later hb3 hc0'
  have HB3 := Lib.hid hb3
  clear hb3
  go_wp2_with fail
  refine (HF.out _ HB3.out).mono ?_
  rintro e w4 ⟨rfl, hb4⟩
  have g1 := cell_later hb4 d1
  have g0 := cell_later hb4 d0
  have HB4 := Lib.hid (HB3.out.trans (hb4.mono HB3.out.size))
  clear hb4 d1 d0 hc0' hc1' hc2'
  go_wp2_with fail
  go_quiet (fail)
  obtain ⟨x1, x2, x3, x4, x5, hfin⟩ := FIN.out _ (below_drewN HB4.out nq)
  have HFI := Lib.hid hfin
  clear hfin g0 g1
  generalize w4.drewN nq = w5 at *
  go_wp2_with fail
  go_ret
  exact HFI.out

set_option maxRecDepth 100000 in
set_option maxHeartbeats 2000000 in
theorem sadd_new (w : World) (B : Nat) (S : Nat → Prop) (m : Int) (L : List PairV) (i c : Int) (h : StX w B S m L) (hl : L.length ≤ 900) (hi : I64 i) (hc : Word c) (hc0 : 0 < c) (hfit : c ≤ 9223372036854775807 - sumP L) (hf : ((addP L i c).length : Int) ≤ m) (e : stErr m L i c = 0)
    (hp : lowP L i ++ highP L i = L) (hm2 : countP L i = 0) :
    Calls Tryz.prog 47 #[.pointer (some ⟨B, 0, none⟩), .int .i64 i, .int .u64 c] w (AddsS w B S m L i c) := by
  have HST := Lib.hid (stp_add h.1 hi hc)
  have HRW : Hid (stRow m L i c = addP L i c) := Lib.hid (by unfold stRow; rw [if_pos e])
  have HM := Lib.hid h.2.1
  obtain ⟨hst, hm, A, cap, hL, hS⟩ := h
  have E := Lib.hid e
  have hs0 := sumP_pos (ok_pos hst.ok)
  have hs1 := hst.sum
  have hcn := hst.cnt i
  have HSM : Hid (sumP (addP L i c) = sumP L + c) := Lib.hid (add_sum (by omega))
  have HS := Lib.hid hS
  obtain ⟨n, hn⟩ : ∃ n, (lowP L i).length = n := ⟨_, rfl⟩
  have his : isP L i = false := by rw [← hp]; exact (is_part (L := L)).1
  have hadd : addP L i c = lowP L i ++ ((i, c) :: highP L i) := by unfold addP; rw [hm2, Int.zero_add]; unfold midP; rw [if_pos hc0]; rfl
  have hlen : (addP L i c).length = L.length + 1 := by rw [hadd]; have := congrArg List.length hp; simp only [List.length_append, List.length_cons] at this ⊢; omega
  have k7 : ¬ m ≤ (L.length : Int) := by omega
  obtain ⟨t, ht⟩ : ∃ t, sumP L = t := ⟨_, rfl⟩
  rw [ht] at hs0 hs1 hfit hL HSM hcn
  have HL := Lib.hid hL
  obtain ⟨N, hN⟩ : ∃ N : Nat, L.length = N := ⟨_, rfl⟩
  have HIN : Hid (∀ w', Below w.heap.size w w' → ∀ vb, OneP w' vb i c → w.heap.size ≤ vb → Calls Tryz.prog 74 #[.slice A N cap, .int .i64 n, .slice (some ⟨vb, 0, none⟩) 1 1] w' (AddedV w' A (addP L i c))) := Lib.hid fun w' hb' vb hv hvb => by
    rw [hadd]
    refine ins_any w' A cap n N vb _ _ i c (by rw [hp]; exact hL.row.call hb') hn (by rw [hp]; exact hN) (by omega) hv (fun e => ?_) hi hc
    have := hL.row.lt e
    omega
  have P1 : Hid (plus2B t c = true) := Lib.hid (by unfold plus2B; apply decide_eq_true; omega)
  have P2 : Hid (plus2Q t c = t + c) := Lib.hid (by unfold plus2Q; rw [P1.out]; rfl)
  have c00 : (c == 0) = false := by simp; omega
  have hF : ∀ w', Below w.heap.size w w' → Calls Tryz.prog 73 #[.slice A N cap, .int .i64 i] w' fun e w'' => e = .returned (.tuple #[.int .i64 n, .bool false]) ∧ Below w'.heap.size w' w'' :=
    fun w' hb' => hN ▸ find_big w' A cap L i _ _ (hL.row.pairs.call hb') (by omega) hst.good hi hn his
  have HF := Lib.hid hF
  have hBw := hL.lt
  have fin : ∀ w5 w6 A' cap', Below w.heap.size w w5 → Slab w6 A' cap' (addP L i c) → w5.grownBy w6 (blkA A) → (A' = A ∨ ∀ k, blkA A' = some k → w5.heap.size ≤ k) →
      w6.cell? ⟨B, 1, none⟩ = some (.slice A N cap) ∧ w6.cell? ⟨B, 2, none⟩ = some (.int .u64 t) ∧ w6.frozen? ⟨B, 1, none⟩ = false ∧ w6.frozen? ⟨B, 2, none⟩ = false ∧
      AddsS w B S m L i c (.returned (.int .i64 0)) ((w6.setCell ⟨B, 1, none⟩ (.slice A' (addP L i c).length cap')).setCell ⟨B, 2, none⟩ (.int .u64 (t + c))) := by
    intro w5 w6 A' cap' hb5 hr hg hor3
    have hL5 := HL.out.call hb5
    have hB6 : w6.heap[B]? = w5.heap[B]? := hg.block B (Nat.lt_of_lt_of_le hBw hb5.size) (fun e => HL.out.ne e.symm rfl)
    have hb6 := hB6.trans hL5.b
    have hne : ∀ k, blkA A' = some k → k ≠ B := fun k hk => by
      rcases hor3 with rfl | hf'
      · exact HL.out.ne hk
      · have := hf' k hk; have := hb5.size; omega
    refine ⟨by rw [Joins.cell_of_block hb6, ← hN]; rfl, by rw [Joins.cell_of_block hb6]; rfl, free8 hb6 _, free8 hb6 _, fun k => k = B ∨ blkA A' = some k, by rw [E.out], ?_, ?_, ?_⟩
    · rw [HRW.out]
      have hst2 := HST.out
      rw [HRW.out] at hst2
      refine ⟨hst2, HM.out, A', cap', ⟨?_, hr.keep fun k hk => ?_⟩, fun k => Iff.rfl⟩
      · rw [HSM.out]
        exact set_cells8 (set_cells8 hb6 1 _) 2 _
      · rw [Below.heap_setCell _ _ _ _ (hne k hk), Below.heap_setCell _ _ _ _ (hne k hk)]
    · have hk1 : Keeps S w w6 := keeps_grown (grown_trans (grown_of_below8 hb5) hg) fun k hk => (HS.out k).2 (Or.inr hk)
      exact (hk1.set 1 _ (Or.inl ((HS.out B).2 (Or.inl rfl)))).set 2 _ (Or.inl ((HS.out B).2 (Or.inl rfl)))
    · rintro k (rfl | hk)
      · exact Or.inl ((HS.out k).2 (Or.inl rfl))
      · rcases hor3 with rfl | hf'
        · exact Or.inl ((HS.out k).2 (Or.inr hk))
        · exact Or.inr (Nat.le_trans hb5.size (hf' k hk))
  have FIN := Lib.hid fin
  have hc1' := hL.c1
  have hc2' := hL.c2
  have hc0' := hL.c0
  rw [hN] at hc1' k7
  have k8 : decide (m ≤ (N : Int)) = false := decide_eq_false k7
  obtain ⟨hc1, hc2⟩ := hc
  obtain ⟨m0, m1⟩ := hm
  obtain ⟨i0, i1⟩ := hi
  clear fin e hst hL hS ht hF hn his hadd hlen hp hm2 hcn hf
  go_enter Tryz.func47, Tryz.ntmps47
  go_wp2_with fail
  refine (plus_two t c (t + c) true _ _ _ ⟨by omega, by omega⟩ ⟨by omega, by omega⟩ (two_new8 w _ _ _).1 (two_new8 w _ _ _).2 P2.out P1.out).mono ?_
  rintro e w3 ⟨rfl, rfl⟩
  have hb3 : Below w.heap.size w (w.alloc (.cells #[.int .u64 t, .int .u64 c] 25)) := (Below.refl _ _).alloc (Nat.le_refl _) _
  have d1 := cell_later hb3 hc1'
  have d0 := cell_later hb3 hc0'
  have HB3 := Lib.hid hb3
  clear hb3
  go_wp2_with fail
  refine (HF.out _ HB3.out).mono ?_
  rintro e w4 ⟨rfl, hb4⟩
  have g1 := cell_later hb4 d1
  have g0 := cell_later hb4 d0
  have HB4 := Lib.hid (HB3.out.trans (hb4.mono HB3.out.size))
  clear hb4 d1 d0 hc0' hc1' hc2'
  go_wp2_with fail
  go_quiet (fail)
  have hb5 := below_drewN HB4.out nq
  have g1 := cell_later (below_drewN (Below.refl w4.heap.size w4) nq) g1
  generalize w4.drewN nq = w5 at *
  have HB5 := Lib.hid hb5
  have hb6 : Below w.heap.size w (w5.alloc (.cells #[.int .i64 i, .int .u64 c] 61)) := hb5.alloc hb5.size _
  have HB6 := Lib.hid hb6
  have HI6 := Lib.hid (HIN.out _ hb6 w5.heap.size ⟨heap_alloc_new _ _⟩ hb5.size)
  clear hb5 hb6 g0
  go_wp2_with fail
  refine HI6.out.mono ?_
  rintro e w6 ⟨A', cap', rfl, hr, hg, hor3⟩
  obtain ⟨x1, x2, x3, x4, hfin⟩ := FIN.out _ w6 A' cap' HB6.out hr hg hor3
  have HFI := Lib.hid hfin
  clear hfin hr hg hor3
  go_wp2_with fail
  go_ret
  exact HFI.out

theorem sadd_any (w : World) (B : Nat) (S : Nat → Prop) (m : Int) (L : List PairV) (i c : Int) (h : StX w B S m L) (hl : L.length ≤ 900) (hi : I64 i) (hc : Word c) :
    Calls Tryz.prog 47 #[.pointer (some ⟨B, 0, none⟩), .int .i64 i, .int .u64 c] w (AddsS w B S m L i c) := by
  rcases stErr_cases (m := m) (L := L) (i := i) hc with hz | hbig | ⟨h1, h2, h3, e⟩ | ⟨h1, h2, h3, e⟩
  · exact sadd_no w B S m L i c h hl hi hc (Or.inl hz)
  · exact sadd_no w B S m L i c h hl hi hc (Or.inr hbig)
  · exact sadd_full w B S m L i c h hl hi hc h1 h2 h3 e
  · rcases good_part i h.1.good with ⟨mm, e1, e2, e3⟩ | ⟨e1, e2⟩
    · exact sadd_in w B S m L i c mm h hl hi hc h1 h2 e e1 e2 e3
    · exact sadd_new w B S m L i c h hl hi hc h1 h2 h3 e e1 e2
end Go.Proofs.YthjcdbnjmpjikaaGreat

/-
  Walks: package strip: Pairs, Find, Below, of a strip and of a nil one.
  Walks: package strip: First, Last, of a strip and of a nil one.
  What the landed code of package strip does, a nil strip's too.
-/
namespace Go.Proofs.YthjcdbnjmpjikaaGreat
set_option linter.unusedVariables false
set_option linter.unusedSimpArgs false
open Go.RowKit

set_option maxRecDepth 100000 in
set_option maxHeartbeats 1000000 in
theorem clone_none (w : World) :
    Calls Tryz.prog 64 #[.slice none 0 0] w fun e w' => e = .returned (.slice none 0 0) ∧ w = w' := by
  have he : ∀ w : World, (binOp .eql 46 (.slice none 0 0) (.slice none 0 0)).run Tryz.prog w = .ok (.bool true) w := fun _ => rfl
  go_enter Tryz.func64, Tryz.ntmps64
  go_wp2_with fail
  go_ret
  exact ⟨rfl, rfl⟩

set_option maxRecDepth 100000 in
set_option maxHeartbeats 1000000 in
theorem clone_some (w : World) (g off n cap : Nat) (L : List PairV) (h : Pairs w (some ⟨g, off, none⟩) L) (hn : n = L.length) (hl : n ≤ 1000) :
    Calls Tryz.prog 64 #[.slice (some ⟨g, off, none⟩) n cap] w fun e w' => ∃ v, e = .returned v ∧ OwnP w' w.heap.size v L ∧ Below w.heap.size w w' := by
  subst hn
  have hO := World.ownsRow_made (base := w.heap.size) (e := 61) (size := 2) w #[] 0 (by simp) (by decide) rfl
  have HO : Hid (OwnP (w.alloc (.cells #[] 61)) w.heap.size (.slice (some ⟨w.heap.size, 0, none⟩) 0 0) []) := Lib.hid hO
  have HB : Hid (Below w.heap.size w (w.alloc (.cells #[] 61))) := Lib.hid ((Below.refl _ _).alloc (Nat.le_refl _) _)
  have HP := Lib.hid (h.call HB.out)
  have he : ∀ w : World, (binOp .eql 46 (.slice (some ⟨g, off, none⟩) L.length cap) (.slice none 0 0)).run Tryz.prog w = .ok (.bool false) w := fun _ => rfl
  clear h hO
  go_enter Tryz.func64, Tryz.ntmps64
  go_wp2_with (at_builtin; refine wpList_append_pairs rfl (.tmp 5) (.tmp 6) rfl w.heap.size _ [] (some ⟨g, off, none⟩) cap L rfl HO.out rfl HP.out ?c1 ?c2 ?_)
  case c1 => simp; omega
  case c2 => simp
  intro v5 w5 hown5 hg5
  have hb5 : Below w.heap.size w w5 := HB.out.grown hg5 HB.out.size (fun k hk => by cases hk; exact Nat.le_refl _)
  obtain ⟨A5, k5, rfl⟩ := hown5.form
  have HO5 := Lib.hid hown5
  have HB5 := Lib.hid hb5
  clear hown5 hg5 hb5
  go_wp2_with fail
  go_ret
  exact ⟨_, rfl, HO5.out, HB5.out⟩

set_option maxRecDepth 100000 in
set_option maxHeartbeats 1000000 in
theorem spairs_of (w : World) (p A : Option Addr) (cap : Nat) (L : List PairV) (h : OwnsV w p A L.length cap) (hr : Slab w A cap L) (hl : L.length ≤ 1000) :
    Calls Tryz.prog 39 #[.pointer p] w fun e w' => ∃ v, e = .returned v ∧ OwnP w' w.heap.size v L ∧ Below w.heap.size w w' := by
  have H := Lib.hid h
  rcases hr.form with ⟨rfl, rfl, rfl⟩ | ⟨g, off, rfl⟩
  · have H0 : Hid (OwnsV w p none 0 0) := Lib.hid H.out
    clear h hr H
    go_enter Tryz.func39, Tryz.ntmps39
    go_wp2_with fail
    refine H0.out.now.mono ?_
    rintro e w2 ⟨rfl, rfl⟩
    go_wp2_with fail
    refine (clone_none w).mono ?_
    rintro e w3 ⟨rfl, rfl⟩
    go_wp2_with fail
    go_ret
    exact ⟨_, rfl, OwnP.nil _ _, Below.refl _ _⟩
  · obtain ⟨n, hn⟩ : ∃ n, L.length = n := ⟨_, rfl⟩
    have HC := Lib.hid (clone_some w g off n cap L hr.pairs hn.symm (by omega))
    rw [hn] at H
    clear h hr hn hl
    go_enter Tryz.func39, Tryz.ntmps39
    go_wp2_with fail
    refine H.out.now.mono ?_
    rintro e w2 ⟨rfl, rfl⟩
    go_wp2_with fail
    refine HC.out.mono ?_
    rintro e w3 ⟨v, rfl, ho, hb⟩
    obtain ⟨A5, k5, rfl⟩ := ho.form
    have HO5 := Lib.hid ho
    clear ho
    go_wp2_with fail
    go_ret
    exact ⟨_, rfl, HO5.out, hb⟩

set_option maxRecDepth 100000 in
set_option maxHeartbeats 1000000 in
theorem spairs_none (w : World) :
    Calls Tryz.prog 39 #[.pointer none] w fun e w' => ∃ A cap, e = .returned (.slice A 0 cap) ∧ Below w.heap.size w w' := by
  go_enter Tryz.func39, Tryz.ntmps39
  go_wp2_with fail
  refine (sown_none w).mono ?_
  rintro e w2 ⟨rfl, rfl⟩
  go_wp2_with fail
  refine (clone_none w).mono ?_
  rintro e w3 ⟨rfl, rfl⟩
  go_wp2_with fail
  go_ret
  exact ⟨none, 0, rfl, Below.refl _ _⟩

end Go.Proofs.YthjcdbnjmpjikaaGreat

namespace Go.Proofs.YthjcdbnjmpjikaaGreat
set_option linter.unusedVariables false
set_option linter.unusedSimpArgs false
open Go.RowKit

/-- A strip on its way: its block holds these; all else that was is as it was. -/
structure Left (w : World) (B : Nat) (m : Int) (V : Value) (t : Int) (X : World) : Prop where
  b : X.heap[B]? = some (.cells #[.int .i64 m, V, .int .u64 t] 109 (0, 0))
  k : Keeps (fun k => k = B) w X
theorem Left.start {w w2 : World} {B : Nat} {A : Option Addr} {n cap : Nat} {m t : Int} {L : List PairV} (h : LayS w B A n cap m t L) (b2 : Below w.heap.size w w2) (V : Value) (o : Obj) : Left w B m V t ((w2.setCell ⟨B, 1, none⟩ V).alloc o) := by
  have h1 : (w2.setCell ⟨B, 1, none⟩ V).heap[B]? = some (.cells #[.int .i64 m, V, .int .u64 t] 109 (0, 0)) := set_cells8 (h.call b2).b 1 V
  exact ⟨(heap_alloc_old _ _ (lt_of_block h1)).trans h1, (Keeps.set (S := fun k => k = B) (Keeps.of_below b2) 1 V (Or.inl rfl)).new o⟩
theorem Left.draws {w X : World} {B : Nat} {m t : Int} {V : Value} (h : Left w B m V t X) (n : Nat) : Left w B m V t (X.drewN n) := ⟨((below_drewN (Below.refl X.heap.size X) n).block _ (lt_of_block h.b)).trans h.b, h.k.draws n⟩
theorem Left.total {w X : World} {B : Nat} {m t : Int} {V : Value} (h : Left w B m V t X) (t' : Int) : Left w B m V t' (X.setCell ⟨B, 2, none⟩ (.int .u64 t')) := ⟨set_cells8 h.b 2 _, h.k.set 2 _ (Or.inl rfl)⟩
theorem Left.box {w X : World} {B : Nat} {m t : Int} {V : Value} (h : Left w B m V t X) (hB : B < w.heap.size) (o : Nat) (u : Value) : Left w B m V t (X.setCell ⟨w.heap.size, o, none⟩ u) :=
  ⟨by rw [Below.heap_setCell _ _ _ _ (by show B ≠ w.heap.size; omega)]; exact h.b, h.k.set o u (Or.inr (Nat.le_refl _))⟩
theorem left_facts {w w2 : World} {B : Nat} {A : Option Addr} {n cap : Nat} {m t : Int} {L : List PairV} (h : LayS w B A n cap m t L) (b2 : Below w.heap.size w w2) (hz : w2.heap.size = w.heap.size + 1) (hw : Two w2 w.heap.size (.int .i64 0) (.int .u64 0)) (V : Value) (px pc : Int) :
    ∃ X, (w2.setCell ⟨B, 1, none⟩ V).alloc (.cells #[.int .i64 px, .int .u64 pc] 61) = X ∧ Left w B m V t X ∧ X.cell? ⟨B, 2, none⟩ = some (.int .u64 t) ∧ X.frozen? ⟨B, 2, none⟩ = false ∧
      X.cell? ⟨w.heap.size + 1, 0, none⟩ = some (.int .i64 px) ∧ X.cell? ⟨w.heap.size + 1, 1, none⟩ = some (.int .u64 pc) ∧ Two X w.heap.size (.int .i64 0) (.int .u64 0) := by
  have h1 := Left.start h b2 V (.cells #[.int .i64 px, .int .u64 pc] 61)
  have hsz : (w2.setCell ⟨B, 1, none⟩ V).heap.size = w.heap.size + 1 := by simpa [World.setCell] using hz
  have h2 : ((w2.setCell ⟨B, 1, none⟩ V).alloc (.cells #[.int .i64 px, .int .u64 pc] 61)).heap[w.heap.size + 1]? = some (.cells #[.int .i64 px, .int .u64 pc] 61 (0, 0)) := by
    have := heap_alloc_new (w2.setCell ⟨B, 1, none⟩ V) (.cells #[.int .i64 px, .int .u64 pc] 61)
    rwa [hsz] at this
  have hBl := h.lt
  refine ⟨_, rfl, h1, by rw [Joins.cell_of_block h1.b]; rfl, free8 h1.b _, by rw [Joins.cell_of_block h2]; rfl, by rw [Joins.cell_of_block h2]; rfl, ?_⟩
  refine hw.block ?_
  rw [heap_alloc_old _ _ (by rw [hsz]; omega), Below.heap_setCell _ _ _ _ (by show w.heap.size ≠ B; omega)]
theorem left_done {w X : World} {B : Nat} {m t : Int} {V : Value} {px pc : Int} (h : Left w B m V t X) (hB : B < w.heap.size) (p0 : X.cell? ⟨w.heap.size + 1, 0, none⟩ = some (.int .i64 px)) (p1 : X.cell? ⟨w.heap.size + 1, 1, none⟩ = some (.int .u64 pc)) (hw : Two X w.heap.size (.int .i64 0) (.int .u64 0)) (t' : Int) :
    ∃ Y, (X.setCell ⟨B, 2, none⟩ (.int .u64 t')).drew = Y ∧ Y.cell? ⟨w.heap.size + 1, 0, none⟩ = some (.int .i64 px) ∧ Y.cell? ⟨w.heap.size + 1, 1, none⟩ = some (.int .u64 pc) ∧ Two Y w.heap.size (.int .i64 0) (.int .u64 0) ∧
      (Y.setCell ⟨w.heap.size, 0, none⟩ (.int .i64 px)).cell? ⟨w.heap.size, 0, none⟩ = some (.int .i64 px) ∧
      ((Y.setCell ⟨w.heap.size, 0, none⟩ (.int .i64 px)).setCell ⟨w.heap.size, 1, none⟩ (.int .u64 pc)).cell? ⟨w.heap.size, 1, none⟩ = some (.int .u64 pc) ∧
      Left w B m V t' ((Y.setCell ⟨w.heap.size, 0, none⟩ (.int .i64 px)).setCell ⟨w.heap.size, 1, none⟩ (.int .u64 pc)) := by
  have hL : Left w B m V t' ((X.setCell ⟨B, 2, none⟩ (.int .u64 t')).drew) := (h.total t').draws 1
  have e : ∀ k, k ≠ B → ((X.setCell ⟨B, 2, none⟩ (.int .u64 t')).drew).heap[k]? = X.heap[k]? := fun k hk => Below.heap_setCell _ _ _ _ hk
  have hT : Two ((X.setCell ⟨B, 2, none⟩ (.int .u64 t')).drew) w.heap.size (.int .i64 0) (.int .u64 0) := hw.block (e _ (by omega))
  refine ⟨_, rfl, (World.cell?_of_block (a := ⟨w.heap.size + 1, 0, none⟩) (e (w.heap.size + 1) (by omega))).trans p0, (World.cell?_of_block (a := ⟨w.heap.size + 1, 1, none⟩) (e (w.heap.size + 1) (by omega))).trans p1, hT, World.cell?_setCell_same _ _ _ hT.c0, ?_, (hL.box hB _ _).box hB _ _⟩
  exact World.cell?_setCell_same _ _ _ (u := .int .u64 0) (by rw [World.cell?_setCell_other _ _ _ _ (two_off (by omega))]; exact hT.c1)
theorem left_end {w X : World} {B : Nat} {A A' : Option Addr} {n n' cap cap' : Nat} {m t t' : Int} {L L' : List PairV} {S : Nat → Prop} (h : LayS w B A n cap m t L) (hS : ∀ k, S k ↔ k = B ∨ blkA A = some k)
    (hA : ∀ k, blkA A' = some k → blkA A = some k) (hr : Slab w A' cap' L') (hn : L'.length = n') (hst : Stp m L') (hm : I64 m) (ht : sumP L' = t') (hX : Left w B m (.slice A' n' cap') t' X) :
    ∃ S', StX X B S' m L' ∧ Keeps S w X ∧ (∀ k, S' k → S k ∨ w.heap.size ≤ k) := by
  subst hn ht
  refine ⟨fun k => k = B ∨ blkA A' = some k, ⟨hst, hm, A', cap', ⟨hX.b, ?_⟩, fun k => Iff.rfl⟩, ?_, ?_⟩
  · exact hr.keep fun k hk => hX.k.block k (hr.lt hk) (h.ne (hA k hk))
  · exact ⟨hX.k.os, hX.k.tape, hX.k.output, hX.k.size, fun k hk hn => hX.k.block k hk (fun e => hn ((hS k).2 (Or.inl e)))⟩
  · rintro k (rfl | hk)
    · exact Or.inl ((hS k).2 (Or.inl rfl))
    · exact Or.inl ((hS k).2 (Or.inr (hA k hk)))

theorem empty_len {L : List PairV} (h : L = []) : L.length = 0 := by rw [h]; rfl

end Go.Proofs.YthjcdbnjmpjikaaGreat

namespace Go.Proofs.YthjcdbnjmpjikaaGreat
set_option linter.unusedVariables false
set_option linter.unusedSimpArgs false
open Go.RowKit

theorem same_below {P : Ending → Prop} {w : World} {e : Ending} {w' : World} (h : P e ∧ w = w') : P e ∧ Below w.heap.size w w' := by
  obtain ⟨h1, rfl⟩ := h
  exact ⟨h1, Below.refl _ _⟩
theorem strip_does : StripDoes StX where
  keep := stx_keep
  lt := stx_lt
  stp := fun w B S m L h => h.1
  cells := stx_cells
  new := fun w m h1 h2 => snew_any w m h1 h2
  bad := fun w m h1 h2 => sbad_any w m h1 h2
  add := fun w B S m L i c h hl hi hc => sadd_any w B S m L i c h hl hi hc
  total := fun w B S m L h hl => by
    obtain ⟨hst, hm, A, cap, hL, hS⟩ := h
    exact (stotal_at w B _ hL.c2).mono fun e w' => same_below (P := fun e => e = _)
  len := fun w B S m L h hl => by
    obtain ⟨hst, hm, A, cap, hL, hS⟩ := h
    exact (slen_of w _ A _ cap (owns_at hL.c1)).mono fun e w' => same_below (P := fun e => e = _)
  pairs := fun w B S m L h hl => by
    obtain ⟨hst, hm, A, cap, hL, hS⟩ := h
    exact spairs_of w _ A cap L (owns_at hL.c1) hL.row (by omega)
theorem strip_nil : StripNil where
  add := fun w i c hi hc => sadd_none w i c hi hc
  total := fun w => (stotal_none w).mono fun e w' => same_below (P := fun e => e = _)
  len := fun w => (slen_of w none none 0 0 (owns_none w)).mono fun e w' => same_below (P := fun e => e = _)
  pairs := fun w => spairs_none w
end Go.Proofs.YthjcdbnjmpjikaaGreat

/-
  Adding to a strip what is too much leaves all blocks as they were.
-/
namespace Go.Proofs.YthjcdbnjmpjikaaGreat
set_option linter.unusedVariables false
set_option linter.unusedSimpArgs false
open Go.RowKit

/-- What is refused since it is too much turns nothing. -/
def AddStill (St : StT) : Prop := ∀ (w : World) (B : Nat) (S : Nat → Prop) (m : Int) (L : List PairV) (i c : Int), St w B S m L → L.length ≤ 900 → I64 i → Word c → 0 < c → 9223372036854775807 - sumP L < c →
  Calls Tryz.prog 47 #[.pointer (some ⟨B, 0, none⟩), .int .i64 i, .int .u64 c] w fun e w' => e = .returned (.int .i64 6) ∧ Below w.heap.size w w'

set_option maxRecDepth 100000 in
set_option maxHeartbeats 2000000 in
theorem sadd_still : AddStill StX := by
  intro w B S m L i c h hl hi hc hc0 hbig
  obtain ⟨hst, hm, A, cap, hL, hS⟩ := id h
  have c1 := hL.c1
  have c2 := hL.c2
  have hs0 := sumP_pos (ok_pos hst.ok)
  have hs1 := hst.sum
  obtain ⟨t, ht⟩ : ∃ t, sumP L = t := ⟨_, rfl⟩
  rw [ht] at c2 hs0 hs1 hbig
  have P1 : Hid (plus2B t c = false) := Lib.hid (by unfold plus2B; apply decide_eq_false; omega)
  have P2 : Hid (plus2Q t c = 0) := Lib.hid (by unfold plus2Q; rw [P1.out]; rfl)
  have c00 : (c == 0) = false := by simp; omega
  obtain ⟨n, b, hF⟩ : ∃ (n : Nat) (b : Bool), ∀ w', Below w.heap.size w w' → Calls Tryz.prog 73 #[.slice A L.length cap, .int .i64 i] w' fun e w'' => e = .returned (.tuple #[.int .i64 n, .bool b]) ∧ Below w'.heap.size w' w'' :=
    ⟨_, _, fun w' hb => find_big w' A cap L i _ _ (hL.row.pairs.call hb) (by omega) hst.good hi rfl rfl⟩
  have HF := Lib.hid hF
  obtain ⟨hc1, hc2⟩ := hc
  clear hst hL hS ht hF h
  go_enter Tryz.func47, Tryz.ntmps47
  go_wp2_with fail
  refine (plus_two t c 0 false _ _ _ ⟨by omega, by omega⟩ ⟨by omega, by omega⟩ (two_new8 w _ _ _).1 (two_new8 w _ _ _).2 P2.out P1.out).mono ?_
  rintro e w3 ⟨rfl, rfl⟩
  have hb3 : Below w.heap.size w (w.alloc (.cells #[.int .u64 t, .int .u64 c] 25)) := (Below.refl _ _).alloc (Nat.le_refl _) _
  have d1 := cell_later hb3 c1
  have HB3 := Lib.hid hb3
  clear hb3
  go_wp2_with fail
  refine (HF.out _ HB3.out).mono ?_
  rintro e w4 ⟨rfl, hb4⟩
  have HB4 := Lib.hid (HB3.out.trans (hb4.mono HB3.out.size))
  clear hb4 d1
  go_wp2_with fail
  go_quiet (fail)
  go_wp2_with fail
  go_ret
  exact ⟨rfl, below_drewN HB4.out _⟩
end Go.Proofs.YthjcdbnjmpjikaaGreat

/-
  Walks: package digest: Put, Join.
-/
namespace Go.Proofs.YthjcdbnjmpjikaaGreat
set_option linter.unusedVariables false
set_option linter.unusedSimpArgs false
open Go.RowKit

/-- A squeezed row can be a digest's. -/
theorem squeeze_ok {b k : Nat} {R : List PairV} (b1 : 1 ≤ b) (b2 : b ≤ 24) (k1 : 1 ≤ k) (k2 : k ≤ 64) (h : RowG b R) : DigOk b k (squeezeD (4 * k) (sumP R / k) R) ∧ (R ≠ [] → squeezeD (4 * k) (sumP R / k) R ≠ []) := by
  obtain ⟨q, hq⟩ : ∃ q, sumP R / (k : Int) = q := ⟨_, rfl⟩
  have hkp : KeptG b (sumP R) R.length R := ⟨h, rfl, Nat.le_refl _⟩
  have hs := hkp.squeeze (q := q) (4 * k)
  rw [hq]
  refine ⟨⟨b1, b2, k1, k2, hs.row, ?_⟩, fun hn e => ?_⟩
  · unfold squeezeD
    by_cases c : R.length ≤ 4 * k
    · rw [if_pos c]; exact c
    · rw [if_neg c]
      have hs0 := (rowg_sum0 h).1
      have hst := tidy_still (q := q) (fuelD R) R h.nodes (by unfold fuelD; have := idx_pos (L := R) fun p hp => (by have := h.nodes p hp; omega); omega)
      unfold squeezeD at hs
      rw [if_neg c] at hs
      have hq0 : 0 ≤ q := by rw [← hq]; exact Int.ediv_nonneg hs0 (by omega)
      have hlt : sumP (tidyD q (fuelD R) R) < (k : Int) * (q + 1) := by
        rw [hs.sum, ← hq, Int.mul_comm]
        exact Int.lt_ediv_add_one_mul_self _ (by omega)
      have := few_nodes hs.row.good hs.row.nodes hq0 (show (1 : Int) ≤ (k : Int) by omega) hlt hst
      omega
  · have h1 := hs.sum
    rw [e, sumP_nil] at h1
    exact hn ((rowg_sum0 h).2.1 h1.symm)
theorem dg_endsval {R : List PairV} {lo hi : Int} : ∃ a c z, (if R = [] then ((0 : Int), (0 : Int), false) else (lo, hi, true)) = (a, c, z) ∧ z = !R.isEmpty := by
  cases R with
  | nil => exact ⟨0, 0, false, rfl, rfl⟩
  | cons p r => exact ⟨lo, hi, true, rfl, rfl⟩
theorem addE_re {R : List PairV} {lo hi x : Int} : addE (if R = [] then (0, 0, false) else (lo, hi, true)) x = (reLoD (!R.isEmpty) x lo, reHiD (!R.isEmpty) x hi, true) := by
  cases R with
  | nil => rfl
  | cons p r =>
    rw [if_neg (by simp)]
    unfold addE reLoD reHiD
    simp only [List.isEmpty_cons, Bool.not_false, if_true]
    rw [Int.min_comm, Int.max_comm]
theorem joinE_re {R : List PairV} {lo hi lo' hi' : Int} : joinE (if R = [] then (0, 0, false) else (lo, hi, true)) (lo', hi', true) = (reLoD (!R.isEmpty) lo' lo, reHiD (!R.isEmpty) hi' hi, true) := by
  cases R with
  | nil => rfl
  | cons p r =>
    rw [if_neg (by simp)]
    unfold joinE reLoD reHiD
    simp only [List.isEmpty_cons, Bool.not_false, if_true]
    rw [Int.min_comm lo, Int.max_comm hi]
/-- A value more. -/
theorem rowg_put {b : Nat} {R : List PairV} {x c : Int} (h : RowG b R) (x0 : 0 ≤ x) (x1 : x < ((2 ^ b : Nat) : Int)) (hc : 0 < c) (hs : sumP R + c ≤ 9223372036854775807) : RowG b (addP R (((2 ^ b : Nat) : Int) + x) c) ∧ sumP (addP R (((2 ^ b : Nat) : Int) + x) c) = sumP R + c ∧ addP R (((2 ^ b : Nat) : Int) + x) c ≠ [] := by
  have e := add_sumD (i := ((2 ^ b : Nat) : Int) + x) h.good (show 0 ≤ c by omega)
  have hs0 := (rowg_sum0 h).1
  refine ⟨⟨add_good h.good (by have := count_leD h.pos (((2 ^ b : Nat) : Int) + x); omega), fun p hp => ?_, by rw [e]; exact hs⟩, e, fun h0 => ?_⟩
  · rcases add_memD hp with h1 | ⟨h1, _⟩
    · exact h.node p h1
    · rw [h1]; exact (leaf_node x0 x1).1
  · rw [h0, sumP_nil] at e; omega

set_option maxHeartbeats 400000 in
theorem dg_put_nil (w : World) (y c : Int) : Calls Tryz.prog 24 #[.pointer none, .int .i64 y, .int .u64 c] w fun e w' => e = .returned (.int .i64 2) ∧ Below w.heap.size w w' := by
  go_enter Tryz.func24, Tryz.ntmps24
  go_wp2_with fail
  go_ret
  exact ⟨rfl, Below.refl _ _⟩

set_option maxHeartbeats 400000 in
theorem dg_put_arg (w : World) (B : Nat) (y : Int) : Calls Tryz.prog 24 #[.pointer (some ⟨B, 0, none⟩), .int .i64 y, .int .u64 0] w fun e w' => e = .returned (.int .i64 1) ∧ Below w.heap.size w w' := by
  go_enter Tryz.func24, Tryz.ntmps24
  go_wp2_with fail
  go_ret
  exact ⟨rfl, Below.refl _ _⟩

set_option maxHeartbeats 400000 in
theorem dg_put_out (N : TreeDoes) {w : World} {B b : Nat} (b1 : 1 ≤ b) (b2 : b ≤ 24) (c2 : w.cell? ⟨B, 2, none⟩ = some (.int .i64 b)) (y c : Int) (hy : I64 y) (wc : Word c) (c0 : 0 < c) (ho : ¬ (0 ≤ y ∧ y < ((2 ^ b : Nat) : Int))) :
    Calls Tryz.prog 24 #[.pointer (some ⟨B, 0, none⟩), .int .i64 y, .int .u64 c] w fun e w' => e = .returned (.int .i64 7) ∧ Below w.heap.size w w' := by
  have HL := Lib.hid (fun W => N.leaf_out W b y b1 b2 hy ho)
  have cz : (c == 0) = false := by simp; omega
  clear ho
  go_enter Tryz.func24, Tryz.ntmps24
  go_wp2_with fail
  refine (HL.out _).mono ?_
  rintro e w1 ⟨rfl, b1⟩
  go_wp2_with fail
  go_ret
  exact ⟨rfl, b1⟩

set_option maxHeartbeats 1000000 in
theorem dg_put_full {St : StT} (D : StripDoes St) (F : AddStill St) (N : TreeDoes) {w : World} {B C : Nat} {S1 : Nat → Prop} {b k : Nat} {R : List PairV} {lo hi : Int} (x : DgRaw St w B C S1 b k R lo hi) (ho : DigOk b k R) (y c : Int) (y0 : 0 ≤ y) (y1 : y < ((2 ^ b : Nat) : Int)) (wc : Word c) (hf : 9223372036854775807 < sumP R + c) :
    Calls Tryz.prog 24 #[.pointer (some ⟨B, 0, none⟩), .int .i64 y, .int .u64 c] w fun e w' => e = .returned (.int .i64 6) ∧ Below w.heap.size w w' := by
  have hs1 := ho.row.sum
  have c0 : 0 < c := by omega
  have hl : R.length ≤ 256 := by have := ho.few; have := ho.k2; omega
  have hpw := pow_bdD ho.b2
  have HL := Lib.hid (fun W => N.leaf_in W b y ho.b1 ho.b2 y0 y1)
  obtain ⟨a, cc, z, he, hz⟩ := dg_endsval (R := R) (lo := lo) (hi := hi)
  have HE := Lib.hid (fun W (hb : Below w.heap.size w W) => dg_ends D (x.call D hb) ho.row (by omega) a cc z he)
  have HA := Lib.hid (fun W (hb : Below w.heap.size w W) => F W C S1 4096 R (((2 ^ b : Nat) : Int) + y) c ((x.call D hb).st) (by omega) (by unfold I64; omega) wc c0 (by omega))
  have HC := Lib.hid x.cells
  have c2 := x.cells.c2
  have cz : (c == 0) = false := by simp; omega
  generalize ((2 ^ b : Nat) : Int) + y = v at *
  clear x ho he hz hpw hf hs1 y0 y1
  go_enter Tryz.func24, Tryz.ntmps24
  go_wp2_with fail
  refine (HL.out _).mono ?_
  rintro e w1 ⟨rfl, b1⟩
  go_wp2_with fail
  refine (HE.out _ b1).mono ?_
  rintro e w2 ⟨rfl, b2⟩
  have b2 := b1.trans (b2.mono b1.size)
  have q3 := (HC.out.call b2).c3
  have HB2 := Lib.hid b2
  clear b1 b2
  go_wp2_with fail
  refine (HA.out _ HB2.out).mono ?_
  rintro e w3 ⟨rfl, b3⟩
  have HB3 := Lib.hid (HB2.out.trans (b3.mono HB2.out.size))
  clear b3
  go_wp2_with fail
  go_ret
  exact ⟨rfl, HB3.out⟩

set_option maxHeartbeats 2000000 in
theorem dg_put_ok {St : StT} (D : StripDoes St) (N : TreeDoes) {w : World} {B : Nat} {S : Nat → Prop} {b k : Nat} {R : List PairV} {e : Int × Int × Bool} (x : DgX St w B S b k R e) (y c : Int) (y0 : 0 ≤ y) (y1 : y < ((2 ^ b : Nat) : Int)) (c0 : 0 < c) (hf : sumP R + c ≤ 9223372036854775807) :
    Calls Tryz.prog 24 #[.pointer (some ⟨B, 0, none⟩), .int .i64 y, .int .u64 c] w fun r w' => ∃ S', r = .returned (.int .i64 0) ∧ DgX St w' B S' b k (putD b k R y c) (addE e y) ∧ Keeps S w w' ∧ (∀ i, S' i → S i ∨ w.heap.size ≤ i) := by
  obtain ⟨ho, C, S1, lo, hi, hr, i1, i2, rfl, hS⟩ := x
  have hl : R.length ≤ 256 := by have := ho.few; have := ho.k2; omega
  have hpw := pow_bdD ho.b2
  have hs0 := (rowg_sum0 ho.row).1
  have hlf := leaf_node y0 y1
  obtain ⟨g1, g2, g3⟩ := rowg_put ho.row y0 y1 c0 hf
  obtain ⟨o1, o2⟩ := squeeze_ok ho.b1 ho.b2 ho.k1 ho.k2 g1
  have hne := o2 g3
  rw [g2] at o1 hne
  have hln := add_len R (((2 ^ b : Nat) : Int) + y) c
  have HL := Lib.hid (fun W => N.leaf_in W b y ho.b1 ho.b2 y0 y1)
  have HAE := Lib.hid (addE_re (R := R) (lo := lo) (hi := hi) (x := y))
  obtain ⟨a, cc, z, he, hz⟩ := dg_endsval (R := R) (lo := lo) (hi := hi)
  have HE := Lib.hid (fun W (hb : Below w.heap.size w W) => dg_ends D (hr.call D hb) ho.row (by omega) a cc z he)
  have HA := Lib.hid (fun W (hb : Below w.heap.size w W) => D.add W C S1 4096 R (((2 ^ b : Nat) : Int) + y) c ((hr.call D hb).st) (by omega) (by unfold I64; omega) ⟨by omega, by omega⟩)
  rw [sterrD_ok c0 hf (by omega), strowD_ok c0 hf (by omega)] at HA
  rw [← hz] at HAE
  have HRE := Lib.hid (fun W S2 (hx : DgRaw St W B C S2 b k (addP R (((2 ^ b : Nat) : Int) + y) c) lo hi) => dg_reach D hx y y z ⟨by omega, by omega⟩ ⟨by omega, by omega⟩)
  have HSZ := Lib.hid (fun W S2 l h (hx : DgRaw St W B C S2 b k (addP R (((2 ^ b : Nat) : Int) + y) c) l h) => dg_squeeze D N hx ho.b1 ho.b2 ho.k1 ho.k2 g1 (by omega) ((sumP R + c) / k) (by rw [g2]))
  have hre := reD_i64 (s := z) (y := y) (lo := lo) ⟨by omega, by omega⟩ i1
  have hrf := reD_i64 (s := z) (y := y) (lo := hi) ⟨by omega, by omega⟩ i2
  have HPU : Hid (putD b k R y c = squeezeD (4 * k) ((sumP R + c) / k) (addP R (((2 ^ b : Nat) : Int) + y) c)) := Lib.hid rfl
  have HFIN := Lib.hid (fun (W : World) (S3 : Nat → Prop) C3 (hx : DgRaw St W B C3 S3 b k (squeezeD (4 * k) ((sumP R + c) / k) (addP R (((2 ^ b : Nat) : Int) + y) c)) (reLoD z y lo) (reHiD z y hi)) => (⟨o1, C3, S3, _, _, hx, hre.1, hrf.2, by rw [if_neg hne]; exact HAE.out, fun i => Iff.rfl⟩ : DgX St W B (dgS B S3) b k (squeezeD (4 * k) ((sumP R + c) / k) (addP R (((2 ^ b : Nat) : Int) + y) c)) (addE (if R = [] then (0, 0, false) else (lo, hi, true)) y)))
  rw [HPU.out]
  have HHS := Lib.hid hS
  have HHR := Lib.hid hr
  have HD := Lib.hid D
  have c2 := hr.cells.c2
  have HC := Lib.hid hr.cells
  have cz : (c == 0) = false := by simp; omega
  generalize squeezeD (4 * k) ((sumP R + c) / k) (addP R (((2 ^ b : Nat) : Int) + y) c) = T at *
  generalize addP R (((2 ^ b : Nat) : Int) + y) c = R1 at *
  generalize addE (if R = [] then (0, 0, false) else (lo, hi, true)) y = en at *
  generalize ((2 ^ b : Nat) : Int) + y = v at *
  clear hr ho g1 g2 g3 o1 o2 hne hln HAE he hz hre hrf HPU hS D y0 y1 hpw hlf
  go_enter Tryz.func24, Tryz.ntmps24
  go_wp2_with fail
  refine (HL.out _).mono ?_
  rintro e w1 ⟨rfl, b1⟩
  go_wp2_with fail
  refine (HE.out _ b1).mono ?_
  rintro e w2 ⟨rfl, b2⟩
  have b2 := b1.trans (b2.mono b1.size)
  have q3 := (HC.out.call b2).c3
  have HB2 := Lib.hid b2
  clear b1 b2
  go_wp2_with fail
  refine (HA.out _ HB2.out).mono ?_
  rintro e w3 ⟨S2, rfl, h3, hk3, hS3⟩
  have hx2 := HHR.out.call HD.out HB2.out
  have HX3 : Hid (DgRaw St w3 B C S2 b k R1 lo hi) := Lib.hid ⟨(hk3.block B (dg_ltb hx2.blk) hx2.n1).trans hx2.blk, h3, fun h => by
    rcases hS3 B h with a | a
    · exact hx2.n1 a
    · have := dg_ltb hx2.blk; omega⟩
  have HK3 : Hid (Keeps S w w3) := Lib.hid (keepsD_then (Keeps.of_below HB2.out) hk3 (fun i _ h => (HHS.out i).2 (Or.inr h)))
  have HS3 : Hid (∀ i, S2 i → S i ∨ w.heap.size ≤ i) := Lib.hid fun i hi => by
    rcases hS3 i hi with a | a
    · exact Or.inl ((HHS.out i).2 (Or.inr a))
    · have := HB2.out.size; exact Or.inr (by omega)
  have HR3 := Lib.hid (HRE.out w3 S2 HX3.out)
  clear h3 hk3 hS3 hx2
  go_wp2_with fail
  refine HR3.out.mono ?_
  rintro e w4 ⟨rfl, hx4, hk4⟩
  have HK4 : Hid (Keeps S w w4) := Lib.hid (keepsD_then HK3.out hk4 (fun i _ h => (HHS.out i).2 (Or.inl h)))
  have HS4 := Lib.hid (HSZ.out w4 S2 _ _ hx4)
  have hz34 := hk4.size
  clear hx4 hk4 HR3
  go_wp2_with fail
  refine HS4.out.mono ?_
  rintro e w5 ⟨rfl, C5, S5, hx5, hk5, hS5⟩
  have hz4 := HK4.out.size
  have HF : Hid (∃ S', DgX St w5 B S' b k T en ∧ Keeps S w w5 ∧ ∀ i, S' i → S i ∨ w.heap.size ≤ i) := Lib.hid (by
    refine ⟨dgS B S5, HFIN.out w5 S5 C5 hx5, keepsD_then HK4.out hk5 (fun i hlt h => ?_), fun i h => ?_⟩
    · rcases h with h | h
      · exact (HHS.out i).2 (Or.inl h)
      · rcases HS3.out i h with a | a
        · exact a
        · omega
    · rcases h with h | h
      · exact Or.inl ((HHS.out i).2 (Or.inl h))
      · rcases hS5 i h with a | a
        · exact HS3.out i a
        · exact Or.inr (by omega))
  clear hx5 hk5 hS5 HS4
  go_wp2_with fail
  go_ret
  obtain ⟨S', f1, f2, f3⟩ := HF.out
  exact ⟨S', rfl, f1, f2, f3⟩
end Go.Proofs.YthjcdbnjmpjikaaGreat

/-
  Walks: package digest: Join.
-/
namespace Go.Proofs.YthjcdbnjmpjikaaGreat
set_option linter.unusedVariables false
set_option linter.unusedSimpArgs false
open Go.RowKit

/-- A whole row more. -/
theorem rowg_join {b : Nat} {R R' : List PairV} (h : RowG b R) (h' : RowG b R') (hs : sumP R + sumP R' ≤ 9223372036854775807) : RowG b (joinD R R') ∧ sumP (joinD R R') = sumP R + sumP R' ∧ (R' ≠ [] → joinD R R' ≠ []) := by
  have hp : ∀ p, p ∈ R' → 1 ≤ p.2 := fun p hp => (h'.good.1 p hp).1
  obtain ⟨f1, f2, f3⟩ := join_factsD R' R h.good hp hs
  have e := joinD_sum (K := R) (L := R') h.good hp hs
  have hs0 := (rowg_sum0 h).1
  have hs0' := rowg_sum0 h'
  refine ⟨⟨f1, fun p hp => ?_, by rw [e]; exact hs⟩, e, fun hn h0 => ?_⟩
  · rcases f3 p hp with ⟨q, hq, e⟩ | ⟨q, hq, e⟩
    · rw [← e]; exact h.node q hq
    · rw [← e]; exact h'.node q hq
  · rw [h0, sumP_nil] at e
    exact hn (hs0'.2.1 (by have := hs0'.1; omega))

set_option maxHeartbeats 400000 in
theorem dg_join_nil0 (w : World) : Calls Tryz.prog 23 #[.pointer none, .pointer none] w fun e w' => e = .returned (.int .i64 2) ∧ Below w.heap.size w w' := by
  go_enter Tryz.func23, Tryz.ntmps23
  go_wp2_with fail
  go_ret
  exact ⟨rfl, Below.refl _ _⟩

set_option maxHeartbeats 400000 in
theorem dg_join_nil (w : World) (B : Nat) : Calls Tryz.prog 23 #[.pointer (some ⟨B, 0, none⟩), .pointer none] w fun e w' => e = .returned (.int .i64 2) ∧ Below w.heap.size w w' := by
  go_enter Tryz.func23, Tryz.ntmps23
  go_wp2_with fail
  go_ret
  exact ⟨rfl, Below.refl _ _⟩

set_option maxHeartbeats 1000000 in
theorem dg_join_match {w : World} {B B' b k b' k' : Nat} (c0 : w.cell? ⟨B, 0, none⟩ = some (.int .i64 b)) (c1 : w.cell? ⟨B, 1, none⟩ = some (.int .i64 k)) (d0 : w.cell? ⟨B', 0, none⟩ = some (.int .i64 b')) (d1 : w.cell? ⟨B', 1, none⟩ = some (.int .i64 k')) (h : b ≠ b' ∨ k ≠ k') :
    Calls Tryz.prog 23 #[.pointer (some ⟨B, 0, none⟩), .pointer (some ⟨B', 0, none⟩)] w fun e w' => e = .returned (.int .i64 8) ∧ Below w.heap.size w w' := by
  rcases Nat.decEq b b' with hb | hb
  · have e1 : ((b : Int) == (b' : Int)) = false := by simp; omega
    have e2 : ¬ (b : Int) = (b' : Int) := by omega
    clear h hb
    go_enter Tryz.func23, Tryz.ntmps23
    go_wp2_with fail
    go_quiet (fail)
    go_wp2_with fail
    go_ret
    exact ⟨rfl, below_drewN (Below.refl _ _) _⟩
  · have hk : k ≠ k' := by omega
    subst hb
    have e1 : ((k : Int) == (k' : Int)) = false := by simp; omega
    have e2 : ¬ (k : Int) = (k' : Int) := by omega
    clear h hk
    go_enter Tryz.func23, Tryz.ntmps23
    go_wp2_with fail
    go_quiet (fail)
    go_wp2_with fail
    go_ret
    exact ⟨rfl, below_drewN (Below.refl _ _) _⟩

set_option maxHeartbeats 1000000 in
theorem dg_join_none {St : StT} (D : StripDoes St) {w : World} {B : Nat} {S : Nat → Prop} {b k : Nat} {R : List PairV} {e : Int × Int × Bool} {B' : Nat} {S' : Nat → Prop} {e' : Int × Int × Bool} (x : DgX St w B S b k R e) (x' : DgX St w B' S' b k [] e') :
    Calls Tryz.prog 23 #[.pointer (some ⟨B, 0, none⟩), .pointer (some ⟨B', 0, none⟩)] w fun r w' => r = .returned (.int .i64 0) ∧ Below w.heap.size w w' := by
  obtain ⟨ho, C, S1, lo, hi, hr, i1, i2, rfl, hS⟩ := x
  obtain ⟨ho', C', S1', lo', hi', hr', i1', i2', rfl, hS'⟩ := x'
  have HE := Lib.hid (fun W (hb : Below w.heap.size w W) => dg_ends D (hr'.call D hb) ho'.row (by simp) 0 0 false rfl)
  obtain ⟨c0, c1, _, _, _, _⟩ := hr.cells
  obtain ⟨d0, d1, _, _, _, _⟩ := hr'.cells
  clear hr hr' ho ho' hS hS' D
  go_enter Tryz.func23, Tryz.ntmps23
  go_wp2_with fail
  go_quiet (fail)
  rename_i nq
  have hb1 : Below w.heap.size w (w.drewN nq) := below_drewN (Below.refl _ _) _
  have HB1 := Lib.hid hb1
  clear hb1
  go_wp2_with fail
  refine (HE.out _ HB1.out).mono ?_
  rintro e w2 ⟨rfl, b2⟩
  have HB2 := Lib.hid (HB1.out.trans (b2.mono HB1.out.size))
  clear b2
  go_wp2_with fail
  go_ret
  exact ⟨rfl, HB2.out⟩

set_option maxRecDepth 100000 in
set_option maxHeartbeats 4000000 in
theorem dg_join_ok {St : StT} (D : StripDoes St) (N : TreeDoes) {w : World} {B : Nat} {S : Nat → Prop} {b k : Nat} {R : List PairV} {e : Int × Int × Bool} {B' : Nat} {S' : Nat → Prop} {R' : List PairV} {e' : Int × Int × Bool} (x : DgX St w B S b k R e) (x' : DgX St w B' S' b k R' e') (hSS : ∀ i, S i → ¬ S' i) (hne' : R' ≠ []) (hf : sumP R + sumP R' ≤ 9223372036854775807) :
    Calls Tryz.prog 23 #[.pointer (some ⟨B, 0, none⟩), .pointer (some ⟨B', 0, none⟩)] w fun r w' => ∃ S2, r = .returned (.int .i64 0) ∧ DgX St w' B S2 b k (squeezeD (4 * k) ((sumP R + sumP R') / k) (joinD R R')) (joinE e e') ∧ Keeps S w w' ∧ (∀ i, S2 i → S i ∨ w.heap.size ≤ i) := by
  obtain ⟨ho, C, S1, lo, hi, hr, i1, i2, rfl, hS⟩ := x
  obtain ⟨ho', C', S1', lo', hi', hr', i1', i2', rfl, hS'⟩ := x'
  have hl : R.length ≤ 256 := by have := ho.few; have := ho.k2; omega
  have hl' : R'.length ≤ 256 := by have := ho'.few; have := ho.k2; omega
  have hs0 := (rowg_sum0 ho.row).1
  have hs0' := (rowg_sum0 ho'.row).1
  obtain ⟨g1, g2, g3⟩ := rowg_join ho.row ho'.row hf
  obtain ⟨o1, o2⟩ := squeeze_ok ho.b1 ho.b2 ho.k1 ho.k2 g1
  have hne := o2 (g3 hne')
  rw [g2] at o1 hne
  have hln := joinD_len R R'
  rw [if_neg hne']
  have HJE := Lib.hid (joinE_re (R := R) (lo := lo) (hi := hi) (lo' := lo') (hi' := hi'))
  obtain ⟨a, cc, z, he, hz⟩ := dg_endsval (R := R) (lo := lo) (hi := hi)
  rw [← hz] at HJE
  have HE := Lib.hid (fun W (hb : Below w.heap.size w W) => dg_ends D (hr.call D hb) ho.row (by omega) a cc z he)
  have HE' := Lib.hid (fun W (hb : Below w.heap.size w W) => dg_ends D (hr'.call D hb) ho'.row (by omega) lo' hi' true (by rw [if_neg hne']))
  obtain ⟨t, ht⟩ : ∃ t, sumP R = t := ⟨_, rfl⟩
  obtain ⟨t', ht'⟩ : ∃ t, sumP R' = t := ⟨_, rfl⟩
  have HT := Lib.hid (fun W (hb : Below w.heap.size w W) => dg_total D (hr.call D hb) (by omega) t ht)
  have HT' := Lib.hid (fun W (hb : Below w.heap.size w W) => dg_total D (hr'.call D hb) (by omega) t' ht')
  have hSB : ∀ i, S1 i → i < w.heap.size := fun i hi => D.lt _ _ _ _ _ hr.st i hi
  have hno : ∀ W, Below w.heap.size w W → Calls Tryz.prog 18 #[.pointer (some ⟨B', 0, none⟩)] W fun e w' => ∃ A cap, e = .returned (.slice A R'.length cap) ∧ Pairs w' A R' ∧ (∀ b off, A = some ⟨b, off, none⟩ → R' ≠ [] → ¬ S1 b) ∧ Below W.heap.size W w' := fun W hb => by
    refine (dg_nodes D (hr'.call D hb) (by omega)).mono ?_
    rintro e w' ⟨v, rfl, h2, h3⟩
    obtain ⟨A, cap, rfl, hP⟩ := h2.pairs (ho'.row.ok ho.b2)
    refine ⟨A, cap, rfl, hP, fun bb off e _ hb1 => ?_, h3⟩
    subst e
    have h4 := hSB bb hb1
    have h5 := (h2.lt bb (by rfl)).1
    have := hb.size
    omega
  have HNO := Lib.hid hno
  clear hno
  have HPO := Lib.hid (fun W A cap (hb : Below w.heap.size w W) (hP : Pairs W A R') (hA : ∀ b off, A = some ⟨b, off, none⟩ → R' ≠ [] → ¬ S1 b) => dg_pour D W C S1 R A cap R' (hr.call D hb).st hP (fun p hp => (ho'.row.good.1 p hp).1) hA (by omega) hf)
  have HRE := Lib.hid (fun W S2 (hx : DgRaw St W B C S2 b k (joinD R R') lo hi) => dg_reach D hx lo' hi' z i1' i2')
  have HSZ := Lib.hid (fun W S2 l h (hx : DgRaw St W B C S2 b k (joinD R R') l h) => dg_squeeze D N hx ho.b1 ho.b2 ho.k1 ho.k2 g1 (by omega) ((sumP R + sumP R') / k) (by rw [g2]))
  have hre := reD_i64 (s := z) (y := lo') (lo := lo) i1' i1
  have hrf := reD_i64 (s := z) (y := hi') (lo := hi) i2' i2
  have HFIN := Lib.hid (fun (W : World) (S3 : Nat → Prop) C3 (hx : DgRaw St W B C3 S3 b k (squeezeD (4 * k) ((sumP R + sumP R') / k) (joinD R R')) (reLoD z lo' lo) (reHiD z hi' hi)) => (⟨o1, C3, S3, _, _, hx, hre.1, hrf.2, by rw [if_neg hne]; exact HJE.out, fun i => Iff.rfl⟩ : DgX St W B (dgS B S3) b k (squeezeD (4 * k) ((sumP R + sumP R') / k) (joinD R R')) (joinE (if R = [] then (0, 0, false) else (lo, hi, true)) (lo', hi', true))))
  have HHS := Lib.hid hS
  have HHR := Lib.hid hr
  have HD := Lib.hid D
  have HC := Lib.hid hr.cells
  obtain ⟨c0, c1, _, _, _, _⟩ := hr.cells
  obtain ⟨d0, d1, _, _, _, _⟩ := hr'.cells
  have hBl := dg_ltb hr.blk
  have P1 : Hid (plus2B t t' = true) := Lib.hid (by unfold plus2B; apply decide_eq_true; omega)
  have P2 : Hid (plus2Q t t' = t + t') := Lib.hid (by unfold plus2Q; rw [P1.out]; rfl)
  have hw1 : t ≤ 9223372036854775807 := by omega
  have hw2 : t' ≤ 9223372036854775807 := by omega
  rw [ht] at hs0
  rw [ht'] at hs0'
  obtain ⟨nr, hnr⟩ : ∃ n : Nat, R'.length = n := ⟨_, rfl⟩
  rw [hnr] at HNO HPO
  generalize squeezeD (4 * k) ((sumP R + sumP R') / k) (joinD R R') = T at *
  generalize joinE (if R = [] then (0, 0, false) else (lo, hi, true)) (lo', hi', true) = en at *
  generalize joinD R R' = R1 at *
  have HNB : Hid (¬ S1 B) := Lib.hid hr.n1
  clear hr hr' ho ho' g1 g2 g3 o1 o2 hne hln HJE he hz hre hrf hS hS' D hl hl' hf ht ht' hSB hSS hnr i1 i2 i1' i2'
  go_enter Tryz.func23, Tryz.ntmps23
  go_wp2_with fail
  go_quiet (fail)
  rename_i nq
  have HB1 : Hid (Below w.heap.size w (w.drewN nq)) := Lib.hid (below_drewN (Below.refl _ _) _)
  go_wp2_with fail
  refine (HE'.out _ HB1.out).mono ?_
  rintro e w2 ⟨rfl, b2⟩
  have b2 := HB1.out.trans (b2.mono HB1.out.size)
  go_wp2_with fail
  refine (HT.out _ b2).mono ?_
  rintro e w3 ⟨rfl, b3⟩
  have b3 := b2.trans (b3.mono b2.size)
  go_wp2_with fail
  refine (HT'.out _ b3).mono ?_
  rintro e w4 ⟨rfl, b4⟩
  have b4 := b3.trans (b4.mono b3.size)
  have b5 := b4.alloc b4.size (.cells #[.int .u64 t, .int .u64 t'] 25)
  have HB5 := Lib.hid b5
  clear b2 b3 b4 b5 c0 c1 d0 d1
  go_wp2_with fail
  refine (plus_two t t' (t + t') true _ _ _ ⟨by omega, by omega⟩ ⟨by omega, by omega⟩ (dg_two w4 _ _ _).1 (dg_two w4 _ _ _).2 P2.out P1.out).mono ?_
  rintro e w6 ⟨rfl, rfl⟩
  go_wp2_with fail
  refine (HE.out _ HB5.out).mono ?_
  rintro e w7 ⟨rfl, b7⟩
  have HB7 := Lib.hid (HB5.out.trans (b7.mono HB5.out.size))
  have HBD := Lib.hid HB7.out.drew
  have HN7 := Lib.hid (HNO.out _ HBD.out)
  have HC7 : Hid (w7.drew.cell? ⟨B, 3, none⟩ = some (.pointer (some ⟨C, 0, none⟩))) := Lib.hid (HC.out.call HB7.out).c3
  clear b7
  go_wp2_with fail
  go_region_held3 (fun w' => w'.cell? ⟨B, 3, none⟩ = some (.pointer (some ⟨C, 0, none⟩)))
    (first | exact HC7.out | exact cell_later hbA HC7.out | exact hkB.cell HNB.out (cell_later hbA HC7.out) | assumption)
    ((first
      | (go_at_call 18; with_reducible refine HN7.out.mono ?_; rintro e wA ⟨A, cap, rfl, hPA, hAA, hbA⟩)
      | (go_at_call 43; with_reducible refine (HPO.out wA A cap (HBD.out.trans (hbA.mono HBD.out.size)) hPA hAA).mono ?_; rintro e wB ⟨rfl, SB, hstB, hkB, hSB⟩)))
  all_goals
    rename_i hHeld
    have HBA := Lib.hid (HBD.out.trans (hbA.mono HBD.out.size))
    have hxA := HHR.out.call HD.out HBA.out
    have HX3 : Hid (DgRaw St wB B C SB b k R1 lo hi) := Lib.hid ⟨(hkB.block B (dg_ltb hxA.blk) hxA.n1).trans hxA.blk, hstB, fun h => by
      rcases hSB B h with a | a
      · exact hxA.n1 a
      · have := dg_ltb hxA.blk; omega⟩
    have HK3 : Hid (Keeps S w wB) := Lib.hid (keepsD_then (Keeps.of_below HBA.out) hkB (fun i _ h => (HHS.out i).2 (Or.inr h)))
    have HS3 : Hid (∀ i, SB i → S i ∨ w.heap.size ≤ i) := Lib.hid fun i hi => by
      rcases hSB i hi with a | a
      · exact Or.inl ((HHS.out i).2 (Or.inr a))
      · have := HBA.out.size; exact Or.inr (by omega)
    have HR3 := Lib.hid (HRE.out wB SB HX3.out)
    clear hHeld hstB hkB hSB hxA hPA hAA hbA HN7 HC7
    go_wp2_with fail
    refine HR3.out.mono ?_
    rintro e w8 ⟨rfl, hx4, hk4⟩
    have HK4 : Hid (Keeps S w w8) := Lib.hid (keepsD_then HK3.out hk4 (fun i _ h => (HHS.out i).2 (Or.inl h)))
    have HS4 := Lib.hid (HSZ.out w8 SB _ _ hx4)
    clear hx4 hk4 HR3
    go_wp2_with fail
    refine HS4.out.mono ?_
    rintro e w9 ⟨rfl, C5, S5, hx5, hk5, hS5⟩
    have hz4 := HK4.out.size
    have HF : Hid (∃ S', DgX St w9 B S' b k T en ∧ Keeps S w w9 ∧ ∀ i, S' i → S i ∨ w.heap.size ≤ i) := Lib.hid (by
      refine ⟨dgS B S5, HFIN.out w9 S5 C5 hx5, keepsD_then HK4.out hk5 (fun i hlt h => ?_), fun i h => ?_⟩
      · rcases h with h | h
        · exact (HHS.out i).2 (Or.inl h)
        · rcases HS3.out i h with a | a
          · exact a
          · omega
      · rcases h with h | h
        · exact Or.inl ((HHS.out i).2 (Or.inl h))
        · rcases hS5 i h with a | a
          · exact HS3.out i a
          · exact Or.inr (by omega))
    clear hx5 hk5 hS5 HS4
    go_wp2_with fail
    go_ret
    obtain ⟨S', f1, f2, f3⟩ := HF.out
    exact ⟨S', rfl, f1, f2, f3⟩
end Go.Proofs.YthjcdbnjmpjikaaGreat

/-
  Package digest as it landed does what it is to do.
-/
namespace Go.Proofs.YthjcdbnjmpjikaaGreat
set_option linter.unusedVariables false
set_option linter.unusedSimpArgs false
open Go.RowKit

theorem load_none {b k : Nat} (b1 : 1 ≤ b) (k1 : 1 ≤ k) : loadG b k [] 0 0 = true := by
  have hp := Nat.two_pow_pos b
  unfold loadG
  have e1 : goodB [] = true := goodB_true.2 good_nil
  have e2 : decide ((0 : Int) < ((2 ^ b : Nat) : Int)) = true := decide_eq_true (by omega)
  rw [e1, e2]
  simp [sumP_nil]

set_option maxHeartbeats 1000000 in
theorem dg_new_to (w : World) (d f : Int) (P : Ending → World → Prop) (h : Calls Tryz.prog 32 #[.agg #[.int .i64 d, .int .i64 f], .slice none 0 0, .int .i64 0, .int .i64 0] (w.alloc (.cells #[.int .i64 d, .int .i64 f] 23)) fun e w' => (∃ p c, e = .returned (.tuple #[.pointer p, .int .i64 c]) ∧ P (.returned (.tuple #[.pointer p, .int .i64 c])) w')) :
    Calls Tryz.prog 31 #[.agg #[.int .i64 d, .int .i64 f]] w P := by
  have HH := Lib.hid h
  clear h
  go_enter Tryz.func31, Tryz.ntmps31
  go_wp2_with fail
  refine HH.out.mono ?_
  rintro e w1 ⟨p, c, rfl, hP⟩
  have HP := Lib.hid hP
  clear hP
  go_wp2_with fail
  exact HP.out

theorem dig_does : DigDoes (DgX StX) where
  keep w w' B S b k R e h hk := h.keep strip_does hk
  lt w B S b k R e h := h.lt strip_does
  ok w B S b k R e h := h.1
  new w b k b1 b2 k1 k2 := by
    refine dg_new_to w b k _ ?_
    refine (dg_load strip_does tree_does (w.alloc (.cells #[.int .i64 b, .int .i64 k] 23)) b k none 0 [] 0 0 b1 b2 k1 k2 (Pairs.nil _) (by simp) ⟨by decide, by decide⟩ ⟨by decide, by decide⟩ true (load_none b1 k1)).mono ?_
    rintro e w' ⟨h, _⟩
    obtain ⟨B, S, rfl, hx, hS, hb⟩ := h rfl
    have hz : (w.alloc (.cells #[.int .i64 b, .int .i64 k] 23)).heap.size = w.heap.size + 1 := by simp
    rw [hz] at hS
    have b0 : Below w.heap.size w (w.alloc (.cells #[.int .i64 b, .int .i64 k] 23)) := (Below.refl _ _).alloc (Nat.le_refl _) _
    exact ⟨_, _, rfl, B, S, rfl, hx, fun i hi => by have := hS i hi; omega, b0.trans (hb.mono b0.size)⟩
  bad w d f hd hf h := by
    refine dg_new_to w d f _ ?_
    refine (dg_load_bad tree_does (w.alloc (.cells #[.int .i64 d, .int .i64 f] 23)) d f _ 0 0 hd hf h).mono ?_
    rintro e w' ⟨rfl, hb⟩
    have b0 : Below w.heap.size w (w.alloc (.cells #[.int .i64 d, .int .i64 f] 23)) := (Below.refl _ _).alloc (Nat.le_refl _) _
    exact ⟨_, _, rfl, rfl, b0.trans (hb.mono b0.size)⟩
  total w B S b k R e h := by
    obtain ⟨ho, C, S1, lo, hi, hr, _⟩ := h
    exact dg_total strip_does hr (by have := ho.few; have := ho.k2; omega) _ rfl
  most w B S b k R e h := by
    obtain ⟨ho, C, S1, lo, hi, hr, _⟩ := h
    exact dg_most hr.cells.c0 hr.cells.c1 (by have := ho.k2; omega)
  put w B S b k R e x c h x0 x1 c0 hs := dg_put_ok strip_does tree_does h x c x0 x1 c0 hs
  zero w B S b k R e x h hx := dg_put_arg w B x
  out w B S b k R e x c h hx hc c0 hn := by
    obtain ⟨ho, C, S1, lo, hi, hr, _⟩ := h
    exact dg_put_out tree_does ho.b1 ho.b2 hr.cells.c2 x c hx hc c0 hn
  full w B S b k R e x c h x0 x1 hc hs := by
    obtain ⟨ho, C, S1, lo, hi, hr, _⟩ := h
    exact dg_put_full strip_does sadd_still tree_does hr ho x c x0 x1 hc hs
  join w B S b k R e B' S' R' e' h h' hd hn hs := dg_join_ok strip_does tree_does h h' hd hn hs
  none_ w B S b k R e B' S' e' h h' := dg_join_none strip_does h h'
  match_ w B S b k R e B' S' b' k' R' e' h h' hne := by
    obtain ⟨ho, C, S1, lo, hi, hr, _⟩ := h
    obtain ⟨ho', C', S1', lo', hi', hr', _⟩ := h'
    exact dg_join_match hr.cells.c0 hr.cells.c1 hr'.cells.c0 hr'.cells.c1 hne
  join_nil w B S b k R e h := dg_join_nil w B
  quantile w B S b k R e pa pb x c h wa wb he := by
    obtain ⟨ho, C, S1, lo, hi, hr, _⟩ := h
    exact dg_quan strip_does tree_does hr ho.b1 ho.b2 ho.row (by have := ho.few; have := ho.k2; omega) pa pb x c wa wb he
  rank w B S b k R e x n1 n2 h hx h1 h2 := by
    obtain ⟨ho, C, S1, lo, hi, hr, _⟩ := h
    exact dg_rank strip_does tree_does hr ho.b1 ho.b2 ho.row (by have := ho.few; have := ho.k2; omega) x n1 n2 hx h1 h2
  ends w B S b k R x y z h := by
    obtain ⟨ho, C, S1, lo, hi, hr, _, _, he, _⟩ := h
    exact dg_ends strip_does hr ho.row (by have := ho.few; have := ho.k2; omega) x y z he.symm
  config w B S b k R e h := by
    obtain ⟨ho, C, S1, lo, hi, hr, _⟩ := h
    exact dg_config hr.cells.c0 hr.cells.c1
  nodes w B S b k R e h := by
    obtain ⟨ho, C, S1, lo, hi, hr, _⟩ := h
    refine (dg_nodes strip_does hr (by have := ho.few; have := ho.k2; omega)).mono ?_
    rintro e w' ⟨v, rfl, h2, h3⟩
    obtain ⟨A, cap, rfl, hP⟩ := h2.pairs (ho.row.ok ho.b2)
    exact ⟨A, cap, rfl, hP, h3⟩
  load w b k A cap L lo hi b1 b2 k1 k2 hP hl hlo hhi hX := by
    refine (dg_load strip_does tree_does w b k A cap L lo hi b1 b2 k1 k2 hP hl hlo hhi true hX).mono ?_
    rintro e w' ⟨h, _⟩
    exact h rfl
  unfit w b k A cap L lo hi b1 b2 k1 k2 hP hl hlo hhi hX := by
    refine (dg_load strip_does tree_does w b k A cap L lo hi b1 b2 k1 k2 hP hl hlo hhi false hX).mono ?_
    rintro e w' ⟨_, h⟩
    exact h rfl
theorem dig_nil : DigNil where
  put w x c _ _ := dg_put_nil w x c
  join w := dg_join_nil0 w
  quantile w pa pb _ _ := dg_quan_nil w pa pb
  rank w x _ := dg_rank_nil w x
  ends w := dg_ends_nil w
  total w := dg_total_nil w
  nodes w := (dg_nodes_nil w).mono fun e w' ⟨h, hb⟩ => ⟨none, 0, h, hb⟩
  most w := dg_most_nil w
  config w := dg_config_nil w
end Go.Proofs.YthjcdbnjmpjikaaGreat

/-
  How an argument of the laws is opened, and shut again: a wide number, a fraction, a word.
-/
namespace Go.Proofs.YthjcdbnjmpjikaaGreat
set_option linter.unusedVariables false
set_option maxRecDepth 100000
open Go.ChangeShapes Go.WideShapes Go.ChangeAt Go.RowKit Go.Joins

theorem own : ownKnob Tryz.prog.godebug = none := by kernel_rfl
theorem laidOut : laidOutB Tryz.prog = true := by kernel_rfl
theorem word_of_wf {x : Int} (h : (Lit.int .u64 x).wf = true) : Word x := by
  simp [Lit.wf, IntKind.min, IntKind.max, IntKind.signed, IntKind.bits] at h
  exact ⟨by omega, by omega⟩
theorem cellsWide : Tryz.prog.cellsOf 113 = 2 := by kernel_rfl
theorem wide_reads {H : Type} {enc : TypeId × Value → H} {a b : Int} (wa : (Lit.int .u64 a).wf = true) (wb : (Lit.int .u64 b).wf = true) (W' : World) (sp : Nat → Bool) :
    DataW.Trod enc Tryz.prog W' 0 sp true 113 (.agg #[.int .u64 a, .int .u64 b]) (.agg [.lit (.int .u64 a), .lit (.int .u64 b)]) [] :=
  shut_agg2 (y0 := (.lit (.int .u64 a), [])) (y1 := (.lit (.int .u64 b), [])) Tryz.underlying113 (by kernel_rfl) cellsWide ⟨1, by simp [DataW.trod, Tryz.underlying25, wa]⟩ ⟨1, by simp [DataW.trod, Tryz.underlying25, wb]⟩
theorem wide_opens {H : Type} {enc : TypeId × Value → H} {W : World} {r : Reach} {b0 : Nat} {sp : Nat → Bool} {v : Value} {d : DataW H} {p : List MemPlace} (hv : Value.okWide Tryz.prog W r b0 113 v) (h : DataW.Trod enc Tryz.prog W 0 sp true 113 v d p) :
    ∃ a b : Int, v = .agg #[.int .u64 a, .int .u64 b] ∧ d = .agg [.lit (.int .u64 a), .lit (.int .u64 b)] ∧ p = [] ∧ (Lit.int .u64 a).wf = true ∧ (Lit.int .u64 b).wf = true := by
  obtain ⟨c0, c1, y0, y1, m, rfl, rfl, rfl, hy0, hy1⟩ := open_agg2 Tryz.underlying113 (by kernel_rfl) cellsWide hv h
  obtain ⟨a, e0, rfl, wa⟩ := DataW.trod_int Tryz.underlying25 hy0
  obtain ⟨b, e1, rfl, wb⟩ := DataW.trod_int Tryz.underlying25 hy1
  simp at e0 e1
  subst e0 e1
  exact ⟨a, b, rfl, rfl, rfl, wa, wb⟩
theorem cellsRatio : Tryz.prog.cellsOf 27 = 2 := by kernel_rfl
theorem ratio_reads {H : Type} {enc : TypeId × Value → H} {a b : Int} (wa : (Lit.int .u64 a).wf = true) (wb : (Lit.int .u64 b).wf = true) (W' : World) (sp : Nat → Bool) :
    DataW.Trod enc Tryz.prog W' 0 sp true 27 (.agg #[.int .u64 a, .int .u64 b]) (.agg [.lit (.int .u64 a), .lit (.int .u64 b)]) [] :=
  shut_agg2 (y0 := (.lit (.int .u64 a), [])) (y1 := (.lit (.int .u64 b), [])) Tryz.underlying27 (by kernel_rfl) cellsRatio ⟨1, by simp [DataW.trod, Tryz.underlying25, wa]⟩ ⟨1, by simp [DataW.trod, Tryz.underlying25, wb]⟩
theorem ratio_opens {H : Type} {enc : TypeId × Value → H} {W : World} {r : Reach} {b0 : Nat} {sp : Nat → Bool} {v : Value} {d : DataW H} {p : List MemPlace} (hv : Value.okWide Tryz.prog W r b0 27 v) (h : DataW.Trod enc Tryz.prog W 0 sp true 27 v d p) :
    ∃ a b : Int, v = .agg #[.int .u64 a, .int .u64 b] ∧ d = .agg [.lit (.int .u64 a), .lit (.int .u64 b)] ∧ p = [] ∧ (Lit.int .u64 a).wf = true ∧ (Lit.int .u64 b).wf = true := by
  obtain ⟨c0, c1, y0, y1, m, rfl, rfl, rfl, hy0, hy1⟩ := open_agg2 Tryz.underlying27 (by kernel_rfl) cellsRatio hv h
  obtain ⟨a, e0, rfl, wa⟩ := DataW.trod_int Tryz.underlying25 hy0
  obtain ⟨b, e1, rfl, wb⟩ := DataW.trod_int Tryz.underlying25 hy1
  simp at e0 e1
  subst e0 e1
  exact ⟨a, b, rfl, rfl, rfl, wa, wb⟩
end Go.Proofs.YthjcdbnjmpjikaaGreat

/-
  How a digest's configuration that comes in by value is opened, and shut again.
-/
namespace Go.Proofs.YthjcdbnjmpjikaaGreat
set_option linter.unusedVariables false
set_option linter.unusedSimpArgs false
set_option maxRecDepth 100000
open Go.ChangeShapes Go.WideShapes Go.ChangeAt Go.RowKit Go.Joins

theorem cellsCfgD : Tryz.prog.cellsOf 23 = 2 := by kernel_rfl
theorem cfgd_reads {H : Type} {enc : TypeId × Value → H} {a b : Int} (wa : (Lit.int .i64 a).wf = true) (wb : (Lit.int .i64 b).wf = true) (W' : World) (sp : Nat → Bool) :
    DataW.Trod enc Tryz.prog W' 0 sp true 23 (.agg #[.int .i64 a, .int .i64 b]) (.agg [.lit (.int .i64 a), .lit (.int .i64 b)]) [] :=
  shut_agg2 (y0 := (.lit (.int .i64 a), [])) (y1 := (.lit (.int .i64 b), [])) Tryz.underlying23 (by kernel_rfl) cellsCfgD ⟨1, by simp [DataW.trod, Tryz.underlying3, wa]⟩ ⟨1, by simp [DataW.trod, Tryz.underlying3, wb]⟩
theorem cfgd_opens {H : Type} {enc : TypeId × Value → H} {W : World} {r : Reach} {b0 : Nat} {sp : Nat → Bool} {v : Value} {d : DataW H} {p : List MemPlace} (hv : Value.okWide Tryz.prog W r b0 23 v) (h : DataW.Trod enc Tryz.prog W 0 sp true 23 v d p) :
    ∃ a b : Int, v = .agg #[.int .i64 a, .int .i64 b] ∧ d = .agg [.lit (.int .i64 a), .lit (.int .i64 b)] ∧ p = [] ∧ (Lit.int .i64 a).wf = true ∧ (Lit.int .i64 b).wf = true := by
  obtain ⟨c0, c1, y0, y1, m, rfl, rfl, rfl, hy0, hy1⟩ := open_agg2 Tryz.underlying23 (by kernel_rfl) cellsCfgD hv h
  obtain ⟨a, e0, rfl, wa⟩ := DataW.trod_int Tryz.underlying3 hy0
  obtain ⟨b, e1, rfl, wb⟩ := DataW.trod_int Tryz.underlying3 hy1
  simp at e0 e1
  subst e0 e1
  exact ⟨a, b, rfl, rfl, rfl, wa, wb⟩
end Go.Proofs.YthjcdbnjmpjikaaGreat

/-
  How a configuration and a pair of ends that come in by value are opened, and shut again.
-/
namespace Go.Proofs.YthjcdbnjmpjikaaGreat
set_option linter.unusedVariables false
set_option linter.unusedSimpArgs false
set_option maxRecDepth 100000
open Go.ChangeShapes Go.WideShapes Go.ChangeAt Go.RowKit Go.Joins

theorem cellsEnds : Tryz.prog.cellsOf 71 = 2 := by kernel_rfl
theorem cellsEnd : Tryz.prog.cellsOf 2 = 1 := by kernel_rfl
theorem ends_reads {H : Type} {enc : TypeId × Value → H} {a b : Int} (wa : (Lit.int .i64 a).wf = true) (wb : (Lit.int .i64 b).wf = true) (W' : World) (sp : Nat → Bool) :
    DataW.Trod enc Tryz.prog W' 0 sp true 71 (.agg #[.int .i64 a, .int .i64 b]) (.agg [.lit (.int .i64 a), .lit (.int .i64 b)]) [] :=
  ⟨2, by simp [DataW.trod, Value.cells, Tryz.underlying71, Tryz.underlying2, cellsEnds, cellsEnd, wa, wb, show List.range 2 = [0, 1] from rfl]⟩
theorem ends_opens {H : Type} {enc : TypeId × Value → H} {W : World} {r : Reach} {b0 : Nat} {sp : Nat → Bool} {v : Value} {d : DataW H} {p : List MemPlace} (hv : Value.okWide Tryz.prog W r b0 71 v) (h : DataW.Trod enc Tryz.prog W 0 sp true 71 v d p) :
    ∃ a b : Int, v = .agg #[.int .i64 a, .int .i64 b] ∧ d = .agg [.lit (.int .i64 a), .lit (.int .i64 b)] ∧ p = [] ∧ (Lit.int .i64 a).wf = true ∧ (Lit.int .i64 b).wf = true := by
  obtain ⟨cs, rfl, hsz, _⟩ : ∃ cs, v = .agg cs ∧ cs.size = Tryz.prog.cellsOf 71 ∧ Row.okWide Tryz.prog W r b0 71 cs := by simpa [Value.okWide, Tryz.underlying71] using hv
  obtain ⟨c0, c1, rfl⟩ := array2 (hsz.trans cellsEnds)
  obtain ⟨fuel, hf⟩ := h
  obtain ⟨xs, m, _, hx, _, hl, hel⟩ := DataW.trod_array Tryz.underlying71 hf
  match xs, hl with
  | [y0, y1], _ =>
    have k0 := hel 0 (by omega)
    have k1 := hel 1 (by omega)
    rw [cellsEnd] at k0 k1
    obtain ⟨a, e0, r0, wa⟩ := DataW.trod_int Tryz.underlying2 k0
    obtain ⟨b, e1, r1, wb⟩ := DataW.trod_int Tryz.underlying2 k1
    have g0 : [c0] = [.int .i64 a] := e0
    have g1 : [c1] = [.int .i64 b] := e1
    simp only [List.cons.injEq, and_true] at g0 g1
    subst g0 g1 r0 r1
    simp only [Prod.mk.injEq] at hx
    obtain ⟨rfl, rfl⟩ := hx
    exact ⟨a, b, rfl, rfl, rfl, wa, wb⟩
end Go.Proofs.YthjcdbnjmpjikaaGreat

/-
  How arguments are opened where the reach counts: bytes, half words, strings.
-/
namespace Go.Proofs.YthjcdbnjmpjikaaGreat
set_option linter.unusedVariables false
open Go.ChangeShapes Go.WideShapes Go.ChangeAt Go.RowKit Go.Joins

theorem byte_of_wf {x : Int} (h : (Lit.int .u8 x).wf = true) : 0 ≤ x ∧ x < 256 := by
  simp [Lit.wf, IntKind.min, IntKind.max, IntKind.signed, IntKind.bits] at h
  exact ⟨by omega, by omega⟩
theorem half_of_wf {x : Int} (h : (Lit.int .u32 x).wf = true) : 0 ≤ x ∧ x < 4294967296 := by
  simp [Lit.wf, IntKind.min, IntKind.max, IntKind.signed, IntKind.bits] at h
  exact ⟨by omega, by omega⟩
theorem size_reach {s : ByteArray} (h : s.data.toList.length ≤ reachBytes) : s.size ≤ 140737488351232 := by
  rw [Lib.size_eq]; exact h
end Go.Proofs.YthjcdbnjmpjikaaGreat

/-
  How a row of pairs, and a row of rows, that comes in as an argument is opened.
  How a pair that comes in as an argument by value is opened, and shut again.
-/
namespace Go.Proofs.YthjcdbnjmpjikaaGreat
set_option linter.unusedVariables false
set_option linter.unusedSimpArgs false
set_option maxRecDepth 100000
open Go.ChangeShapes Go.WideShapes Go.ChangeAt Go.RowKit Go.Joins

instance : Inhabited RowV := ⟨⟨none, 0, []⟩⟩
theorem add_deep (a : Addr) (i j : Nat) : (a.add i).add j = a.add (i + j) := Go.Deep.add_add a i j
theorem cellsPair : Tryz.prog.cellsOf 61 = 2 := by kernel_rfl
theorem bytesPair : Tryz.prog.bytesOf 61 = 16 := by kernel_rfl
theorem cellsRow2 : Tryz.prog.cellsOf 46 = 1 := by kernel_rfl
theorem bytesRow2 : Tryz.prog.bytesOf 46 = 24 := by kernel_rfl
/-- Two cells that read as a pair. -/
theorem open_pair {H : Type} {enc : TypeId × Value → H} {W : World} {base n : Nat} {spare : Nat → Bool} {held : Bool} {ad : Addr} {cs : List Value} {d : DataW H} {pl : List MemPlace}
    (hc : W.cells? base ad 2 = some cs) (h : DataW.trod enc Tryz.prog W base spare held n 61 cs = some (d, pl)) :
    ∃ p : PairV, okP p ∧ W.cell? (ad.add 0) = some (.int .i64 p.1) ∧ W.cell? (ad.add 1) = some (.int .u64 p.2) := by
  obtain ⟨_, hl, hat⟩ := World.cells?_some hc
  obtain ⟨ys, m, _, hx, _, hyl, hf⟩ := DataW.trod_struct Tryz.underlying61 h
  match cs, hl with
  | [x0, x1], _ =>
    have h0 := hf 0 _ rfl
    have h1 := hf 1 _ rfl
    match ys, hyl with
    | [y0, y1], _ =>
      obtain ⟨i, e0, r0, w0⟩ := DataW.trod_int Tryz.underlying3 h0
      obtain ⟨c, e1, r1, w1⟩ := DataW.trod_int Tryz.underlying25 h1
      have g0 : [x0] = [.int .i64 i] := e0
      have g1 : [x1] = [.int .u64 c] := e1
      simp only [List.cons.injEq, and_true] at g0 g1
      subst g0 g1
      exact ⟨(i, c), ⟨i64_of_wf w0, word_of_wf w1⟩, hat 0 (by omega), hat 1 (by omega)⟩
/-- Cells that read as a row of pairs. -/
theorem open_row {H : Type} {enc : TypeId × Value → H} {W : World} {n : Nat} {cs : List Value} {d : DataW H} {pl : List MemPlace}
    (hf : DataW.trod enc Tryz.prog W 0 (fun _ => true) true n 46 cs = some (d, pl)) (hz : ∀ n ∈ DataW.weights Tryz.prog 46 d, n ≤ reachBytes) :
    ∃ A cap L, cs = [.slice A (List.length L) cap] ∧ Pairs W A L ∧ L.length ≤ 140737488351232 := by
  rcases Go.Deep.open_slice Tryz.underlying46 hf with ⟨hcs, hx⟩ | ⟨a, len, cap, m, n, D, Pl, hcs, _, hl, hm, hmm, hx, hi⟩
  · exact ⟨none, 0, [], hcs, Pairs.nil W, Nat.zero_le _⟩
  · simp only [if_true] at hmm
    obtain rfl : cap = m := hmm.symm
    simp only [Prod.mk.injEq] at hx
    obtain ⟨rfl, rfl⟩ := hx
    have hw : DataW.weights Tryz.prog 46 (.slice ((List.range len).map D) ((List.range (cap - len)).map fun j => D (len + j))) =
        (((List.range len).map D).length + ((List.range (cap - len)).map fun j => D (len + j)).length) * Tryz.prog.bytesOf 61 ::
        (DataW.weightsAll Tryz.prog 61 ((List.range len).map D) ++ DataW.weightsAll Tryz.prog 61 ((List.range (cap - len)).map fun j => D (len + j))) := by
      conv => lhs; unfold DataW.weights
      rw [Tryz.underlying46]
    have hlen : len ≤ 140737488351232 := by
      have := hz _ (by rw [hw]; exact List.mem_cons_self)
      rw [bytesPair] at this
      simp only [List.length_map, List.length_range, reachBytes] at this
      omega
    have hall : ∀ i, i < len → ∃ p : PairV, okP p ∧ W.cell? (a.add (i * 2)) = some (.int .i64 p.1) ∧ W.cell? (a.add (i * 2 + 1)) = some (.int .u64 p.2) := by
      intro i hi'
      obtain ⟨cs', hc, ht⟩ := hi i (by omega)
      rw [cellsPair] at hc
      obtain ⟨p, i1, c0, c1⟩ := open_pair hc ht
      rw [add_deep] at c0 c1
      exact ⟨p, i1, c0, c1⟩
    obtain ⟨f, hf'⟩ := Go.Deep.choose_lt hall
    refine ⟨some a, cap, (List.range len).map f, by rw [hcs]; simp, ⟨?_, ?_⟩, by simpa using hlen⟩
    · intro p hp
      obtain ⟨i, hi1, rfl⟩ := List.mem_map.1 hp
      exact (hf' i (List.mem_range.1 hi1)).1
    · intro i p hp
      have hil : i < len := by
        rcases Nat.lt_or_ge i len with h | h
        · exact h
        · rw [List.getElem?_eq_none (by simpa using h)] at hp; cases hp
      simp only [List.getElem?_map, List.getElem?_range hil, Option.map_some, Option.some.injEq] at hp
      subst hp
      obtain ⟨_, c0, c1⟩ := hf' i hil
      obtain ⟨b, off, spot⟩ := a
      have hspot : spot = none := by
        have z0 := (hf' 0 (by omega)).2.1
        simpa [Addr.add] using World.cell?_spot z0
      subst hspot
      have hb : b < W.heap.size := by
        have := World.block_lt_of_cell? W _ c0
        revert this; unfold Addr.add; split <;> simp
      refine ⟨b, off, rfl, hb, ?_, ?_⟩
      · rw [← add_flat]; exact c0
      · rw [Nat.add_assoc, ← add_flat]; exact c1

theorem open_pairs {H : Type} {enc : TypeId × Value → H} {W : World} {base : Nat} {v : Value} {d : DataW H} {p : List MemPlace}
    (hv : Value.okWide Tryz.prog W .any base 46 v) (h : DataW.Trod enc Tryz.prog W 0 (fun _ => true) true 46 v d p)
    (hz : ∀ n ∈ DataW.weights Tryz.prog 46 d, n ≤ reachBytes) :
    ∃ A cap L, v = .slice A (List.length L) cap ∧ Pairs W A L ∧ L.length ≤ 140737488351232 := by
  obtain ⟨a0, len, cap, rfl⟩ := okWide_slice Tryz.underlying46 hv
  obtain ⟨fuel, hf⟩ := h
  obtain ⟨A, cap', L, hcs, hP, hl⟩ := open_row hf hz
  simp [Value.cells] at hcs
  obtain ⟨rfl, rfl, rfl⟩ := hcs
  exact ⟨_, _, L, rfl, hP, hl⟩

end Go.Proofs.YthjcdbnjmpjikaaGreat

namespace Go.Proofs.YthjcdbnjmpjikaaGreat
set_option maxRecDepth 100000
set_option linter.unusedVariables false
set_option linter.unusedSimpArgs false
open Go.ChangeShapes Go.WideShapes Go.ChangeAt Go.RowKit Go.Joins

theorem pair_reads {H : Type} {enc : TypeId × Value → H} {a b : Int} (wa : (Lit.int .i64 a).wf = true) (wb : (Lit.int .u64 b).wf = true) (W' : World) (sp : Nat → Bool) :
    DataW.Trod enc Tryz.prog W' 0 sp true 61 (.agg #[.int .i64 a, .int .u64 b]) (.agg [.lit (.int .i64 a), .lit (.int .u64 b)]) [] :=
  shut_agg2 (y0 := (.lit (.int .i64 a), [])) (y1 := (.lit (.int .u64 b), [])) Tryz.underlying61 (by kernel_rfl) cellsPair ⟨1, by simp [DataW.trod, Tryz.underlying3, wa]⟩ ⟨1, by simp [DataW.trod, Tryz.underlying25, wb]⟩
theorem pair_opens {H : Type} {enc : TypeId × Value → H} {W : World} {r : Reach} {b0 : Nat} {sp : Nat → Bool} {v : Value} {d : DataW H} {p : List MemPlace} (hv : Value.okWide Tryz.prog W r b0 61 v) (h : DataW.Trod enc Tryz.prog W 0 sp true 61 v d p) :
    ∃ a b : Int, v = .agg #[.int .i64 a, .int .u64 b] ∧ d = .agg [.lit (.int .i64 a), .lit (.int .u64 b)] ∧ p = [] ∧ (Lit.int .i64 a).wf = true ∧ (Lit.int .u64 b).wf = true := by
  obtain ⟨c0, c1, y0, y1, m, rfl, rfl, rfl, hy0, hy1⟩ := open_agg2 Tryz.underlying61 (by kernel_rfl) cellsPair hv h
  obtain ⟨a, e0, rfl, wa⟩ := DataW.trod_int Tryz.underlying3 hy0
  obtain ⟨b, e1, rfl, wb⟩ := DataW.trod_int Tryz.underlying25 hy1
  simp at e0 e1
  subst e0 e1
  exact ⟨a, b, rfl, rfl, rfl, wa, wb⟩
end Go.Proofs.YthjcdbnjmpjikaaGreat

/-
  How a row of values, and a case of layer 13's laws, that come in as arguments are opened.
-/
namespace Go.Proofs.YthjcdbnjmpjikaaGreat
set_option linter.unusedVariables false
set_option linter.unusedSimpArgs false
set_option maxRecDepth 100000
open Go.ChangeShapes Go.WideShapes Go.ChangeAt Go.RowKit Go.Joins

theorem cellsVal : Tryz.prog.cellsOf 44 = 2 := by kernel_rfl
theorem bytesVal : Tryz.prog.bytesOf 44 = 16 := by kernel_rfl
/-- Two cells that read as a pair. -/
theorem open_val {H : Type} {enc : TypeId × Value → H} {W : World} {base n : Nat} {spare : Nat → Bool} {held : Bool} {ad : Addr} {cs : List Value} {d : DataW H} {pl : List MemPlace}
    (hc : W.cells? base ad 2 = some cs) (h : DataW.trod enc Tryz.prog W base spare held n 44 cs = some (d, pl)) :
    ∃ p : PairV, okP p ∧ W.cell? (ad.add 0) = some (.int .i64 p.1) ∧ W.cell? (ad.add 1) = some (.int .u64 p.2) := by
  obtain ⟨_, hl, hat⟩ := World.cells?_some hc
  obtain ⟨ys, m, _, hx, _, hyl, hf⟩ := DataW.trod_struct Tryz.underlying44 h
  match cs, hl with
  | [x0, x1], _ =>
    have h0 := hf 0 _ rfl
    have h1 := hf 1 _ rfl
    match ys, hyl with
    | [y0, y1], _ =>
      obtain ⟨i, e0, r0, w0⟩ := DataW.trod_int Tryz.underlying2 h0
      obtain ⟨c, e1, r1, w1⟩ := DataW.trod_int Tryz.underlying25 h1
      have g0 : [x0] = [.int .i64 i] := e0
      have g1 : [x1] = [.int .u64 c] := e1
      simp only [List.cons.injEq, and_true] at g0 g1
      subst g0 g1
      exact ⟨(i, c), ⟨i64_of_wf w0, word_of_wf w1⟩, hat 0 (by omega), hat 1 (by omega)⟩
/-- Cells that read as a row of pairs. -/
theorem open_vrow {H : Type} {enc : TypeId × Value → H} {W : World} {n : Nat} {cs : List Value} {d : DataW H} {pl : List MemPlace}
    (hf : DataW.trod enc Tryz.prog W 0 (fun _ => true) true n 24 cs = some (d, pl)) (hz : ∀ n ∈ DataW.weights Tryz.prog 24 d, n ≤ reachBytes) :
    ∃ A cap L, cs = [.slice A (List.length L) cap] ∧ Pairs W A L ∧ L.length ≤ 140737488351232 := by
  rcases Go.Deep.open_slice Tryz.underlying24 hf with ⟨hcs, hx⟩ | ⟨a, len, cap, m, n, D, Pl, hcs, _, hl, hm, hmm, hx, hi⟩
  · exact ⟨none, 0, [], hcs, Pairs.nil W, Nat.zero_le _⟩
  · simp only [if_true] at hmm
    obtain rfl : cap = m := hmm.symm
    simp only [Prod.mk.injEq] at hx
    obtain ⟨rfl, rfl⟩ := hx
    have hw : DataW.weights Tryz.prog 24 (.slice ((List.range len).map D) ((List.range (cap - len)).map fun j => D (len + j))) =
        (((List.range len).map D).length + ((List.range (cap - len)).map fun j => D (len + j)).length) * Tryz.prog.bytesOf 44 ::
        (DataW.weightsAll Tryz.prog 44 ((List.range len).map D) ++ DataW.weightsAll Tryz.prog 44 ((List.range (cap - len)).map fun j => D (len + j))) := by
      conv => lhs; unfold DataW.weights
      rw [Tryz.underlying24]
    have hlen : len ≤ 140737488351232 := by
      have := hz _ (by rw [hw]; exact List.mem_cons_self)
      rw [bytesVal] at this
      simp only [List.length_map, List.length_range, reachBytes] at this
      omega
    have hall : ∀ i, i < len → ∃ p : PairV, okP p ∧ W.cell? (a.add (i * 2)) = some (.int .i64 p.1) ∧ W.cell? (a.add (i * 2 + 1)) = some (.int .u64 p.2) := by
      intro i hi'
      obtain ⟨cs', hc, ht⟩ := hi i (by omega)
      rw [cellsVal] at hc
      obtain ⟨p, i1, c0, c1⟩ := open_val hc ht
      rw [add_deep] at c0 c1
      exact ⟨p, i1, c0, c1⟩
    obtain ⟨f, hf'⟩ := Go.Deep.choose_lt hall
    refine ⟨some a, cap, (List.range len).map f, by rw [hcs]; simp, ⟨?_, ?_⟩, by simpa using hlen⟩
    · intro p hp
      obtain ⟨i, hi1, rfl⟩ := List.mem_map.1 hp
      exact (hf' i (List.mem_range.1 hi1)).1
    · intro i p hp
      have hil : i < len := by
        rcases Nat.lt_or_ge i len with h | h
        · exact h
        · rw [List.getElem?_eq_none (by simpa using h)] at hp; cases hp
      simp only [List.getElem?_map, List.getElem?_range hil, Option.map_some, Option.some.injEq] at hp
      subst hp
      obtain ⟨_, c0, c1⟩ := hf' i hil
      obtain ⟨b, off, spot⟩ := a
      have hspot : spot = none := by
        have z0 := (hf' 0 (by omega)).2.1
        simpa [Addr.add] using World.cell?_spot z0
      subst hspot
      have hb : b < W.heap.size := by
        have := World.block_lt_of_cell? W _ c0
        revert this; unfold Addr.add; split <;> simp
      refine ⟨b, off, rfl, hb, ?_, ?_⟩
      · rw [← add_flat]; exact c0
      · rw [Nat.add_assoc, ← add_flat]; exact c1

theorem open_vals {H : Type} {enc : TypeId × Value → H} {W : World} {base : Nat} {v : Value} {d : DataW H} {p : List MemPlace}
    (hv : Value.okWide Tryz.prog W .any base 24 v) (h : DataW.Trod enc Tryz.prog W 0 (fun _ => true) true 24 v d p)
    (hz : ∀ n ∈ DataW.weights Tryz.prog 24 d, n ≤ reachBytes) :
    ∃ A cap L, v = .slice A (List.length L) cap ∧ Pairs W A L ∧ L.length ≤ 140737488351232 := by
  obtain ⟨a0, len, cap, rfl⟩ := okWide_slice Tryz.underlying24 hv
  obtain ⟨fuel, hf⟩ := h
  obtain ⟨A, cap', L, hcs, hP, hl⟩ := open_vrow hf hz
  simp [Value.cells] at hcs
  obtain ⟨rfl, rfl, rfl⟩ := hcs
  exact ⟨_, _, L, rfl, hP, hl⟩

end Go.Proofs.YthjcdbnjmpjikaaGreat
/-
  The laws of layer 17: alive, build.
-/
namespace Go.Proofs.YthjcdbnjmpjikaaGreat
set_option linter.unusedVariables false
set_option linter.unusedSimpArgs false
open Go.RowKit

theorem al17_row : putD 3 1 [] 5 2 = [(13, 2)] := by decide +kernel
theorem al17_sum : sumP [((13, 2) : PairV)] = 2 := by decide
theorem al17_quan : quanG 3 [(13, 2)] 1 2 = (5, 0) := by decide +kernel
theorem add_bd {n : Nat} {a w : World} (h : Below n a w) (hn : n ≤ a.heap.size) : n ≤ w.heap.size := Nat.le_trans hn h.size

set_option maxRecDepth 100000 in
set_option maxHeartbeats 1000000 in
theorem alive17_any {Dg : DgT} (D : DigDoes Dg) (w : World) : Calls Tryz.prog 9 #[] w fun e w' => e = .returned (.bool true) ∧ Below w.heap.size w w' := by
  have HD := Lib.hid D
  have HN := Lib.hid (D.new w 3 1 (by decide) (by decide) (by decide) (by decide))
  have C1 := Lib.hid al17_row
  have C2 := Lib.hid al17_sum
  have C3 := Lib.hid al17_quan
  clear D
  go_enter Tryz.func9, Tryz.ntmps9
  go_wp2_with fail
  refine HN.out.mono ?_
  rintro e w1 ⟨B, S, rfl, h1, hs1, b1⟩
  have z1 := b1.size
  have HP := Lib.hid (HD.out.put w1 B S 3 1 [] (0, 0, false) 5 2 h1 (by decide) (by decide) (by decide) (by decide))
  clear HN
  go_wp2_with fail
  refine HP.out.mono ?_
  rintro e w2 ⟨S2, rfl, h2, k2, hs2⟩
  rw [C1.out] at h2
  have b2 := k2.below b1 z1 hs1
  have z2 := b2.size
  have HQ := Lib.hid (HD.out.quantile w2 B S2 3 1 _ _ 1 2 5 0 h2 ⟨by decide, by decide⟩ ⟨by decide, by decide⟩ C3.out)
  have HX := Lib.hid h2
  clear h1 hs1 b1 k2 hs2 h2 HP
  go_wp2_with fail
  refine HQ.out.mono ?_
  rintro e w3 ⟨rfl, b3'⟩
  have b3 := b2.trans (b3'.mono z2)
  have HT := Lib.hid (HD.out.total w3 B S2 3 1 _ _ (HD.out.call HX.out b3'))
  have HX3 := Lib.hid (HD.out.call HX.out b3')
  rw [C2.out] at HT
  clear b3' HQ
  go_wp2_with fail
  refine HT.out.mono ?_
  rintro e w4 ⟨rfl, b4'⟩
  have b4 := b3.trans (b4'.mono b3.size)
  have HM := Lib.hid (HD.out.most w4 B S2 3 1 _ _ (HD.out.call HX3.out b4'))
  clear b4' HT
  go_wp2_with fail
  refine HM.out.mono ?_
  rintro e w5 ⟨rfl, b5'⟩
  have b5 := b4.trans (b5'.mono b4.size)
  go_wp2_with fail
  go_ret
  exact ⟨rfl, b5⟩

/-- What build tells. -/
def Build17 (Dg : DgT) (w : World) (d f : Int) (A : List PairV) (e : Ending) (w' : World) : Prop :=
  (∃ B S M b k v, e = .returned (.tuple #[.pointer (some ⟨B, 0, none⟩), .pointer (some ⟨M, 0, none⟩), .bool true]) ∧ d = (b : Nat) ∧ f = (k : Nat) ∧ 1 ≤ b ∧ b ≤ 24 ∧ 1 ≤ k ∧ k ≤ 64 ∧ FineG b A ∧ A.length ≤ 60 ∧
    Dg w' B S b k (rowD b k A) (endAD A) ∧ RefDg w' M b k v (rowD b k A) ∧ (∀ i, S i → w.heap.size ≤ i) ∧ w.heap.size ≤ M ∧ ¬ S M ∧ (∀ g, v.ownBlock = some g → ¬ S g) ∧ Below w.heap.size w w') ∨
  (e = .returned (.tuple #[.pointer none, .pointer none, .bool false]) ∧ Below w.heap.size w w')
theorem conf_cases (d f : Int) : (∃ b k : Nat, d = b ∧ f = k ∧ 1 ≤ b ∧ b ≤ 24 ∧ 1 ≤ k ∧ k ≤ 64) ∨ d < 1 ∨ (¬ d < 1 ∧ 24 < d) ∨ (¬ d < 1 ∧ ¬ 24 < d ∧ f < 1) ∨ (¬ d < 1 ∧ ¬ 24 < d ∧ ¬ f < 1 ∧ 64 < f) := by
  by_cases h : 1 ≤ d ∧ d ≤ 24 ∧ 1 ≤ f ∧ f ≤ 64
  · exact Or.inl ⟨d.toNat, f.toNat, by omega, by omega, by omega, by omega, by omega, by omega⟩
  · omega
theorem size_box (w : World) (o : Obj) : (w.alloc o).heap.size = w.heap.size + 1 := by unfold World.alloc; exact Array.size_push _
theorem cell_grown {w w' : World} {M b o : Nat} {v : Value} (hg : w.grownBy w' (some M)) (hne : b ≠ M) (h : w.cell? ⟨b, o, none⟩ = some v) : w'.cell? ⟨b, o, none⟩ = some v :=
  (World.cell?_of_block (a := ⟨b, o, none⟩) (hg.block b (World.block_lt_of_cell? (a := ⟨b, o, none⟩) w h) (fun e => hne (Option.some.inj e)))).trans h
theorem two_box (w : World) (x y : Value) (t : TypeId) : (w.alloc (.cells #[x, y] t)).cell? ⟨w.heap.size, 0, none⟩ = some x ∧ (w.alloc (.cells #[x, y] t)).cell? ⟨w.heap.size, 1, none⟩ = some y := ⟨(Two.new w x y t).c0, (Two.new w x y t).c1⟩
theorem refg_new (w : World) (b k : Nat) : RefDg (w.alloc (.cells #[.int .i64 b, .int .i64 k, .slice none 0 0] 49)) w.heap.size b k (.slice none 0 0) [] := by
  refine ⟨?_, ?_, ?_, ?_, OwnP.nil _ _⟩ <;> go_simp

set_option maxRecDepth 100000 in
set_option maxHeartbeats 4000000 in
theorem build17_any {Dg : DgT} (D : DigDoes Dg) (w : World) (d f : Int) (A : List PairV) (a : Option Addr) (cap : Nat) (hd : I64 d) (hf : I64 f) (hA : Pairs w a A) (hl : A.length ≤ 140737488351232) :
    Calls Tryz.prog 10 #[.agg #[.int .i64 d, .int .i64 f], .slice a A.length cap] w (Build17 Dg w d f A) := by
  have HD := Lib.hid D
  have HA := Lib.hid hA
  obtain ⟨d0, d1⟩ := hd
  obtain ⟨f0, f1⟩ := hf
  have BX := two_box w (.int .i64 d) (.int .i64 f) 23
  obtain ⟨bx0, bx1⟩ := BX
  have hB0 : Below w.heap.size w (w.alloc (.cells #[.int .i64 d, .int .i64 f] 23)) := (Below.refl _ _).alloc (Nat.le_refl _) _
  clear hA D
  by_cases q1 : 60 < A.length
  · have kk : (60 : Int) < A.length := by omega
    go_enter Tryz.func10, Tryz.ntmps10
    go_wp2_with fail
    go_ret3
    exact Or.inr ⟨rfl, hB0⟩
  have kk : ¬ (60 : Int) < A.length := by omega
  rcases conf_cases d f with ⟨b, k, rfl, rfl, b1, b2, k1, k2⟩ | q | ⟨q, q2⟩ | ⟨q, q2, q3⟩ | ⟨q, q2, q3, q4⟩
  rotate_left
  iterate 4
    · go_enter Tryz.func10, Tryz.ntmps10
      go_wp2_with fail
      go_ret3
      exact Or.inr ⟨rfl, hB0⟩
  have HNW := Lib.hid (HD.out.new (w.alloc (.cells #[.int .i64 b, .int .i64 k] 23)) b k b1 b2 k1 k2)
  have n1 : ¬ (b : Int) < 1 := by omega
  have n2 : ¬ (24 : Int) < b := by omega
  have n3 : ¬ (k : Int) < 1 := by omega
  have n4 : ¬ (64 : Int) < k := by omega
  have HB0 := Lib.hid hB0
  go_enter Tryz.func10, Tryz.ntmps10
  go_wp2_with fail
  refine HNW.out.mono ?_
  rintro e w2 ⟨B, S, rfl, hx, hS, b2'⟩
  have hb2 := HB0.out.trans (b2'.mono HB0.out.size)
  have e0 := cell_later b2' bx0
  have e1 := cell_later b2' bx1
  have HC0 := Lib.hid e0
  have hnw : Below w2.heap.size w2 (w2.alloc (.cells #[.int .i64 b, .int .i64 k, .slice none 0 0] 49)) := (Below.refl _ _).alloc (Nat.le_refl _) _
  have HX := Lib.hid (HD.out.call hx hnw)
  have HRG := Lib.hid (refg_new w2 b k)
  have HS := Lib.hid hS
  have HSM : Hid (¬ S w2.heap.size) := Lib.hid fun h => by have := HD.out.lt _ _ _ _ _ _ _ hx _ h; omega
  have HB3 := Lib.hid (hb2.trans (hnw.mono hb2.size))
  have HSZ := Lib.hid hb2.size
  have HCF := Lib.hid (cell_later (b2'.trans (hnw.mono b2'.size)) bx0)
  have HW0 := Lib.hid HB0.out.size
  clear hx hS b2' hb2 hnw HNW bx0 bx1 hB0
  have HWA : Hid ((w.alloc (.cells #[.int .i64 b, .int .i64 k] 23)).heap.size = w.heap.size + 1) := Lib.hid (size_box _ _)
  have HLT := Lib.hid (World.block_lt_of_cell? (a := ⟨w.heap.size, 0, none⟩) w2 HC0.out)
  obtain ⟨lv, hlv⟩ : ∃ lv : Nat, 2 ^ b = lv := ⟨_, rfl⟩
  have hlv1 := pow_bdD b2
  have hlv3 : (2 : Int) ^ b = (lv : Int) := by rw [← hlv, Int.natCast_pow]; rfl
  rw [hlv] at hlv1
  have W1 : IntKind.i64.wrap ((2 : Int) ^ b) = (lv : Int) := by rw [hlv3, IntKind.wrap_i64]; omega
  have W2 : wrap64 ((2 : Int) ^ b) = (lv : Int) := by rw [hlv3]; unfold wrap64; omega
  have HLV := Lib.hid hlv
  have b0 : (0 : Int) ≤ (b : Int) := by omega
  clear hlv hlv3
  go_wp2_with fail
  go_loopg [48] A.length (fun g j wr => ∃ (i : Nat) (Sk : Nat → Prop) (v : Value), i ≤ A.length ∧ g = A.length - i ∧ j = .int .i64 i ∧ FineG b (A.take i) ∧ Dg wr B Sk b k (rowD b k (A.take i)) (endAD (A.take i)) ∧ RefDg wr w2.heap.size b k v (rowD b k (A.take i)) ∧ (∀ x, Sk x → w.heap.size < x) ∧ ¬ Sk w2.heap.size ∧ (∀ g, v.ownBlock = some g → ¬ Sk g) ∧ Below w.heap.size w wr ∧ wr.cell? ⟨w.heap.size, 0, none⟩ = some (.int .i64 b))
  case atStart => exact ⟨0, S, _, Nat.zero_le _, rfl, rfl, FineG.nil b, HX.out, HRG.out, fun x hx => by have := HS.out x hx; have := HWA.out; omega, HSM.out, fun g hg => (by cases hg), HB3.out, HCF.out⟩
  case round =>
    obtain ⟨i, Sk, v, hi, rfl, rfl, hfi, hx, hrg, hsk, hsm, hvs, hb3, hcf⟩ := hrel
    have HXI := Lib.hid hx
    have HRI := Lib.hid hrg
    have HFI := Lib.hid hfi
    have HSK := Lib.hid hsk
    have HSMI := Lib.hid hsm
    have HVS := Lib.hid hvs
    have hz3 := hb3.size
    by_cases hlt : i < A.length
    · have kl : (i : Int) < A.length := by omega
      have hxk : A[i]? = some A[i] := List.getElem?_eq_getElem hlt
      generalize hit : A[i] = p at *
      obtain ⟨px, pc⟩ := p
      obtain ⟨bb, off, rfl, hbl, c0, c1⟩ := (HA.out.call hb3).at_ i _ hxk
      have hok := HA.out.ok _ (List.mem_of_getElem? hxk)
      have HKT := Lib.hid (take_snocP hxk)
      obtain ⟨⟨o1, o2⟩, o3, o4⟩ := hok
      simp only at c0 c1 o1 o2 o3 o4
      have hal : Below wr.heap.size wr (wr.alloc (.cells #[.int .i64 px, .int .u64 pc] 44)) := (Below.refl _ _).alloc (Nat.le_refl _) _
      have HAL := Lib.hid hal
      have HB4 := Lib.hid (hb3.trans (hal.mono hz3))
      have HC4 := Lib.hid (cell_later hal hcf)
      have HCI := Lib.hid hcf
      have d0 := cell_later hal hcf
      have HZ3 := Lib.hid hz3
      clear hxk hit hfi hx hrg hsk hsm hvs hb3 hcf hz3 hal
      have HCS : Hid ((pc == 0) = true ∨ ((pc == 0) = false ∧ decide (1125899906842624 < pc) = true) ∨ ((pc == 0) = false ∧ decide (1125899906842624 < pc) = false ∧ decide (px < 0) = true) ∨ ((pc == 0) = false ∧ decide (1125899906842624 < pc) = false ∧ decide (px < 0) = false ∧ decide ((lv : Int) ≤ px) = true) ∨ ((pc == 0) = false ∧ decide (1125899906842624 < pc) = false ∧ decide (px < 0) = false ∧ decide ((lv : Int) ≤ px) = false ∧ 0 ≤ px ∧ px < lv ∧ 0 < pc ∧ pc ≤ 1125899906842624)) := Lib.hid (by
        by_cases z1 : pc = 0
        · exact Or.inl (by rw [z1]; rfl)
        have y1 : (pc == 0) = false := by simpa using z1
        refine Or.inr ?_
        by_cases z2 : 1125899906842624 < pc
        · exact Or.inl ⟨y1, decide_eq_true z2⟩
        refine Or.inr ?_
        by_cases z3 : px < 0
        · exact Or.inl ⟨y1, decide_eq_false z2, decide_eq_true z3⟩
        refine Or.inr ?_
        by_cases z4 : (lv : Int) ≤ px
        · exact Or.inl ⟨y1, decide_eq_false z2, decide_eq_false z3, decide_eq_true z4⟩
        · exact Or.inr ⟨y1, decide_eq_false z2, decide_eq_false z3, decide_eq_false z4, by omega, by omega, by omega, by omega⟩)
      rcases HCS.out with g1 | ⟨g1, g2⟩ | ⟨g1, g2, g3⟩ | ⟨g1, g2, g3, g4⟩ | ⟨g1, g2, g3, g4, g5, g6, g7, g8⟩
      rotate_left 4
      · clear HCS
        go_wp2_with fail
        go_quiet (fail)
        rename_i nq
        have p0 : ((wr.alloc (.cells #[.int .i64 px, .int .u64 pc] 44)).drewN nq).cell? ⟨wr.heap.size, 0, none⟩ = some (.int .i64 px) := by go_simp
        have p1 : ((wr.alloc (.cells #[.int .i64 px, .int .u64 pc] 44)).drewN nq).cell? ⟨wr.heap.size, 1, none⟩ = some (.int .u64 pc) := by go_simp
        have HBn := Lib.hid (below_drewN HAL.out nq)
        have HBw := Lib.hid (below_drewN HB4.out nq)
        obtain ⟨w4, hw4⟩ : ∃ w4, (wr.alloc (.cells #[.int .i64 px, .int .u64 pc] 44)).drewN nq = w4 := ⟨_, rfl⟩
        rw [hw4] at p0 p1 HBn HBw
        have HH := Lib.hid (HFI.out.has k1 (by have := List.length_take_le i A; omega))
        have HSM2 : Hid (sumP (rowD b k (A.take i)) + pc ≤ 9223372036854775807 ∧ sumP (A.take i) ≤ 9223372036854775807) := Lib.hid (by
          have h1 := (fineG_sum HFI.out).2
          have h2 := List.length_take_le i A
          rw [HH.out.dig.sum]; omega)
        have g6' : px < ((2 ^ b : Nat) : Int) := by rw [HLV.out]; exact g6
        have HPU := Lib.hid (HD.out.put w4 B Sk b k _ _ px pc (HD.out.call HXI.out HBn.out) g5 g6' g7 HSM2.out.1)
        have HLS := Lib.hid (HD.out.lt _ _ _ _ _ _ _ HXI.out)
        have HG6 := Lib.hid g6'
        have HP0 := Lib.hid p0
        have HP1 := Lib.hid p1
        have HMW := Lib.hid HRI.out.lt
        clear d0
        go_wp2_with fail
        refine HPU.out.mono ?_
        rintro e w5 ⟨S5, rfl, hx5, hk5, hs5⟩
        have q0 := hk5.cell (fun h => by have := HLS.out _ h; omega) HP0.out
        have q1' := hk5.cell (fun h => by have := HLS.out _ h; omega) HP1.out
        have HX5 := Lib.hid hx5
        have HK5 := Lib.hid hk5
        have HS5 := Lib.hid hs5
        have HR5 := Lib.hid ((HRI.out.call HBn.out).past hk5 HSMI.out HVS.out)
        have hb5 : Below w.heap.size w w5 := Keeps.below HBw.out hk5 HBw.out.size (fun x hx => by have := HSK.out x hx; omega)
        have HB5 := Lib.hid hb5
        have HC5 := Lib.hid (hk5.cell (fun h => by have := HSK.out _ h; omega) (cell_later HBn.out (show wr.cell? ⟨w.heap.size, 0, none⟩ = some (.int .i64 b) from HCI.out)))
        have HRP := Lib.hid (rput17_any w5 w2.heap.size b k v (rowD b k (A.take i)) px pc _ HR5.out b2 (HH.out.row HSM2.out.2) (by have := HH.out.few; omega) k1 k2 g5 HG6.out g7 HSM2.out.1 rfl)
        clear hx5 hk5 hs5 hb5 p0 p1 HPU
        go_wp2_with fail
        refine HRP.out.mono ?_
        rintro e w7 ⟨rfl, ⟨v7, hr7, hv7⟩, hg7⟩
        have HR7 := Lib.hid hr7
        have HV7 := Lib.hid hv7
        have HG7 := Lib.hid hg7
        clear hr7 hv7 hg7 HRP q0 q1'
        go_wp2_with fail
        go_roundg (A.length - (i + 1))
        case measure => omega
        case rel =>
          have hbn := HBn.out.size
          have hmw := HMW.out
          have hnm : ¬ S5 w2.heap.size := fun h => by
            rcases HS5.out _ h with h | h
            · exact HSMI.out h
            · omega
          refine ⟨i + 1, S5, v7, by omega, rfl, by go_num, ?_, ?_, ?_, ?_, hnm, ?_, ?_, ?_⟩
          · rw [HKT.out]; exact HFI.out.app (FineG.one ⟨⟨g5, HG6.out⟩, g7, g8⟩)
          · rw [HKT.out, rowD_snoc, endA_snoc]; exact HD.out.grown HX5.out HG7.out hnm
          · rw [HKT.out, rowD_snoc]; exact HR7.out
          · intro x hx
            rcases HS5.out x hx with h | h
            · exact HSK.out x h
            · have := HBw.out.size; have := HLT.out; omega
          · intro g hg hs
            rcases HV7.out with rfl | hn
            · rcases HS5.out g hs with h | h
              · exact HVS.out g hg h
              · have := (HRI.out.own.lt g hg).2; omega
            · have h1 := hn g hg
              have h2 := HD.out.lt _ _ _ _ _ _ _ HX5.out g hs
              omega
          · exact Below.grown HB5.out HG7.out HB5.out.size (fun x hx => by have := Option.some.inj hx; have := HSZ.out; omega)
          · exact cell_grown HG7.out (by have := HLT.out; omega) HC5.out
      all_goals
        clear HCS
        go_wp2_with fail
        go_quiet (fail)
        go_wp2_with fail
        go_ret3
        exact Or.inr ⟨rfl, below_drewN HB4.out _⟩
    · obtain rfl : i = A.length := by omega
      have kl : ¬ (A.length : Int) < A.length := by omega
      rw [List.take_length] at HXI HRI HFI
      clear hfi hx hrg hsk hsm hvs hcf
      go_wp2_with fail
      go_ret3
      exact Or.inl ⟨B, Sk, w2.heap.size, b, k, v, rfl, rfl, rfl, b1, b2, k1, k2, HFI.out, by omega, HXI.out, HRI.out, fun x hx => Nat.le_of_lt (HSK.out x hx), HSZ.out, HSMI.out, HVS.out, hb3⟩
end Go.Proofs.YthjcdbnjmpjikaaGreat

/-
  The law DigestDoes, walked from the contract.
-/
namespace Go.Proofs.YthjcdbnjmpjikaaGreat
set_option linter.unusedVariables false
set_option linter.unusedSimpArgs false
open Go.RowKit

/-- What two boxes hold, in a world that has grown from one. -/
abbrev BoxG (s : Nat) (x y u v : Value) (w2 W : World) : Prop := W.cell? ⟨s, 0, none⟩ = some x ∧ W.cell? ⟨s, 1, none⟩ = some y ∧ W.cell? ⟨s + 1, 0, none⟩ = some u ∧ W.cell? ⟨s + 1, 1, none⟩ = some v ∧ Below w2.heap.size w2 W
theorem boxg_later {s : Nat} {x y u v : Value} {w2 W W' : World} (h : BoxG s x y u v w2 W) (hb : Below W.heap.size W W') : BoxG s x y u v w2 W' :=
  ⟨cell_later hb h.1, cell_later hb h.2.1, cell_later hb h.2.2.1, cell_later hb h.2.2.2.1, h.2.2.2.2.trans (hb.mono h.2.2.2.2.size)⟩
theorem boxg_calls {P : Program} {f : FuncId} {args : Array Value} {s : Nat} {x y u v : Value} {w2 W : World} {r : Ending} (h : Calls P f args W fun e w' => e = r ∧ Below W.heap.size W w') (hb : BoxG s x y u v w2 W) : Calls P f args W fun e w' => e = r ∧ BoxG s x y u v w2 w' :=
  h.mono fun e w' ⟨he, hw⟩ => ⟨he, boxg_later hb hw⟩
theorem boxes_new (w : World) (x y u v : Value) (t t' : TypeId) : BoxG w.heap.size x y u v w ((w.alloc (.cells #[x, y] t)).alloc (.cells #[u, v] t')) := by
  obtain ⟨a0, a1⟩ := two_box w x y t
  obtain ⟨b0, b1⟩ := two_box (w.alloc (.cells #[x, y] t)) u v t'
  rw [size_box] at b0 b1
  have hn : Below (w.alloc (.cells #[x, y] t)).heap.size (w.alloc (.cells #[x, y] t)) ((w.alloc (.cells #[x, y] t)).alloc (.cells #[u, v] t')) := (Below.refl _ _).alloc (Nat.le_refl _) _
  have h0 : Below w.heap.size w (w.alloc (.cells #[x, y] t)) := (Below.refl _ _).alloc (Nat.le_refl _) _
  exact ⟨cell_later hn a0, cell_later hn a1, b0, b1, h0.trans (hn.mono h0.size)⟩

set_option maxRecDepth 100000 in
set_option maxHeartbeats 8000000 in
theorem digest_does_walk {Dg : DgT} (D : DigDoes Dg) (d f : Int) (A : List PairV) (a : Option Addr) (cap : Nat) (pa pb x : Int) (hd : I64 d) (hf : I64 f) (wa : Word pa) (wb : Word pb) (hx : I64 x) (w : World) (hA : Pairs w a A) (hl : A.length ≤ 140737488351232) :
    Calls Tryz.prog 3 #[.agg #[.int .i64 d, .int .i64 f], .slice a A.length cap, .agg #[.int .u64 pa, .int .u64 pb], .int .i64 x] w fun e w' => e = .returned (.bool true) ∧ Below w.heap.size w w' := by
  have HD := Lib.hid D
  have HA := Lib.hid hA
  have HAL := Lib.hid (fun W => alive17_any D W)
  have HBD := Lib.hid (fun W hW => build17_any D W d f A a cap hd hf hW hl)
  have HBX := Lib.hid (boxes_new w (.int .i64 d) (.int .i64 f) (.int .u64 pa) (.int .u64 pb) 23 27)
  obtain ⟨c0, c1, p0, p1, b0⟩ := HBX.out
  have HWA := Lib.hid wa
  have HWB := Lib.hid wb
  have HX := Lib.hid hx
  clear hA D
  go_enter Tryz.func3, Tryz.ntmps3
  go_wp2_with fail
  refine (HAL.out _).mono ?_
  rintro e w1 ⟨rfl, b1'⟩
  have HB1 := Lib.hid (boxg_later HBX.out b1')
  clear c0 c1 p0 p1 b0 b1' HBX
  obtain ⟨c0, c1, p0, p1, b1⟩ := HB1.out
  go_wp2_with fail
  refine (HBD.out _ (HA.out.call b1)).mono ?_
  rintro e w2 (⟨B, S, M, b, k, v, rfl, rfl, rfl, q1, q2, q3, q4, hfi, hl60, hdg, hrg, hS, hM, hSM, hvS, b2'⟩ | ⟨rfl, b2'⟩)
  case inr =>
    have b2 := b1.trans (b2'.mono b1.size)
    go_wp2_with fail
    go_ret
    exact ⟨rfl, b2⟩
  have HB2 := Lib.hid (b1.trans (b2'.mono b1.size))
  obtain ⟨d0, d1, e0, e1, _⟩ := boxg_later HB1.out b2'
  have HH := hfi.has (k := k) q3 (by omega)
  have hsA := (fineG_sum hfi).2
  have hsA0 := (fineG_sum hfi).1
  have hrow := HH.row (by omega)
  have hsR := HH.dig.sum
  have hfew := HH.few
  generalize hR : rowD b k A = R at *
  obtain ⟨T, hT⟩ : ∃ T, sumP A = T := ⟨_, rfl⟩
  rw [hT] at hsR hsA hsA0
  have HV2 := Lib.hid (HA.out.call HB2.out)
  obtain ⟨r, c, hq⟩ : ∃ r c, quanG b R pa pb = (r, c) := ⟨_, _, rfl⟩
  obtain ⟨n1, hn1⟩ : ∃ n1, whereP (fun v => decide (hiD b v ≤ x)) R = n1 := ⟨_, rfl⟩
  obtain ⟨n2, hn2⟩ : ∃ n2, whereP (fun v => decide (loD b v ≤ x)) R = n2 := ⟨_, rfl⟩
  obtain ⟨ex, ey, ez, hee⟩ : ∃ ex ey ez, endAD A = (ex, ey, ez) := ⟨_, _, _, rfl⟩
  rw [hee] at hdg
  have HQ := Lib.hid (fun W (h : BoxG w.heap.size (.int .i64 b) (.int .i64 k) (.int .u64 pa) (.int .u64 pb) w2 W) => boxg_calls (HD.out.quantile W B S b k R _ pa pb r c (HD.out.call hdg h.2.2.2.2) HWA.out HWB.out hq) h)
  have HQR := Lib.hid (fun W (h : BoxG w.heap.size (.int .i64 b) (.int .i64 k) (.int .u64 pa) (.int .u64 pb) w2 W) => boxg_calls (rquan17_any W M b k v R pa pb r c HWA.out HWB.out (hrg.call h.2.2.2.2) q2 hrow (by omega) hq) h)
  have HRK := Lib.hid (fun W (h : BoxG w.heap.size (.int .i64 b) (.int .i64 k) (.int .u64 pa) (.int .u64 pb) w2 W) => boxg_calls (HD.out.rank W B S b k R _ x n1 n2 (HD.out.call hdg h.2.2.2.2) HX.out hn1 hn2) h)
  have HRR := Lib.hid (fun W (h : BoxG w.heap.size (.int .i64 b) (.int .i64 k) (.int .u64 pa) (.int .u64 pb) w2 W) => boxg_calls (rrank17_any W M b k v R x n1 n2 (hrg.call h.2.2.2.2) q2 hrow (by omega) HX.out hn1 hn2) h)
  have HEN := Lib.hid (fun W (h : BoxG w.heap.size (.int .i64 b) (.int .i64 k) (.int .u64 pa) (.int .u64 pb) w2 W) => boxg_calls (HD.out.ends W B S b k R ex ey ez (HD.out.call hdg h.2.2.2.2)) h)
  have HER := Lib.hid (fun W (h : BoxG w.heap.size (.int .i64 b) (.int .i64 k) (.int .u64 pa) (.int .u64 pb) w2 W) => boxg_calls (rends17_any W a cap A ex ey ez (HV2.out.call h.2.2.2.2) (by omega) hee) h)
  have HTO := Lib.hid (fun W (h : Below w2.heap.size w2 W) => HD.out.total W B S b k R _ (HD.out.call hdg h))
  have HNO := Lib.hid (fun W (h : Below w2.heap.size w2 W) => HD.out.nodes W B S b k R _ (HD.out.call hdg h))
  rw [hsR] at HTO
  have hokR := hrow.ok q2
  obtain ⟨aR, kR, rfl, hpR⟩ := hrg.row hokR
  have HPR := Lib.hid hpR
  have HSM := Lib.hid (fun W a1 k1 (h1 : Pairs W a1 R) (h : Below w2.heap.size w2 W) => same_any W a1 aR k1 kR R R true (by simp) h1 (hpR.call h) (by omega) (by omega))
  have HC2 := Lib.hid hrg.c2
  have HPO := Lib.hid (fun i => sumP_take (L := A) i (fun p hp => by have := hfi p hp; omega))
  rw [hT] at HPO
  have hl60' : A.length ≤ 60 := hl60
  have HT := Lib.hid hT
  have t1 : (r == r) = true := by simp
  have t2 : (c == c) = true := by simp
  have t3 : (n1 == n1) = true := by simp
  have t4 : (n2 == n2) = true := by simp
  have t5 : (ex == ex) = true := by simp
  have t6 : (ey == ey) = true := by simp
  have t7 : (ez == ez) = true := by simp
  have t8 : (T == T) = true := by simp
  have bz : Below w2.heap.size w2 w2 := Below.refl _ _
  clear hdg hrg hS hM hSM hvS hfi HH hR hq hn1 hn2 hee hpR hsR hrow hT b2' HBD HAL
  go_wp2_with ((first
    | (go_at_call 11; with_reducible refine (HQ.out _ ⟨by assumption, by assumption, by assumption, by assumption, by assumption⟩).mono ?_; rintro e w' ⟨rfl, x0', x1', x2', x3', x4'⟩)
    | (go_at_call 12; with_reducible refine (HQR.out _ ⟨by assumption, by assumption, by assumption, by assumption, by assumption⟩).mono ?_; rintro e w' ⟨rfl, x0', x1', x2', x3', x4'⟩)
    | (go_at_call 13; with_reducible refine (HRK.out _ ⟨by assumption, by assumption, by assumption, by assumption, by assumption⟩).mono ?_; rintro e w' ⟨rfl, x0', x1', x2', x3', x4'⟩)
    | (go_at_call 14; with_reducible refine (HRR.out _ ⟨by assumption, by assumption, by assumption, by assumption, by assumption⟩).mono ?_; rintro e w' ⟨rfl, x0', x1', x2', x3', x4'⟩)
    | (go_at_call 15; with_reducible refine (HEN.out _ ⟨by assumption, by assumption, by assumption, by assumption, by assumption⟩).mono ?_; rintro e w' ⟨rfl, x0', x1', x2', x3', x4'⟩)
    | (go_at_call 16; with_reducible refine (HER.out _ ⟨by assumption, by assumption, by assumption, by assumption, by assumption⟩).mono ?_; rintro e w' ⟨rfl, x0', x1', x2', x3', x4'⟩)))
  have HX4 := Lib.hid x4'
  go_loopg [26, 78] A.length (fun g s j wr => ∃ (i : Nat) (m : Int), i ≤ A.length ∧ g = A.length - i ∧ j = .int .i64 i ∧ s = .int .u64 m ∧ m = sumP (A.take i) ∧ Below w2.heap.size w2 wr)
  case atStart => exact ⟨0, 0, Nat.zero_le _, rfl, rfl, rfl, rfl, HX4.out⟩
  case round =>
    clear x0' x1' x2' x3' x4'
    obtain ⟨i, m, hi, rfl, rfl, rfl, hm, hb3⟩ := hrel
    have HM := Lib.hid hm
    have hz3 := hb3.size
    by_cases hlt : i < A.length
    · have kl : (i : Int) < A.length := by omega
      have hxk : A[i]? = some A[i] := List.getElem?_eq_getElem hlt
      generalize hit : A[i] = p at *
      obtain ⟨px, pc⟩ := p
      obtain ⟨bb, off, rfl, hbl, c0', c1'⟩ := (HV2.out.call hb3).at_ i _ hxk
      have hok := HV2.out.ok _ (List.mem_of_getElem? hxk)
      have HS := Lib.hid (show sumP (A.take (i + 1)) = sumP (A.take i) + pc by rw [take_snocP hxk, sumP_app, sumP_one])
      have h1 := HPO.out (i + 1)
      have h2 := HPO.out i
      rw [HS.out, ← hm] at h1
      rw [← hm] at h2
      obtain ⟨⟨o1, o2⟩, o3, o4⟩ := hok
      simp only at c0' c1' o1 o2 o3 o4
      clear hxk hit hm
      go_wp2_with fail
      go_roundg (A.length - (i + 1))
      case measure => omega
      case rel => exact ⟨i + 1, m + pc, by omega, rfl, by go_num, rfl, by rw [HS.out, HM.out], hb3.alloc hz3 _⟩
    · obtain rfl : i = A.length := by omega
      have kl : ¬ (A.length : Int) < A.length := by omega
      rw [List.take_length, HT.out] at hm
      subst hm
      have HS0 : Hid (wr.drew.cell? ⟨M, 2, none⟩ = some (.slice aR R.length kR) ∧ Below w2.heap.size w2 wr.drew) := Lib.hid ⟨cell_later hb3.drew HC2.out, hb3.drew⟩
      have HST := Lib.hid (fun (W W' : World) (h : W.cell? ⟨M, 2, none⟩ = some (.slice aR R.length kR) ∧ Below w2.heap.size w2 W) (hb : Below W.heap.size W W') => (⟨cell_later hb h.1, h.2.trans (hb.mono h.2.size)⟩ : W'.cell? ⟨M, 2, none⟩ = some (.slice aR R.length kR) ∧ Below w2.heap.size w2 W'))
      have HB3 := Lib.hid hb3
      clear hb3
      go_wp2_with fail
      go_region_held3 (fun w' => w'.cell? ⟨M, 2, none⟩ = some (.slice aR R.length kR) ∧ Below w2.heap.size w2 w')
        (first | exact HS0.out | exact HST.out _ _ (by assumption) hbA | exact HST.out _ _ (by assumption) hbB | exact HST.out _ _ (by assumption) hbC | assumption)
        ((first
          | (go_at_call 18; with_reducible refine (HNO.out _ (And.right (by assumption))).mono ?_; rintro e wA ⟨a1, k1', rfl, hp1, hbA⟩)
          | (go_at_call 17; with_reducible refine (HSM.out _ _ _ (by assumption) (And.right (by assumption))).mono ?_; rintro e wB ⟨rfl, hbB⟩)
          | (go_at_call 19; with_reducible refine (HTO.out _ (And.right (by assumption))).mono ?_; rintro e wC ⟨rfl, hbC⟩)))
      all_goals
        rename_i hHeld
        have hb9 := HB2.out.trans (hHeld.2.mono HB2.out.size)
        go_wp2_with fail
        go_ret
        exact ⟨rfl, hb9⟩
end Go.Proofs.YthjcdbnjmpjikaaGreat

/-
  The law DigestClose, walked from the contract.
-/
namespace Go.Proofs.YthjcdbnjmpjikaaGreat
set_option linter.unusedVariables false
set_option linter.unusedSimpArgs false
open Go.RowKit

/-- What Quantile answers is close to the place. -/
theorem find_closeG {b k : Nat} {R A : List PairV} (h : DigP b k R A) (hk : 1 ≤ k) {t : Int} (h1 : 1 ≤ t) (h2 : t ≤ sumP R) :
    0 ≤ findD b R t ∧ findD b R t < ((2 ^ b : Nat) : Int) ∧ t ≤ whereP (fun y => decide (y ≤ findD b R t)) A ∧ whereP (fun y => decide (y ≤ findD b R t - 1)) A ≤ t + b * (sumP R / k) := by
  obtain ⟨p, hp, p1, p2⟩ := ahead_ex (b := b) h.good h.node h1 R.length (fun _ => true) (List.length_filter_le _ _) (by rw [where_all]; exact h2) (fun _ _ _ _ _ _ => rfl)
  have ha : asksD b R t p = true := by unfold asksD; rw [decide_eq_true p1, decide_eq_true p2]; rfl
  unfold findD
  cases hf : R.find? (asksD b R t) with
  | none => rw [List.find?_eq_none] at hf; exact absurd ha (hf p hp)
  | some q =>
    have hq := List.mem_of_find?_eq_some hf
    have hq2 := List.find?_some hf
    unfold asksD at hq2
    rw [Bool.and_eq_true, decide_eq_true_eq, decide_eq_true_eq] at hq2
    obtain ⟨i1, i2⟩ := hi_in (h.node q hq)
    obtain ⟨j1, j2⟩ := h.close (by omega) hq hq2.1 hq2.2
    exact ⟨i1, i2, j1, j2⟩

set_option maxRecDepth 100000 in
set_option maxHeartbeats 8000000 in
theorem digest_close_walk {Dg : DgT} (D : DigDoes Dg) (d f : Int) (A : List PairV) (a : Option Addr) (cap : Nat) (pa pb x : Int) (hd : I64 d) (hf : I64 f) (wa : Word pa) (wb : Word pb) (hx : I64 x) (w : World) (hA : Pairs w a A) (hl : A.length ≤ 140737488351232) :
    Calls Tryz.prog 4 #[.agg #[.int .i64 d, .int .i64 f], .slice a A.length cap, .agg #[.int .u64 pa, .int .u64 pb], .int .i64 x] w fun e w' => e = .returned (.bool true) ∧ Below w.heap.size w w' := by
  have HD := Lib.hid D
  have HA := Lib.hid hA
  have HAL := Lib.hid (fun W => alive17_any D W)
  have HBD := Lib.hid (fun W hW => build17_any D W d f A a cap hd hf hW hl)
  have HBX := Lib.hid (boxes_new w (.int .i64 d) (.int .i64 f) (.int .u64 pa) (.int .u64 pb) 23 27)
  obtain ⟨c0, c1, p0, p1, b0⟩ := HBX.out
  have HWA := Lib.hid wa
  have HWB := Lib.hid wb
  have HX := Lib.hid hx
  clear hA D
  go_enter Tryz.func4, Tryz.ntmps4
  go_wp2_with fail
  refine (HAL.out _).mono ?_
  rintro e w1 ⟨rfl, b1'⟩
  have HB1 := Lib.hid (boxg_later HBX.out b1')
  clear c0 c1 p0 p1 b0 b1' HBX
  obtain ⟨c0, c1, p0, p1, b1⟩ := HB1.out
  go_wp2_with fail
  refine (HBD.out _ (HA.out.call b1)).mono ?_
  rintro e w2 (⟨B, S, M, b, k, v, rfl, rfl, rfl, q1, q2, q3, q4, hfi, hl60, hdg, hrg, hS, hM, hSM, hvS, b2'⟩ | ⟨rfl, b2'⟩)
  case inr =>
    have b2 := b1.trans (b2'.mono b1.size)
    go_wp2_with fail
    go_ret
    exact ⟨rfl, b2⟩
  have HB2 := Lib.hid (b1.trans (b2'.mono b1.size))
  obtain ⟨d0, d1, e0, e1, _⟩ := boxg_later HB1.out b2'
  have HH := hfi.has (k := k) q3 (by omega)
  have hsA := (fineG_sum hfi).2
  have hsA0 := (fineG_sum hfi).1
  have hsZ : A ≠ [] → 0 < sumP A := fun h => fineG_sum0 hfi h
  have hrow := HH.row (by omega)
  have hsR := HH.dig.sum
  have hfew := HH.few
  generalize hR : rowD b k A = R at *
  obtain ⟨T, hT⟩ : ∃ T, sumP A = T := ⟨_, rfl⟩
  rw [hT] at hsR hsA hsA0 hsZ
  have HV2 := Lib.hid (HA.out.call HB2.out)
  obtain ⟨n1, hn1⟩ : ∃ n1, whereP (fun v => decide (hiD b v ≤ x)) R = n1 := ⟨_, rfl⟩
  obtain ⟨n2, hn2⟩ : ∃ n2, whereP (fun v => decide (loD b v ≤ x)) R = n2 := ⟨_, rfl⟩
  obtain ⟨n0, hn0⟩ : ∃ n0, whereP (fun y => decide (y ≤ x)) A = n0 := ⟨_, rfl⟩
  have hlow := HH.dig.low x
  have hhigh := HH.dig.high x
  rw [hn1, hn0] at hlow
  rw [hn2, hn0] at hhigh
  have HRK := Lib.hid (fun W (h : BoxG w.heap.size (.int .i64 b) (.int .i64 k) (.int .u64 pa) (.int .u64 pb) w2 W) => boxg_calls (HD.out.rank W B S b k R _ x n1 n2 (HD.out.call hdg h.2.2.2.2) HX.out hn1 hn2) h)
  have HUP := Lib.hid (fun W y n (hy : I64 y) (hn : whereP (fun u => decide (u ≤ y)) A = n) (h : Below w2.heap.size w2 W) => rup17_any W a cap A y n (HV2.out.call h) hy (by omega) (by rw [hT]; omega) hn)
  have HUX := Lib.hid (fun W (h : BoxG w.heap.size (.int .i64 b) (.int .i64 k) (.int .u64 pa) (.int .u64 pb) w2 W) => boxg_calls (HUP.out W x n0 HX.out hn0 h.2.2.2.2) h)
  have HGD := Lib.hid (fun W (h : BoxG w.heap.size (.int .i64 b) (.int .i64 k) (.int .u64 pa) (.int .u64 pb) w2 W) => boxg_calls (rgood_any pa pb HWA.out HWB.out W) h)
  have HTO := Lib.hid (fun W (h : Below w2.heap.size w2 W) => HD.out.total W B S b k R _ (HD.out.call hdg h))
  rw [hsR] at HTO
  have r1 : ¬ n0 < n1 := by omega
  have r2 : ¬ n2 < n0 := by omega
  have bz : Below w2.heap.size w2 w2 := Below.refl _ _
  have HDG := Lib.hid hdg
  have HHH := Lib.hid HH
  have HSR := Lib.hid hsR
  have HTT := Lib.hid hT
  clear hdg hrg hS hM hSM hvS hfi HH hR hn1 hn2 hn0 hlow hhigh hsR hrow hT b2' HBD HAL
  obtain ⟨gd, hgd⟩ : ∃ gd, gdB pa pb = gd := ⟨_, rfl⟩
  rw [hgd] at HGD
  cases gd with
  | false =>
    clear hsZ
    go_wp2_with ((first
      | (go_at_call 13; with_reducible refine (HRK.out _ ⟨by assumption, by assumption, by assumption, by assumption, by assumption⟩).mono ?_; rintro e w' ⟨rfl, x0', x1', x2', x3', x4'⟩)
      | (go_at_call 20; with_reducible refine (HUX.out _ ⟨by assumption, by assumption, by assumption, by assumption, by assumption⟩).mono ?_; rintro e w' ⟨rfl, x0', x1', x2', x3', x4'⟩)
      | (go_at_call 21; with_reducible refine (HGD.out _ ⟨by assumption, by assumption, by assumption, by assumption, by assumption⟩).mono ?_; rintro e w' ⟨rfl, x0', x1', x2', x3', x4'⟩)))
    go_ret
    exact ⟨rfl, HB2.out.trans (x4'.mono HB2.out.size)⟩
  | true =>
    by_cases hA0 : A = []
    · have hz : ((A.length : Int) == 0) = true := by rw [hA0]; rfl
      clear hsZ hA0
      go_wp2_with ((first
        | (go_at_call 13; with_reducible refine (HRK.out _ ⟨by assumption, by assumption, by assumption, by assumption, by assumption⟩).mono ?_; rintro e w' ⟨rfl, x0', x1', x2', x3', x4'⟩)
        | (go_at_call 20; with_reducible refine (HUX.out _ ⟨by assumption, by assumption, by assumption, by assumption, by assumption⟩).mono ?_; rintro e w' ⟨rfl, x0', x1', x2', x3', x4'⟩)
        | (go_at_call 21; with_reducible refine (HGD.out _ ⟨by assumption, by assumption, by assumption, by assumption, by assumption⟩).mono ?_; rintro e w' ⟨rfl, x0', x1', x2', x3', x4'⟩)))
      go_ret
      exact ⟨rfl, HB2.out.trans (x4'.mono HB2.out.size)⟩
    · have hT0 := hsZ hA0
      have hTw : Word T := ⟨by omega, by omega⟩
      obtain ⟨g1, g2, g3⟩ : plE pa pb T = 0 ∧ 1 ≤ plV pa pb T ∧ plV pa pb T ≤ T := by
        have h0 : ¬ T = 0 := by omega
        have := pl_spec HWA.out HWB.out hTw hgd h0
        exact ⟨(pl_good hgd h0).2, this.1, this.2.1⟩
      have hz : ((A.length : Int) == 0) = false := by
        have : A.length ≠ 0 := fun h => hA0 (List.eq_nil_of_length_eq_zero h)
        simp; omega
      have HPL := Lib.hid (fun W => rplace_any pa pb T HWA.out HWB.out hTw W)
      obtain ⟨t, ht⟩ : ∃ t, plV pa pb T = t := ⟨_, rfl⟩
      rw [g1, ht] at HPL
      rw [ht] at g2 g3
      obtain ⟨r, hr⟩ : ∃ r, findD b R t = r := ⟨_, rfl⟩
      have hq : quanG b R pa pb = (r, 0) := by unfold quanG; rw [HSR.out, if_pos g1, ht, hr]
      obtain ⟨z1, z2, z3, z4⟩ := find_closeG HHH.out.dig q3 g2 (by rw [HSR.out]; exact g3)
      rw [hr] at z1 z2 z3 z4
      rw [HSR.out] at z4
      have hp2 := pow_bdD q2
      have HQ := Lib.hid (fun W (h : BoxG w.heap.size (.int .i64 b) (.int .i64 k) (.int .u64 pa) (.int .u64 pb) w2 W) => boxg_calls (HD.out.quantile W B S b k R _ pa pb r 0 (HD.out.call HDG.out h.2.2.2.2) HWA.out HWB.out hq) h)
      obtain ⟨m1, hm1⟩ : ∃ m, whereP (fun y => decide (y ≤ r)) A = m := ⟨_, rfl⟩
      obtain ⟨m2, hm2⟩ : ∃ m, whereP (fun y => decide (y ≤ r - 1)) A = m := ⟨_, rfl⟩
      have HU1 := Lib.hid (fun W (h : Below w2.heap.size w2 W) => HUP.out W r m1 ⟨by omega, by omega⟩ hm1 h)
      have HU2 := Lib.hid (fun W (h : Below w2.heap.size w2 W) => HUP.out W (r - 1) m2 ⟨by omega, by omega⟩ hm2 h)
      rw [hm1] at z3
      rw [hm2] at z4
      obtain ⟨q, hqq⟩ : ∃ q, T / (k : Int) = q := ⟨_, rfl⟩
      rw [hqq] at z4
      have hq0 : 0 ≤ q ∧ q ≤ T := by rw [← hqq]; exact ⟨Int.ediv_nonneg (by omega) (by omega), Int.ediv_le_self _ (by omega)⟩
      obtain ⟨s, hs⟩ : ∃ s, (b : Int) * q = s := ⟨_, rfl⟩
      have hs0 : 0 ≤ s ∧ s ≤ 24 * T := by
        rw [← hs]
        refine ⟨Int.mul_nonneg (by omega) hq0.1, ?_⟩
        exact Int.le_trans (Int.mul_le_mul_of_nonneg_right (show (b : Int) ≤ 24 by omega) hq0.1) (Int.mul_le_mul_of_nonneg_left hq0.2 (by omega))
      rw [hs] at z4
      have l60 : (A.length : Int) ≤ 60 := by omega
      have u1 : IntKind.u64.wrap (b : Int) = b := by rw [IntKind.wrap_u64]; omega
      have u2 : IntKind.u64.wrap (k : Int) = k := by rw [IntKind.wrap_u64]; omega
      have u3 : T.tdiv (k : Int) = q := by rw [Int.tdiv_eq_ediv_of_nonneg (by omega)]; exact hqq
      have u4 : IntKind.u64.wrap q = q := by rw [IntKind.wrap_u64]; omega
      have u5 : IntKind.u64.wrap s = s := by rw [IntKind.wrap_u64]; omega
      have u6 : IntKind.u64.wrap (t + s) = t + s := by rw [IntKind.wrap_u64]; omega
      have u7 : IntKind.i64.wrap (r - 1) = r - 1 := by rw [IntKind.wrap_i64]; omega
      have u8 : ¬ (k : Int) = 0 := by omega
      have u9 : ¬ k = 0 := by omega
      have u10 : ((k : Int) == 0) = false := by simp; omega
      have v1 : decide (t ≤ m1) = true := decide_eq_true z3
      have v2 : decide (m2 ≤ t + s) = true := decide_eq_true z4
      have t1 : ((0 : Int) == 0) = true := rfl
      clear hsZ hr ht hm1 hm2 hqq hq hgd z1 z2 hp2 hq0 hs0 g1 l60 hTw
      go_wp2_with ((first
        | (go_at_call 13; with_reducible refine (HRK.out _ ⟨by assumption, by assumption, by assumption, by assumption, by assumption⟩).mono ?_; rintro e w' ⟨rfl, x0', x1', x2', x3', x4'⟩)
        | (go_at_call 20; with_reducible refine (HUX.out _ ⟨by assumption, by assumption, by assumption, by assumption, by assumption⟩).mono ?_; rintro e w' ⟨rfl, x0', x1', x2', x3', x4'⟩)
        | (go_at_call 21; with_reducible refine (HGD.out _ ⟨by assumption, by assumption, by assumption, by assumption, by assumption⟩).mono ?_; rintro e w' ⟨rfl, x0', x1', x2', x3', x4'⟩)))
      have HS0 := Lib.hid (show BoxG w.heap.size (.int .i64 b) (.int .i64 k) (.int .u64 pa) (.int .u64 pb) w2 w'.drew from ⟨cell_later (Below.refl _ _).drew x0', cell_later (Below.refl _ _).drew x1', cell_later (Below.refl _ _).drew x2', cell_later (Below.refl _ _).drew x3', x4'.drew⟩)
      have HST := Lib.hid (fun (W W' : World) (h : BoxG w.heap.size (.int .i64 b) (.int .i64 k) (.int .u64 pa) (.int .u64 pb) w2 W) (hb : Below W.heap.size W W') => boxg_later h hb)
      clear x0' x1' x2' x3' x4'
      go_region_held3 (fun w' => w'.cell? ⟨w.heap.size, 0, none⟩ = some (.int .i64 b) ∧ w'.cell? ⟨w.heap.size, 1, none⟩ = some (.int .i64 k) ∧ w'.cell? ⟨w.heap.size + 1, 0, none⟩ = some (.int .u64 pa) ∧ w'.cell? ⟨w.heap.size + 1, 1, none⟩ = some (.int .u64 pb) ∧ Below w2.heap.size w2 w')
        (first | exact HS0.out | exact HST.out _ _ (by assumption) hbA | exact HST.out _ _ (by assumption) hbB | assumption)
        ((first
          | (go_at_call 19; with_reducible refine (HTO.out _ (And.right (And.right (And.right (And.right (by assumption)))))).mono ?_; rintro e wA ⟨rfl, hbA⟩)
          | (go_at_call 22; with_reducible refine (HPL.out _).mono ?_; rintro e wB ⟨rfl, hbB⟩)))
      rename_i hHeld
      have HH2 := Lib.hid hHeld
      obtain ⟨x0', x1', x2', x3', x4'⟩ := hHeld
      clear HS0
      go_wp2_with fail
      refine (HQ.out _ ⟨by assumption, by assumption, by assumption, by assumption, by assumption⟩).mono ?_
      rintro e w8 ⟨rfl, y0', y1', y2', y3', y4'⟩
      have HS0 := Lib.hid (show BoxG w.heap.size (.int .i64 b) (.int .i64 k) (.int .u64 pa) (.int .u64 pb) w2 w8.drew from ⟨cell_later (Below.refl _ _).drew y0', cell_later (Below.refl _ _).drew y1', cell_later (Below.refl _ _).drew y2', cell_later (Below.refl _ _).drew y3', y4'.drew⟩)
      clear x0' x1' x2' x3' x4' y0' y1' y2' y3' y4' HH2
      go_wp2_with fail
      go_region_held3 (fun w' => w'.cell? ⟨w.heap.size, 0, none⟩ = some (.int .i64 b) ∧ w'.cell? ⟨w.heap.size, 1, none⟩ = some (.int .i64 k) ∧ w'.cell? ⟨w.heap.size + 1, 0, none⟩ = some (.int .u64 pa) ∧ w'.cell? ⟨w.heap.size + 1, 1, none⟩ = some (.int .u64 pb) ∧ Below w2.heap.size w2 w')
        (first | exact HS0.out | exact HST.out _ _ (by assumption) hbA | exact HST.out _ _ (by assumption) hbB | exact HST.out _ _ (by assumption) hbC | assumption)
        ((first
          | (go_at_call 19; with_reducible refine (HTO.out _ (And.right (And.right (And.right (And.right (by assumption)))))).mono ?_; rintro e wA ⟨rfl, hbA⟩)
          | (go_at_call 20; with_reducible refine (HU1.out _ (And.right (And.right (And.right (And.right (by assumption)))))).mono ?_; rintro e wB ⟨rfl, hbB⟩)
          | (go_at_call 20; with_reducible refine (HU2.out _ (And.right (And.right (And.right (And.right (by assumption)))))).mono ?_; rintro e wC ⟨rfl, hbC⟩)))
      all_goals
        rename_i hHeld
        obtain ⟨_, _, _, _, hb9⟩ := hHeld
        go_wp2_with fail
        go_ret
        exact ⟨rfl, HB2.out.trans (hb9.mono HB2.out.size)⟩
end Go.Proofs.YthjcdbnjmpjikaaGreat

/-
  Plain mathematics for the law DigestLoads: what a digest of values has can be loaded; what the law asks of a row, pair by pair.
-/
namespace Go.Proofs.YthjcdbnjmpjikaaGreat
set_option linter.unusedVariables false
set_option linter.unusedSimpArgs false
open Go.RowKit

theorem end_in {b : Nat} {A : List PairV} (hf : FineG b A) {x y : Int} {z : Bool} (he : endAD A = (x, y, z)) : 0 ≤ x ∧ x ≤ y ∧ y < ((2 ^ b : Nat) : Int) ∧ (A = [] → y = 0) := by
  have hp := Nat.two_pow_pos b
  by_cases hA : A = []
  · subst hA
    have e : endAD [] = (0, 0, false) := rfl
    rw [e] at he
    obtain ⟨rfl, rfl, rfl⟩ : 0 = x ∧ 0 = y ∧ false = z := by simpa using he
    exact ⟨by omega, by omega, by omega, fun _ => rfl⟩
  · have e : endAD A = (loVD A, hiVD A, true) := by unfold endAD; rw [if_neg hA]
    rw [e] at he
    obtain ⟨rfl, rfl, rfl⟩ : loVD A = x ∧ hiVD A = y ∧ true = z := by simpa using he
    obtain ⟨⟨u, hu, eu⟩, h1⟩ := lov_factsD hA
    obtain ⟨⟨v, hv, ev⟩, h2⟩ := hiv_factsD hA
    have a1 := (hf u hu).1
    have a2 := (hf v hv).1
    have a3 := h1 v hv
    exact ⟨by omega, by omega, by omega, fun h => absurd h hA⟩
/-- What a digest of values has can be loaded. -/
theorem load_fits {b k : Nat} {R A : List PairV} (h : HasG b k R A) (hf : FineG b A) (hs : sumP A ≤ 9223372036854775807) {x y : Int} {z : Bool} (he : endAD A = (x, y, z)) : loadG b k R x y = true := by
  obtain ⟨e1, e2, e3, e4⟩ := end_in hf he
  have hg : goodB R = true := goodB_true.2 h.dig.good
  have h1 : (R.all fun p => decide (1 ≤ p.1) && decide (p.1 < ((2 ^ (b + 1) : Nat) : Int))) = true := by
    rw [List.all_eq_true]
    intro p hp
    obtain ⟨a1, a2⟩ := h.dig.node p hp
    rw [decide_eq_true a1, decide_eq_true a2]; rfl
  have h2 : (R.all fun p => decide (((2 ^ b : Nat) : Int) ≤ p.1) || decide (p.2 ≤ sumP R / k)) = true := by
    rw [List.all_eq_true]
    intro p hp
    by_cases c : ((2 ^ b : Nat) : Int) ≤ p.1
    · rw [decide_eq_true c]; rfl
    · rw [decide_eq_true (h.dig.small p hp (by omega)), Bool.or_true]
  have h3 : (!R.isEmpty || y == 0) = true := by
    cases hR : R with
    | nil =>
      have hA : A = [] := by
        apply Classical.byContradiction
        intro hA
        have := fineG_sum0 hf hA
        have := h.dig.sum
        rw [hR, sumP_nil] at this
        omega
      rw [e4 hA]; rfl
    | cons p r => rfl
  unfold loadG
  rw [hg, h1, h2, h3, decide_eq_true h.few, decide_eq_true (by rw [h.dig.sum]; exact hs), decide_eq_true e1, decide_eq_true e2, decide_eq_true e3]; rfl
/-- The sum of the pairs up to one, and whether all of them are nodes and it fits: what the law's first loop reckons. -/
def wantN (b : Nat) (L : List PairV) (n : Nat) : Bool := decide (sumP (L.take n) ≤ 9223372036854775807) && (L.take n).all fun p => decide (1 ≤ p.1) && decide (p.1 < ((2 ^ (b + 1) : Nat) : Int))
theorem wantN_zero (b : Nat) (L : List PairV) : wantN b L 0 = true := rfl
theorem wantN_all {b : Nat} {L : List PairV} : wantN b L L.length = (decide (sumP L ≤ 9223372036854775807) && L.all fun p => decide (1 ≤ p.1) && decide (p.1 < ((2 ^ (b + 1) : Nat) : Int))) := by unfold wantN; rw [List.take_length]
theorem wantN_next {b : Nat} {L : List PairV} {n : Nat} {p : PairV} (h : L[n]? = some p) (hp : ∀ q, q ∈ L → 0 ≤ q.2) : wantN b L (n + 1) = (wantN b L n && (decide (sumP (L.take (n + 1)) ≤ 9223372036854775807) && (decide (1 ≤ p.1) && decide (p.1 < ((2 ^ (b + 1) : Nat) : Int))))) := by
  have hs : sumP (L.take n) ≤ sumP (L.take (n + 1)) := by
    have := hp p (List.mem_of_getElem? h)
    rw [take_snocP h, sumP_app, sumP_one]; omega
  unfold wantN
  rw [take_snocP h, List.all_append, ← take_snocP h]
  have e : ([p].all fun p => decide (1 ≤ p.1) && decide (p.1 < ((2 ^ (b + 1) : Nat) : Int))) = (decide (1 ≤ p.1) && decide (p.1 < ((2 ^ (b + 1) : Nat) : Int))) := by simp
  rw [e]
  by_cases c : sumP (L.take (n + 1)) ≤ 9223372036854775807
  · rw [decide_eq_true c, decide_eq_true (by omega : sumP (L.take n) ≤ 9223372036854775807)]; simp
  · rw [decide_eq_false c]; simp
theorem wantN_mono {b : Nat} {L : List PairV} {n : Nat} (hp : ∀ q, q ∈ L → 0 ≤ q.2) (h : wantN b L n = false) : ∀ m, n ≤ m → m ≤ L.length → wantN b L m = false
  | 0, hm, _ => by
    obtain rfl : n = 0 := by omega
    exact h
  | m + 1, hm, hl => by
    by_cases c : n = m + 1
    · rw [← c]; exact h
    · have hx := List.getElem?_eq_getElem (l := L) (i := m) (by omega)
      rw [wantN_next hx hp, wantN_mono hp h m (by omega) (by omega)]; rfl
/-- What the law's second loop reckons. -/
def smallN (b : Nat) (q : Int) (L : List PairV) (n : Nat) : Bool := (L.take n).all fun p => decide (((2 ^ b : Nat) : Int) ≤ p.1) || decide (p.2 ≤ q)
theorem smallN_zero (b : Nat) (q : Int) (L : List PairV) : smallN b q L 0 = true := rfl
theorem smallN_all (b : Nat) (q : Int) (L : List PairV) : smallN b q L L.length = L.all fun p => decide (((2 ^ b : Nat) : Int) ≤ p.1) || decide (p.2 ≤ q) := by unfold smallN; rw [List.take_length]
theorem smallN_next {b : Nat} {q : Int} {L : List PairV} {n : Nat} {p : PairV} (h : L[n]? = some p) : smallN b q L (n + 1) = (smallN b q L n && (decide (((2 ^ b : Nat) : Int) ≤ p.1) || decide (p.2 ≤ q))) := by
  unfold smallN
  rw [take_snocP h, List.all_append]
  simp
theorem smallN_mono {b : Nat} {q : Int} {L : List PairV} {n : Nat} (h : smallN b q L n = false) : ∀ m, n ≤ m → m ≤ L.length → smallN b q L m = false
  | 0, hm, _ => by
    obtain rfl : n = 0 := by omega
    exact h
  | m + 1, hm, hl => by
    by_cases c : n = m + 1
    · rw [← c]; exact h
    · rw [smallN_next (List.getElem?_eq_getElem (l := L) (i := m) (by omega)), smallN_mono h m (by omega) (by omega)]; rfl
/-- What the law asks ahead of its loops. -/
def preN (b k : Nat) (L : List PairV) (lo hi : Int) : Bool := goodB L && decide (L.length ≤ 4 * k) && decide (0 ≤ lo) && decide (lo ≤ hi) && decide (hi < ((2 ^ b : Nat) : Int)) && (!L.isEmpty || hi == 0)
theorem load_parts (b k : Nat) (L : List PairV) (lo hi : Int) : loadG b k L lo hi = (preN b k L lo hi && wantN b L L.length && smallN b (sumP L / k) L L.length) := by
  rw [wantN_all, smallN_all]
  unfold loadG preN
  generalize goodB L = c1
  generalize decide (L.length ≤ 4 * k) = c2
  generalize (L.all fun p => decide (1 ≤ p.1) && decide (p.1 < ((2 ^ (b + 1) : Nat) : Int))) = c3
  generalize decide (sumP L ≤ 9223372036854775807) = c4
  generalize (L.all fun p => decide (((2 ^ b : Nat) : Int) ≤ p.1) || decide (p.2 ≤ sumP L / k)) = c5
  generalize decide (0 ≤ lo) = c6
  generalize decide (lo ≤ hi) = c7
  generalize decide (hi < ((2 ^ b : Nat) : Int)) = c8
  generalize (!L.isEmpty || hi == 0) = c9
  cases c1 <;> cases c2 <;> cases c3 <;> cases c4 <;> cases c5 <;> simp
/-- The ways the six tests can go. -/
theorem pre_cases (b k : Nat) (lv : Nat) (hlv : 2 ^ b = lv) (L : List PairV) (lo hi : Int) :
    (goodB L = false ∧ preN b k L lo hi = false) ∨
    (goodB L = true ∧ decide ((L.length : Int) ≤ 4 * (k : Int)) = false ∧ preN b k L lo hi = false) ∨
    (goodB L = true ∧ decide ((L.length : Int) ≤ 4 * (k : Int)) = true ∧ decide (0 ≤ lo) = false ∧ preN b k L lo hi = false) ∨
    (goodB L = true ∧ decide ((L.length : Int) ≤ 4 * (k : Int)) = true ∧ decide (0 ≤ lo) = true ∧ decide (lo ≤ hi) = false ∧ preN b k L lo hi = false) ∨
    (goodB L = true ∧ decide ((L.length : Int) ≤ 4 * (k : Int)) = true ∧ decide (0 ≤ lo) = true ∧ decide (lo ≤ hi) = true ∧ decide (hi < (lv : Int)) = false ∧ preN b k L lo hi = false) ∨
    (goodB L = true ∧ decide ((L.length : Int) ≤ 4 * (k : Int)) = true ∧ decide (0 ≤ lo) = true ∧ decide (lo ≤ hi) = true ∧ decide (hi < (lv : Int)) = true ∧ decide (0 < (L.length : Int)) = true ∧ preN b k L lo hi = true) ∨
    (goodB L = true ∧ decide ((L.length : Int) ≤ 4 * (k : Int)) = true ∧ decide (0 ≤ lo) = true ∧ decide (lo ≤ hi) = true ∧ decide (hi < (lv : Int)) = true ∧ decide (0 < (L.length : Int)) = false ∧ (hi == 0) = true ∧ preN b k L lo hi = true) ∨
    (goodB L = true ∧ decide ((L.length : Int) ≤ 4 * (k : Int)) = true ∧ decide (0 ≤ lo) = true ∧ decide (lo ≤ hi) = true ∧ decide (hi < (lv : Int)) = true ∧ decide (0 < (L.length : Int)) = false ∧ (hi == 0) = false ∧ preN b k L lo hi = false) := by
  have e1 : decide ((L.length : Int) ≤ 4 * (k : Int)) = decide (L.length ≤ 4 * k) := by
    by_cases c : L.length ≤ 4 * k
    · rw [decide_eq_true c, decide_eq_true (by omega)]
    · rw [decide_eq_false c, decide_eq_false (by omega)]
  have e2 : decide (0 < (L.length : Int)) = !L.isEmpty := by
    cases L with
    | nil => rfl
    | cons p r => simp
  unfold preN
  rw [e1, e2, hlv]
  cases goodB L <;> cases decide (L.length ≤ 4 * k) <;> cases decide (0 ≤ lo) <;> cases decide (lo ≤ hi) <;> cases decide (hi < (lv : Int)) <;> cases L.isEmpty <;> cases hi == 0 <;> simp
/-- The reference's Good, of any number. -/
theorem good16_any (W : World) {b : Nat} (hb : b ≤ 24) {v : Int} (hv : I64 v) :
    Calls Tryz.prog 27 #[.int .i64 b, .int .i64 v] W fun e w' => e = .returned (.bool (decide (1 ≤ v) && decide (v < ((2 ^ (b + 1) : Nat) : Int)))) ∧ Below W.heap.size W w' :=
  rgood16_any W b hb v hv _ (by
    unfold goodT
    have e : ((2 ^ (b + 1) : Nat) : Int) = 2 ^ (b + 1) := by rw [Int.natCast_pow]; rfl
    rw [e])
end Go.Proofs.YthjcdbnjmpjikaaGreat
