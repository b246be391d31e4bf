/-
  Walk: the library's slices.Insert of one pair into a row of pairs that may be written: in its own room, or in a new block.
-/
import Derived.Test.YtnhhehinbobknaaStripR
import Derived.Lib.AppendZerosOnto
import Derived.Lib.JoinLaws
import Derived.Lib.Overlaps
import Derived.Lib.SmallJoins
import Derived.Laws.CopyRow
import Derived.Laws.NewBlocks
namespace Go.Proofs.Ytnhhehinbobknaa
set_option linter.unusedVariables false
set_option linter.unusedSimpArgs false
open Go.RowKit

/-- Putting v between A and H, where there is room behind. -/
theorem shift_in {A H R v : List Value} {a h : Nat} (hA : A.length = a) (hH : H.length = h) (hv : v.length = 2) :
    (((A ++ H ++ R).take (a + 2) ++ H ++ (A ++ H ++ R).drop (a + 2 + h)).take a) ++ v ++ (((A ++ H ++ R).take (a + 2) ++ H ++ (A ++ H ++ R).drop (a + 2 + h)).drop (a + 2)) = A ++ v ++ H ++ R.drop 2 ∨ (A ++ H ++ R).length < a + 2 := by
  by_cases hl : (A ++ H ++ R).length < a + 2
  · exact Or.inr hl
  left
  subst hA hH
  have h1 : ((A ++ H ++ R).take (A.length + 2)).length = A.length + 2 := by rw [List.length_take]; omega
  have h2 : (A ++ H ++ R).drop (A.length + 2 + H.length) = R.drop 2 := by
    rw [List.drop_append, List.drop_of_length_le (by rw [List.length_append]; omega), List.nil_append, List.length_append]
    congr 1; omega
  have hT : List.take A.length ((A ++ H ++ R).take (A.length + 2)) = A := by
    rw [List.take_take, Nat.min_eq_left (by omega), List.append_assoc, List.take_left' rfl]
  rw [h2]
  generalize (A ++ H ++ R).take (A.length + 2) = T at *
  rw [List.append_assoc T, List.take_append_of_le_length (by omega), hT, List.drop_left' h1]
  simp
theorem shift_new {A H W v : List Value} {a h : Nat} (hA : A.length = a) (hH : H.length = h) (hv : v.length = 2) :
    ((((A ++ W).take a ++ v ++ (A ++ W).drop (a + 2)).take (a + 2)) ++ H ++ (((A ++ W).take a ++ v ++ (A ++ W).drop (a + 2)).drop (a + 2 + h))) = A ++ v ++ H ++ W.drop (2 + h) := by
  subst hA hH
  have h1 : (A ++ W).take A.length = A := by rw [List.take_append, List.take_length, Nat.sub_self, List.take_zero, List.append_nil]
  have h2 : (A ++ W).drop (A.length + 2) = W.drop 2 := by
    rw [List.drop_append, List.drop_of_length_le (by omega), List.nil_append]; congr 1; omega
  have h3 : (A ++ v).length = A.length + 2 := by rw [List.length_append]; omega
  rw [h1, h2, List.take_append, List.drop_append, List.take_of_length_le (by omega), h3, Nat.sub_self, List.take_zero, List.append_nil, List.drop_of_length_le (by omega), List.nil_append, List.drop_drop]
  congr 2; omega

/-- What a block's cells say of a row in it, and back. -/
theorem pairs_cells {w : World} {g off : Nat} {cs : Array Value} {L : List PairV} (h : Pairs w (some ⟨g, off, none⟩) L) (hg : w.heap[g]? = some (.cells cs 30 (0, 0))) (hl : off + L.length * 2 ≤ cs.size) :
    cs.toList = cs.toList.take off ++ cellsQ L ++ cs.toList.drop (off + L.length * 2) := by
  have hQ := cellsQ_len L
  have key : (cs.toList.drop off).take (L.length * 2) = cellsQ L := by
    apply List.ext_getElem?
    intro j
    by_cases hj : j < L.length * 2
    · rw [List.getElem?_take_of_lt hj, List.getElem?_drop]
      have hq := List.getElem?_eq_getElem (l := L) (i := j / 2) (by omega)
      obtain ⟨b', off', e, _, c0, c1⟩ := h.at_ (j / 2) _ hq
      obtain ⟨rfl, rfl, _⟩ := Addr.mk.inj (Option.some.inj e)
      obtain ⟨q0, q1⟩ := cellsQ_at L (j / 2) _ hq
      rw [Joins.cell_of_block hg] at c0 c1
      rcases Nat.mod_two_eq_zero_or_one j with h2 | h2
      · have e1 : j / 2 * 2 = j := by omega
        rw [e1] at q0 c0; rw [q0, ← c0]; simp
      · have e1 : j / 2 * 2 + 1 = j := by omega
        rw [Nat.add_assoc, e1] at c1; rw [e1] at q1; rw [q1, ← c1]; simp
    · rw [List.getElem?_eq_none (by rw [List.length_take]; omega), List.getElem?_eq_none (by omega)]
  rw [List.append_assoc, ← key]
  have h2 : (cs.toList.drop off).drop (L.length * 2) = cs.toList.drop (off + L.length * 2) := by rw [List.drop_drop]
  rw [← h2, List.take_append_drop, List.take_append_drop]
theorem cells_pairs {w : World} {g off : Nat} {cs : Array Value} {L : List PairV} (ok : ∀ p, p ∈ L → okP p) (hg : w.heap[g]? = some (.cells cs 30 (0, 0))) {P R : List Value} (hP : P.length = off) (hc : cs.toList = P ++ cellsQ L ++ R) :
    Pairs w (some ⟨g, off, none⟩) L := by
  refine ⟨ok, fun i p hi => ⟨g, off, rfl, lt_of_block hg, ?_, ?_⟩⟩
  all_goals
    obtain ⟨q0, q1⟩ := cellsQ_at L i p hi
    have hlt : i < L.length := by
      rcases Nat.lt_or_ge i L.length with h1 | h1
      · exact h1
      · rw [List.getElem?_eq_none h1] at hi; cases hi
    have hQ := cellsQ_len L
    rw [Joins.cell_of_block hg]
    have e : ∀ o, cs[o]? = cs.toList[o]? := fun o => Array.getElem?_toList.symm
    rw [e, hc, List.append_assoc, List.getElem?_append_right (by omega), List.getElem?_append_left (by omega)]
  · rw [show off + i * 2 - P.length = i * 2 by omega]; exact q0
  · rw [show off + i * 2 + 1 - P.length = i * 2 + 1 by omega]; exact q1

/-- copy at rows of pairs: all is read before anything is written. -/
theorem run_copy_pairs (w : World) (ty : TypeId) (g o dLen dCap : Nat) (a : Addr) (sLen sCap : Nat) (cur : Array Value) (t : TypeId) (k : Nat) (cs : List Value)
    (hg : w.heap[g]? = some (.cells cur t (0, 0))) (hk : k = Nat.min sLen dLen) (hn : cs.length = k * 2)
    (hsrc : ∀ j v, cs[j]? = some v → w.cell? (a.add j) = some v) (hfit : o + cs.length ≤ cur.size) (h1 : ∀ v ∈ cs, v.oneCell' = true) :
    (Builtin.copy_ #[41, 41] ty #[.slice (some ⟨g, o, none⟩) dLen dCap, .slice (some a) sLen sCap]).run Try.prog w =
      .ok (goInt k) (w.setRow g (cur.toList.take o ++ cs ++ cur.toList.drop (o + cs.length)).toArray) := by
  have hl := run_loadCells_list (P := Try.prog) w a cs hsrc
  have hst := run_storeCells_at Try.prog g o t cs 0 cur w hg (by simpa using hfit) h1
  obtain ⟨i0, hi, hz0, hz1, hz2⟩ := info_parts Try.infoPair
  simp [Builtin.copy_, run_underlying Try.underlying41, Builtin.lenOf, Builtin.firstCells, sizeOf, typeInfo, hi, hz1, ← hk, ← hn, hl, hst]
theorem run_copy_pairs0 (w : World) (ty : TypeId) (d a : Addr) (dLen dCap sLen sCap : Nat) (hk : Nat.min sLen dLen = 0) :
    (Builtin.copy_ #[41, 41] ty #[.slice (some d) dLen dCap, .slice (some a) sLen sCap]).run Try.prog w = .ok (goInt 0) w := by
  obtain ⟨i0, hi, hz0, hz1, hz2⟩ := info_parts Try.infoPair
  have hl : (loadCells a 0).run Try.prog w = .ok #[] w := run_loadCells_list (P := Try.prog) w a [] (fun j v hj => by simp at hj)
  simp [Builtin.copy_, run_underlying Try.underlying41, Builtin.lenOf, Builtin.firstCells, sizeOf, typeInfo, hi, hz1, hk, hl, storeCells]
end Go.Proofs.Ytnhhehinbobknaa

namespace Go.Proofs.Ytnhhehinbobknaa
set_option linter.unusedVariables false
set_option linter.unusedSimpArgs false
open Go.RowKit

theorem setCells_row {w : World} {g o : Nat} {cur : Array Value} {t : TypeId} {vs : List Value} (hg : w.heap[g]? = some (.cells cur t (0, 0))) (hl : o + vs.length ≤ cur.size) (h1 : ∀ v ∈ vs, v.oneCell' = true) :
    w.setCells g o vs = w.setRow g (cur.toList.take o ++ vs ++ cur.toList.drop (o + vs.length)).toArray := by
  have a := run_storeCells_at Try.prog g o t vs 0 cur w hg (by simpa using hl) h1
  have b := run_storeCells_cells (P := Try.prog) g o vs 0 w (fun j hj => by rw [Joins.cell_of_block hg, Array.getElem?_eq_getElem (by omega)]; rfl) (fun j hj => free8 hg _) h1
  rw [a] at b
  simp only [Nat.add_zero] at b
  injection b with _ b2
  exact b2.symm
theorem grown_setRow (w : World) (g : Nat) (cs : Array Value) : w.grownBy (w.setRow g cs) (some g) :=
  ⟨rfl, rfl, rfl, by simp [World.setRow], fun k hk hr => setRow_other w g k cs (fun e => hr (by rw [e]))⟩
theorem slab_of_cells {w : World} {g off cap : Nat} {X : Array Value} {L : List PairV} {P R : List Value} (ok : ∀ p, p ∈ L → okP p) (hg : w.heap[g]? = some (.cells X 30 (0, 0))) (hP : P.length = off) (hc : X.toList = P ++ cellsQ L ++ R)
    (hfit : L.length ≤ cap) (hr : off + cap * 2 ≤ X.size) (hcap : cap ≤ 9223372036854775807) : Slab w (some ⟨g, off, none⟩) cap L :=
  ⟨cells_pairs ok hg hP hc, hfit, Or.inr ⟨g, off, X, rfl, hg⟩, (fun g' off' cs' e hg' => by
    obtain ⟨rfl, rfl, _⟩ := Addr.mk.inj (Option.some.inj e)
    rw [hg] at hg'
    obtain ⟨rfl, _⟩ := Obj.cells.inj (Option.some.inj hg')
    exact hr), hcap⟩

/-- The pair that is put in, as its call lays it: in a block of its own. -/
structure OneP (w : World) (vb : Nat) (i c : Int) : Prop where
  blk : w.heap[vb]? = some (.cells #[.int .i64 i, .int .u64 c] 30 (0, 0))
theorem OneP.at_ {w : World} {vb : Nat} {i c : Int} (h : OneP w vb i c) : ∀ (j : Nat) (u : Value), [Value.int .i64 i, .int .u64 c][j]? = some u → w.cell? ((⟨vb, 0, none⟩ : Addr).add j) = some u := by
  intro j u hj
  rw [Addr.add_lit, Nat.zero_add, Joins.cell_of_block h.blk]
  rw [← hj]; simp

theorem cells_mid (lo hi : List PairV) (i c : Int) : cellsQ (lo ++ ((i, c) :: hi)) = cellsQ lo ++ [.int .i64 i, .int .u64 c] ++ cellsQ hi := by
  rw [cellsQ_app, cellsQ_cons]; simp [cellsP]

set_option maxRecDepth 100000 in
set_option maxHeartbeats 4000000 in
/-- At the end, where there is room. -/
theorem ins_end_room (w : World) (g off cap n vb : Nat) (L : List PairV) (i c : Int) (h : Slab w (some ⟨g, off, none⟩) cap L) (hn : L.length = n) (hlt : n < cap) (hv : OneP w vb i c) (hi : I64 i) (hc : Word c) :
    Calls Try.prog 31 #[.slice (some ⟨g, off, none⟩) n cap, .int .i64 n, .slice (some ⟨vb, 0, none⟩) 1 1] w (AddedV w (some ⟨g, off, none⟩) (L ++ [(i, c)])) := by
  obtain ⟨i0, hi0, hz0, hz1, hz2⟩ := info_parts Try.infoPair
  obtain ⟨cs, hg⟩ : ∃ cs, w.heap[g]? = some (.cells cs 30 (0, 0)) := by
    rcases h.blk with ⟨e, _⟩ | ⟨g', off', cs, e, hb⟩
    · cases e
    · obtain ⟨rfl, rfl, _⟩ := Addr.mk.inj (Option.some.inj e)
      exact ⟨cs, hb⟩
  have hr := h.room _ _ _ rfl hg
  have hcm := h.capm
  have hsrc : Src Try.prog i0.size 41 (.slice (some ⟨vb, 0, none⟩) 1 1) 1 [.int .i64 i, .int .u64 c] w := Src.ofSlice w Try.underlying41 ⟨vb, 0, none⟩ 1 1 _ (by rw [hz1]; rfl) hv.at_ (by intro u hu; simp at hu; rcases hu with rfl | rfl <;> rfl)
  have hE := setCells_row (o := off + n * i0.size) (vs := [.int .i64 i, .int .u64 c]) hg (by rw [hz1]; simp; omega) (by intro u hu; simp at hu; rcases hu with rfl | rfl <;> rfl)
  have hroom1 : ∀ j, j < [Value.int .i64 i, .int .u64 c].length → (w.cell? ⟨g, off + n * i0.size + j, none⟩).isSome = true := fun j hj => by
    rw [hz1, Joins.cell_of_block hg, Array.getElem?_eq_getElem (by simp at hj; omega)]; rfl
  have hfin : AddedV w (some ⟨g, off, none⟩) (L ++ [(i, c)]) (.returned (.slice (some ⟨g, off, none⟩) (n + 1) cap)) (w.setCells g (off + n * i0.size) [.int .i64 i, .int .u64 c]) := by
    rw [hE]
    have hc1 := pairs_cells h.pairs hg (by omega)
    have hT : (cs.toList.take off).length = off := by rw [List.length_take]; simp; omega
    have hQ := cellsQ_len L
    refine ⟨some ⟨g, off, none⟩, cap, by simp [hn], ?_, grown_setRow w g _, Or.inl rfl⟩
    refine slab_of_cells (P := cs.toList.take off) (R := (cs.toList.drop (off + L.length * 2)).drop 2) (by intro p hp; rcases List.mem_append.1 hp with h1 | h1; exact h.pairs.ok p h1; simp at h1; subst h1; exact ⟨hi, hc⟩) (setRow_heap w g _ _ _ _ hg) hT ?_ (by simp; omega) ?_ hcm
    · have e1 : cs.toList.take (off + n * i0.size) = cs.toList.take off ++ cellsQ L := by
        rw [hz1, ← hn, List.take_add]
        congr 1
        have : cs.toList.drop off = cellsQ L ++ cs.toList.drop (off + L.length * 2) := by
          conv => lhs; rw [hc1, List.append_assoc, List.drop_append, List.drop_of_length_le (by omega), hT, Nat.sub_self, List.drop_zero, List.nil_append]
        rw [this, List.take_append, ← hQ, List.take_length, Nat.sub_self, List.take_zero, List.append_nil]
      rw [e1, cellsQ_app, cellsQ_one', hz1, ← hn]
      simp [List.drop_drop]
    · rw [hz1]; simp; omega
  rw [hz1] at hfin
  have HF := Lib.hid hfin
  clear hfin hE hr
  go_enter Try.func31, Try.ntmps31
  go_wp2_with (at_builtin; refine wpList_append_room_src _ rfl (.tmp 23) (.tmp 24) 41 41 rfl 30 i0 Try.underlying41 hi0 g off n cap rfl _ rfl 1 _ hsrc hlt hroom1 (fun j hj => free8 hg _) ?_)
  go_ret
  exact HF.out

theorem zero_len (z : Array Value) (n : Nat) : (Builtin.zeroCells z n).size = n * z.size := by simp [Builtin.zeroCells]
theorem old_cells {w : World} {A : Option Addr} {cap : Nat} {L : List PairV} (h : Slab w A cap L) (sz k c2 : Nat) (hz : sz = 2) (hk : k ≤ L.length) : (Builtin.firstCells sz k (.slice A k c2)).run Try.prog w = .ok (cellsQ (L.take k)).toArray w := by
  subst hz
  have hlen : (L.take k).length = k := by rw [List.length_take]; omega
  rcases h.form with ⟨rfl, rfl, rfl⟩ | ⟨g, off, rfl⟩
  · have : k = 0 := by simpa using hk
    subst this
    exact run_firstCells_none w 2 0 0 c2
  · refine run_firstCells_some w 2 k ⟨g, off, none⟩ k c2 (cellsQ (L.take k)) (by rw [cellsQ_len, hlen]) fun j u hj => ?_
    have hjl : j < k * 2 := by
      rcases Nat.lt_or_ge j (k * 2) with h1 | h1
      · exact h1
      · rw [List.getElem?_eq_none (by rw [cellsQ_len, hlen]; omega)] at hj; cases hj
    have hq := List.getElem?_eq_getElem (l := L.take k) (i := j / 2) (by omega)
    have hq2 : L[j / 2]? = some ((L.take k)[j / 2]'(by omega)) := by rw [← hq, List.getElem?_take_of_lt (by omega)]
    obtain ⟨b', off', e, _, c0, c1⟩ := h.pairs.at_ (j / 2) _ hq2
    obtain ⟨rfl, rfl, _⟩ := Addr.mk.inj (Option.some.inj e)
    obtain ⟨q0, q1⟩ := cellsQ_at (L.take k) (j / 2) _ hq
    rw [Addr.add_lit]
    rcases Nat.mod_two_eq_zero_or_one j with h2 | h2
    · have e1 : j / 2 * 2 = j := by omega
      rw [e1] at q0 c0; rw [c0, ← hj, q0]
    · have e1 : j / 2 * 2 + 1 = j := by omega
      rw [Nat.add_assoc, e1] at c1; rw [e1] at q1; rw [c1, ← hj, q1]

set_option maxRecDepth 100000 in
set_option maxHeartbeats 4000000 in
/-- At the end, where there is no room: a new block. -/
theorem ins_end_grow (w : World) (A : Option Addr) (n vb : Nat) (L : List PairV) (i c : Int) (h : Slab w A n L) (hn : L.length = n) (hl : n ≤ 100000) (hv : OneP w vb i c) (hi : I64 i) (hc : Word c) :
    Calls Try.prog 31 #[.slice A n n, .int .i64 n, .slice (some ⟨vb, 0, none⟩) 1 1] w (AddedV w A (L ++ [(i, c)])) := by
  obtain ⟨i0, hi0, hz0, hz1, hz2⟩ := info_parts Try.infoPair
  have hsrc : Src Try.prog i0.size 41 (.slice (some ⟨vb, 0, none⟩) 1 1) 1 [.int .i64 i, .int .u64 c] w := Src.ofSlice w Try.underlying41 ⟨vb, 0, none⟩ 1 1 _ (by rw [hz1]; rfl) hv.at_ (by intro u hu; simp at hu; rcases hu with rfl | rfl <;> rfl)
  have hdr : Slab w.drew A n L := h.keep fun k hk => rfl
  have hold := old_cells hdr i0.size n n hz1 (by omega)
  rw [List.take_of_length_le (by omega)] at hold
  have hrun : ∀ ty, (Builtin.append_ #[41, 41] ty #[.slice A n n, .slice (some ⟨vb, 0, none⟩) 1 1]).run Try.prog w = _ := fun ty =>
    run_append_grow_src w 41 41 ty 30 i0 _ Try.underlying41 hi0 hz0 A n n (cellsQ L) hold _ 1 _ hsrc (by omega) (by omega) (by rw [hz2]; exact growslice_fits (by omega) (by omega))
  obtain ⟨G, hG⟩ : ∃ G, G = grownCap w (n + 1) n 30 := ⟨_, rfl⟩
  have hGn : n + 1 ≤ G := by rw [hG]; exact grownCap_ge w _ _ _
  have hGm := grownCap_le_maxLen w (n + 1) n 30 (by unfold maxLen; omega)
  rw [← hG] at hrun hGm
  have hG63 : G ≤ 9223372036854775807 := by unfold maxLen at hGm; omega
  obtain ⟨X, hX⟩ : ∃ X : Array Value, X = (cellsQ L ++ [Value.int .i64 i, Value.int .u64 c]).toArray ++ Builtin.zeroCells (Value.agg #[.int .i64 0, .int .u64 0]).cells (G - (n + 1)) := ⟨_, rfl⟩
  rw [← hX] at hrun
  have hfin : AddedV w A (L ++ [(i, c)]) (.returned (.slice (some ⟨w.heap.size, 0, none⟩) (n + 1) G)) (w.drew.alloc (.cells X 30)) := by
    refine ⟨some ⟨w.heap.size, 0, none⟩, G, by simp [hn], ?_, grown_call (grown_refl w _) ((Below.refl _ _).drew.alloc (Nat.le_refl _) _), Or.inr fun k hk => by cases hk; exact Nat.le_refl _⟩
    refine slab_of_cells (P := []) (R := (Builtin.zeroCells (Value.agg #[.int .i64 0, .int .u64 0]).cells (G - (n + 1))).toList) (by intro p hp; rcases List.mem_append.1 hp with h1 | h1; exact h.pairs.ok p h1; simp at h1; subst h1; exact ⟨hi, hc⟩) (heap_alloc_new w.drew _) rfl ?_ (by simp; omega) ?_ hG63
    · rw [hX, cellsQ_app, cellsQ_one']; simp
    · have hQ := cellsQ_len L
      rw [hX]; simp [zero_len, Value.cells, hQ]; omega
  have HF := Lib.hid hfin
  have hform := h.form
  have HR := Lib.hid hrun
  clear hfin hold hdr hG hGm hX hrun hz0 hz1 hz2 hsrc h
  rcases hform with ⟨rfl, rfl, rfl⟩ | ⟨g, off, rfl⟩
  · go_enter Try.func31, Try.ntmps31
    go_wp2_with (at_builtin; refine Lib.wpList_append_run _ rfl _ _ _ _ rfl _ _ rfl rfl _ _ (HR.out _) ?_)
    go_ret
    exact HF.out
  · go_enter Try.func31, Try.ntmps31
    go_wp2_with (at_builtin; refine Lib.wpList_append_run _ rfl _ _ _ _ rfl _ _ rfl rfl _ _ (HR.out _) ?_)
    all_goals (go_ret; exact HF.out)
end Go.Proofs.Ytnhhehinbobknaa
