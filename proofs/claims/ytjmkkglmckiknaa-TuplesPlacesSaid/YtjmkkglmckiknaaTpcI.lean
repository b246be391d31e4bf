/-
  A row of tuples that may be written; walk: the library's slices.Insert of one tuple into such a row: in its own room, or in a new block. (Written by tools/gen_tpc_i.py.)
-/
import Derived.Test.YtjmkkglmckiknaaTupA
import Derived.Lib.AppendZerosOnto
import Derived.Lib.JoinLaws
import Derived.Lib.Overlaps
import Derived.Lib.SmallJoins
import Derived.Laws.CopyRow
import Derived.Laws.NewBlocks
import Derived.Shelf.Spec.SlicesInsertGrow
import Derived.Deep.RegionLaw
import Derived.Deep.RegionWith
namespace Go.Proofs.Ytjmkkglmckiknaa
set_option linter.unusedVariables false
set_option linter.unusedSimpArgs false
open Go.RowKit

theorem set_cells8T {w : World} {b : Nat} {cs : Array Value} {t : TypeId} (h : w.heap[b]? = some (.cells cs t (0, 0))) (o : Nat) (u : Value) : (w.setCell ⟨b, o, none⟩ u).heap[b]? = some (.cells (cs.setIfInBounds o u) t (0, 0)) := by
  have hlt := lt_of_block h
  have h' : w.heap[b] = .cells cs t (0, 0) := by simpa [Array.getElem?_eq_getElem hlt] using h
  show (w.heap.modify b _)[b]? = _
  rw [Array.getElem?_eq_getElem (by simpa using hlt), Array.getElem_modify_self, h']
  rfl
theorem free8T {w : World} {b : Nat} {cs : Array Value} {t : TypeId} (h : w.heap[b]? = some (.cells cs t (0, 0))) (o : Nat) : w.frozen? ⟨b, o, none⟩ = false := by simp [World.frozen?, h]
theorem grown_reflT (w : World) (r : Option Nat) : w.grownBy w r := ⟨rfl, rfl, rfl, Nat.le_refl _, fun _ _ _ => rfl⟩
theorem grown_transT {w w1 w2 : World} {r : Option Nat} (h : w.grownBy w1 r) (h2 : w1.grownBy w2 r) : w.grownBy w2 r :=
  ⟨h2.os.trans h.os, h2.tape.trans h.tape, h2.output.trans h.output, Nat.le_trans h.size h2.size, fun k hk hr => (h2.block k (Nat.lt_of_lt_of_le hk h.size) hr).trans (h.block k hk hr)⟩
theorem grown_callT {w w1 w2 : World} {r : Option Nat} (h : w.grownBy w1 r) (h2 : Below w1.heap.size w1 w2) : w.grownBy w2 r :=
  ⟨h2.os.trans h.os, h2.tape.trans h.tape, h2.output.trans h.output, Nat.le_trans h.size h2.size, fun k hk hr => (h2.block k (Nat.lt_of_lt_of_le hk h.size)).trans (h.block k hk hr)⟩

/-- A row of pairs that may be written; its first pair may lie anywhere in its block. -/
structure SlabT (w : World) (A : Option Addr) (cap : Nat) (L : List TupV) : Prop where
  pairs : Tups w A L
  fit : L.length ≤ cap
  blk : (A = none ∧ cap = 0) ∨ ∃ g off cs, A = some ⟨g, off, none⟩ ∧ w.heap[g]? = some (.cells cs 52 (0, 0))
  room : ∀ g off cs, A = some ⟨g, off, none⟩ → w.heap[g]? = some (.cells cs 52 (0, 0)) → off + cap * 3 = cs.size
  capm : cap ≤ maxLen
/-- The block of such a row. -/
def blkAT (A : Option Addr) : Option Nat := A.map fun a => a.block
theorem blk_sliceT (A : Option Addr) (n cap : Nat) : (Value.slice A n cap).ownBlock = blkAT A := by cases A <;> rfl
theorem SlabT.nil (w : World) : SlabT w none 0 [] := ⟨Tups.nil w none, by simp, Or.inl ⟨rfl, rfl⟩, fun g off cs e => (by cases e), Nat.zero_le _⟩
theorem SlabT.form {w : World} {A : Option Addr} {cap : Nat} {L : List TupV} (h : SlabT w A cap L) : (A = none ∧ L = [] ∧ cap = 0) ∨ ∃ g off, A = some ⟨g, off, none⟩ := by
  rcases h.blk with ⟨rfl, rfl⟩ | ⟨g, off, cs, rfl, _⟩
  · exact Or.inl ⟨rfl, List.eq_nil_of_length_eq_zero (by have := h.fit; omega), rfl⟩
  · exact Or.inr ⟨g, off, rfl⟩
theorem SlabT.lt {w : World} {A : Option Addr} {cap : Nat} {L : List TupV} (h : SlabT w A cap L) {k : Nat} (hk : blkAT A = some k) : k < w.heap.size := by
  rcases h.blk with ⟨rfl, _⟩ | ⟨g, off, cs, rfl, hb⟩
  · cases hk
  · cases hk; exact lt_of_block hb
theorem SlabT.keep {w w' : World} {A : Option Addr} {cap : Nat} {L : List TupV} (h : SlabT w A cap L) (hk : ∀ k, blkAT A = some k → w'.heap[k]? = w.heap[k]?) : SlabT w' A cap L := by
  refine ⟨⟨h.pairs.ok, fun i p hi => ?_⟩, h.fit, ?_, fun g off cs e hb => h.room g off cs e (by rw [← hk g (by rw [e]; rfl)]; exact hb), h.capm⟩
  · obtain ⟨b, off, rfl, hlt, c0, c1, c2⟩ := h.pairs.at_ i p hi
    have hb := hk b rfl
    refine ⟨b, off, rfl, ?_, (World.cell?_of_block (a := ⟨b, off + i * 3, none⟩) hb).trans c0, (World.cell?_of_block (a := ⟨b, off + i * 3 + 1, none⟩) hb).trans c1, (World.cell?_of_block (a := ⟨b, off + i * 3 + 2, none⟩) hb).trans c2⟩
    exact World.block_lt_of_cell? (a := ⟨b, off + i * 3, none⟩) _ ((World.cell?_of_block (a := ⟨b, off + i * 3, none⟩) hb).trans c0)
  · rcases h.blk with h0 | ⟨g, off, cs, rfl, hb⟩
    · exact Or.inl h0
    · exact Or.inr ⟨g, off, cs, rfl, (hk g rfl).trans hb⟩
theorem SlabT.call {w w' : World} {A : Option Addr} {cap : Nat} {L : List TupV} (h : SlabT w A cap L) (hb : Below w.heap.size w w') : SlabT w' A cap L := h.keep fun k hk => hb.block k (h.lt hk)
theorem SlabT.of_own {w : World} {base : Nat} {v : Value} {L : List TupV} (h : OwnTu w base v L) (ok : ∀ p, p ∈ L → okTu p) : ∃ A cap, v = .slice A L.length cap ∧ SlabT w A cap L ∧ ∀ k, blkAT A = some k → base ≤ k := by
  obtain ⟨A, cap, rfl, hP⟩ := h.rows ok
  refine ⟨A, cap, rfl, ?_, fun k hk => (h.lt k (by rw [blk_sliceT]; exact hk)).1⟩
  rcases h.2 with ⟨e, e0⟩ | ⟨g, cap', cur, e, _, hg, hnc, hcm, hcz, _⟩
  · injection e with e1 e2 e3
    exact ⟨hP, by omega, Or.inl ⟨e1, e3⟩, fun g off cs e => (by rw [e1] at e; cases e), by rw [e3]; exact Nat.zero_le _⟩
  · injection e with e1 _ e3
    subst e1
    exact ⟨hP, by omega, Or.inr ⟨g, 0, cur, rfl, hg⟩, (fun g' off' cs' e hg' => by
      obtain ⟨rfl, rfl, _⟩ := Addr.mk.inj (Option.some.inj e)
      rw [hg] at hg'
      obtain ⟨rfl, _⟩ := Obj.cells.inj (Option.some.inj hg')
      omega), by omega⟩

/-- What has become of a row. -/
def AddedVT (w : World) (A : Option Addr) (L : List TupV) (e : Ending) (w' : World) : Prop :=
  ∃ A' cap', e = .returned (.slice A' L.length cap') ∧ SlabT w' A' cap' L ∧ w.grownBy w' (blkAT A) ∧ (A' = A ∨ ∃ g, A' = some ⟨g, 0, none⟩ ∧ w.heap.size ≤ g)


/-- Putting v between A and H, where there is room behind. -/
theorem shift_inT {A H R v : List Value} {a h : Nat} (hA : A.length = a) (hH : H.length = h) (hv : v.length = 3) :
    (((A ++ H ++ R).take (a + 3) ++ H ++ (A ++ H ++ R).drop (a + 3 + h)).take a) ++ v ++ (((A ++ H ++ R).take (a + 3) ++ H ++ (A ++ H ++ R).drop (a + 3 + h)).drop (a + 3)) = A ++ v ++ H ++ R.drop 3 ∨ (A ++ H ++ R).length < a + 3 := by
  by_cases hl : (A ++ H ++ R).length < a + 3
  · exact Or.inr hl
  left
  subst hA hH
  have h1 : ((A ++ H ++ R).take (A.length + 3)).length = A.length + 3 := by rw [List.length_take]; omega
  have h2 : (A ++ H ++ R).drop (A.length + 3 + H.length) = R.drop 3 := by
    rw [List.drop_append, List.drop_of_length_le (by rw [List.length_append]; omega), List.nil_append, List.length_append]
    congr 1; omega
  have hT : List.take A.length ((A ++ H ++ R).take (A.length + 3)) = A := by
    rw [List.take_take, Nat.min_eq_left (by omega), List.append_assoc, List.take_left' rfl]
  rw [h2]
  generalize (A ++ H ++ R).take (A.length + 3) = T at *
  rw [List.append_assoc T, List.take_append_of_le_length (by omega), hT, List.drop_left' h1]
  simp
theorem shift_newT {A H W v : List Value} {a h : Nat} (hA : A.length = a) (hH : H.length = h) (hv : v.length = 3) :
    ((((A ++ W).take a ++ v ++ (A ++ W).drop (a + 3)).take (a + 3)) ++ H ++ (((A ++ W).take a ++ v ++ (A ++ W).drop (a + 3)).drop (a + 3 + h))) = A ++ v ++ H ++ W.drop (3 + h) := by
  subst hA hH
  have h1 : (A ++ W).take A.length = A := by rw [List.take_append, List.take_length, Nat.sub_self, List.take_zero, List.append_nil]
  have h2 : (A ++ W).drop (A.length + 3) = W.drop 3 := by
    rw [List.drop_append, List.drop_of_length_le (by omega), List.nil_append]; congr 1; omega
  have h3 : (A ++ v).length = A.length + 3 := by rw [List.length_append]; omega
  rw [h1, h2, List.take_append, List.drop_append, List.take_of_length_le (by omega), h3, Nat.sub_self, List.take_zero, List.append_nil, List.drop_of_length_le (by omega), List.nil_append, List.drop_drop]
  congr 3; omega

/-- What a block's cells say of a row in it, and back. -/
theorem pairs_cellsT {w : World} {g off : Nat} {cs : Array Value} {L : List TupV} (h : Tups w (some ⟨g, off, none⟩) L) (hg : w.heap[g]? = some (.cells cs 52 (0, 0))) (hl : off + L.length * 3 ≤ cs.size) :
    cs.toList = cs.toList.take off ++ cellsTu L ++ cs.toList.drop (off + L.length * 3) := by
  have hQ := cellsTu_len L
  have key : (cs.toList.drop off).take (L.length * 3) = cellsTu L := by
    apply List.ext_getElem?
    intro j
    by_cases hj : j < L.length * 3
    · rw [List.getElem?_take_of_lt hj, List.getElem?_drop]
      have hx := List.getElem?_eq_getElem (l := cellsTu L) (i := j) (by omega)
      have hc := h.cell j _ hx
      rw [Joins.cell_of_block hg] at hc
      rw [hx, ← hc]; simp
    · rw [List.getElem?_eq_none (by rw [List.length_take]; omega), List.getElem?_eq_none (by omega)]
  rw [List.append_assoc, ← key]
  have h2 : (cs.toList.drop off).drop (L.length * 3) = cs.toList.drop (off + L.length * 3) := by rw [List.drop_drop]
  rw [← h2, List.take_append_drop, List.take_append_drop]
theorem cells_pairsT {w : World} {g off : Nat} {cs : Array Value} {L : List TupV} (ok : ∀ p, p ∈ L → okTu p) (hg : w.heap[g]? = some (.cells cs 52 (0, 0))) {P R : List Value} (hP : P.length = off) (hc : cs.toList = P ++ cellsTu L ++ R) :
    Tups w (some ⟨g, off, none⟩) L := by
  refine ⟨ok, fun i p hi => ⟨g, off, rfl, lt_of_block hg, ?_, ?_, ?_⟩⟩
  all_goals
    obtain ⟨q0, q1, q2⟩ := cellsTu_at L i p hi
    have hlt : i < L.length := by
      rcases Nat.lt_or_ge i L.length with h1 | h1
      · exact h1
      · rw [List.getElem?_eq_none h1] at hi; cases hi
    have hQ := cellsTu_len L
    rw [Joins.cell_of_block hg]
    have e : ∀ o, cs[o]? = cs.toList[o]? := fun o => Array.getElem?_toList.symm
    rw [e, hc, List.append_assoc, List.getElem?_append_right (by omega), List.getElem?_append_left (by omega)]
  · rw [show off + i * 3 - P.length = i * 3 by omega]; exact q0
  · rw [show off + i * 3 + 1 - P.length = i * 3 + 1 by omega]; exact q1
  · rw [show off + i * 3 + 2 - P.length = i * 3 + 2 by omega]; exact q2

/-- copy at rows of pairs: all is read before anything is written. -/
theorem run_copy_pairsT (w : World) (ty : TypeId) (g o dLen dCap : Nat) (a : Addr) (sLen sCap : Nat) (cur : Array Value) (t : TypeId) (k : Nat) (cs : List Value)
    (hg : w.heap[g]? = some (.cells cur t (0, 0))) (hk : k = Nat.min sLen dLen) (hn : cs.length = k * 3)
    (hsrc : ∀ j v, cs[j]? = some v → w.cell? (a.add j) = some v) (hfit : o + cs.length ≤ cur.size) (h1 : ∀ v ∈ cs, v.oneCell' = true) :
    (Builtin.copy_ #[24, 24] ty #[.slice (some ⟨g, o, none⟩) dLen dCap, .slice (some a) sLen sCap]).run Try.prog w =
      .ok (goInt k) (w.setRow g (cur.toList.take o ++ cs ++ cur.toList.drop (o + cs.length)).toArray) := by
  have hl := run_loadCells_list (P := Try.prog) w a cs hsrc
  have hst := run_storeCells_at Try.prog g o t cs 0 cur w hg (by simpa using hfit) h1
  obtain ⟨i0, hi, hz0, hz1, hz2⟩ := info_parts Try.infoOwnTu
  simp [Builtin.copy_, run_underlying Try.underlying24, Builtin.lenOf, Builtin.firstCells, sizeOf, typeInfo, hi, hz1, ← hk, ← hn, hl, hst]
theorem run_copy_pairs0T (w : World) (ty : TypeId) (d a : Addr) (dLen dCap sLen sCap : Nat) (hk : Nat.min sLen dLen = 0) :
    (Builtin.copy_ #[24, 24] ty #[.slice (some d) dLen dCap, .slice (some a) sLen sCap]).run Try.prog w = .ok (goInt 0) w := by
  obtain ⟨i0, hi, hz0, hz1, hz2⟩ := info_parts Try.infoOwnTu
  have hl : (loadCells a 0).run Try.prog w = .ok #[] w := run_loadCells_list (P := Try.prog) w a [] (fun j v hj => by simp at hj)
  simp [Builtin.copy_, run_underlying Try.underlying24, Builtin.lenOf, Builtin.firstCells, sizeOf, typeInfo, hi, hz1, hk, hl, storeCells]

theorem setCells_rowT {w : World} {g o : Nat} {cur : Array Value} {t : TypeId} {vs : List Value} (hg : w.heap[g]? = some (.cells cur t (0, 0))) (hl : o + vs.length ≤ cur.size) (h1 : ∀ v ∈ vs, v.oneCell' = true) :
    w.setCells g o vs = w.setRow g (cur.toList.take o ++ vs ++ cur.toList.drop (o + vs.length)).toArray := by
  have a := run_storeCells_at Try.prog g o t vs 0 cur w hg (by simpa using hl) h1
  have b := run_storeCells_cells (P := Try.prog) g o vs 0 w (fun j hj => by rw [Joins.cell_of_block hg, Array.getElem?_eq_getElem (by omega)]; rfl) (fun j hj => free8T hg _) h1
  rw [a] at b
  simp only [Nat.add_zero] at b
  injection b with _ b2
  exact b2.symm
theorem grown_setRowT (w : World) (g : Nat) (cs : Array Value) : w.grownBy (w.setRow g cs) (some g) :=
  ⟨rfl, rfl, rfl, by simp [World.setRow], fun k hk hr => setRow_other w g k cs (fun e => hr (by rw [e]))⟩
theorem slab_of_cellsT {w : World} {g off cap : Nat} {X : Array Value} {L : List TupV} {P R : List Value} (ok : ∀ p, p ∈ L → okTu p) (hg : w.heap[g]? = some (.cells X 52 (0, 0))) (hP : P.length = off) (hc : X.toList = P ++ cellsTu L ++ R)
    (hfit : L.length ≤ cap) (hr : off + cap * 3 = X.size) (hcap : cap ≤ maxLen) : SlabT w (some ⟨g, off, none⟩) cap L :=
  ⟨cells_pairsT ok hg hP hc, hfit, Or.inr ⟨g, off, X, rfl, hg⟩, (fun g' off' cs' e hg' => by
    obtain ⟨rfl, rfl, _⟩ := Addr.mk.inj (Option.some.inj e)
    rw [hg] at hg'
    obtain ⟨rfl, _⟩ := Obj.cells.inj (Option.some.inj hg')
    exact hr), hcap⟩

/-- The pair that is put in, as its call lays it: in a block of its own. -/
structure OneT (w : World) (vb : Nat) (i c d : Int) : Prop where
  blk : w.heap[vb]? = some (.cells #[.int .i64 i, .int .u64 c, .int .u64 d] 52 (0, 0))
theorem OneT.at_ {w : World} {vb : Nat} {i c d : Int} (h : OneT w vb i c d) : ∀ (j : Nat) (u : Value), [Value.int .i64 i, .int .u64 c, .int .u64 d][j]? = some u → w.cell? ((⟨vb, 0, none⟩ : Addr).add j) = some u := by
  intro j u hj
  rw [Addr.add_lit, Nat.zero_add, Joins.cell_of_block h.blk]
  rw [← hj]; simp

theorem cells_midT (lo hi : List TupV) (i c d : Int) : cellsTu (lo ++ (⟨i, c, d⟩ :: hi)) = cellsTu lo ++ [.int .i64 i, .int .u64 c, .int .u64 d] ++ cellsTu hi := by
  rw [cellsTu_app, cellsTu_cons]; simp [cellsTu1]

set_option maxRecDepth 100000 in
set_option maxHeartbeats 4000000 in
/-- At the end, where there is room. -/
theorem ins_end_roomT (w : World) (g off cap n vb : Nat) (L : List TupV) (i c d : Int) (h : SlabT w (some ⟨g, off, none⟩) cap L) (hn : L.length = n) (hlt : n < cap) (hv : OneT w vb i c d) (hi : I64 i) (hc : Word c) (hd : Word d) :
    Calls Try.prog 44 #[.slice (some ⟨g, off, none⟩) n cap, .int .i64 n, .slice (some ⟨vb, 0, none⟩) 1 1] w (AddedVT w (some ⟨g, off, none⟩) (L ++ [⟨i, c, d⟩])) := by
  obtain ⟨i0, hi0, hz0, hz1, hz2⟩ := info_parts Try.infoOwnTu
  obtain ⟨cs, hg⟩ : ∃ cs, w.heap[g]? = some (.cells cs 52 (0, 0)) := by
    rcases h.blk with ⟨e, _⟩ | ⟨g', off', cs, e, hb⟩
    · cases e
    · obtain ⟨rfl, rfl, _⟩ := Addr.mk.inj (Option.some.inj e)
      exact ⟨cs, hb⟩
  have hr := h.room _ _ _ rfl hg
  have hcm := h.capm
  have hcx : cap ≤ 9223372036854775807 := by have h9 := h.capm; unfold maxLen at h9; omega
  have hsrc : Src Try.prog i0.size 24 (.slice (some ⟨vb, 0, none⟩) 1 1) 1 [.int .i64 i, .int .u64 c, .int .u64 d] w := Src.ofSlice w Try.underlying24 ⟨vb, 0, none⟩ 1 1 _ (by rw [hz1]; rfl) hv.at_ (by intro u hu; simp at hu; rcases hu with rfl | rfl | rfl <;> rfl)
  have hE := setCells_rowT (o := off + n * i0.size) (vs := [.int .i64 i, .int .u64 c, .int .u64 d]) hg (by rw [hz1]; simp; omega) (by intro u hu; simp at hu; rcases hu with rfl | rfl | rfl <;> rfl)
  have hroom1 : ∀ j, j < [Value.int .i64 i, .int .u64 c, .int .u64 d].length → (w.cell? ⟨g, off + n * i0.size + j, none⟩).isSome = true := fun j hj => by
    rw [hz1, Joins.cell_of_block hg, Array.getElem?_eq_getElem (by simp at hj; omega)]; rfl
  have hfin : AddedVT w (some ⟨g, off, none⟩) (L ++ [⟨i, c, d⟩]) (.returned (.slice (some ⟨g, off, none⟩) (n + 1) cap)) (w.setCells g (off + n * i0.size) [.int .i64 i, .int .u64 c, .int .u64 d]) := by
    rw [hE]
    have hc1 := pairs_cellsT h.pairs hg (by omega)
    have hT : (cs.toList.take off).length = off := by rw [List.length_take]; simp; omega
    have hQ := cellsTu_len L
    refine ⟨some ⟨g, off, none⟩, cap, by simp [hn], ?_, grown_setRowT w g _, Or.inl rfl⟩
    refine slab_of_cellsT (P := cs.toList.take off) (R := (cs.toList.drop (off + L.length * 3)).drop 3) (by intro p hp; rcases List.mem_append.1 hp with h1 | h1; exact h.pairs.ok p h1; simp at h1; subst h1; exact ⟨hi, hc, hd⟩) (setRow_heap w g _ _ _ _ hg) hT ?_ (by simp; omega) ?_ hcm
    · have e1 : cs.toList.take (off + n * i0.size) = cs.toList.take off ++ cellsTu L := by
        rw [hz1, ← hn, List.take_add]
        congr 1
        have : cs.toList.drop off = cellsTu L ++ cs.toList.drop (off + L.length * 3) := by
          conv => lhs; rw [hc1, List.append_assoc, List.drop_append, List.drop_of_length_le (by omega), hT, Nat.sub_self, List.drop_zero, List.nil_append]
        rw [this, List.take_append, ← hQ, List.take_length, Nat.sub_self, List.take_zero, List.append_nil]
      rw [e1, cellsTu_app, cellsTu_one', hz1, ← hn]
      simp [List.drop_drop]
    · rw [hz1]; simp; omega
  rw [hz1] at hfin
  have HF := Lib.hid hfin
  clear hfin hE hr
  go_enter Try.func44, Try.ntmps44
  go_wp2_with (at_builtin; refine wpList_append_room_src _ rfl (.tmp 23) (.tmp 24) 24 24 rfl 52 i0 Try.underlying24 hi0 g off n cap rfl _ rfl 1 _ hsrc hlt hroom1 (fun j hj => free8T hg _) ?_)
  go_ret
  exact HF.out

theorem zero_lenT (z : Array Value) (n : Nat) : (Builtin.zeroCells z n).size = n * z.size := by simp [Builtin.zeroCells]
theorem old_cellsT {w : World} {A : Option Addr} {cap : Nat} {L : List TupV} (h : SlabT w A cap L) (sz k c2 : Nat) (hz : sz = 3) (hk : k ≤ L.length) : (Builtin.firstCells sz k (.slice A k c2)).run Try.prog w = .ok (cellsTu (L.take k)).toArray w := by
  subst hz
  have hlen : (L.take k).length = k := by rw [List.length_take]; omega
  rcases h.form with ⟨rfl, rfl, rfl⟩ | ⟨g, off, rfl⟩
  · have : k = 0 := by simpa using hk
    subst this
    exact run_firstCells_none w 3 0 0 c2
  · refine run_firstCells_some w 3 k ⟨g, off, none⟩ k c2 (cellsTu (L.take k)) (by rw [cellsTu_len, hlen]) fun j u hj => ?_
    rw [Addr.add_lit]
    exact (h.pairs.take k).cell j u hj

set_option maxRecDepth 100000 in
set_option maxHeartbeats 4000000 in
/-- At the end, where there is no room: a new block. -/
theorem ins_end_growT (w : World) (A : Option Addr) (n vb : Nat) (L : List TupV) (i c d : Int) (h : SlabT w A n L) (hn : L.length = n) (hl : n ≤ 100000) (hv : OneT w vb i c d) (hi : I64 i) (hc : Word c) (hd : Word d) :
    Calls Try.prog 44 #[.slice A n n, .int .i64 n, .slice (some ⟨vb, 0, none⟩) 1 1] w (AddedVT w A (L ++ [⟨i, c, d⟩])) := by
  obtain ⟨i0, hi0, hz0, hz1, hz2⟩ := info_parts Try.infoOwnTu
  have hsrc : Src Try.prog i0.size 24 (.slice (some ⟨vb, 0, none⟩) 1 1) 1 [.int .i64 i, .int .u64 c, .int .u64 d] w := Src.ofSlice w Try.underlying24 ⟨vb, 0, none⟩ 1 1 _ (by rw [hz1]; rfl) hv.at_ (by intro u hu; simp at hu; rcases hu with rfl | rfl | rfl <;> rfl)
  have hdr : SlabT w.drew A n L := h.keep fun k hk => rfl
  have hold := old_cellsT hdr i0.size n n hz1 (by omega)
  rw [List.take_of_length_le (by omega)] at hold
  have hrun : ∀ ty, (Builtin.append_ #[24, 24] ty #[.slice A n n, .slice (some ⟨vb, 0, none⟩) 1 1]).run Try.prog w = _ := fun ty =>
    run_append_grow_src w 24 24 ty 52 i0 _ Try.underlying24 hi0 hz0 A n n (cellsTu L) hold _ 1 _ hsrc (by omega) (by omega) (by rw [hz2]; exact growslice_fits (by omega) (by omega))
  obtain ⟨G, hG⟩ : ∃ G, G = grownCap w (n + 1) n 52 := ⟨_, rfl⟩
  have hGn : n + 1 ≤ G := by rw [hG]; exact grownCap_ge w _ _ _
  have hGm := grownCap_le_maxLen w (n + 1) n 52 (by unfold maxLen; omega)
  rw [← hG] at hrun hGm
  have hG63 : G ≤ maxLen := hGm
  have hGx : G ≤ 9223372036854775807 := by have h9 := hGm; unfold maxLen at h9; omega
  obtain ⟨X, hX⟩ : ∃ X : Array Value, X = (cellsTu L ++ [Value.int .i64 i, Value.int .u64 c, Value.int .u64 d]).toArray ++ Builtin.zeroCells (Value.agg #[.int .i64 0, .int .u64 0, .int .u64 0]).cells (G - (n + 1)) := ⟨_, rfl⟩
  rw [← hX] at hrun
  have hfin : AddedVT w A (L ++ [⟨i, c, d⟩]) (.returned (.slice (some ⟨w.heap.size, 0, none⟩) (n + 1) G)) (w.drew.alloc (.cells X 52)) := by
    refine ⟨some ⟨w.heap.size, 0, none⟩, G, by simp [hn], ?_, grown_callT (grown_reflT w _) ((Below.refl _ _).drew.alloc (Nat.le_refl _) _), Or.inr ⟨_, rfl, Nat.le_refl _⟩⟩
    refine slab_of_cellsT (P := []) (R := (Builtin.zeroCells (Value.agg #[.int .i64 0, .int .u64 0, .int .u64 0]).cells (G - (n + 1))).toList) (by intro p hp; rcases List.mem_append.1 hp with h1 | h1; exact h.pairs.ok p h1; simp at h1; subst h1; exact ⟨hi, hc, hd⟩) (heap_alloc_new w.drew _) rfl ?_ (by simp; omega) ?_ hG63
    · rw [hX, cellsTu_app, cellsTu_one']; simp
    · have hQ := cellsTu_len L
      rw [hX]; simp [zero_lenT, Value.cells, hQ]; omega
  have HF := Lib.hid hfin
  have hform := h.form
  have HR := Lib.hid hrun
  clear hfin hold hdr hG hGm hX hrun hz0 hz1 hz2 hsrc h
  rcases hform with ⟨rfl, rfl, rfl⟩ | ⟨g, off, rfl⟩
  · go_enter Try.func44, Try.ntmps44
    go_wp2_with (at_builtin; refine Lib.wpList_append_run _ rfl _ _ _ _ rfl _ _ rfl rfl _ _ (HR.out _) ?_)
    go_ret
    exact HF.out
  · go_enter Try.func44, Try.ntmps44
    go_wp2_with (at_builtin; refine Lib.wpList_append_run _ rfl _ _ _ _ rfl _ _ rfl rfl _ _ (HR.out _) ?_)
    all_goals (go_ret; exact HF.out)

theorem ok_midT {lo hi : List TupV} {i c d : Int} (h : ∀ p, p ∈ lo ++ hi → okTu p) (hi' : I64 i) (hc : Word c) (hd : Word d) : ∀ p, p ∈ lo ++ (⟨i, c, d⟩ :: hi) → okTu p := by
  intro p hp
  rcases List.mem_append.1 hp with h1 | h1
  · exact h p (List.mem_append_left _ h1)
  · rcases List.mem_cons.1 h1 with rfl | h2
    · exact ⟨hi', hc, hd⟩
    · exact h p (List.mem_append_right _ h2)
/-- A block of pairs, split at an index. -/
theorem split_cellsT {w : World} {g off n N : Nat} {cs : Array Value} {lo hi : List TupV} (h : Tups w (some ⟨g, off, none⟩) (lo ++ hi)) (hg : w.heap[g]? = some (.cells cs 52 (0, 0))) (hn : lo.length = n) (hN : (lo ++ hi).length = N) (hl : off + N * 3 ≤ cs.size) :
    ∃ A R : List Value, cs.toList = A ++ cellsTu hi ++ R ∧ A.length = off + n * 3 ∧ (cellsTu hi).length = (N - n) * 3 ∧ (∃ P : List Value, P.length = off ∧ A = P ++ cellsTu lo) ∧ R.length = cs.size - (off + N * 3) := by
  have hc := pairs_cellsT h hg (by omega)
  have hQ1 := cellsTu_len lo
  have hQ2 := cellsTu_len hi
  have hNN : lo.length + hi.length = N := by rw [← hN, List.length_append]
  refine ⟨cs.toList.take off ++ cellsTu lo, cs.toList.drop (off + (lo ++ hi).length * 3), ?_, ?_, ?_, ⟨_, ?_, rfl⟩, ?_⟩
  · rw [List.append_assoc (cs.toList.take off), ← cellsTu_app]; exact hc
  · rw [List.length_append, List.length_take]; simp; omega
  · omega
  · rw [List.length_take]; simp; omega
  · rw [hN, List.length_drop]; simp

set_option maxRecDepth 100000 in
set_option maxHeartbeats 4000000 in
/-- There is room: in its own block. -/
theorem ins_shiftT (w : World) (g off cap n N vb : Nat) (lo hi : List TupV) (i c d : Int) (h : SlabT w (some ⟨g, off, none⟩) cap (lo ++ hi)) (hn : lo.length = n) (hN : (lo ++ hi).length = N) (hlt : n < N) (hroom : N < cap) (hv : OneT w vb i c d) (hvg : vb ≠ g) (hi' : I64 i) (hc : Word c) (hd : Word d) :
    Calls Try.prog 44 #[.slice (some ⟨g, off, none⟩) N cap, .int .i64 n, .slice (some ⟨vb, 0, none⟩) 1 1] w (AddedVT w (some ⟨g, off, none⟩) (lo ++ (⟨i, c, d⟩ :: hi))) := by
  obtain ⟨cs, hg⟩ : ∃ cs, w.heap[g]? = some (.cells cs 52 (0, 0)) := by
    rcases h.blk with ⟨e, _⟩ | ⟨g', off', cs, e, hb⟩
    · cases e
    · obtain ⟨rfl, rfl, _⟩ := Addr.mk.inj (Option.some.inj e)
      exact ⟨cs, hb⟩
  have hr := h.room _ _ _ rfl hg
  have hcm := h.capm
  have hcx : cap ≤ 9223372036854775807 := by have h9 := h.capm; unfold maxLen at h9; omega
  obtain ⟨CA, CR, hcs, hA, hH, ⟨CP, hP, hAP⟩, hR⟩ := split_cellsT h.pairs hg hn hN (by omega)
  have hgd : w.drew.heap[g]? = some (.cells cs 52 (0, 0)) := hg
  obtain ⟨H, hHe⟩ : ∃ H, cellsTu hi = H := ⟨_, rfl⟩
  have hH1 : ∀ v ∈ H, v.oneCell' = true := by rw [← hHe]; exact cellsTu_one hi
  have hv1 : ∀ u ∈ [Value.int .i64 i, .int .u64 c, .int .u64 d], u.oneCell' = true := by intro u hu; simp at hu; rcases hu with rfl | rfl | rfl <;> rfl
  rw [hHe] at hcs hH
  have hsrc : ∀ j v, H[j]? = some v → w.drew.cell? ((⟨g, off + n * 3, none⟩ : Addr).add j) = some v := fun j v hj => by
    rw [Addr.add_lit, Joins.cell_of_block hgd, ← Array.getElem?_toList, hcs, List.append_assoc, List.getElem?_append_right (by omega), show off + n * 3 + j - CA.length = j by omega]
    have hjl : j < H.length := by
      rcases Nat.lt_or_ge j H.length with h1 | h1
      · exact h1
      · rw [List.getElem?_eq_none h1] at hj; cases hj
    rw [List.getElem?_append_left hjl]; exact hj
  obtain ⟨Y, hY⟩ : ∃ Y : Array Value, (cs.toList.take (off + (n + 1) * 3) ++ H ++ cs.toList.drop (off + (n + 1) * 3 + H.length)).toArray = Y := ⟨_, rfl⟩
  have hYs : Y.size = cs.size := by
    have e1 : cs.toList.length = cs.size := by simp
    rw [← hY]; simp; omega
  have hcp1 : ∀ ty dc sc, (Builtin.copy_ #[24, 24] ty #[.slice (some ⟨g, off + (n + 1) * 3, none⟩) (N - n) dc, .slice (some ⟨g, off + n * 3, none⟩) (N + 1 - n) sc]).run Try.prog w.drew = .ok (goInt ((N - n : Nat) : Int)) (w.drew.setRow g Y) := fun ty dc sc => by
    rw [← hY]
    exact run_copy_pairsT w.drew ty g (off + (n + 1) * 3) _ dc ⟨g, off + n * 3, none⟩ _ sc cs 52 (N - n) H hgd (by simp only [Nat.min_def]; split <;> omega) hH hsrc (by omega) hH1
  obtain ⟨W1, hW1⟩ : ∃ W1, w.drew.setRow g Y = W1 := ⟨_, rfl⟩
  have hg1 : W1.heap[g]? = some (.cells Y 52 (0, 0)) := by rw [← hW1]; exact setRow_heap w.drew g _ _ _ _ hgd
  have hv2 : OneT W1 vb i c d := ⟨by rw [← hW1, setRow_other _ _ _ _ hvg]; exact hv.blk⟩
  obtain ⟨Z, hZ⟩ : ∃ Z : Array Value, (Y.toList.take (off + n * 3) ++ [Value.int .i64 i, .int .u64 c, .int .u64 d] ++ Y.toList.drop (off + n * 3 + [Value.int .i64 i, .int .u64 c, .int .u64 d].length)).toArray = Z := ⟨_, rfl⟩
  have hcp2 : ∀ (W : World), W.heap = W1.heap → ∀ ty dc, (Builtin.copy_ #[24, 24] ty #[.slice (some ⟨g, off + n * 3, none⟩) (N + 1 - n) dc, .slice (some ⟨vb, 0, none⟩) 1 1]).run Try.prog W = .ok (goInt ((1 : Nat) : Int)) (W.setRow g Z) := fun W hW ty dc => by
    rw [← hZ]
    exact run_copy_pairsT W ty g (off + n * 3) _ dc ⟨vb, 0, none⟩ 1 1 Y 52 1 _ (by rw [hW]; exact hg1) (by simp only [Nat.min_def]; split <;> omega) rfl (fun j v hj => by
      have := hv2.at_ j v hj
      rwa [World.cell?_of_block (w := W1) (w' := W) (by rw [hW])]) (by simp; omega) hv1
  have hshape : w.shape? g = some (52, cs.size) := by simp [World.shape?, hg]
  have hshape2 : w.shape? vb = some (52, 3) := by simp [World.shape?, hv.blk]
  have hov : ∀ lb cb, (callFunc 50 #[.slice (some ⟨vb, 0, none⟩) 1 1, .slice (some ⟨g, off + (n + 1) * 3, none⟩) lb cb]).run Try.prog w = .ok (.value (.bool false)) w := fun lb cb => by
    obtain ⟨i0, hi0, hz0, hz1, hz2⟩ := info_parts Try.infoOwnTu
    rw [run_callFunc_extern Try.func50 (by kernel_rfl) (by kernel_rfl) (by kernel_rfl) (e := Extern.SlicesOverlaps.overlaps #[24, 24] #[4]) (by kernel_rfl),
      Lib.run_overlaps_apart w 24 4 52 Try.underlying24 3 (fun w => by simp [sizeOf, typeInfo, hi0, hz1]) ⟨vb, 0, none⟩ ⟨g, off + (n + 1) * 3, none⟩ 1 1 lb cb hvg 52 52 3 cs.size hshape2 hshape (by omega) (free8T hv.blk _) (free8T hv.blk _)]
    rfl
  have hfin : ∀ W : World, W.heap = W1.heap → W.os = w.os → W.tape = w.tape → W.output = w.output → AddedVT w (some ⟨g, off, none⟩) (lo ++ (⟨i, c, d⟩ :: hi)) (.returned (.slice (some ⟨g, off, none⟩) (N + 1) cap)) (W.setRow g Z) := fun W hW ho ht hu => by
    have hl3 : (lo ++ (⟨i, c, d⟩ :: hi)).length = N + 1 := by rw [← hN]; simp; omega
    have hsh := shift_inT (A := CA) (H := H) (R := CR) (v := [Value.int .i64 i, .int .u64 c, .int .u64 d]) hA hH rfl
    have hlen : (CA ++ H ++ CR).length = cs.size := by rw [← hcs]; simp
    rcases hsh with hsh | hbad
    · have hg2 : (W.setRow g Z).heap[g]? = some (.cells Z 52 (0, 0)) := setRow_heap W g _ _ _ _ (by rw [hW]; exact hg1)
      have hZL : Z.toList = CP ++ cellsTu (lo ++ (⟨i, c, d⟩ :: hi)) ++ CR.drop 3 := by
        rw [← hZ, ← hY, cells_midT, ← List.append_assoc CP, ← List.append_assoc CP, ← hAP, hHe, ← hsh, ← hcs]
        simp only [List.length_cons, List.length_nil]
        rw [show off + (n + 1) * 3 = off + n * 3 + 3 by omega, hH]
      refine ⟨some ⟨g, off, none⟩, cap, by rw [hl3], slab_of_cellsT (P := CP) (R := CR.drop 3) (ok_midT h.pairs.ok hi' hc hd) hg2 hP hZL (by omega) ?_ hcm, ?_, Or.inl rfl⟩
      · have : Z.size = cs.size := by
          have e1 : Z.size = Z.toList.length := by simp
          have hQ := cellsTu_len lo
          rw [e1, hZL, cells_midT, hHe]; simp only [List.length_append, List.length_drop, hH, hR, hP, hQ, List.length_cons, List.length_nil]
          rw [hAP, List.length_append, hP, hQ] at hA
          omega
        omega
      · have hk : W1.heap = (w.drew.setRow g Y).heap := by rw [hW1]
        exact grown_transT ⟨ho, ht, hu, by rw [hW, hk]; simp [World.setRow], fun k hk' hr' => by rw [hW, hk]; exact (setRow_other w.drew g k Y (fun e => hr' (by rw [e]; rfl)))⟩ (grown_setRowT W g Z)
    · omega
  have ho1 : W1.os = w.os ∧ W1.tape = w.tape ∧ W1.output = w.output := by rw [← hW1]; exact ⟨rfl, rfl, rfl⟩
  have HF := Lib.hid (hfin W1 rfl ho1.1 ho1.2.1 ho1.2.2)
  rw [hW1] at hcp1
  have HC1 := Lib.hid hcp1
  have hA2 := hcp2 W1 rfl
  generalize W1.setRow g Z = W2 at *
  have hw1 : IntKind.i64.wrap ((n : Int) + 1) = (n : Int) + 1 := by rw [IntKind.wrap_i64]; omega
  have hw2 : IntKind.i64.wrap ((N : Int) + 1) = (N : Int) + 1 := by rw [IntKind.wrap_i64]; omega
  have hb1 : (0 : Int) ≤ (n : Int) + 1 := by omega
  have hb0 : (0 : Int) ≤ (N : Int) + 1 := by omega
  have htn : ((n : Int) + 1).toNat = n + 1 := by omega
  have htN : ((N : Int) + 1).toNat = N + 1 := by omega
  have hb2 : ¬ (cap = n + 1) := by omega
  have hb4 : ¬ (cap = n) := by omega
  have hz2 : ¬ ((n : Int) = (N : Int)) := by omega
  have hin : n ≤ N := by omega
  have hin2 : n ≤ cap := by omega
  have hb3 : (n : Int) ≤ (N : Int) + 1 := by omega
  have hb5 : (n : Int) + 1 ≤ (N : Int) + 1 := by omega
  have hb6 : ¬ ((cap : Int) < (N : Int) + 1) := by omega
  have hb7 : (N : Int) + 1 ≤ (cap : Int) := by omega
  clear hfin hcp1 hcp2 hg1 ho1 hW1 hZ hY hYs hsrc hcs hA hH hP hAP hR hHe hH1 hv1 hgd hr h hv2 hn hN hshape hshape2 hg
  go_enter Try.func44, Try.ntmps44
  go_wp2_with (simp only [hov])
  go_region_law (refine step_copy_runI rfl _ _ 24 24 rfl (.slice (some ⟨g, off + (n + 1) * 3, none⟩) (N - n) (cap - (n + 1))) (.slice (some ⟨g, off + n * 3, none⟩) (N + 1 - n) (cap - n)) (by simp [Act.eval, Act.put]) (by simp [Act.eval, Act.put]) (HC1.out _ _ _) ?_)
  go_wp2_with fail
  go_ret
  exact HF.out

set_option maxRecDepth 100000 in
set_option maxHeartbeats 4000000 in
/-- There is no room: a new block. -/
theorem ins_growT (w : World) (g off n N vb : Nat) (lo hi : List TupV) (i c d : Int) (h : SlabT w (some ⟨g, off, none⟩) N (lo ++ hi)) (hn : lo.length = n) (hN : (lo ++ hi).length = N) (hlt : n < N) (hl : N ≤ 100000) (hv : OneT w vb i c d) (hi' : I64 i) (hc : Word c) (hd : Word d) :
    Calls Try.prog 44 #[.slice (some ⟨g, off, none⟩) N N, .int .i64 n, .slice (some ⟨vb, 0, none⟩) 1 1] w (AddedVT w (some ⟨g, off, none⟩) (lo ++ (⟨i, c, d⟩ :: hi))) := by
  obtain ⟨i0, hi0, hz0, hz1, hz2⟩ := info_parts Try.infoOwnTu
  obtain ⟨cs, hg⟩ : ∃ cs, w.heap[g]? = some (.cells cs 52 (0, 0)) := by
    rcases h.blk with ⟨e, _⟩ | ⟨g', off', cs, e, hb⟩
    · cases e
    · obtain ⟨rfl, rfl, _⟩ := Addr.mk.inj (Option.some.inj e)
      exact ⟨cs, hb⟩
  have hgw : g < w.heap.size := lt_of_block hg
  have hvw : vb < w.heap.size := lt_of_block hv.blk
  have hr := h.room _ _ _ rfl hg
  have hQ := cellsTu_len lo
  have hQh := cellsTu_len hi
  have hNN : lo.length + hi.length = N := by rw [← hN, List.length_append]
  have hdr : SlabT w.drew (some ⟨g, off, none⟩) N (lo ++ hi) := h.keep fun k hk => rfl
  have hold := old_cellsT hdr i0.size n N hz1 (by omega)
  rw [List.take_append_of_le_length (by omega), List.take_of_length_le (by omega)] at hold
  have hik : n + (N + 1 - n) = N + 1 := by omega
  have hkk : (N : Int) + 1 - (n : Int) = ((N + 1 - n : Nat) : Int) := by omega
  obtain ⟨G, hG⟩ : ∃ G, G = grownCap w (N + 1) N 52 := ⟨_, rfl⟩
  have hGn : N + 1 ≤ G := by rw [hG]; exact grownCap_ge w _ _ _
  have hGm := grownCap_le_maxLen w (N + 1) N 52 (by unfold maxLen; omega)
  rw [← hG] at hGm
  have hG63 : G ≤ maxLen := hGm
  have hGx : G ≤ 9223372036854775807 := by have h9 := hGm; unfold maxLen at h9; omega
  obtain ⟨V, hV⟩ : ∃ V : List Value, V = (Builtin.zeroCells (Value.agg #[.int .i64 0, .int .u64 0, .int .u64 0]).cells (N + 1 - n)).toList ++ (Builtin.zeroCells (Value.agg #[.int .i64 0, .int .u64 0, .int .u64 0]).cells (G - (N + 1))).toList := ⟨_, rfl⟩
  have hVl : V.length = (G - n) * 3 := by
    rw [hV, List.length_append]; simp [zero_lenT, Value.cells]; omega
  obtain ⟨X, hX⟩ : ∃ X : Array Value, X = (cellsTu lo).toArray ++ Builtin.zeroCells (Value.agg #[.int .i64 0, .int .u64 0, .int .u64 0]).cells (N + 1 - n) ++ Builtin.zeroCells (Value.agg #[.int .i64 0, .int .u64 0, .int .u64 0]).cells (G - (N + 1)) := ⟨_, rfl⟩
  have hXL : X.toList = cellsTu lo ++ V := by rw [hX, hV]; simp
  have hXs : X.size = G * 3 := by
    have : X.size = X.toList.length := by simp
    rw [this, hXL, List.length_append]; omega
  have hrz : ∀ ty, (Builtin.append_ #[24, 3] ty #[.slice (some ⟨g, off, none⟩) n N, .int .i64 ((N : Int) + 1 - (n : Int))]).run Try.prog w =
      .ok (.slice (some ⟨w.heap.size, 0, none⟩) (N + 1) G) (w.drew.alloc (.cells X 52)) := fun ty => by
    have h1 := Lib.run_append_grow_zeros w 24 3 ty 52 i0 _ .i64 .i64 Try.underlying24 Try.underlying3 hi0 hz0 (some ⟨g, off, none⟩) n N (cellsTu lo) hold (N + 1 - n) (by omega) (by omega) (by omega) (by omega) (by rw [hz2]; omega) (by rw [hz2, hik]; exact growslice_fits (by omega) (by omega))
    rw [hik, ← hG, ← hX] at h1
    rw [hkk]
    exact h1
  obtain ⟨W1, hW1⟩ : ∃ W1, w.drew.alloc (.cells X 52) = W1 := ⟨_, rfl⟩
  have hb1' : Below w.heap.size w W1 := by rw [← hW1]; exact (Below.refl _ _).drew.alloc (Nat.le_refl _) _
  have hg1 : W1.heap[w.heap.size]? = some (.cells X 52 (0, 0)) := by rw [← hW1]; exact heap_alloc_new w.drew _
  have hv1 : ∀ u ∈ [Value.int .i64 i, .int .u64 c, .int .u64 d], u.oneCell' = true := by intro u hu; simp at hu; rcases hu with rfl | rfl | rfl <;> rfl
  have hvW : OneT W1 vb i c d := ⟨(hb1'.block _ hvw).trans hv.blk⟩
  obtain ⟨Y, hY⟩ : ∃ Y : Array Value, (X.toList.take (n * 3) ++ [Value.int .i64 i, .int .u64 c, .int .u64 d] ++ X.toList.drop (n * 3 + [Value.int .i64 i, .int .u64 c, .int .u64 d].length)).toArray = Y := ⟨_, rfl⟩
  have hYs : Y.size = X.size := by
    have e1 : X.toList.length = X.size := by simp
    rw [← hY]; simp; omega
  have hcpA : ∀ (W : World), W.heap = W1.heap → ∀ ty dc, (Builtin.copy_ #[24, 24] ty #[.slice (some ⟨w.heap.size, n * 3, none⟩) (N + 1 - n) dc, .slice (some ⟨vb, 0, none⟩) 1 1]).run Try.prog W = .ok (goInt ((1 : Nat) : Int)) (W.setRow w.heap.size Y) := fun W hW ty dc => by
    rw [← hY]
    exact run_copy_pairsT W ty w.heap.size (n * 3) _ dc ⟨vb, 0, none⟩ 1 1 X 52 1 _ (by rw [hW]; exact hg1) (by simp only [Nat.min_def]; split <;> omega) rfl (fun j v hj => by
      have := hvW.at_ j v hj
      rwa [World.cell?_of_block (w := W1) (w' := W) (by rw [hW])]) (by simp; omega) hv1
  obtain ⟨H, hHe⟩ : ∃ H, cellsTu hi = H := ⟨_, rfl⟩
  have hH1 : ∀ v ∈ H, v.oneCell' = true := by rw [← hHe]; exact cellsTu_one hi
  have hHl : H.length = (N - n) * 3 := by rw [← hHe]; omega
  obtain ⟨CA, CR, hcs, hA, hH, _, _⟩ := split_cellsT h.pairs hg hn hN (by omega)
  rw [hHe] at hcs
  have hsrc : ∀ (W : World), W.heap[g]? = w.heap[g]? → ∀ j v, H[j]? = some v → W.cell? ((⟨g, off + n * 3, none⟩ : Addr).add j) = some v := fun W hW j v hj => by
    rw [Addr.add_lit, Joins.cell_of_block (hW.trans hg), ← Array.getElem?_toList, hcs, List.append_assoc, List.getElem?_append_right (by omega), show off + n * 3 + j - CA.length = j by omega]
    have hjl : j < H.length := by
      rcases Nat.lt_or_ge j H.length with h1 | h1
      · exact h1
      · rw [List.getElem?_eq_none h1] at hj; cases hj
    rw [List.getElem?_append_left hjl]; exact hj
  obtain ⟨Z, hZ⟩ : ∃ Z : Array Value, (Y.toList.take ((n + 1) * 3) ++ H ++ Y.toList.drop ((n + 1) * 3 + H.length)).toArray = Z := ⟨_, rfl⟩
  have hcpB : ∀ (W : World), W.heap[w.heap.size]? = some (.cells Y 52 (0, 0)) → W.heap[g]? = w.heap[g]? → ∀ ty dc sc, (Builtin.copy_ #[24, 24] ty #[.slice (some ⟨w.heap.size, (n + 1) * 3, none⟩) (N + 1 - (n + 1)) dc, .slice (some ⟨g, off + n * 3, none⟩) (N - n) sc]).run Try.prog W = .ok (goInt ((N - n : Nat) : Int)) (W.setRow w.heap.size Z) := fun W hW hWg ty dc sc => by
    rw [← hZ]
    exact run_copy_pairsT W ty w.heap.size ((n + 1) * 3) _ dc ⟨g, off + n * 3, none⟩ _ sc Y 52 (N - n) H hW (by simp only [Nat.min_def]; split <;> omega) hHl (hsrc W hWg) (by omega) hH1
  have hW2 : ∀ W : World, W.heap = W1.heap → (W.setRow w.heap.size Y).heap[w.heap.size]? = some (.cells Y 52 (0, 0)) ∧ (W.setRow w.heap.size Y).heap[g]? = w.heap[g]? := fun W hW =>
    ⟨setRow_heap W _ _ _ _ _ (by rw [hW]; exact hg1), by rw [setRow_other _ _ _ _ (by omega), hW]; exact hb1'.block _ hgw⟩
  have hfin : ∀ W : World, W.heap = W1.heap → W.os = w.os → W.tape = w.tape → W.output = w.output → AddedVT w (some ⟨g, off, none⟩) (lo ++ (⟨i, c, d⟩ :: hi)) (.returned (.slice (some ⟨w.heap.size, 0, none⟩) (N + 1) G)) (((W.setRow w.heap.size Y).drew).setRow w.heap.size Z) := fun W hW ho ht hu => by
    have hl3 : (lo ++ (⟨i, c, d⟩ :: hi)).length = N + 1 := by rw [← hN]; simp; omega
    have hsh := shift_newT (A := cellsTu lo) (H := H) (W := V) (v := [Value.int .i64 i, .int .u64 c, .int .u64 d]) (a := n * 3) (h := (N - n) * 3) (by omega) hHl rfl
    have hg2 : (((W.setRow w.heap.size Y).drew).setRow w.heap.size Z).heap[w.heap.size]? = some (.cells Z 52 (0, 0)) := setRow_heap _ _ _ _ _ _ (hW2 W hW).1
    have hZL : Z.toList = [] ++ cellsTu (lo ++ (⟨i, c, d⟩ :: hi)) ++ V.drop (3 + (N - n) * 3) := by
      rw [← hZ, ← hY, hXL, cells_midT, hHe, List.nil_append, ← hsh]
      simp only [List.length_cons, List.length_nil]
      rw [show (n + 1) * 3 = n * 3 + 3 by omega, hHl]
    refine ⟨some ⟨w.heap.size, 0, none⟩, G, by rw [hl3], slab_of_cellsT (P := []) (R := V.drop (3 + (N - n) * 3)) (ok_midT h.pairs.ok hi' hc hd) hg2 rfl hZL (by omega) ?_ hG63, ?_, Or.inr ⟨_, rfl, Nat.le_refl _⟩⟩
    · have : Z.size = Z.toList.length := by simp
      rw [this, hZL, cells_midT, hHe]; simp only [List.length_append, List.length_drop, List.length_cons, List.length_nil]
      omega
    · refine grown_callT (grown_reflT w _) ⟨ho, ht, hu, ?_, fun k hk => ?_⟩
      · have := hb1'.size
        simp only [World.setRow, Array.size_modify]
        show w.heap.size ≤ (W.heap.modify _ _).size
        rw [Array.size_modify, hW]; exact this
      · rw [setRow_other _ _ _ _ (by omega)]
        show (W.setRow w.heap.size Y).heap[k]? = _
        rw [setRow_other _ _ _ _ (by omega), hW]; exact hb1'.block k hk
  rw [hW1] at hrz
  have HR := Lib.hid hrz
  have ho1 : W1.os = w.os ∧ W1.tape = w.tape ∧ W1.output = w.output := by rw [← hW1]; exact ⟨rfl, rfl, rfl⟩
  have HF := Lib.hid (hfin W1 rfl ho1.1 ho1.2.1 ho1.2.2)
  have hA1 := hcpA W1 rfl
  have HB := Lib.hid (fun ty dc sc => hcpB (W1.setRow w.heap.size Y).drew (hW2 W1 rfl).1 (hW2 W1 rfl).2 ty dc sc)
  have HG2 : Hid ((W1.setRow w.heap.size Y).heap.size = (W1.setRow w.heap.size Y).heap.size) := Lib.hid rfl
  generalize W1.setRow w.heap.size Y = W2 at *
  have hw1 : IntKind.i64.wrap ((n : Int) + 1) = (n : Int) + 1 := by rw [IntKind.wrap_i64]; omega
  have hw2 : IntKind.i64.wrap ((N : Int) + 1) = (N : Int) + 1 := by rw [IntKind.wrap_i64]; omega
  have hw3 : IntKind.i64.wrap ((N : Int) + 1 - n) = (N : Int) + 1 - n := by rw [IntKind.wrap_i64]; omega
  have hb1 : (0 : Int) ≤ (n : Int) + 1 := by omega
  have htn : ((n : Int) + 1).toNat = n + 1 := by omega
  have hz2' : ¬ ((n : Int) = (N : Int)) := by omega
  have hz3 : (N : Int) < (N : Int) + 1 := by omega
  have hin : n ≤ N := by omega
  have hb3 : (n : Int) ≤ (N : Int) := by omega
  have hb5 : (n : Int) + 1 ≤ (N : Int) + 1 := by omega
  have hb8 : (n : Int) ≤ (N : Int) + 1 := by omega
  have hci : ¬ (N = n) := by omega
  have hGi : ¬ (G = n) := by omega
  have hGim : ¬ (G = n + 1) := by omega
  have hNG : (N : Int) + 1 ≤ (G : Int) := by omega
  clear HG2 hfin hrz hcpA hcpB hW2 hW1 ho1 hZ hY hYs hsrc hcs hA hH hHe hH1 hHl hv1 hvW hg1 hb1' hXs hXL hX hVl hV hG hGm hGn hik hkk hold hdr hQ hQh hNN hr hn hN h hz0 hz1 hz2 hgw hvw hg hv
  go_enter Try.func44, Try.ntmps44
  go_wp2_with (at_builtin; refine Lib.wpList_append_run _ rfl _ _ _ _ rfl _ _ rfl rfl _ _ (HR.out _) ?_)
  go_region_law (refine step_copy_runI rfl _ _ 24 24 rfl (.slice (some ⟨w.heap.size, (n + 1) * 3, none⟩) (N + 1 - (n + 1)) (G - (n + 1))) (.slice (some ⟨g, off + n * 3, none⟩) (N - n) (N - n)) (by simp [Act.eval, Act.put]) (by simp [Act.eval, Act.put]) (HB.out _ _ _) ?_)
  go_wp2_with fail
  go_ret
  exact HF.out

theorem ins_anyT (w : World) (A : Option Addr) (cap n N vb : Nat) (lo hi : List TupV) (i c d : Int) (h : SlabT w A cap (lo ++ hi)) (hn : lo.length = n) (hN : (lo ++ hi).length = N) (hl : N ≤ 100000) (hv : OneT w vb i c d) (hvg : blkAT A ≠ some vb) (hi' : I64 i) (hc : Word c) (hd : Word d) :
    Calls Try.prog 44 #[.slice A N cap, .int .i64 n, .slice (some ⟨vb, 0, none⟩) 1 1] w (AddedVT w A (lo ++ (⟨i, c, d⟩ :: hi))) := by
  have hfit := h.fit
  have hNN : lo.length + hi.length = N := by rw [← hN, List.length_append]
  by_cases he : n = N
  · have hh : hi = [] := List.eq_nil_of_length_eq_zero (by omega)
    subst hh he
    rw [List.append_nil] at h hfit
    by_cases hr : n < cap
    · rcases h.form with ⟨rfl, rfl, rfl⟩ | ⟨g, off, rfl⟩
      · omega
      · exact ins_end_roomT w g off cap n vb lo i c d h hn hr hv hi' hc hd
    · obtain rfl : cap = n := by omega
      exact ins_end_growT w A cap vb lo i c d h hn hl hv hi' hc hd
  · rcases h.form with ⟨rfl, e, rfl⟩ | ⟨g, off, rfl⟩
    · rw [e] at hN; simp at hN; omega
    · by_cases hr : N < cap
      · exact ins_shiftT w g off cap n N vb lo hi i c d h hn hN (by omega) hr hv (fun e => hvg (by rw [e]; rfl)) hi' hc hd
      · obtain rfl : cap = N := by omega
        exact ins_growT w g off n cap vb lo hi i c d h hn hN (by omega) hl hv hi' hc hd

/-- Such a row of the call's own. -/
theorem own_of_slabT {w : World} {base g cap : Nat} {L : List TupV} (h : SlabT w (some ⟨g, 0, none⟩) cap L) (hb : base ≤ g) : OwnTu w base (.slice (some ⟨g, 0, none⟩) L.length cap) L := by
  rcases h.blk with ⟨e, _⟩ | ⟨g', off', cs, e, hg⟩
  · cases e
  · obtain ⟨rfl, rfl, _⟩ := Addr.mk.inj (Option.some.inj e)
    have hr := h.room _ _ _ rfl hg
    have hf := h.fit
    have hc := pairs_cellsT h.pairs hg (by omega)
    refine ⟨cellsTu_len L, Or.inr ⟨g, cap, cs, rfl, hb, hg, hf, h.capm, by omega, ?_⟩⟩
    rw [List.take_zero, List.nil_append, Nat.zero_add] at hc
    rw [hc, List.take_append_of_le_length (by rw [cellsTu_len]; exact Nat.le_refl _), List.take_of_length_le (by rw [cellsTu_len]; exact Nat.le_refl _)]
/-- What Insert leaves, told of a row of the call's own. -/
theorem own_of_addedT {w w' : World} {base n cap : Nat} {A : Option Addr} {L M : List TupV} {e : Ending} (hbase : base ≤ w.heap.size) (h : OwnTu w base (.slice A n cap) L) (ha : AddedVT w A M e w') : ∃ v', e = .returned v' ∧ OwnTu w' base v' M ∧ w.grownBy w' (Value.slice A n cap).ownBlock ∧ (v'.ownBlock = (Value.slice A n cap).ownBlock ∨ ∀ g, v'.ownBlock = some g → w.heap.size ≤ g) := by
  obtain ⟨A', cap', rfl, hs, hg, hA⟩ := ha
  refine ⟨_, rfl, ?_, by rw [blk_sliceT]; exact hg, ?_⟩
  · rcases hA with rfl | ⟨g, rfl, hle⟩
    · rcases h.2 with ⟨e, e0⟩ | ⟨g, cap2, cur, e, hb, _⟩
      · injection e with e1 e2 e3
        subst e1
        rcases hs.form with ⟨_, rfl, rfl⟩ | ⟨g, off, e⟩
        · exact OwnTu.nil _ _
        · cases e
      · injection e with e1 e2 e3
        subst e1
        exact own_of_slabT hs hb
    · exact own_of_slabT hs (Nat.le_trans hbase hle)
  · rw [blk_sliceT, blk_sliceT]
    rcases hA with rfl | ⟨g, rfl, hle⟩
    · exact Or.inl rfl
    · exact Or.inr fun k hk => by cases hk; exact hle
end Go.Proofs.Ytjmkkglmckiknaa
