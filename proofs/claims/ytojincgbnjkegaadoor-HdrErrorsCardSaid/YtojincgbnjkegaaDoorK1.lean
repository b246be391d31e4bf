/-
  Texts joined, in build order: StripR, InsA, InsB, Plus, StripA, RunsP, StripX, SpanM, Shelf, Carry, WideA, DivMath, DivA, Over, WideB, WideD.
-/
import Derived.Test.YtojincgbnjkegaaDoorK0
import Derived.Lib.AppendZerosOnto
import Derived.Lib.JoinLaws
import Derived.Lib.Overlaps
import Derived.Lib.SmallJoins
import Derived.Laws.CopyRow
import Derived.Laws.NewBlocks
import Derived.Shelf.Spec.SlicesInsertGrow
import Derived.Deep.RegionLaw
import Derived.Test.YtojincgbnjkegaaDoorRows
import Derived.WalkKit
import Derived.WalkSpells
import Derived.WalkLawsBesides
import Derived.LoopTactic
import Derived.Deep.QuietTactic
import Derived.BigQuiet
import Derived.Deep.RegionWith
import Derived.Lib.BitFns
import Derived.Lib.ItoaNum
import Derived.Shelf.Small.Bits
import Derived.Shelf.Strconv.Itoa0
import Derived.Shelf.Bits.Mul64
import Derived.Test.YtojincgbnjkegaaDoorProg
import Derived.Shelf.Spec.BitsCarry
import Derived.Deep.RegionHeld3
import Derived.Laws.Bits64b
import Derived.Deep.DeepCutAuto
import Derived.Deep.CutBlock
import Derived.WalkSmall
/-
  How package strip's row lies in memory (anywhere in its block); walk: runs.Add of such a row.
-/
namespace Go.Proofs.YtojincgbnjkegaaDoor
set_option linter.unusedVariables false
set_option linter.unusedSimpArgs false
open Go.RowKit

theorem set_cells8 {w : World} {b : Nat} {cs : Array Value} {t : TypeId} (h : w.heap[b]? = some (.cells cs t (0, 0))) (o : Nat) (u : Value) : (w.setCell ⟨b, o, none⟩ u).heap[b]? = some (.cells (cs.setIfInBounds o u) t (0, 0)) := by
  have hlt := lt_of_block h
  have h' : w.heap[b] = .cells cs t (0, 0) := by simpa [Array.getElem?_eq_getElem hlt] using h
  show (w.heap.modify b _)[b]? = _
  rw [Array.getElem?_eq_getElem (by simpa using hlt), Array.getElem_modify_self, h']
  rfl
theorem free8 {w : World} {b : Nat} {cs : Array Value} {t : TypeId} (h : w.heap[b]? = some (.cells cs t (0, 0))) (o : Nat) : w.frozen? ⟨b, o, none⟩ = false := by simp [World.frozen?, h]

/-- A row of pairs that may be written; its first pair may lie anywhere in its block. -/
structure Slab (w : World) (A : Option Addr) (cap : Nat) (L : List PairV) : Prop where
  pairs : Pairs w A L
  fit : L.length ≤ cap
  blk : (A = none ∧ cap = 0) ∨ ∃ g off cs, A = some ⟨g, off, none⟩ ∧ w.heap[g]? = some (.cells cs 77 (0, 0))
  room : ∀ g off cs, A = some ⟨g, off, none⟩ → w.heap[g]? = some (.cells cs 77 (0, 0)) → off + cap * 2 ≤ cs.size
  capm : cap ≤ 9223372036854775807
/-- The block of such a row. -/
def blkA (A : Option Addr) : Option Nat := A.map fun a => a.block
theorem blk_slice (A : Option Addr) (n cap : Nat) : (Value.slice A n cap).ownBlock = blkA A := by cases A <;> rfl
theorem Slab.nil (w : World) : Slab w none 0 [] := ⟨Pairs.nil w, by simp, Or.inl ⟨rfl, rfl⟩, fun g off cs e => (by cases e), by omega⟩
theorem Slab.form {w : World} {A : Option Addr} {cap : Nat} {L : List PairV} (h : Slab w A cap L) : (A = none ∧ L = [] ∧ cap = 0) ∨ ∃ g off, A = some ⟨g, off, none⟩ := by
  rcases h.blk with ⟨rfl, rfl⟩ | ⟨g, off, cs, rfl, _⟩
  · exact Or.inl ⟨rfl, List.eq_nil_of_length_eq_zero (by have := h.fit; omega), rfl⟩
  · exact Or.inr ⟨g, off, rfl⟩
theorem Slab.lt {w : World} {A : Option Addr} {cap : Nat} {L : List PairV} (h : Slab w A cap L) {k : Nat} (hk : blkA A = some k) : k < w.heap.size := by
  rcases h.blk with ⟨rfl, _⟩ | ⟨g, off, cs, rfl, hb⟩
  · cases hk
  · cases hk; exact lt_of_block hb
theorem Slab.keep {w w' : World} {A : Option Addr} {cap : Nat} {L : List PairV} (h : Slab w A cap L) (hk : ∀ k, blkA A = some k → w'.heap[k]? = w.heap[k]?) : Slab w' A cap L := by
  refine ⟨⟨h.pairs.ok, fun i p hi => ?_⟩, h.fit, ?_, fun g off cs e hb => h.room g off cs e (by rw [← hk g (by rw [e]; rfl)]; exact hb), h.capm⟩
  · obtain ⟨b, off, rfl, hlt, c0, c1⟩ := h.pairs.at_ i p hi
    have hb := hk b rfl
    refine ⟨b, off, rfl, ?_, (World.cell?_of_block (a := ⟨b, off + i * 2, none⟩) hb).trans c0, (World.cell?_of_block (a := ⟨b, off + i * 2 + 1, none⟩) hb).trans c1⟩
    exact World.block_lt_of_cell? (a := ⟨b, off + i * 2, none⟩) _ ((World.cell?_of_block (a := ⟨b, off + i * 2, none⟩) hb).trans c0)
  · rcases h.blk with h0 | ⟨g, off, cs, rfl, hb⟩
    · exact Or.inl h0
    · exact Or.inr ⟨g, off, cs, rfl, (hk g rfl).trans hb⟩
theorem Slab.call {w w' : World} {A : Option Addr} {cap : Nat} {L : List PairV} (h : Slab w A cap L) (hb : Below w.heap.size w w') : Slab w' A cap L := h.keep fun k hk => hb.block k (h.lt hk)
theorem Slab.of_own {w : World} {base : Nat} {v : Value} {L : List PairV} (h : OwnP w base v L) (ok : ∀ p, p ∈ L → okP p) : ∃ A cap, v = .slice A L.length cap ∧ Slab w A cap L ∧ ∀ k, blkA A = some k → base ≤ k := by
  obtain ⟨A, cap, rfl, hP⟩ := h.pairs ok
  refine ⟨A, cap, rfl, ?_, fun k hk => (h.lt k (by rw [blk_slice]; exact hk)).1⟩
  rcases h.2 with ⟨e, e0⟩ | ⟨g, cap', cur, e, _, hg, hnc, hcm, hcz, _⟩
  · injection e with e1 e2 e3
    exact ⟨hP, by omega, Or.inl ⟨e1, e3⟩, fun g off cs e => (by rw [e1] at e; cases e), by omega⟩
  · injection e with e1 _ e3
    subst e1
    exact ⟨hP, by omega, Or.inr ⟨g, 0, cur, rfl, hg⟩, (fun g' off' cs' e hg' => by
      obtain ⟨rfl, rfl, _⟩ := Addr.mk.inj (Option.some.inj e)
      rw [hg] at hg'
      obtain ⟨rfl, _⟩ := Obj.cells.inj (Option.some.inj hg')
      omega), by unfold maxLen at hcm; omega⟩
/-- A count is written. -/
theorem Slab.put {w : World} {g off cap n : Nat} {L lo hi : List PairV} {i m m' : Int} (h : Slab w (some ⟨g, off, none⟩) cap L) (hp : lo ++ ((i, m) :: hi) = L) (hn : lo.length = n) (hi' : I64 i) (hm : Word m') :
    Slab (w.setCell ⟨g, off + n * 2 + 1, none⟩ (.int .u64 m')) (some ⟨g, off, none⟩) cap (lo ++ ((i, m') :: hi)) := by
  subst hn hp
  have hsz : (lo ++ ((i, m') :: hi)).length = (lo ++ ((i, m) :: hi)).length := by simp
  refine ⟨⟨fun p hp' => ?_, fun j p hj => ?_⟩, by rw [hsz]; exact h.fit, ?_, ?_, h.capm⟩
  · rcases List.mem_append.1 hp' with h1 | h1
    · exact h.pairs.ok p (List.mem_append_left _ h1)
    · rcases List.mem_cons.1 h1 with rfl | h2
      · exact ⟨hi', hm⟩
      · exact h.pairs.ok p (List.mem_append_right _ (List.mem_cons_of_mem _ h2))
  · obtain ⟨b0, o0, e0, hlt, x0, x1⟩ := h.pairs.at_ lo.length (i, m) (by rw [List.getElem?_append_right (Nat.le_refl _), Nat.sub_self]; rfl)
    obtain ⟨rfl, rfl, _⟩ := Addr.mk.inj (Option.some.inj e0)
    by_cases hjn : j = lo.length
    · subst hjn
      rw [List.getElem?_append_right (Nat.le_refl _), Nat.sub_self] at hj
      obtain rfl := Option.some.inj hj
      refine ⟨g, off, rfl, by simpa [World.setCell] using hlt, ?_, World.cell?_setCell_same _ _ _ x1⟩
      rw [World.cell?_setCell_other _ _ _ _ (two_off (by omega))]; exact x0
    · have hj' : (lo ++ ((i, m) :: hi))[j]? = some p := by
        rcases Nat.lt_or_ge j lo.length with h1 | h1
        · rw [List.getElem?_append_left h1] at hj ⊢; exact hj
        · rw [List.getElem?_append_right h1] at hj ⊢
          obtain ⟨t, ht⟩ : ∃ t, j - lo.length = t + 1 := ⟨j - lo.length - 1, by omega⟩
          rw [ht] at hj ⊢
          exact hj
      obtain ⟨b0, o0, e0, hlt', c0, c1⟩ := h.pairs.at_ j p hj'
      obtain ⟨rfl, rfl, _⟩ := Addr.mk.inj (Option.some.inj e0)
      refine ⟨g, off, rfl, by simpa [World.setCell] using hlt, ?_, ?_⟩
      · rw [World.cell?_setCell_other _ _ _ _ (two_off (by omega))]; exact c0
      · rw [World.cell?_setCell_other _ _ _ _ (two_off (by omega))]; exact c1
  · rcases h.blk with ⟨e, _⟩ | ⟨g', off', cs, e, hb⟩
    · cases e
    · obtain ⟨rfl, rfl, _⟩ := Addr.mk.inj (Option.some.inj e)
      exact Or.inr ⟨g, off, _, rfl, set_cells8 hb _ _⟩
  · intro g2 off2 cs2 e2 hb2
    obtain ⟨rfl, rfl, _⟩ := Addr.mk.inj (Option.some.inj e2)
    rcases h.blk with ⟨e, _⟩ | ⟨g', off', cs, e, hb⟩
    · cases e
    · obtain ⟨rfl, rfl, _⟩ := Addr.mk.inj (Option.some.inj e)
      have hr := h.room _ _ cs rfl hb
      rw [set_cells8 hb] at hb2
      obtain ⟨rfl, _⟩ := Obj.cells.inj (Option.some.inj hb2)
      simpa using hr

/-- What has become of a row. -/
def AddedV (w : World) (A : Option Addr) (L : List PairV) (e : Ending) (w' : World) : Prop :=
  ∃ A' cap', e = .returned (.slice A' L.length cap') ∧ Slab w' A' cap' L ∧ w.grownBy w' (blkA A) ∧ (A' = A ∨ ∀ k, blkA A' = some k → w.heap.size ≤ k)

theorem pairs_from {w : World} {g off : Nat} {lo hi : List PairV} (h : Pairs w (some ⟨g, off, none⟩) (lo ++ hi)) (n : Nat) (hn : lo.length = n) : Pairs w (some ⟨g, off + n * 2, none⟩) hi := by
  have h1 := h.shift n
  rw [List.drop_append_of_le_length (by omega), List.drop_of_length_le (by omega), List.nil_append] at h1
  exact h1

end Go.Proofs.YtojincgbnjkegaaDoor
/-
  Walk: the library's slices.Insert of one pair into a row of pairs that may be written: in its own room, or in a new block.
-/
namespace Go.Proofs.YtojincgbnjkegaaDoor
set_option linter.unusedVariables false
set_option linter.unusedSimpArgs false
open Go.RowKit

/-- Putting v between A and H, where there is room behind. -/
theorem shift_in {A H R v : List Value} {a h : Nat} (hA : A.length = a) (hH : H.length = h) (hv : v.length = 2) :
    (((A ++ H ++ R).take (a + 2) ++ H ++ (A ++ H ++ R).drop (a + 2 + h)).take a) ++ v ++ (((A ++ H ++ R).take (a + 2) ++ H ++ (A ++ H ++ R).drop (a + 2 + h)).drop (a + 2)) = A ++ v ++ H ++ R.drop 2 ∨ (A ++ H ++ R).length < a + 2 := by
  by_cases hl : (A ++ H ++ R).length < a + 2
  · exact Or.inr hl
  left
  subst hA hH
  have h1 : ((A ++ H ++ R).take (A.length + 2)).length = A.length + 2 := by rw [List.length_take]; omega
  have h2 : (A ++ H ++ R).drop (A.length + 2 + H.length) = R.drop 2 := by
    rw [List.drop_append, List.drop_of_length_le (by rw [List.length_append]; omega), List.nil_append, List.length_append]
    congr 1; omega
  have hT : List.take A.length ((A ++ H ++ R).take (A.length + 2)) = A := by
    rw [List.take_take, Nat.min_eq_left (by omega), List.append_assoc, List.take_left' rfl]
  rw [h2]
  generalize (A ++ H ++ R).take (A.length + 2) = T at *
  rw [List.append_assoc T, List.take_append_of_le_length (by omega), hT, List.drop_left' h1]
  simp
theorem shift_new {A H W v : List Value} {a h : Nat} (hA : A.length = a) (hH : H.length = h) (hv : v.length = 2) :
    ((((A ++ W).take a ++ v ++ (A ++ W).drop (a + 2)).take (a + 2)) ++ H ++ (((A ++ W).take a ++ v ++ (A ++ W).drop (a + 2)).drop (a + 2 + h))) = A ++ v ++ H ++ W.drop (2 + h) := by
  subst hA hH
  have h1 : (A ++ W).take A.length = A := by rw [List.take_append, List.take_length, Nat.sub_self, List.take_zero, List.append_nil]
  have h2 : (A ++ W).drop (A.length + 2) = W.drop 2 := by
    rw [List.drop_append, List.drop_of_length_le (by omega), List.nil_append]; congr 1; omega
  have h3 : (A ++ v).length = A.length + 2 := by rw [List.length_append]; omega
  rw [h1, h2, List.take_append, List.drop_append, List.take_of_length_le (by omega), h3, Nat.sub_self, List.take_zero, List.append_nil, List.drop_of_length_le (by omega), List.nil_append, List.drop_drop]
  congr 2; omega

/-- What a block's cells say of a row in it, and back. -/
theorem pairs_cells {w : World} {g off : Nat} {cs : Array Value} {L : List PairV} (h : Pairs w (some ⟨g, off, none⟩) L) (hg : w.heap[g]? = some (.cells cs 77 (0, 0))) (hl : off + L.length * 2 ≤ cs.size) :
    cs.toList = cs.toList.take off ++ cellsQ L ++ cs.toList.drop (off + L.length * 2) := by
  have hQ := cellsQ_len L
  have key : (cs.toList.drop off).take (L.length * 2) = cellsQ L := by
    apply List.ext_getElem?
    intro j
    by_cases hj : j < L.length * 2
    · rw [List.getElem?_take_of_lt hj, List.getElem?_drop]
      have hq := List.getElem?_eq_getElem (l := L) (i := j / 2) (by omega)
      obtain ⟨b', off', e, _, c0, c1⟩ := h.at_ (j / 2) _ hq
      obtain ⟨rfl, rfl, _⟩ := Addr.mk.inj (Option.some.inj e)
      obtain ⟨q0, q1⟩ := cellsQ_at L (j / 2) _ hq
      rw [Joins.cell_of_block hg] at c0 c1
      rcases Nat.mod_two_eq_zero_or_one j with h2 | h2
      · have e1 : j / 2 * 2 = j := by omega
        rw [e1] at q0 c0; rw [q0, ← c0]; simp
      · have e1 : j / 2 * 2 + 1 = j := by omega
        rw [Nat.add_assoc, e1] at c1; rw [e1] at q1; rw [q1, ← c1]; simp
    · rw [List.getElem?_eq_none (by rw [List.length_take]; omega), List.getElem?_eq_none (by omega)]
  rw [List.append_assoc, ← key]
  have h2 : (cs.toList.drop off).drop (L.length * 2) = cs.toList.drop (off + L.length * 2) := by rw [List.drop_drop]
  rw [← h2, List.take_append_drop, List.take_append_drop]
theorem cells_pairs {w : World} {g off : Nat} {cs : Array Value} {L : List PairV} (ok : ∀ p, p ∈ L → okP p) (hg : w.heap[g]? = some (.cells cs 77 (0, 0))) {P R : List Value} (hP : P.length = off) (hc : cs.toList = P ++ cellsQ L ++ R) :
    Pairs w (some ⟨g, off, none⟩) L := by
  refine ⟨ok, fun i p hi => ⟨g, off, rfl, lt_of_block hg, ?_, ?_⟩⟩
  all_goals
    obtain ⟨q0, q1⟩ := cellsQ_at L i p hi
    have hlt : i < L.length := by
      rcases Nat.lt_or_ge i L.length with h1 | h1
      · exact h1
      · rw [List.getElem?_eq_none h1] at hi; cases hi
    have hQ := cellsQ_len L
    rw [Joins.cell_of_block hg]
    have e : ∀ o, cs[o]? = cs.toList[o]? := fun o => Array.getElem?_toList.symm
    rw [e, hc, List.append_assoc, List.getElem?_append_right (by omega), List.getElem?_append_left (by omega)]
  · rw [show off + i * 2 - P.length = i * 2 by omega]; exact q0
  · rw [show off + i * 2 + 1 - P.length = i * 2 + 1 by omega]; exact q1

/-- copy at rows of pairs: all is read before anything is written. -/
theorem run_copy_pairs (w : World) (ty : TypeId) (g o dLen dCap : Nat) (a : Addr) (sLen sCap : Nat) (cur : Array Value) (t : TypeId) (k : Nat) (cs : List Value)
    (hg : w.heap[g]? = some (.cells cur t (0, 0))) (hk : k = Nat.min sLen dLen) (hn : cs.length = k * 2)
    (hsrc : ∀ j v, cs[j]? = some v → w.cell? (a.add j) = some v) (hfit : o + cs.length ≤ cur.size) (h1 : ∀ v ∈ cs, v.oneCell' = true) :
    (Builtin.copy_ #[70, 70] ty #[.slice (some ⟨g, o, none⟩) dLen dCap, .slice (some a) sLen sCap]).run Tryd.prog w =
      .ok (goInt k) (w.setRow g (cur.toList.take o ++ cs ++ cur.toList.drop (o + cs.length)).toArray) := by
  have hl := run_loadCells_list (P := Tryd.prog) w a cs hsrc
  have hst := run_storeCells_at Tryd.prog g o t cs 0 cur w hg (by simpa using hfit) h1
  obtain ⟨i0, hi, hz0, hz1, hz2⟩ := info_parts Tryd.infoPair
  simp [Builtin.copy_, run_underlying Tryd.underlying70, Builtin.lenOf, Builtin.firstCells, sizeOf, typeInfo, hi, hz1, ← hk, ← hn, hl, hst]
theorem run_copy_pairs0 (w : World) (ty : TypeId) (d a : Addr) (dLen dCap sLen sCap : Nat) (hk : Nat.min sLen dLen = 0) :
    (Builtin.copy_ #[70, 70] ty #[.slice (some d) dLen dCap, .slice (some a) sLen sCap]).run Tryd.prog w = .ok (goInt 0) w := by
  obtain ⟨i0, hi, hz0, hz1, hz2⟩ := info_parts Tryd.infoPair
  have hl : (loadCells a 0).run Tryd.prog w = .ok #[] w := run_loadCells_list (P := Tryd.prog) w a [] (fun j v hj => by simp at hj)
  simp [Builtin.copy_, run_underlying Tryd.underlying70, Builtin.lenOf, Builtin.firstCells, sizeOf, typeInfo, hi, hz1, hk, hl, storeCells]
end Go.Proofs.YtojincgbnjkegaaDoor

namespace Go.Proofs.YtojincgbnjkegaaDoor
set_option linter.unusedVariables false
set_option linter.unusedSimpArgs false
open Go.RowKit

theorem setCells_row {w : World} {g o : Nat} {cur : Array Value} {t : TypeId} {vs : List Value} (hg : w.heap[g]? = some (.cells cur t (0, 0))) (hl : o + vs.length ≤ cur.size) (h1 : ∀ v ∈ vs, v.oneCell' = true) :
    w.setCells g o vs = w.setRow g (cur.toList.take o ++ vs ++ cur.toList.drop (o + vs.length)).toArray := by
  have a := run_storeCells_at Tryd.prog g o t vs 0 cur w hg (by simpa using hl) h1
  have b := run_storeCells_cells (P := Tryd.prog) g o vs 0 w (fun j hj => by rw [Joins.cell_of_block hg, Array.getElem?_eq_getElem (by omega)]; rfl) (fun j hj => free8 hg _) h1
  rw [a] at b
  simp only [Nat.add_zero] at b
  injection b with _ b2
  exact b2.symm
theorem grown_setRow (w : World) (g : Nat) (cs : Array Value) : w.grownBy (w.setRow g cs) (some g) :=
  ⟨rfl, rfl, rfl, by simp [World.setRow], fun k hk hr => setRow_other w g k cs (fun e => hr (by rw [e]))⟩
theorem slab_of_cells {w : World} {g off cap : Nat} {X : Array Value} {L : List PairV} {P R : List Value} (ok : ∀ p, p ∈ L → okP p) (hg : w.heap[g]? = some (.cells X 77 (0, 0))) (hP : P.length = off) (hc : X.toList = P ++ cellsQ L ++ R)
    (hfit : L.length ≤ cap) (hr : off + cap * 2 ≤ X.size) (hcap : cap ≤ 9223372036854775807) : Slab w (some ⟨g, off, none⟩) cap L :=
  ⟨cells_pairs ok hg hP hc, hfit, Or.inr ⟨g, off, X, rfl, hg⟩, (fun g' off' cs' e hg' => by
    obtain ⟨rfl, rfl, _⟩ := Addr.mk.inj (Option.some.inj e)
    rw [hg] at hg'
    obtain ⟨rfl, _⟩ := Obj.cells.inj (Option.some.inj hg')
    exact hr), hcap⟩

/-- The pair that is put in, as its call lays it: in a block of its own. -/
structure OneP (w : World) (vb : Nat) (i c : Int) : Prop where
  blk : w.heap[vb]? = some (.cells #[.int .i64 i, .int .u64 c] 77 (0, 0))
theorem OneP.at_ {w : World} {vb : Nat} {i c : Int} (h : OneP w vb i c) : ∀ (j : Nat) (u : Value), [Value.int .i64 i, .int .u64 c][j]? = some u → w.cell? ((⟨vb, 0, none⟩ : Addr).add j) = some u := by
  intro j u hj
  rw [Addr.add_lit, Nat.zero_add, Joins.cell_of_block h.blk]
  rw [← hj]; simp

theorem cells_mid (lo hi : List PairV) (i c : Int) : cellsQ (lo ++ ((i, c) :: hi)) = cellsQ lo ++ [.int .i64 i, .int .u64 c] ++ cellsQ hi := by
  rw [cellsQ_app, cellsQ_cons]; simp [cellsP]

set_option maxRecDepth 100000 in
set_option maxHeartbeats 4000000 in
/-- At the end, where there is room. -/
theorem ins_end_room (w : World) (g off cap n vb : Nat) (L : List PairV) (i c : Int) (h : Slab w (some ⟨g, off, none⟩) cap L) (hn : L.length = n) (hlt : n < cap) (hv : OneP w vb i c) (hi : I64 i) (hc : Word c) :
    Calls Tryd.prog 98 #[.slice (some ⟨g, off, none⟩) n cap, .int .i64 n, .slice (some ⟨vb, 0, none⟩) 1 1] w (AddedV w (some ⟨g, off, none⟩) (L ++ [(i, c)])) := by
  obtain ⟨i0, hi0, hz0, hz1, hz2⟩ := info_parts Tryd.infoPair
  obtain ⟨cs, hg⟩ : ∃ cs, w.heap[g]? = some (.cells cs 77 (0, 0)) := by
    rcases h.blk with ⟨e, _⟩ | ⟨g', off', cs, e, hb⟩
    · cases e
    · obtain ⟨rfl, rfl, _⟩ := Addr.mk.inj (Option.some.inj e)
      exact ⟨cs, hb⟩
  have hr := h.room _ _ _ rfl hg
  have hcm := h.capm
  have hsrc : Src Tryd.prog i0.size 70 (.slice (some ⟨vb, 0, none⟩) 1 1) 1 [.int .i64 i, .int .u64 c] w := Src.ofSlice w Tryd.underlying70 ⟨vb, 0, none⟩ 1 1 _ (by rw [hz1]; rfl) hv.at_ (by intro u hu; simp at hu; rcases hu with rfl | rfl <;> rfl)
  have hE := setCells_row (o := off + n * i0.size) (vs := [.int .i64 i, .int .u64 c]) hg (by rw [hz1]; simp; omega) (by intro u hu; simp at hu; rcases hu with rfl | rfl <;> rfl)
  have hroom1 : ∀ j, j < [Value.int .i64 i, .int .u64 c].length → (w.cell? ⟨g, off + n * i0.size + j, none⟩).isSome = true := fun j hj => by
    rw [hz1, Joins.cell_of_block hg, Array.getElem?_eq_getElem (by simp at hj; omega)]; rfl
  have hfin : AddedV w (some ⟨g, off, none⟩) (L ++ [(i, c)]) (.returned (.slice (some ⟨g, off, none⟩) (n + 1) cap)) (w.setCells g (off + n * i0.size) [.int .i64 i, .int .u64 c]) := by
    rw [hE]
    have hc1 := pairs_cells h.pairs hg (by omega)
    have hT : (cs.toList.take off).length = off := by rw [List.length_take]; simp; omega
    have hQ := cellsQ_len L
    refine ⟨some ⟨g, off, none⟩, cap, by simp [hn], ?_, grown_setRow w g _, Or.inl rfl⟩
    refine slab_of_cells (P := cs.toList.take off) (R := (cs.toList.drop (off + L.length * 2)).drop 2) (by intro p hp; rcases List.mem_append.1 hp with h1 | h1; exact h.pairs.ok p h1; simp at h1; subst h1; exact ⟨hi, hc⟩) (setRow_heap w g _ _ _ _ hg) hT ?_ (by simp; omega) ?_ hcm
    · have e1 : cs.toList.take (off + n * i0.size) = cs.toList.take off ++ cellsQ L := by
        rw [hz1, ← hn, List.take_add]
        congr 1
        have : cs.toList.drop off = cellsQ L ++ cs.toList.drop (off + L.length * 2) := by
          conv => lhs; rw [hc1, List.append_assoc, List.drop_append, List.drop_of_length_le (by omega), hT, Nat.sub_self, List.drop_zero, List.nil_append]
        rw [this, List.take_append, ← hQ, List.take_length, Nat.sub_self, List.take_zero, List.append_nil]
      rw [e1, cellsQ_app, cellsQ_one', hz1, ← hn]
      simp [List.drop_drop]
    · rw [hz1]; simp; omega
  rw [hz1] at hfin
  have HF := Lib.hid hfin
  clear hfin hE hr
  go_enter Tryd.func98, Tryd.ntmps98
  go_wp2_with (at_builtin; refine wpList_append_room_src _ rfl (.tmp 23) (.tmp 24) 70 70 rfl 77 i0 Tryd.underlying70 hi0 g off n cap rfl _ rfl 1 _ hsrc hlt hroom1 (fun j hj => free8 hg _) ?_)
  go_ret
  exact HF.out

theorem zero_len (z : Array Value) (n : Nat) : (Builtin.zeroCells z n).size = n * z.size := by simp [Builtin.zeroCells]
theorem old_cells {w : World} {A : Option Addr} {cap : Nat} {L : List PairV} (h : Slab w A cap L) (sz k c2 : Nat) (hz : sz = 2) (hk : k ≤ L.length) : (Builtin.firstCells sz k (.slice A k c2)).run Tryd.prog w = .ok (cellsQ (L.take k)).toArray w := by
  subst hz
  have hlen : (L.take k).length = k := by rw [List.length_take]; omega
  rcases h.form with ⟨rfl, rfl, rfl⟩ | ⟨g, off, rfl⟩
  · have : k = 0 := by simpa using hk
    subst this
    exact run_firstCells_none w 2 0 0 c2
  · refine run_firstCells_some w 2 k ⟨g, off, none⟩ k c2 (cellsQ (L.take k)) (by rw [cellsQ_len, hlen]) fun j u hj => ?_
    have hjl : j < k * 2 := by
      rcases Nat.lt_or_ge j (k * 2) with h1 | h1
      · exact h1
      · rw [List.getElem?_eq_none (by rw [cellsQ_len, hlen]; omega)] at hj; cases hj
    have hq := List.getElem?_eq_getElem (l := L.take k) (i := j / 2) (by omega)
    have hq2 : L[j / 2]? = some ((L.take k)[j / 2]'(by omega)) := by rw [← hq, List.getElem?_take_of_lt (by omega)]
    obtain ⟨b', off', e, _, c0, c1⟩ := h.pairs.at_ (j / 2) _ hq2
    obtain ⟨rfl, rfl, _⟩ := Addr.mk.inj (Option.some.inj e)
    obtain ⟨q0, q1⟩ := cellsQ_at (L.take k) (j / 2) _ hq
    rw [Addr.add_lit]
    rcases Nat.mod_two_eq_zero_or_one j with h2 | h2
    · have e1 : j / 2 * 2 = j := by omega
      rw [e1] at q0 c0; rw [c0, ← hj, q0]
    · have e1 : j / 2 * 2 + 1 = j := by omega
      rw [Nat.add_assoc, e1] at c1; rw [e1] at q1; rw [c1, ← hj, q1]

set_option maxRecDepth 100000 in
set_option maxHeartbeats 4000000 in
/-- At the end, where there is no room: a new block. -/
theorem ins_end_grow (w : World) (A : Option Addr) (n vb : Nat) (L : List PairV) (i c : Int) (h : Slab w A n L) (hn : L.length = n) (hl : n ≤ 100000) (hv : OneP w vb i c) (hi : I64 i) (hc : Word c) :
    Calls Tryd.prog 98 #[.slice A n n, .int .i64 n, .slice (some ⟨vb, 0, none⟩) 1 1] w (AddedV w A (L ++ [(i, c)])) := by
  obtain ⟨i0, hi0, hz0, hz1, hz2⟩ := info_parts Tryd.infoPair
  have hsrc : Src Tryd.prog i0.size 70 (.slice (some ⟨vb, 0, none⟩) 1 1) 1 [.int .i64 i, .int .u64 c] w := Src.ofSlice w Tryd.underlying70 ⟨vb, 0, none⟩ 1 1 _ (by rw [hz1]; rfl) hv.at_ (by intro u hu; simp at hu; rcases hu with rfl | rfl <;> rfl)
  have hdr : Slab w.drew A n L := h.keep fun k hk => rfl
  have hold := old_cells hdr i0.size n n hz1 (by omega)
  rw [List.take_of_length_le (by omega)] at hold
  have hrun : ∀ ty, (Builtin.append_ #[70, 70] ty #[.slice A n n, .slice (some ⟨vb, 0, none⟩) 1 1]).run Tryd.prog w = _ := fun ty =>
    run_append_grow_src w 70 70 ty 77 i0 _ Tryd.underlying70 hi0 hz0 A n n (cellsQ L) hold _ 1 _ hsrc (by omega) (by omega) (by rw [hz2]; exact growslice_fits (by omega) (by omega))
  obtain ⟨G, hG⟩ : ∃ G, G = grownCap w (n + 1) n 77 := ⟨_, rfl⟩
  have hGn : n + 1 ≤ G := by rw [hG]; exact grownCap_ge w _ _ _
  have hGm := grownCap_le_maxLen w (n + 1) n 77 (by unfold maxLen; omega)
  rw [← hG] at hrun hGm
  have hG63 : G ≤ 9223372036854775807 := by unfold maxLen at hGm; omega
  obtain ⟨X, hX⟩ : ∃ X : Array Value, X = (cellsQ L ++ [Value.int .i64 i, Value.int .u64 c]).toArray ++ Builtin.zeroCells (Value.agg #[.int .i64 0, .int .u64 0]).cells (G - (n + 1)) := ⟨_, rfl⟩
  rw [← hX] at hrun
  have hfin : AddedV w A (L ++ [(i, c)]) (.returned (.slice (some ⟨w.heap.size, 0, none⟩) (n + 1) G)) (w.drew.alloc (.cells X 77)) := by
    refine ⟨some ⟨w.heap.size, 0, none⟩, G, by simp [hn], ?_, grown_call (grown_refl w _) ((Below.refl _ _).drew.alloc (Nat.le_refl _) _), Or.inr fun k hk => by cases hk; exact Nat.le_refl _⟩
    refine slab_of_cells (P := []) (R := (Builtin.zeroCells (Value.agg #[.int .i64 0, .int .u64 0]).cells (G - (n + 1))).toList) (by intro p hp; rcases List.mem_append.1 hp with h1 | h1; exact h.pairs.ok p h1; simp at h1; subst h1; exact ⟨hi, hc⟩) (heap_alloc_new w.drew _) rfl ?_ (by simp; omega) ?_ hG63
    · rw [hX, cellsQ_app, cellsQ_one']; simp
    · have hQ := cellsQ_len L
      rw [hX]; simp [zero_len, Value.cells, hQ]; omega
  have HF := Lib.hid hfin
  have hform := h.form
  have HR := Lib.hid hrun
  clear hfin hold hdr hG hGm hX hrun hz0 hz1 hz2 hsrc h
  rcases hform with ⟨rfl, rfl, rfl⟩ | ⟨g, off, rfl⟩
  · go_enter Tryd.func98, Tryd.ntmps98
    go_wp2_with (at_builtin; refine Lib.wpList_append_run _ rfl _ _ _ _ rfl _ _ rfl rfl _ _ (HR.out _) ?_)
    go_ret
    exact HF.out
  · go_enter Tryd.func98, Tryd.ntmps98
    go_wp2_with (at_builtin; refine Lib.wpList_append_run _ rfl _ _ _ _ rfl _ _ rfl rfl _ _ (HR.out _) ?_)
    all_goals (go_ret; exact HF.out)
end Go.Proofs.YtojincgbnjkegaaDoor

/-
  Walk: the library's slices.Insert of one pair into a row of pairs, not at its end: all behind it moves up.
-/
namespace Go.Proofs.YtojincgbnjkegaaDoor
set_option linter.unusedVariables false
set_option linter.unusedSimpArgs false
open Go.RowKit

theorem ok_mid {lo hi : List PairV} {i c : Int} (h : ∀ p, p ∈ lo ++ hi → okP p) (hi' : I64 i) (hc : Word c) : ∀ p, p ∈ lo ++ ((i, c) :: hi) → okP p := by
  intro p hp
  rcases List.mem_append.1 hp with h1 | h1
  · exact h p (List.mem_append_left _ h1)
  · rcases List.mem_cons.1 h1 with rfl | h2
    · exact ⟨hi', hc⟩
    · exact h p (List.mem_append_right _ h2)
/-- A block of pairs, split at an index. -/
theorem split_cells {w : World} {g off n N : Nat} {cs : Array Value} {lo hi : List PairV} (h : Pairs w (some ⟨g, off, none⟩) (lo ++ hi)) (hg : w.heap[g]? = some (.cells cs 77 (0, 0))) (hn : lo.length = n) (hN : (lo ++ hi).length = N) (hl : off + N * 2 ≤ cs.size) :
    ∃ A R : List Value, cs.toList = A ++ cellsQ hi ++ R ∧ A.length = off + n * 2 ∧ (cellsQ hi).length = (N - n) * 2 ∧ (∃ P : List Value, P.length = off ∧ A = P ++ cellsQ lo) ∧ R.length = cs.size - (off + N * 2) := by
  have hc := pairs_cells h hg (by omega)
  have hQ1 := cellsQ_len lo
  have hQ2 := cellsQ_len hi
  have hNN : lo.length + hi.length = N := by rw [← hN, List.length_append]
  refine ⟨cs.toList.take off ++ cellsQ lo, cs.toList.drop (off + (lo ++ hi).length * 2), ?_, ?_, ?_, ⟨_, ?_, rfl⟩, ?_⟩
  · rw [List.append_assoc (cs.toList.take off), ← cellsQ_app]; exact hc
  · rw [List.length_append, List.length_take]; simp; omega
  · omega
  · rw [List.length_take]; simp; omega
  · rw [hN, List.length_drop]; simp

set_option maxRecDepth 100000 in
set_option maxHeartbeats 4000000 in
/-- There is room: in its own block. -/
theorem ins_shift (w : World) (g off cap n N vb : Nat) (lo hi : List PairV) (i c : Int) (h : Slab w (some ⟨g, off, none⟩) cap (lo ++ hi)) (hn : lo.length = n) (hN : (lo ++ hi).length = N) (hlt : n < N) (hroom : N < cap) (hv : OneP w vb i c) (hvg : vb ≠ g) (hi' : I64 i) (hc : Word c) :
    Calls Tryd.prog 98 #[.slice (some ⟨g, off, none⟩) N cap, .int .i64 n, .slice (some ⟨vb, 0, none⟩) 1 1] w (AddedV w (some ⟨g, off, none⟩) (lo ++ ((i, c) :: hi))) := by
  obtain ⟨cs, hg⟩ : ∃ cs, w.heap[g]? = some (.cells cs 77 (0, 0)) := by
    rcases h.blk with ⟨e, _⟩ | ⟨g', off', cs, e, hb⟩
    · cases e
    · obtain ⟨rfl, rfl, _⟩ := Addr.mk.inj (Option.some.inj e)
      exact ⟨cs, hb⟩
  have hr := h.room _ _ _ rfl hg
  have hcm := h.capm
  obtain ⟨CA, CR, hcs, hA, hH, ⟨CP, hP, hAP⟩, hR⟩ := split_cells h.pairs hg hn hN (by omega)
  have hgd : w.drew.heap[g]? = some (.cells cs 77 (0, 0)) := hg
  obtain ⟨H, hHe⟩ : ∃ H, cellsQ hi = H := ⟨_, rfl⟩
  have hH1 : ∀ v ∈ H, v.oneCell' = true := by rw [← hHe]; exact cellsQ_one hi
  have hv1 : ∀ u ∈ [Value.int .i64 i, .int .u64 c], u.oneCell' = true := by intro u hu; simp at hu; rcases hu with rfl | rfl <;> rfl
  rw [hHe] at hcs hH
  have hsrc : ∀ j v, H[j]? = some v → w.drew.cell? ((⟨g, off + n * 2, none⟩ : Addr).add j) = some v := fun j v hj => by
    rw [Addr.add_lit, Joins.cell_of_block hgd, ← Array.getElem?_toList, hcs, List.append_assoc, List.getElem?_append_right (by omega), show off + n * 2 + j - CA.length = j by omega]
    have hjl : j < H.length := by
      rcases Nat.lt_or_ge j H.length with h1 | h1
      · exact h1
      · rw [List.getElem?_eq_none h1] at hj; cases hj
    rw [List.getElem?_append_left hjl]; exact hj
  obtain ⟨Y, hY⟩ : ∃ Y : Array Value, (cs.toList.take (off + (n + 1) * 2) ++ H ++ cs.toList.drop (off + (n + 1) * 2 + H.length)).toArray = Y := ⟨_, rfl⟩
  have hYs : Y.size = cs.size := by
    have e1 : cs.toList.length = cs.size := by simp
    rw [← hY]; simp; omega
  have hcp1 : ∀ ty dc sc, (Builtin.copy_ #[70, 70] ty #[.slice (some ⟨g, off + (n + 1) * 2, none⟩) (N - n) dc, .slice (some ⟨g, off + n * 2, none⟩) (N + 1 - n) sc]).run Tryd.prog w.drew = .ok (goInt ((N - n : Nat) : Int)) (w.drew.setRow g Y) := fun ty dc sc => by
    rw [← hY]
    exact run_copy_pairs w.drew ty g (off + (n + 1) * 2) _ dc ⟨g, off + n * 2, none⟩ _ sc cs 77 (N - n) H hgd (by simp only [Nat.min_def]; split <;> omega) hH hsrc (by omega) hH1
  obtain ⟨W1, hW1⟩ : ∃ W1, w.drew.setRow g Y = W1 := ⟨_, rfl⟩
  have hg1 : W1.heap[g]? = some (.cells Y 77 (0, 0)) := by rw [← hW1]; exact setRow_heap w.drew g _ _ _ _ hgd
  have hv2 : OneP W1 vb i c := ⟨by rw [← hW1, setRow_other _ _ _ _ hvg]; exact hv.blk⟩
  obtain ⟨Z, hZ⟩ : ∃ Z : Array Value, (Y.toList.take (off + n * 2) ++ [Value.int .i64 i, .int .u64 c] ++ Y.toList.drop (off + n * 2 + [Value.int .i64 i, .int .u64 c].length)).toArray = Z := ⟨_, rfl⟩
  have hcp2 : ∀ (W : World), W.heap = W1.heap → ∀ ty dc, (Builtin.copy_ #[70, 70] ty #[.slice (some ⟨g, off + n * 2, none⟩) (N + 1 - n) dc, .slice (some ⟨vb, 0, none⟩) 1 1]).run Tryd.prog W = .ok (goInt ((1 : Nat) : Int)) (W.setRow g Z) := fun W hW ty dc => by
    rw [← hZ]
    exact run_copy_pairs W ty g (off + n * 2) _ dc ⟨vb, 0, none⟩ 1 1 Y 77 1 _ (by rw [hW]; exact hg1) (by simp only [Nat.min_def]; split <;> omega) rfl (fun j v hj => by
      have := hv2.at_ j v hj
      rwa [World.cell?_of_block (w := W1) (w' := W) (by rw [hW])]) (by simp; omega) hv1
  have hshape : w.shape? g = some (77, cs.size) := by simp [World.shape?, hg]
  have hshape2 : w.shape? vb = some (77, 2) := by simp [World.shape?, hv.blk]
  have hov : ∀ lb cb, (callFunc 103 #[.slice (some ⟨vb, 0, none⟩) 1 1, .slice (some ⟨g, off + (n + 1) * 2, none⟩) lb cb]).run Tryd.prog w = .ok (.value (.bool false)) w := fun lb cb => by
    obtain ⟨i0, hi0, hz0, hz1, hz2⟩ := info_parts Tryd.infoPair
    rw [run_callFunc_extern Tryd.func103 (by kernel_rfl) (by kernel_rfl) (by kernel_rfl) (e := Extern.SlicesOverlaps.overlaps #[70, 70] #[4]) (by kernel_rfl),
      Lib.run_overlaps_apart w 70 4 77 Tryd.underlying70 2 (fun w => by simp [sizeOf, typeInfo, hi0, hz1]) ⟨vb, 0, none⟩ ⟨g, off + (n + 1) * 2, none⟩ 1 1 lb cb hvg 77 77 2 cs.size hshape2 hshape (by omega) (free8 hv.blk _) (free8 hv.blk _)]
    rfl
  have hfin : ∀ W : World, W.heap = W1.heap → W.os = w.os → W.tape = w.tape → W.output = w.output → AddedV w (some ⟨g, off, none⟩) (lo ++ ((i, c) :: hi)) (.returned (.slice (some ⟨g, off, none⟩) (N + 1) cap)) (W.setRow g Z) := fun W hW ho ht hu => by
    have hl3 : (lo ++ ((i, c) :: hi)).length = N + 1 := by rw [← hN]; simp; omega
    have hsh := shift_in (A := CA) (H := H) (R := CR) (v := [Value.int .i64 i, .int .u64 c]) hA hH rfl
    have hlen : (CA ++ H ++ CR).length = cs.size := by rw [← hcs]; simp
    rcases hsh with hsh | hbad
    · have hg2 : (W.setRow g Z).heap[g]? = some (.cells Z 77 (0, 0)) := setRow_heap W g _ _ _ _ (by rw [hW]; exact hg1)
      have hZL : Z.toList = CP ++ cellsQ (lo ++ ((i, c) :: hi)) ++ CR.drop 2 := by
        rw [← hZ, ← hY, cells_mid, ← List.append_assoc CP, ← List.append_assoc CP, ← hAP, hHe, ← hsh, ← hcs]
        simp only [List.length_cons, List.length_nil]
        rw [show off + (n + 1) * 2 = off + n * 2 + 2 by omega, hH]
      refine ⟨some ⟨g, off, none⟩, cap, by rw [hl3], slab_of_cells (P := CP) (R := CR.drop 2) (ok_mid h.pairs.ok hi' hc) hg2 hP hZL (by omega) ?_ hcm, ?_, Or.inl rfl⟩
      · have : Z.size = cs.size := by
          have e1 : Z.size = Z.toList.length := by simp
          have hQ := cellsQ_len lo
          rw [e1, hZL, cells_mid, hHe]; simp only [List.length_append, List.length_drop, hH, hR, hP, hQ, List.length_cons, List.length_nil]
          rw [hAP, List.length_append, hP, hQ] at hA
          omega
        omega
      · have hk : W1.heap = (w.drew.setRow g Y).heap := by rw [hW1]
        exact grown_trans ⟨ho, ht, hu, by rw [hW, hk]; simp [World.setRow], fun k hk' hr' => by rw [hW, hk]; exact (setRow_other w.drew g k Y (fun e => hr' (by rw [e]; rfl)))⟩ (grown_setRow W g Z)
    · omega
  have ho1 : W1.os = w.os ∧ W1.tape = w.tape ∧ W1.output = w.output := by rw [← hW1]; exact ⟨rfl, rfl, rfl⟩
  have HF := Lib.hid (hfin W1 rfl ho1.1 ho1.2.1 ho1.2.2)
  rw [hW1] at hcp1
  have HC1 := Lib.hid hcp1
  have hA2 := hcp2 W1 rfl
  generalize W1.setRow g Z = W2 at *
  have hw1 : IntKind.i64.wrap ((n : Int) + 1) = (n : Int) + 1 := by rw [IntKind.wrap_i64]; omega
  have hw2 : IntKind.i64.wrap ((N : Int) + 1) = (N : Int) + 1 := by rw [IntKind.wrap_i64]; omega
  have hb1 : (0 : Int) ≤ (n : Int) + 1 := by omega
  have hb0 : (0 : Int) ≤ (N : Int) + 1 := by omega
  have htn : ((n : Int) + 1).toNat = n + 1 := by omega
  have htN : ((N : Int) + 1).toNat = N + 1 := by omega
  have hb2 : ¬ (cap = n + 1) := by omega
  have hb4 : ¬ (cap = n) := by omega
  have hz2 : ¬ ((n : Int) = (N : Int)) := by omega
  have hin : n ≤ N := by omega
  have hin2 : n ≤ cap := by omega
  have hb3 : (n : Int) ≤ (N : Int) + 1 := by omega
  have hb5 : (n : Int) + 1 ≤ (N : Int) + 1 := by omega
  have hb6 : ¬ ((cap : Int) < (N : Int) + 1) := by omega
  have hb7 : (N : Int) + 1 ≤ (cap : Int) := by omega
  clear hfin hcp1 hcp2 hg1 ho1 hW1 hZ hY hYs hsrc hcs hA hH hP hAP hR hHe hH1 hv1 hgd hr h hv2 hn hN hshape hshape2 hg
  go_enter Tryd.func98, Tryd.ntmps98
  go_wp2_with (simp only [hov])
  go_region_law (refine step_copy_runI rfl _ _ 70 70 rfl (.slice (some ⟨g, off + (n + 1) * 2, none⟩) (N - n) (cap - (n + 1))) (.slice (some ⟨g, off + n * 2, none⟩) (N + 1 - n) (cap - n)) (by simp [Act.eval, Act.put]) (by simp [Act.eval, Act.put]) (HC1.out _ _ _) ?_)
  go_wp2_with fail
  go_ret
  exact HF.out

set_option maxRecDepth 100000 in
set_option maxHeartbeats 4000000 in
/-- There is no room: a new block. -/
theorem ins_grow (w : World) (g off n N vb : Nat) (lo hi : List PairV) (i c : Int) (h : Slab w (some ⟨g, off, none⟩) N (lo ++ hi)) (hn : lo.length = n) (hN : (lo ++ hi).length = N) (hlt : n < N) (hl : N ≤ 100000) (hv : OneP w vb i c) (hi' : I64 i) (hc : Word c) :
    Calls Tryd.prog 98 #[.slice (some ⟨g, off, none⟩) N N, .int .i64 n, .slice (some ⟨vb, 0, none⟩) 1 1] w (AddedV w (some ⟨g, off, none⟩) (lo ++ ((i, c) :: hi))) := by
  obtain ⟨i0, hi0, hz0, hz1, hz2⟩ := info_parts Tryd.infoPair
  obtain ⟨cs, hg⟩ : ∃ cs, w.heap[g]? = some (.cells cs 77 (0, 0)) := by
    rcases h.blk with ⟨e, _⟩ | ⟨g', off', cs, e, hb⟩
    · cases e
    · obtain ⟨rfl, rfl, _⟩ := Addr.mk.inj (Option.some.inj e)
      exact ⟨cs, hb⟩
  have hgw : g < w.heap.size := lt_of_block hg
  have hvw : vb < w.heap.size := lt_of_block hv.blk
  have hr := h.room _ _ _ rfl hg
  have hQ := cellsQ_len lo
  have hQh := cellsQ_len hi
  have hNN : lo.length + hi.length = N := by rw [← hN, List.length_append]
  have hdr : Slab w.drew (some ⟨g, off, none⟩) N (lo ++ hi) := h.keep fun k hk => rfl
  have hold := old_cells hdr i0.size n N hz1 (by omega)
  rw [List.take_append_of_le_length (by omega), List.take_of_length_le (by omega)] at hold
  have hik : n + (N + 1 - n) = N + 1 := by omega
  have hkk : (N : Int) + 1 - (n : Int) = ((N + 1 - n : Nat) : Int) := by omega
  obtain ⟨G, hG⟩ : ∃ G, G = grownCap w (N + 1) N 77 := ⟨_, rfl⟩
  have hGn : N + 1 ≤ G := by rw [hG]; exact grownCap_ge w _ _ _
  have hGm := grownCap_le_maxLen w (N + 1) N 77 (by unfold maxLen; omega)
  rw [← hG] at hGm
  have hG63 : G ≤ 9223372036854775807 := by unfold maxLen at hGm; omega
  obtain ⟨V, hV⟩ : ∃ V : List Value, V = (Builtin.zeroCells (Value.agg #[.int .i64 0, .int .u64 0]).cells (N + 1 - n)).toList ++ (Builtin.zeroCells (Value.agg #[.int .i64 0, .int .u64 0]).cells (G - (N + 1))).toList := ⟨_, rfl⟩
  have hVl : V.length = (G - n) * 2 := by
    rw [hV, List.length_append]; simp [zero_len, Value.cells]; omega
  obtain ⟨X, hX⟩ : ∃ X : Array Value, X = (cellsQ lo).toArray ++ Builtin.zeroCells (Value.agg #[.int .i64 0, .int .u64 0]).cells (N + 1 - n) ++ Builtin.zeroCells (Value.agg #[.int .i64 0, .int .u64 0]).cells (G - (N + 1)) := ⟨_, rfl⟩
  have hXL : X.toList = cellsQ lo ++ V := by rw [hX, hV]; simp
  have hXs : X.size = G * 2 := by
    have : X.size = X.toList.length := by simp
    rw [this, hXL, List.length_append]; omega
  have hrz : ∀ ty, (Builtin.append_ #[70, 3] ty #[.slice (some ⟨g, off, none⟩) n N, .int .i64 ((N : Int) + 1 - (n : Int))]).run Tryd.prog w =
      .ok (.slice (some ⟨w.heap.size, 0, none⟩) (N + 1) G) (w.drew.alloc (.cells X 77)) := fun ty => by
    have h1 := Lib.run_append_grow_zeros w 70 3 ty 77 i0 _ .i64 .i64 Tryd.underlying70 Tryd.underlying3 hi0 hz0 (some ⟨g, off, none⟩) n N (cellsQ lo) hold (N + 1 - n) (by omega) (by omega) (by omega) (by omega) (by rw [hz2]; omega) (by rw [hz2, hik]; exact growslice_fits (by omega) (by omega))
    rw [hik, ← hG, ← hX] at h1
    rw [hkk]
    exact h1
  obtain ⟨W1, hW1⟩ : ∃ W1, w.drew.alloc (.cells X 77) = W1 := ⟨_, rfl⟩
  have hb1' : Below w.heap.size w W1 := by rw [← hW1]; exact (Below.refl _ _).drew.alloc (Nat.le_refl _) _
  have hg1 : W1.heap[w.heap.size]? = some (.cells X 77 (0, 0)) := by rw [← hW1]; exact heap_alloc_new w.drew _
  have hv1 : ∀ u ∈ [Value.int .i64 i, .int .u64 c], u.oneCell' = true := by intro u hu; simp at hu; rcases hu with rfl | rfl <;> rfl
  have hvW : OneP W1 vb i c := ⟨(hb1'.block _ hvw).trans hv.blk⟩
  obtain ⟨Y, hY⟩ : ∃ Y : Array Value, (X.toList.take (n * 2) ++ [Value.int .i64 i, .int .u64 c] ++ X.toList.drop (n * 2 + [Value.int .i64 i, .int .u64 c].length)).toArray = Y := ⟨_, rfl⟩
  have hYs : Y.size = X.size := by
    have e1 : X.toList.length = X.size := by simp
    rw [← hY]; simp; omega
  have hcpA : ∀ (W : World), W.heap = W1.heap → ∀ ty dc, (Builtin.copy_ #[70, 70] ty #[.slice (some ⟨w.heap.size, n * 2, none⟩) (N + 1 - n) dc, .slice (some ⟨vb, 0, none⟩) 1 1]).run Tryd.prog W = .ok (goInt ((1 : Nat) : Int)) (W.setRow w.heap.size Y) := fun W hW ty dc => by
    rw [← hY]
    exact run_copy_pairs W ty w.heap.size (n * 2) _ dc ⟨vb, 0, none⟩ 1 1 X 77 1 _ (by rw [hW]; exact hg1) (by simp only [Nat.min_def]; split <;> omega) rfl (fun j v hj => by
      have := hvW.at_ j v hj
      rwa [World.cell?_of_block (w := W1) (w' := W) (by rw [hW])]) (by simp; omega) hv1
  obtain ⟨H, hHe⟩ : ∃ H, cellsQ hi = H := ⟨_, rfl⟩
  have hH1 : ∀ v ∈ H, v.oneCell' = true := by rw [← hHe]; exact cellsQ_one hi
  have hHl : H.length = (N - n) * 2 := by rw [← hHe]; omega
  obtain ⟨CA, CR, hcs, hA, hH, _, _⟩ := split_cells h.pairs hg hn hN (by omega)
  rw [hHe] at hcs
  have hsrc : ∀ (W : World), W.heap[g]? = w.heap[g]? → ∀ j v, H[j]? = some v → W.cell? ((⟨g, off + n * 2, none⟩ : Addr).add j) = some v := fun W hW j v hj => by
    rw [Addr.add_lit, Joins.cell_of_block (hW.trans hg), ← Array.getElem?_toList, hcs, List.append_assoc, List.getElem?_append_right (by omega), show off + n * 2 + j - CA.length = j by omega]
    have hjl : j < H.length := by
      rcases Nat.lt_or_ge j H.length with h1 | h1
      · exact h1
      · rw [List.getElem?_eq_none h1] at hj; cases hj
    rw [List.getElem?_append_left hjl]; exact hj
  obtain ⟨Z, hZ⟩ : ∃ Z : Array Value, (Y.toList.take ((n + 1) * 2) ++ H ++ Y.toList.drop ((n + 1) * 2 + H.length)).toArray = Z := ⟨_, rfl⟩
  have hcpB : ∀ (W : World), W.heap[w.heap.size]? = some (.cells Y 77 (0, 0)) → W.heap[g]? = w.heap[g]? → ∀ ty dc sc, (Builtin.copy_ #[70, 70] ty #[.slice (some ⟨w.heap.size, (n + 1) * 2, none⟩) (N + 1 - (n + 1)) dc, .slice (some ⟨g, off + n * 2, none⟩) (N - n) sc]).run Tryd.prog W = .ok (goInt ((N - n : Nat) : Int)) (W.setRow w.heap.size Z) := fun W hW hWg ty dc sc => by
    rw [← hZ]
    exact run_copy_pairs W ty w.heap.size ((n + 1) * 2) _ dc ⟨g, off + n * 2, none⟩ _ sc Y 77 (N - n) H hW (by simp only [Nat.min_def]; split <;> omega) hHl (hsrc W hWg) (by omega) hH1
  have hW2 : ∀ W : World, W.heap = W1.heap → (W.setRow w.heap.size Y).heap[w.heap.size]? = some (.cells Y 77 (0, 0)) ∧ (W.setRow w.heap.size Y).heap[g]? = w.heap[g]? := fun W hW =>
    ⟨setRow_heap W _ _ _ _ _ (by rw [hW]; exact hg1), by rw [setRow_other _ _ _ _ (by omega), hW]; exact hb1'.block _ hgw⟩
  have hfin : ∀ W : World, W.heap = W1.heap → W.os = w.os → W.tape = w.tape → W.output = w.output → AddedV w (some ⟨g, off, none⟩) (lo ++ ((i, c) :: hi)) (.returned (.slice (some ⟨w.heap.size, 0, none⟩) (N + 1) G)) (((W.setRow w.heap.size Y).drew).setRow w.heap.size Z) := fun W hW ho ht hu => by
    have hl3 : (lo ++ ((i, c) :: hi)).length = N + 1 := by rw [← hN]; simp; omega
    have hsh := shift_new (A := cellsQ lo) (H := H) (W := V) (v := [Value.int .i64 i, .int .u64 c]) (a := n * 2) (h := (N - n) * 2) (by omega) hHl rfl
    have hg2 : (((W.setRow w.heap.size Y).drew).setRow w.heap.size Z).heap[w.heap.size]? = some (.cells Z 77 (0, 0)) := setRow_heap _ _ _ _ _ _ (hW2 W hW).1
    have hZL : Z.toList = [] ++ cellsQ (lo ++ ((i, c) :: hi)) ++ V.drop (2 + (N - n) * 2) := by
      rw [← hZ, ← hY, hXL, cells_mid, hHe, List.nil_append, ← hsh]
      simp only [List.length_cons, List.length_nil]
      rw [show (n + 1) * 2 = n * 2 + 2 by omega, hHl]
    refine ⟨some ⟨w.heap.size, 0, none⟩, G, by rw [hl3], slab_of_cells (P := []) (R := V.drop (2 + (N - n) * 2)) (ok_mid h.pairs.ok hi' hc) hg2 rfl hZL (by omega) ?_ hG63, ?_, Or.inr fun k hk => by cases hk; exact Nat.le_refl _⟩
    · have : Z.size = Z.toList.length := by simp
      rw [this, hZL, cells_mid, hHe]; simp only [List.length_append, List.length_drop, List.length_cons, List.length_nil]
      omega
    · refine grown_call (grown_refl w _) ⟨ho, ht, hu, ?_, fun k hk => ?_⟩
      · have := hb1'.size
        simp only [World.setRow, Array.size_modify]
        show w.heap.size ≤ (W.heap.modify _ _).size
        rw [Array.size_modify, hW]; exact this
      · rw [setRow_other _ _ _ _ (by omega)]
        show (W.setRow w.heap.size Y).heap[k]? = _
        rw [setRow_other _ _ _ _ (by omega), hW]; exact hb1'.block k hk
  rw [hW1] at hrz
  have HR := Lib.hid hrz
  have ho1 : W1.os = w.os ∧ W1.tape = w.tape ∧ W1.output = w.output := by rw [← hW1]; exact ⟨rfl, rfl, rfl⟩
  have HF := Lib.hid (hfin W1 rfl ho1.1 ho1.2.1 ho1.2.2)
  have hA1 := hcpA W1 rfl
  have HB := Lib.hid (fun ty dc sc => hcpB (W1.setRow w.heap.size Y).drew (hW2 W1 rfl).1 (hW2 W1 rfl).2 ty dc sc)
  have HG2 : Hid ((W1.setRow w.heap.size Y).heap.size = (W1.setRow w.heap.size Y).heap.size) := Lib.hid rfl
  generalize W1.setRow w.heap.size Y = W2 at *
  have hw1 : IntKind.i64.wrap ((n : Int) + 1) = (n : Int) + 1 := by rw [IntKind.wrap_i64]; omega
  have hw2 : IntKind.i64.wrap ((N : Int) + 1) = (N : Int) + 1 := by rw [IntKind.wrap_i64]; omega
  have hw3 : IntKind.i64.wrap ((N : Int) + 1 - n) = (N : Int) + 1 - n := by rw [IntKind.wrap_i64]; omega
  have hb1 : (0 : Int) ≤ (n : Int) + 1 := by omega
  have htn : ((n : Int) + 1).toNat = n + 1 := by omega
  have hz2' : ¬ ((n : Int) = (N : Int)) := by omega
  have hz3 : (N : Int) < (N : Int) + 1 := by omega
  have hin : n ≤ N := by omega
  have hb3 : (n : Int) ≤ (N : Int) := by omega
  have hb5 : (n : Int) + 1 ≤ (N : Int) + 1 := by omega
  have hb8 : (n : Int) ≤ (N : Int) + 1 := by omega
  have hci : ¬ (N = n) := by omega
  have hGi : ¬ (G = n) := by omega
  have hGim : ¬ (G = n + 1) := by omega
  have hNG : (N : Int) + 1 ≤ (G : Int) := by omega
  clear HG2 hfin hrz hcpA hcpB hW2 hW1 ho1 hZ hY hYs hsrc hcs hA hH hHe hH1 hHl hv1 hvW hg1 hb1' hXs hXL hX hVl hV hG hGm hGn hik hkk hold hdr hQ hQh hNN hr hn hN h hz0 hz1 hz2 hgw hvw hg hv
  go_enter Tryd.func98, Tryd.ntmps98
  go_wp2_with (at_builtin; refine Lib.wpList_append_run _ rfl _ _ _ _ rfl _ _ rfl rfl _ _ (HR.out _) ?_)
  go_region_law (refine step_copy_runI rfl _ _ 70 70 rfl (.slice (some ⟨w.heap.size, (n + 1) * 2, none⟩) (N + 1 - (n + 1)) (G - (n + 1))) (.slice (some ⟨g, off + n * 2, none⟩) (N - n) (N - n)) (by simp [Act.eval, Act.put]) (by simp [Act.eval, Act.put]) (HB.out _ _ _) ?_)
  go_wp2_with fail
  go_ret
  exact HF.out

theorem ins_any (w : World) (A : Option Addr) (cap n N vb : Nat) (lo hi : List PairV) (i c : Int) (h : Slab w A cap (lo ++ hi)) (hn : lo.length = n) (hN : (lo ++ hi).length = N) (hl : N ≤ 100000) (hv : OneP w vb i c) (hvg : blkA A ≠ some vb) (hi' : I64 i) (hc : Word c) :
    Calls Tryd.prog 98 #[.slice A N cap, .int .i64 n, .slice (some ⟨vb, 0, none⟩) 1 1] w (AddedV w A (lo ++ ((i, c) :: hi))) := by
  have hfit := h.fit
  have hNN : lo.length + hi.length = N := by rw [← hN, List.length_append]
  by_cases he : n = N
  · have hh : hi = [] := List.eq_nil_of_length_eq_zero (by omega)
    subst hh he
    rw [List.append_nil] at h hfit
    by_cases hr : n < cap
    · rcases h.form with ⟨rfl, rfl, rfl⟩ | ⟨g, off, rfl⟩
      · omega
      · exact ins_end_room w g off cap n vb lo i c h hn hr hv hi' hc
    · obtain rfl : cap = n := by omega
      exact ins_end_grow w A cap vb lo i c h hn hl hv hi' hc
  · rcases h.form with ⟨rfl, e, rfl⟩ | ⟨g, off, rfl⟩
    · rw [e] at hN; simp at hN; omega
    · by_cases hr : N < cap
      · exact ins_shift w g off cap n N vb lo hi i c h hn hN (by omega) hr hv (fun e => hvg (by rw [e]; rfl)) hi' hc
      · obtain rfl : cap = N := by omega
        exact ins_grow w g off n cap vb lo hi i c h hn hN (by omega) hl hv hi' hc
end Go.Proofs.YtojincgbnjkegaaDoor

/-
  Walk: wide.Plus of two numbers, that lie in a block of their own.
-/
namespace Go.Proofs.YtojincgbnjkegaaDoor
set_option linter.unusedVariables false
set_option linter.unusedSimpArgs false
open Go.RowKit

def plus2B (a b : Int) : Bool := decide (a + b ≤ 9223372036854775807)
def plus2Q (a b : Int) : Int := if plus2B a b then a + b else 0

set_option maxRecDepth 100000 in
set_option maxHeartbeats 1000000 in
theorem plus_two (x y q : Int) (ok : Bool) (g cap : Nat) (w : World) (hx : Word x) (hy : Word y) (h0 : w.cell? ⟨g, 0, none⟩ = some (.int .u64 x)) (h1 : w.cell? ⟨g, 1, none⟩ = some (.int .u64 y)) (hq : plus2Q x y = q) (hb : plus2B x y = ok) :
    Calls Tryd.prog 60 #[.slice (some ⟨g, 0, none⟩) 2 cap] w fun e w' =>
      e = .returned (.tuple #[.int .u64 q, .bool ok]) ∧ w = w' := by
  obtain ⟨x0, x1⟩ := hx
  obtain ⟨y0, y1⟩ := hy
  have HQ := Lib.hid hq
  have HB := Lib.hid hb
  clear hq hb
  by_cases a1 : 9223372036854775807 < x
  · have E1 : Hid (ok = false) := Lib.hid (by rw [← HB.out]; unfold plus2B; apply decide_eq_false; omega)
    have E2 : Hid (q = 0) := Lib.hid (by rw [← HQ.out]; unfold plus2Q; rw [HB.out, E1.out]; rfl)
    go_enter Tryd.func60, Tryd.ntmps60
    go_wp2_with fail
    go_loop [4, 9] (fun s i => s = .int .u64 0 ∧ i = .int .i64 0) (fun _ _ => 0)
    case atStart => exact ⟨rfl, rfl⟩
    case round =>
      obtain ⟨rfl, rfl⟩ := hrel
      have a2 : 9223372036854775807 - 0 < x := by omega
      go_wp2_with fail
      exact bodyPost_ret (v := .tuple #[.int .u64 0, .bool false]) (by simp [results, Tryd.results60, go_sem]) rfl ⟨by rw [E1.out, E2.out], rfl⟩
  · by_cases a2 : 9223372036854775807 - x < y
    · have E1 : Hid (ok = false) := Lib.hid (by rw [← HB.out]; unfold plus2B; apply decide_eq_false; omega)
      have E2 : Hid (q = 0) := Lib.hid (by rw [← HQ.out]; unfold plus2Q; rw [HB.out, E1.out]; rfl)
      go_enter Tryd.func60, Tryd.ntmps60
      go_wp2_with fail
      go_loop [4, 9] (fun s i => (s = .int .u64 0 ∧ i = .int .i64 0) ∨ (s = .int .u64 x ∧ i = .int .i64 1)) (fun _ i => 2 - (intOf i).toNat)
      case atStart => exact Or.inl ⟨rfl, rfl⟩
      case round =>
        rcases hrel with ⟨rfl, rfl⟩ | ⟨rfl, rfl⟩
        · go_wp2_with fail
          go_round
          case rel => exact Or.inr ⟨by go_num, by go_num⟩
          case measure => simp [intOf]
        · go_wp2_with fail
          exact bodyPost_ret (v := .tuple #[.int .u64 0, .bool false]) (by simp [results, Tryd.results60, go_sem]) rfl ⟨by rw [E1.out, E2.out], rfl⟩
    · have E1 : Hid (ok = true) := Lib.hid (by rw [← HB.out]; unfold plus2B; apply decide_eq_true; omega)
      have E2 : Hid (q = x + y) := Lib.hid (by rw [← HQ.out]; unfold plus2Q; rw [HB.out, E1.out]; rfl)
      go_enter Tryd.func60, Tryd.ntmps60
      go_wp2_with fail
      go_loop [4, 9] (fun s i => (s = .int .u64 0 ∧ i = .int .i64 0) ∨ (s = .int .u64 x ∧ i = .int .i64 1) ∨ (s = .int .u64 (x + y) ∧ i = .int .i64 2)) (fun _ i => 2 - (intOf i).toNat)
      case atStart => exact Or.inl ⟨rfl, rfl⟩
      case round =>
        rcases hrel with ⟨rfl, rfl⟩ | ⟨rfl, rfl⟩ | ⟨rfl, rfl⟩
        · go_wp2_with fail
          go_round
          case rel => exact Or.inr (Or.inl ⟨by go_num, by go_num⟩)
          case measure => simp [intOf]
        · go_wp2_with fail
          go_round
          case rel => exact Or.inr (Or.inr ⟨by go_num, by go_num⟩)
          case measure => simp [intOf]
        · go_wp2_with fail
          exact bodyPost_ret (v := .tuple #[.int .u64 (x + y), .bool true]) (by simp [results, Tryd.results60, go_sem]) rfl ⟨by rw [E1.out, E2.out], rfl⟩
end Go.Proofs.YtojincgbnjkegaaDoor

/-
  How package strip lays a strip in memory; walks: New, own, Len, Total, At, Ends, of a strip and of a nil one.
  Walk: package strip: Add, of a strip and of a nil one.
-/
namespace Go.Proofs.YtojincgbnjkegaaDoor
set_option linter.unusedVariables false
set_option linter.unusedSimpArgs false
open Go.RowKit

/-- At block B lies a strip: how many pairs at most, its row, their sum. -/
structure LayS (w : World) (B : Nat) (A : Option Addr) (n cap : Nat) (m t : Int) (L : List PairV) : Prop where
  b : w.heap[B]? = some (.cells #[.int .i64 m, .slice A n cap, .int .u64 t] 119 (0, 0))
  row : Slab w A cap L
theorem LayS.c0 {w : World} {B : Nat} {A : Option Addr} {n cap : Nat} {m t : Int} {L : List PairV} (h : LayS w B A n cap m t L) : w.cell? ⟨B, 0, none⟩ = some (.int .i64 m) := by rw [Joins.cell_of_block h.b]; rfl
theorem LayS.c1 {w : World} {B : Nat} {A : Option Addr} {n cap : Nat} {m t : Int} {L : List PairV} (h : LayS w B A n cap m t L) : w.cell? ⟨B, 1, none⟩ = some (.slice A n cap) := by rw [Joins.cell_of_block h.b]; rfl
theorem LayS.c2 {w : World} {B : Nat} {A : Option Addr} {n cap : Nat} {m t : Int} {L : List PairV} (h : LayS w B A n cap m t L) : w.cell? ⟨B, 2, none⟩ = some (.int .u64 t) := by rw [Joins.cell_of_block h.b]; rfl
theorem LayS.f {w : World} {B : Nat} {A : Option Addr} {n cap : Nat} {m t : Int} {L : List PairV} (h : LayS w B A n cap m t L) (o : Nat) : w.frozen? ⟨B, o, none⟩ = false := free8 h.b o
theorem LayS.lt {w : World} {B : Nat} {A : Option Addr} {n cap : Nat} {m t : Int} {L : List PairV} (h : LayS w B A n cap m t L) : B < w.heap.size := lt_of_block h.b
theorem LayS.ne {w : World} {B : Nat} {A : Option Addr} {n cap : Nat} {m t : Int} {L : List PairV} (h : LayS w B A n cap m t L) {k : Nat} (hk : blkA A = some k) : k ≠ B := by
  rintro rfl
  rcases h.row.blk with ⟨rfl, _⟩ | ⟨g, off, cs, rfl, hb⟩
  · cases hk
  · cases hk
    have h1 := h.b
    rw [hb] at h1
    injection h1 with h2
    injection h2 with _ h3
    revert h3
    decide
theorem LayS.keep {w w' : World} {B : Nat} {A : Option Addr} {n cap : Nat} {m t : Int} {L : List PairV} (h : LayS w B A n cap m t L) (h1 : w'.heap[B]? = w.heap[B]?) (h2 : ∀ k, blkA A = some k → w'.heap[k]? = w.heap[k]?) : LayS w' B A n cap m t L := ⟨h1.trans h.b, h.row.keep h2⟩
theorem LayS.call {w w' : World} {B : Nat} {A : Option Addr} {n cap : Nat} {m t : Int} {L : List PairV} (h : LayS w B A n cap m t L) (hb : Below w.heap.size w w') : LayS w' B A n cap m t L := ⟨(hb.block _ h.lt).trans h.b, h.row.call hb⟩

/-- A strip at block B, of m pairs at most, whose row is L; S are its blocks. -/
def StX (w : World) (B : Nat) (S : Nat → Prop) (m : Int) (L : List PairV) : Prop :=
  Stp m L ∧ I64 m ∧ ∃ A cap, LayS w B A L.length cap m (sumP L) L ∧ ∀ k, S k ↔ k = B ∨ blkA A = some k
theorem stx_keep (w w' : World) (B : Nat) (S : Nat → Prop) (m : Int) (L : List PairV) (h : StX w B S m L) (hk : ∀ k, S k → w'.heap[k]? = w.heap[k]?) : StX w' B S m L := by
  obtain ⟨h1, h2, A, cap, h3, h4⟩ := h
  exact ⟨h1, h2, A, cap, h3.keep (hk B ((h4 B).2 (Or.inl rfl))) (fun k hA => hk k ((h4 k).2 (Or.inr hA))), h4⟩
theorem stx_lt (w : World) (B : Nat) (S : Nat → Prop) (m : Int) (L : List PairV) (h : StX w B S m L) : ∀ k, S k → k < w.heap.size := by
  obtain ⟨h1, h2, A, cap, h3, h4⟩ := h
  intro k hk
  rcases (h4 k).1 hk with rfl | hA
  · exact h3.lt
  · exact h3.row.lt hA
theorem stx_cells (w : World) (B : Nat) (S : Nat → Prop) (m : Int) (L : List PairV) (h : StX w B S m L) : ∀ k, S k → ∃ cs t z, w.heap[k]? = some (.cells cs t z) := by
  obtain ⟨h1, h2, A, cap, h3, h4⟩ := h
  intro k hk
  rcases (h4 k).1 hk with rfl | hA
  · exact ⟨_, _, _, h3.b⟩
  · rcases h3.row.blk with ⟨rfl, _⟩ | ⟨g, off, cs, rfl, hb⟩
    · cases hA
    · cases hA; exact ⟨_, _, _, hb⟩

set_option maxHeartbeats 400000 in
theorem snew_any (w : World) (m : Int) (h1 : 1 ≤ m) (h2 : m ≤ 4096) :
    Calls Tryd.prog 84 #[.int .i64 m] w fun e w' => ∃ B S, e = .returned (.tuple #[.pointer (some ⟨B, 0, none⟩), .int .i64 0]) ∧ StX w' B S m [] ∧ (∀ k, S k → w.heap.size ≤ k) ∧ Below w.heap.size w w' := by
  have q1 : ¬ m < 1 := by omega
  have q2 : ¬ 4096 < m := by omega
  go_enter Tryd.func84, Tryd.ntmps84
  go_wp2_with fail
  refine bodyPost_ret (v := .tuple #[.pointer (some ⟨w.heap.size, 0, none⟩), .int .i64 0]) (by simp [results, Tryd.results84, go_sem]) rfl ?_
  refine ⟨w.heap.size, rfl, fun k => k = w.heap.size, ⟨Stp.nil (by omega), ⟨by omega, by omega⟩, none, 0, ⟨heap_alloc_new _ _, Slab.nil _⟩, fun k => ⟨Or.inl, fun h => by rcases h with h | h; exact h; cases h⟩⟩, fun k hk => by subst hk; exact Nat.le_refl _, (Below.refl _ _).alloc (Nat.le_refl _) _⟩
set_option maxHeartbeats 400000 in
theorem sbad_any (w : World) (m : Int) (hm : I64 m) (hb : m < 1 ∨ 4096 < m) :
    Calls Tryd.prog 84 #[.int .i64 m] w fun e w' => e = .returned (.tuple #[.pointer none, .int .i64 1]) ∧ Below w.heap.size w w' := by
  by_cases q2 : m < 1
  · go_enter Tryd.func84, Tryd.ntmps84
    go_wp2_with fail
    go_ret2
    exact ⟨rfl, Below.refl _ _⟩
  · have q3 : 4096 < m := by omega
    go_enter Tryd.func84, Tryd.ntmps84
    go_wp2_with fail
    go_ret2
    exact ⟨rfl, Below.refl _ _⟩

set_option maxHeartbeats 400000 in
theorem sown_at (w : World) (B : Nat) (v : Value) (h : w.cell? ⟨B, 1, none⟩ = some v) :
    Calls Tryd.prog 68 #[.pointer (some ⟨B, 0, none⟩)] w fun e w' => e = .returned v ∧ w = w' := by
  go_enter Tryd.func68, Tryd.ntmps68
  go_wp2_with fail
  go_ret
  exact ⟨rfl, rfl⟩
set_option maxHeartbeats 400000 in
theorem sown_none (w : World) :
    Calls Tryd.prog 68 #[.pointer none] w fun e w' => e = .returned (.slice none 0 0) ∧ w = w' := by
  go_enter Tryd.func68, Tryd.ntmps68
  go_wp2_with fail
  go_ret
  exact ⟨rfl, rfl⟩
/-- A strip, or none: what its own row is. -/
def OwnsV (w : World) (p : Option Addr) (A : Option Addr) (n cap : Nat) : Prop := ∀ w', Below w.heap.size w w' → Calls Tryd.prog 68 #[.pointer p] w' fun e w'' => e = .returned (.slice A n cap) ∧ w' = w''
theorem owns_at {w : World} {B : Nat} {A : Option Addr} {n cap : Nat} (h : w.cell? ⟨B, 1, none⟩ = some (.slice A n cap)) : OwnsV w (some ⟨B, 0, none⟩) A n cap := fun w' hb => sown_at w' B _ (cell_later hb h)
theorem owns_none (w : World) : OwnsV w none none 0 0 := fun w' _ => sown_none w'
theorem OwnsV.now {w : World} {p A : Option Addr} {n cap : Nat} (h : OwnsV w p A n cap) : Calls Tryd.prog 68 #[.pointer p] w fun e w' => e = .returned (.slice A n cap) ∧ w = w' := h w (Below.refl _ _)

set_option maxHeartbeats 400000 in
theorem slen_of (w : World) (p A : Option Addr) (n cap : Nat) (h : OwnsV w p A n cap) :
    Calls Tryd.prog 96 #[.pointer p] w fun e w' => e = .returned (.int .i64 n) ∧ w = w' := by
  have H := Lib.hid h
  clear h
  go_enter Tryd.func96, Tryd.ntmps96
  go_wp2_with fail
  refine H.out.now.mono ?_
  rintro e w2 ⟨rfl, rfl⟩
  go_wp2_with fail
  go_ret
  exact ⟨rfl, rfl⟩
set_option maxHeartbeats 400000 in
theorem stotal_at (w : World) (B : Nat) (t : Int) (h : w.cell? ⟨B, 2, none⟩ = some (.int .u64 t)) :
    Calls Tryd.prog 39 #[.pointer (some ⟨B, 0, none⟩)] w fun e w' => e = .returned (.int .u64 t) ∧ w = w' := by
  go_enter Tryd.func39, Tryd.ntmps39
  go_wp2_with fail
  go_ret
  exact ⟨rfl, rfl⟩
set_option maxHeartbeats 400000 in
theorem stotal_none (w : World) :
    Calls Tryd.prog 39 #[.pointer none] w fun e w' => e = .returned (.int .u64 0) ∧ w = w' := by
  go_enter Tryd.func39, Tryd.ntmps39
  go_wp2_with fail
  go_ret
  exact ⟨rfl, rfl⟩

/-- Where an index stands in a good row, and how many of it there are. -/
theorem good_where {L : List PairV} (i : Int) (hg : GoodP L) : ∃ n, (lowP L i).length = n ∧ n ≤ L.length ∧
    ((isP L i = true ∧ n < L.length ∧ L[n]? = some (i, countP L i) ∧ belowP L i = sumP (L.take (n + 1)) ∧ (∀ c, 0 < c → 0 ≤ countP L i → (addP L i c).length = L.length)) ∨
     (isP L i = false ∧ countP L i = 0 ∧ belowP L i = sumP (L.take n) ∧ (∀ c, 0 < c → (addP L i c).length = L.length + 1))) := by
  have hlo : ∀ A : List PairV, (∀ p, p ∈ A → p.1 < i) → A.filter (fun p => decide (p.1 ≤ i)) = A := fun A h => List.filter_eq_self.2 fun p hp => by have := h p hp; simp; omega
  have hhi : ∀ A : List PairV, (∀ p, p ∈ A → i < p.1) → A.filter (fun p => decide (p.1 ≤ i)) = [] := fun A h => List.filter_eq_nil_iff.2 fun p hp => by have := h p hp; simp; omega
  have h1 := hlo (lowP L i) fun p hp => (lowP_mem hp).2
  have h2 := hhi (highP L i) fun p hp => (highP_mem hp).2
  refine ⟨_, rfl, List.length_filter_le _ _, ?_⟩
  rcases good_part i hg with ⟨m, e1, e2, e3⟩ | ⟨e1, e2⟩
  · refine Or.inl ⟨by rw [← e1]; exact (is_part (L := L)).2 m, ?_, ?_, ?_, fun c hc _ => ?_⟩
    · have := congrArg List.length e1; simp only [List.length_append, List.length_cons] at this; omega
    · rw [e2]
      have : (lowP L i ++ ((i, m) :: highP L i))[(lowP L i).length]? = some (i, m) := by rw [List.getElem?_append_right (Nat.le_refl _), Nat.sub_self]; rfl
      rwa [e1] at this
    · have h3 : belowP (lowP L i ++ ((i, m) :: highP L i)) i = sumP ((lowP L i ++ ((i, m) :: highP L i)).take ((lowP L i).length + 1)) := by
        unfold belowP
        rw [List.filter_append, h1, List.filter_cons_of_pos (by simp), h2, List.take_append, List.take_of_length_le (Nat.le_succ _), Nat.add_sub_cancel_left]
        rfl
      rwa [e1] at h3
    · have h4 := congrArg List.length e1
      unfold addP
      rw [e2]
      unfold midP
      rw [if_pos (by omega)]
      simp only [List.length_append, List.length_cons, List.length_nil] at h4 ⊢
      omega
  · refine Or.inr ⟨by rw [← e1]; exact (is_part (L := L)).1, e2, ?_, fun c hc => ?_⟩
    · have h3 : belowP (lowP L i ++ highP L i) i = sumP ((lowP L i ++ highP L i).take (lowP L i).length) := by
        unfold belowP
        rw [List.filter_append, h1, h2, List.take_append_of_le_length (Nat.le_refl _), List.take_length, List.append_nil]
      rwa [e1] at h3
    · have h4 := congrArg List.length e1
      unfold addP
      rw [e2]
      unfold midP
      rw [if_pos (by omega)]
      simp only [List.length_append, List.length_cons, List.length_nil] at h4 ⊢
      omega

set_option maxRecDepth 100000 in
set_option maxHeartbeats 1000000 in
theorem sat_of (w : World) (p A : Option Addr) (cap : Nat) (L : List PairV) (i : Int) (h : OwnsV w p A L.length cap) (hP : Pairs w A L) (hg : GoodP L) (hl : L.length ≤ 1000) (hi : I64 i) :
    Calls Tryd.prog 97 #[.pointer p, .int .i64 i] w fun e w' => e = .returned (.int .u64 (countP L i)) ∧ Below w.heap.size w w' := by
  obtain ⟨n, hn, hnl, ⟨hb, hlt, hx, _⟩ | ⟨hb, hx, _⟩⟩ := good_where i hg
  · have hF := find_big w A cap L i n true hP (by omega) hg hi hn hb
    obtain ⟨g, off, rfl, hbl, d0, d1⟩ := hP.at_ n _ hx
    simp only at d0 d1
    obtain ⟨x, hxx⟩ : ∃ x, countP L i = x := ⟨_, rfl⟩
    rw [hxx] at d1 ⊢
    have H := Lib.hid h
    have HF := Lib.hid hF
    have nn : (n : Int) < L.length := by omega
    clear h hF hP hg hn hx hxx hb d0
    go_enter Tryd.func97, Tryd.ntmps97
    go_wp2_with fail
    refine H.out.now.mono ?_
    rintro e w2 ⟨rfl, rfl⟩
    go_wp2_with fail
    refine HF.out.mono ?_
    rintro e w3 ⟨rfl, b3⟩
    have d3 := cell_later b3 d1
    go_wp2_with fail
    go_ret
    exact ⟨rfl, b3⟩
  · have hF := find_big w A cap L i n false hP (by omega) hg hi hn hb
    rw [hx]
    have H := Lib.hid h
    have HF := Lib.hid hF
    clear h hF hP hg hn hx hb
    go_enter Tryd.func97, Tryd.ntmps97
    go_wp2_with fail
    refine H.out.now.mono ?_
    rintro e w2 ⟨rfl, rfl⟩
    go_wp2_with fail
    refine HF.out.mono ?_
    rintro e w3 ⟨rfl, b3⟩
    go_wp2_with fail
    go_ret
    exact ⟨rfl, b3⟩

end Go.Proofs.YtojincgbnjkegaaDoor

namespace Go.Proofs.YtojincgbnjkegaaDoor
set_option linter.unusedVariables false
set_option linter.unusedSimpArgs false
open Go.RowKit

theorem Keeps.set {S : Nat → Prop} {w w1 : World} (k : Keeps S w w1) {b : Nat} (o : Nat) (u : Value) (h : S b ∨ w.heap.size ≤ b) : Keeps S w (w1.setCell ⟨b, o, none⟩ u) :=
  ⟨k.os, k.tape, k.output, by simpa [World.setCell] using k.size, fun j hj hn => by
    rw [Below.heap_setCell _ _ _ _ (by show j ≠ b; rintro rfl; rcases h with h | h; exact hn h; omega)]; exact k.block j hj hn⟩
theorem Keeps.new {S : Nat → Prop} {w w1 : World} (k : Keeps S w w1) (o : Obj) : Keeps S w (w1.alloc o) :=
  ⟨k.os, k.tape, k.output, Nat.le_trans k.size (by simp), fun j hj hn => (heap_alloc_old _ _ (Nat.lt_of_lt_of_le hj k.size)).trans (k.block j hj hn)⟩
theorem Keeps.draws {S : Nat → Prop} {w w1 : World} (k : Keeps S w w1) (m : Nat) : Keeps S w (w1.drewN m) := by
  have h := below_drewN (Below.refl w1.heap.size w1) m
  exact ⟨h.os.trans k.os, h.tape.trans k.tape, h.output.trans k.output, Nat.le_trans k.size h.size, fun j hj hn => (h.block j (Nat.lt_of_lt_of_le hj k.size)).trans (k.block j hj hn)⟩
theorem keeps_grown {S : Nat → Prop} {w w1 : World} {r : Option Nat} (h : w.grownBy w1 r) (hS : ∀ k, r = some k → S k) : Keeps S w w1 :=
  ⟨h.os, h.tape, h.output, h.size, fun j hj hn => h.block j hj (fun e => hn (hS j e.symm))⟩
theorem two_new8 (w : World) (x y : Value) (t : TypeId) : (w.alloc (.cells #[x, y] t)).cell? ⟨w.heap.size, 0, none⟩ = some x ∧ (w.alloc (.cells #[x, y] t)).cell? ⟨w.heap.size, 1, none⟩ = some y := by
  have h : (w.alloc (.cells #[x, y] t)).heap[w.heap.size]? = some (.cells #[x, y] t (0, 0)) := heap_alloc_new w _
  exact ⟨by rw [Joins.cell_of_block h]; rfl, by rw [Joins.cell_of_block h]; rfl⟩

set_option maxHeartbeats 400000 in
theorem sadd_none (w : World) (i c : Int) (hi : I64 i) (hc : Word c) :
    Calls Tryd.prog 80 #[.pointer none, .int .i64 i, .int .u64 c] w fun e w' => e = .returned (.int .i64 2) ∧ Below w.heap.size w w' := by
  go_enter Tryd.func80, Tryd.ntmps80
  go_wp2_with fail
  go_ret
  exact ⟨rfl, Below.refl _ _⟩

/-- What Add comes to. -/
def AddsS (w : World) (B : Nat) (S : Nat → Prop) (m : Int) (L : List PairV) (i c : Int) (e : Ending) (w' : World) : Prop :=
  ∃ S', e = .returned (.int .i64 (stErr m L i c)) ∧ StX w' B S' m (stRow m L i c) ∧ Keeps S w w' ∧ (∀ k, S' k → S k ∨ w.heap.size ≤ k)
theorem adds_same {w w' : World} {B : Nat} {S : Nat → Prop} {m : Int} {L : List PairV} {i c x : Int} (h : StX w B S m L) (he : stErr m L i c = x) (hx : x ≠ 0) (hb : Below w.heap.size w w') : AddsS w B S m L i c (.returned (.int .i64 x)) w' :=
  ⟨S, by rw [he], by unfold stRow; rw [if_neg (by omega)]; exact stx_keep _ _ _ _ _ _ h (fun k hk => hb.block k (stx_lt _ _ _ _ _ h k hk)), Keeps.of_below hb, fun k hk => Or.inl hk⟩

set_option maxRecDepth 100000 in
set_option maxHeartbeats 2000000 in
theorem sadd_no (w : World) (B : Nat) (S : Nat → Prop) (m : Int) (L : List PairV) (i c : Int) (h : StX w B S m L) (hl : L.length ≤ 900) (hi : I64 i) (hc : Word c) (hcase : c = 0 ∧ stErr m L i c = 1 ∨ (0 < c ∧ 9223372036854775807 - sumP L < c ∧ stErr m L i c = 6)) :
    Calls Tryd.prog 80 #[.pointer (some ⟨B, 0, none⟩), .int .i64 i, .int .u64 c] w (AddsS w B S m L i c) := by
  have HX := Lib.hid h
  obtain ⟨hst, hm, A, cap, hL, hS⟩ := h
  rcases hcase with ⟨rfl, e⟩ | ⟨hc0, hbig, e⟩
  · have E := Lib.hid e
    clear e hst hL hS
    go_enter Tryd.func80, Tryd.ntmps80
    go_wp2_with fail
    go_ret
    exact adds_same HX.out E.out (by decide) (Below.refl _ _)
  · have E := Lib.hid e
    have c1 := hL.c1
    have c2 := hL.c2
    have hs0 := sumP_pos (ok_pos hst.ok)
    have hs1 := hst.sum
    obtain ⟨t, ht⟩ : ∃ t, sumP L = t := ⟨_, rfl⟩
    rw [ht] at c2 hs0 hs1 hbig
    have P1 : Hid (plus2B t c = false) := Lib.hid (by unfold plus2B; apply decide_eq_false; omega)
    have P2 : Hid (plus2Q t c = 0) := Lib.hid (by unfold plus2Q; rw [P1.out]; rfl)
    have c00 : (c == 0) = false := by simp; omega
    obtain ⟨n, b, hF⟩ : ∃ (n : Nat) (b : Bool), ∀ w', Below w.heap.size w w' → Calls Tryd.prog 69 #[.slice A L.length cap, .int .i64 i] w' fun e w'' => e = .returned (.tuple #[.int .i64 n, .bool b]) ∧ Below w'.heap.size w' w'' :=
      ⟨_, _, fun w' hb => find_big w' A cap L i _ _ (hL.row.pairs.call hb) (by omega) hst.good hi rfl rfl⟩
    have HF := Lib.hid hF
    obtain ⟨hc1, hc2⟩ := hc
    clear e hst hL hS ht hF
    go_enter Tryd.func80, Tryd.ntmps80
    go_wp2_with fail
    refine (plus_two t c 0 false _ _ _ ⟨by omega, by omega⟩ ⟨by omega, by omega⟩ (two_new8 w _ _ _).1 (two_new8 w _ _ _).2 P2.out P1.out).mono ?_
    rintro e w3 ⟨rfl, rfl⟩
    have hb3 : Below w.heap.size w (w.alloc (.cells #[.int .u64 t, .int .u64 c] 23)) := (Below.refl _ _).alloc (Nat.le_refl _) _
    have d1 := cell_later hb3 c1
    have HB3 := Lib.hid hb3
    clear hb3
    go_wp2_with fail
    refine (HF.out _ HB3.out).mono ?_
    rintro e w4 ⟨rfl, hb4⟩
    have HB4 := Lib.hid (HB3.out.trans (hb4.mono HB3.out.size))
    clear hb4 d1
    go_wp2_with fail
    go_quiet (fail)
    go_wp2_with fail
    go_ret
    exact adds_same HX.out E.out (by decide) (below_drewN HB4.out _)

set_option maxRecDepth 100000 in
set_option maxHeartbeats 2000000 in
theorem sadd_full (w : World) (B : Nat) (S : Nat → Prop) (m : Int) (L : List PairV) (i c : Int) (h : StX w B S m L) (hl : L.length ≤ 900) (hi : I64 i) (hc : Word c) (hc0 : 0 < c) (hfit : c ≤ 9223372036854775807 - sumP L) (hf : m < ((addP L i c).length : Int)) (e : stErr m L i c = 6) :
    Calls Tryd.prog 80 #[.pointer (some ⟨B, 0, none⟩), .int .i64 i, .int .u64 c] w (AddsS w B S m L i c) := by
  have HX := Lib.hid h
  obtain ⟨hst, hm, A, cap, hL, hS⟩ := h
  have E := Lib.hid e
  have c0 := hL.c0
  have c1 := hL.c1
  have c2 := hL.c2
  have hs0 := sumP_pos (ok_pos hst.ok)
  have hs1 := hst.sum
  obtain ⟨n, hn, hnl, ⟨hb, _, _, _, hlen⟩ | ⟨hb, _, _, hlen⟩⟩ := good_where i hst.good
  · have h1 := hlen c hc0 (hst.cnt i).1
    have h2 := hst.most
    omega
  have h1 := hlen c hc0
  have k7 : m ≤ (L.length : Int) := by omega
  have k8 : decide (m ≤ (L.length : Int)) = true := decide_eq_true k7
  obtain ⟨t, ht⟩ : ∃ t, sumP L = t := ⟨_, rfl⟩
  rw [ht] at c2 hs0 hs1 hfit
  have P1 : Hid (plus2B t c = true) := Lib.hid (by unfold plus2B; apply decide_eq_true; omega)
  have P2 : Hid (plus2Q t c = t + c) := Lib.hid (by unfold plus2Q; rw [P1.out]; rfl)
  have c00 : (c == 0) = false := by simp; omega
  have hF : ∀ w', Below w.heap.size w w' → Calls Tryd.prog 69 #[.slice A L.length cap, .int .i64 i] w' fun e w'' => e = .returned (.tuple #[.int .i64 n, .bool false]) ∧ Below w'.heap.size w' w'' :=
    fun w' hb' => find_big w' A cap L i _ _ (hL.row.pairs.call hb') (by omega) hst.good hi hn hb
  have HF := Lib.hid hF
  obtain ⟨hc1, hc2⟩ := hc
  obtain ⟨m0, m1⟩ := hm
  clear e hst hL hS ht hF hn hb hlen h1
  go_enter Tryd.func80, Tryd.ntmps80
  go_wp2_with fail
  refine (plus_two t c (t + c) true _ _ _ ⟨by omega, by omega⟩ ⟨by omega, by omega⟩ (two_new8 w _ _ _).1 (two_new8 w _ _ _).2 P2.out P1.out).mono ?_
  rintro e w3 ⟨rfl, rfl⟩
  have hb3 : Below w.heap.size w (w.alloc (.cells #[.int .u64 t, .int .u64 c] 23)) := (Below.refl _ _).alloc (Nat.le_refl _) _
  have d1 := cell_later hb3 c1
  have d0 := cell_later hb3 c0
  have HB3 := Lib.hid hb3
  clear hb3
  go_wp2_with fail
  refine (HF.out _ HB3.out).mono ?_
  rintro e w4 ⟨rfl, hb4⟩
  have g1 := cell_later hb4 d1
  have g0 := cell_later hb4 d0
  have HB4 := Lib.hid (HB3.out.trans (hb4.mono HB3.out.size))
  clear hb4 d1 d0 c0 c1 c2
  go_wp2_with fail
  go_quiet (fail)
  go_wp2_with fail
  go_ret
  exact adds_same HX.out E.out (by decide) (below_drewN HB4.out _)

set_option maxRecDepth 100000 in
set_option maxHeartbeats 2000000 in
theorem sadd_in (w : World) (B : Nat) (S : Nat → Prop) (m : Int) (L : List PairV) (i c mm : Int) (h : StX w B S m L) (hl : L.length ≤ 900) (hi : I64 i) (hc : Word c) (hc0 : 0 < c) (hfit : c ≤ 9223372036854775807 - sumP L) (e : stErr m L i c = 0)
    (hp : lowP L i ++ ((i, mm) :: highP L i) = L) (hm2 : countP L i = mm) (hm1 : 1 ≤ mm) :
    Calls Tryd.prog 80 #[.pointer (some ⟨B, 0, none⟩), .int .i64 i, .int .u64 c] w (AddsS w B S m L i c) := by
  have HST := Lib.hid (stp_add h.1 hi hc)
  have HRW : Hid (stRow m L i c = addP L i c) := Lib.hid (by unfold stRow; rw [if_pos e])
  have HM := Lib.hid h.2.1
  obtain ⟨hst, hm, A, cap, hL, hS⟩ := h
  have E := Lib.hid e
  have hs0 := sumP_pos (ok_pos hst.ok)
  have hs1 := hst.sum
  have hcn := hst.cnt i
  have HSM : Hid (sumP (addP L i c) = sumP L + c) := Lib.hid (add_sum (by omega))
  have HS := Lib.hid hS
  obtain ⟨n, hn⟩ : ∃ n, (lowP L i).length = n := ⟨_, rfl⟩
  have his : isP L i = true := by rw [← hp]; exact (is_part (L := L)).2 mm
  have hxn : L[n]? = some (i, mm) := by
    have : (lowP L i ++ ((i, mm) :: highP L i))[n]? = some (i, mm) := by rw [List.getElem?_append_right (by omega), hn, Nat.sub_self]; rfl
    rwa [hp] at this
  have hnl : n < L.length := by
    rcases Nat.lt_or_ge n L.length with h1 | h1
    · exact h1
    · rw [List.getElem?_eq_none h1] at hxn; cases hxn
  obtain ⟨g, off, rfl, hbl, d0, d1⟩ := hL.row.pairs.at_ n _ hxn
  have hadd : addP L i c = lowP L i ++ ((i, mm + c) :: highP L i) := by unfold addP; rw [hm2]; unfold midP; rw [if_pos (by omega)]; rfl
  have hlen : (addP L i c).length = L.length := by rw [hadd]; have := congrArg List.length hp; simp only [List.length_append, List.length_cons] at this ⊢; exact this
  obtain ⟨t, ht⟩ : ∃ t, sumP L = t := ⟨_, rfl⟩
  rw [ht] at hs0 hs1 hfit hL HSM hcn
  have HL := Lib.hid hL
  have P1 : Hid (plus2B t c = true) := Lib.hid (by unfold plus2B; apply decide_eq_true; omega)
  have P2 : Hid (plus2Q t c = t + c) := Lib.hid (by unfold plus2Q; rw [P1.out]; rfl)
  have c00 : (c == 0) = false := by simp; omega
  have hF : ∀ w', Below w.heap.size w w' → Calls Tryd.prog 69 #[.slice (some ⟨g, off, none⟩) L.length cap, .int .i64 i] w' fun e w'' => e = .returned (.tuple #[.int .i64 n, .bool true]) ∧ Below w'.heap.size w' w'' :=
    fun w' hb' => find_big w' _ cap L i _ _ (hL.row.pairs.call hb') (by omega) hst.good hi hn his
  have HF := Lib.hid hF
  have hBw := hL.lt
  have hBg : g ≠ B := hL.ne rfl
  have hBg' : ¬ B = g := fun e => hBg e.symm
  have fin : ∀ w5, Below w.heap.size w w5 → w5.cell? ⟨B, 1, none⟩ = some (.slice (some ⟨g, off, none⟩) L.length cap) ∧ w5.cell? ⟨B, 2, none⟩ = some (.int .u64 t) ∧ w5.frozen? ⟨B, 2, none⟩ = false ∧ w5.cell? ⟨g, off + n * 2 + 1, none⟩ = some (.int .u64 mm) ∧ w5.frozen? ⟨g, off + n * 2 + 1, none⟩ = false ∧
      AddsS w B S m L i c (.returned (.int .i64 0)) ((w5.setCell ⟨g, off + n * 2 + 1, none⟩ (.int .u64 (mm + c))).setCell ⟨B, 2, none⟩ (.int .u64 (t + c))) := by
    intro w5 hb5
    have hL5 := HL.out.call hb5
    have hr := hL5.row.put hp hn hi (m' := mm + c) ⟨by omega, by omega⟩
    rw [← hadd] at hr
    have hb6 : (w5.setCell ⟨g, off + n * 2 + 1, none⟩ (.int .u64 (mm + c))).heap[B]? = some (.cells #[.int .i64 m, .slice (some ⟨g, off, none⟩) L.length cap, .int .u64 t] 119 (0, 0)) := by
      rw [Below.heap_setCell _ _ _ _ hBg.symm]; exact hL5.b
    have hfz : w5.frozen? ⟨g, off + n * 2 + 1, none⟩ = false := by
      rcases hL5.row.blk with ⟨e, _⟩ | ⟨g', off', cs, e, hb⟩
      · cases e
      · obtain ⟨rfl, rfl, _⟩ := Addr.mk.inj (Option.some.inj e)
        exact free8 hb _
    refine ⟨hL5.c1, hL5.c2, hL5.f 2, cell_later hb5 d1, hfz, S, by rw [E.out], ?_, ?_, fun k hk => Or.inl hk⟩
    · rw [HRW.out]
      have hst2 := HST.out
      rw [HRW.out] at hst2
      refine ⟨hst2, HM.out, some ⟨g, off, none⟩, cap, ⟨?_, hr.keep fun k hk => ?_⟩, HS.out⟩
      · rw [HSM.out, hlen]
        exact set_cells8 hb6 2 _
      · rw [Below.heap_setCell _ _ _ _ (by show k ≠ B; cases hk; exact hBg)]
    · have hk1 : Keeps S w (w5.setCell ⟨g, off + n * 2 + 1, none⟩ (.int .u64 (mm + c))) := (Keeps.of_below hb5).set _ _ (Or.inl ((HS.out g).2 (Or.inr rfl)))
      exact hk1.set 2 _ (Or.inl ((HS.out B).2 (Or.inl rfl)))
  have FIN := Lib.hid fin
  have hc1' := hL.c1
  have hc2' := hL.c2
  have hc0' := hL.c0
  have hm64 : mm < 18446744073709551616 := by omega
  have hmc2 : IntKind.u64.wrap (mm + c) = mm + c := by rw [IntKind.wrap_u64]; omega
  obtain ⟨hc1, hc2⟩ := hc
  obtain ⟨m0, m1⟩ := hm
  obtain ⟨i0, i1⟩ := hi
  have nn : (n : Int) < L.length := by omega
  clear fin e hst hL hS ht hF hn his hxn hadd hlen hp hm2 d0 d1 hbl
  go_enter Tryd.func80, Tryd.ntmps80
  go_wp2_with fail
  refine (plus_two t c (t + c) true _ _ _ ⟨by omega, by omega⟩ ⟨by omega, by omega⟩ (two_new8 w _ _ _).1 (two_new8 w _ _ _).2 P2.out P1.out).mono ?_
  rintro e w3 ⟨rfl, rfl⟩
  have hb3 : Below w.heap.size w (w.alloc (.cells #[.int .u64 t, .int .u64 c] 23)) := (Below.refl _ _).alloc (Nat.le_refl _) _
  have d1 := cell_later hb3 hc1'
  have d0 := cell_later hb3 hc0'
  have HB3 := Lib.hid hb3
  clear hb3
  go_wp2_with fail
  refine (HF.out _ HB3.out).mono ?_
  rintro e w4 ⟨rfl, hb4⟩
  have g1 := cell_later hb4 d1
  have g0 := cell_later hb4 d0
  have HB4 := Lib.hid (HB3.out.trans (hb4.mono HB3.out.size))
  clear hb4 d1 d0 hc0' hc1' hc2'
  go_wp2_with fail
  go_quiet (fail)
  obtain ⟨x1, x2, x3, x4, x5, hfin⟩ := FIN.out _ (below_drewN HB4.out nq)
  have HFI := Lib.hid hfin
  clear hfin g0 g1
  generalize w4.drewN nq = w5 at *
  go_wp2_with fail
  go_ret
  exact HFI.out

set_option maxRecDepth 100000 in
set_option maxHeartbeats 2000000 in
theorem sadd_new (w : World) (B : Nat) (S : Nat → Prop) (m : Int) (L : List PairV) (i c : Int) (h : StX w B S m L) (hl : L.length ≤ 900) (hi : I64 i) (hc : Word c) (hc0 : 0 < c) (hfit : c ≤ 9223372036854775807 - sumP L) (hf : ((addP L i c).length : Int) ≤ m) (e : stErr m L i c = 0)
    (hp : lowP L i ++ highP L i = L) (hm2 : countP L i = 0) :
    Calls Tryd.prog 80 #[.pointer (some ⟨B, 0, none⟩), .int .i64 i, .int .u64 c] w (AddsS w B S m L i c) := by
  have HST := Lib.hid (stp_add h.1 hi hc)
  have HRW : Hid (stRow m L i c = addP L i c) := Lib.hid (by unfold stRow; rw [if_pos e])
  have HM := Lib.hid h.2.1
  obtain ⟨hst, hm, A, cap, hL, hS⟩ := h
  have E := Lib.hid e
  have hs0 := sumP_pos (ok_pos hst.ok)
  have hs1 := hst.sum
  have hcn := hst.cnt i
  have HSM : Hid (sumP (addP L i c) = sumP L + c) := Lib.hid (add_sum (by omega))
  have HS := Lib.hid hS
  obtain ⟨n, hn⟩ : ∃ n, (lowP L i).length = n := ⟨_, rfl⟩
  have his : isP L i = false := by rw [← hp]; exact (is_part (L := L)).1
  have hadd : addP L i c = lowP L i ++ ((i, c) :: highP L i) := by unfold addP; rw [hm2, Int.zero_add]; unfold midP; rw [if_pos hc0]; rfl
  have hlen : (addP L i c).length = L.length + 1 := by rw [hadd]; have := congrArg List.length hp; simp only [List.length_append, List.length_cons] at this ⊢; omega
  have k7 : ¬ m ≤ (L.length : Int) := by omega
  obtain ⟨t, ht⟩ : ∃ t, sumP L = t := ⟨_, rfl⟩
  rw [ht] at hs0 hs1 hfit hL HSM hcn
  have HL := Lib.hid hL
  obtain ⟨N, hN⟩ : ∃ N : Nat, L.length = N := ⟨_, rfl⟩
  have HIN : Hid (∀ w', Below w.heap.size w w' → ∀ vb, OneP w' vb i c → w.heap.size ≤ vb → Calls Tryd.prog 98 #[.slice A N cap, .int .i64 n, .slice (some ⟨vb, 0, none⟩) 1 1] w' (AddedV w' A (addP L i c))) := Lib.hid fun w' hb' vb hv hvb => by
    rw [hadd]
    refine ins_any w' A cap n N vb _ _ i c (by rw [hp]; exact hL.row.call hb') hn (by rw [hp]; exact hN) (by omega) hv (fun e => ?_) hi hc
    have := hL.row.lt e
    omega
  have P1 : Hid (plus2B t c = true) := Lib.hid (by unfold plus2B; apply decide_eq_true; omega)
  have P2 : Hid (plus2Q t c = t + c) := Lib.hid (by unfold plus2Q; rw [P1.out]; rfl)
  have c00 : (c == 0) = false := by simp; omega
  have hF : ∀ w', Below w.heap.size w w' → Calls Tryd.prog 69 #[.slice A N cap, .int .i64 i] w' fun e w'' => e = .returned (.tuple #[.int .i64 n, .bool false]) ∧ Below w'.heap.size w' w'' :=
    fun w' hb' => hN ▸ find_big w' A cap L i _ _ (hL.row.pairs.call hb') (by omega) hst.good hi hn his
  have HF := Lib.hid hF
  have hBw := hL.lt
  have fin : ∀ w5 w6 A' cap', Below w.heap.size w w5 → Slab w6 A' cap' (addP L i c) → w5.grownBy w6 (blkA A) → (A' = A ∨ ∀ k, blkA A' = some k → w5.heap.size ≤ k) →
      w6.cell? ⟨B, 1, none⟩ = some (.slice A N cap) ∧ w6.cell? ⟨B, 2, none⟩ = some (.int .u64 t) ∧ w6.frozen? ⟨B, 1, none⟩ = false ∧ w6.frozen? ⟨B, 2, none⟩ = false ∧
      AddsS w B S m L i c (.returned (.int .i64 0)) ((w6.setCell ⟨B, 1, none⟩ (.slice A' (addP L i c).length cap')).setCell ⟨B, 2, none⟩ (.int .u64 (t + c))) := by
    intro w5 w6 A' cap' hb5 hr hg hor3
    have hL5 := HL.out.call hb5
    have hB6 : w6.heap[B]? = w5.heap[B]? := hg.block B (Nat.lt_of_lt_of_le hBw hb5.size) (fun e => HL.out.ne e.symm rfl)
    have hb6 := hB6.trans hL5.b
    have hne : ∀ k, blkA A' = some k → k ≠ B := fun k hk => by
      rcases hor3 with rfl | hf'
      · exact HL.out.ne hk
      · have := hf' k hk; have := hb5.size; omega
    refine ⟨by rw [Joins.cell_of_block hb6, ← hN]; rfl, by rw [Joins.cell_of_block hb6]; rfl, free8 hb6 _, free8 hb6 _, fun k => k = B ∨ blkA A' = some k, by rw [E.out], ?_, ?_, ?_⟩
    · rw [HRW.out]
      have hst2 := HST.out
      rw [HRW.out] at hst2
      refine ⟨hst2, HM.out, A', cap', ⟨?_, hr.keep fun k hk => ?_⟩, fun k => Iff.rfl⟩
      · rw [HSM.out]
        exact set_cells8 (set_cells8 hb6 1 _) 2 _
      · rw [Below.heap_setCell _ _ _ _ (hne k hk), Below.heap_setCell _ _ _ _ (hne k hk)]
    · have hk1 : Keeps S w w6 := keeps_grown (grown_trans (grown_of_below8 hb5) hg) fun k hk => (HS.out k).2 (Or.inr hk)
      exact (hk1.set 1 _ (Or.inl ((HS.out B).2 (Or.inl rfl)))).set 2 _ (Or.inl ((HS.out B).2 (Or.inl rfl)))
    · rintro k (rfl | hk)
      · exact Or.inl ((HS.out k).2 (Or.inl rfl))
      · rcases hor3 with rfl | hf'
        · exact Or.inl ((HS.out k).2 (Or.inr hk))
        · exact Or.inr (Nat.le_trans hb5.size (hf' k hk))
  have FIN := Lib.hid fin
  have hc1' := hL.c1
  have hc2' := hL.c2
  have hc0' := hL.c0
  rw [hN] at hc1' k7
  have k8 : decide (m ≤ (N : Int)) = false := decide_eq_false k7
  obtain ⟨hc1, hc2⟩ := hc
  obtain ⟨m0, m1⟩ := hm
  obtain ⟨i0, i1⟩ := hi
  clear fin e hst hL hS ht hF hn his hadd hlen hp hm2 hcn hf
  go_enter Tryd.func80, Tryd.ntmps80
  go_wp2_with fail
  refine (plus_two t c (t + c) true _ _ _ ⟨by omega, by omega⟩ ⟨by omega, by omega⟩ (two_new8 w _ _ _).1 (two_new8 w _ _ _).2 P2.out P1.out).mono ?_
  rintro e w3 ⟨rfl, rfl⟩
  have hb3 : Below w.heap.size w (w.alloc (.cells #[.int .u64 t, .int .u64 c] 23)) := (Below.refl _ _).alloc (Nat.le_refl _) _
  have d1 := cell_later hb3 hc1'
  have d0 := cell_later hb3 hc0'
  have HB3 := Lib.hid hb3
  clear hb3
  go_wp2_with fail
  refine (HF.out _ HB3.out).mono ?_
  rintro e w4 ⟨rfl, hb4⟩
  have g1 := cell_later hb4 d1
  have g0 := cell_later hb4 d0
  have HB4 := Lib.hid (HB3.out.trans (hb4.mono HB3.out.size))
  clear hb4 d1 d0 hc0' hc1' hc2'
  go_wp2_with fail
  go_quiet (fail)
  have hb5 := below_drewN HB4.out nq
  have g1 := cell_later (below_drewN (Below.refl w4.heap.size w4) nq) g1
  generalize w4.drewN nq = w5 at *
  have HB5 := Lib.hid hb5
  have hb6 : Below w.heap.size w (w5.alloc (.cells #[.int .i64 i, .int .u64 c] 77)) := hb5.alloc hb5.size _
  have HB6 := Lib.hid hb6
  have HI6 := Lib.hid (HIN.out _ hb6 w5.heap.size ⟨heap_alloc_new _ _⟩ hb5.size)
  clear hb5 hb6 g0
  go_wp2_with fail
  refine HI6.out.mono ?_
  rintro e w6 ⟨A', cap', rfl, hr, hg, hor3⟩
  obtain ⟨x1, x2, x3, x4, hfin⟩ := FIN.out _ w6 A' cap' HB6.out hr hg hor3
  have HFI := Lib.hid hfin
  clear hfin hr hg hor3
  go_wp2_with fail
  go_ret
  exact HFI.out

theorem sadd_any (w : World) (B : Nat) (S : Nat → Prop) (m : Int) (L : List PairV) (i c : Int) (h : StX w B S m L) (hl : L.length ≤ 900) (hi : I64 i) (hc : Word c) :
    Calls Tryd.prog 80 #[.pointer (some ⟨B, 0, none⟩), .int .i64 i, .int .u64 c] w (AddsS w B S m L i c) := by
  rcases stErr_cases (m := m) (L := L) (i := i) hc with hz | hbig | ⟨h1, h2, h3, e⟩ | ⟨h1, h2, h3, e⟩
  · exact sadd_no w B S m L i c h hl hi hc (Or.inl hz)
  · exact sadd_no w B S m L i c h hl hi hc (Or.inr hbig)
  · exact sadd_full w B S m L i c h hl hi hc h1 h2 h3 e
  · rcases good_part i h.1.good with ⟨mm, e1, e2, e3⟩ | ⟨e1, e2⟩
    · exact sadd_in w B S m L i c mm h hl hi hc h1 h2 e e1 e2 e3
    · exact sadd_new w B S m L i c h hl hi hc h1 h2 h3 e e1 e2
end Go.Proofs.YtojincgbnjkegaaDoor

/-
  Walks: the landed code of runs: Good, Total.
-/
namespace Go.Proofs.YtojincgbnjkegaaDoor
set_option linter.unusedVariables false
set_option linter.unusedSimpArgs false
open Go.RowKit

set_option maxRecDepth 100000 in
set_option maxHeartbeats 1000000 in
theorem good_big (w : World) (A : Option Addr) (cap : Nat) (L : List PairV) (most : Int) (b : Bool) (h : Pairs w A L) (hl : L.length ≤ 100000) (hm : I64 most) (hbb : (goodB L && decide ((L.length : Int) ≤ most)) = b) :
    Calls Tryd.prog 83 #[.slice A L.length cap, .int .i64 most] w fun e w' => e = .returned (.bool b) ∧ Below w.heap.size w w' := by
  have HB := Lib.hid hbb
  have HI := Lib.hid h
  obtain ⟨m0, m1⟩ := hm
  clear hbb h
  by_cases hlen : (L.length : Int) ≤ most
  · have q0 : ¬ most < (L.length : Int) := by omega
    have HB2 : Hid (goodB L = b) := Lib.hid (by rw [← HB.out, decide_eq_true hlen, Bool.and_true])
    clear HB hlen
    go_enter Tryd.func83, Tryd.ntmps83
    go_wp2_with fail
    go_loopw [13] (fun j wr => ∃ k : Nat, k ≤ L.length ∧ j = .int .i64 k ∧ GoodP (L.take k) ∧ Below w.heap.size w wr) (fun j _ => L.length - (intOf j).toNat)
    case atStart => exact ⟨0, Nat.zero_le _, rfl, good_nil, Below.refl _ _⟩
    case round =>
      obtain ⟨k, hk, rfl, hg, hb2⟩ := hrel
      have hbs := hb2.size
      by_cases hlt : k < L.length
      · have kk : (k : Int) < L.length := by omega
        have hxk : L[k]? = some L[k] := List.getElem?_eq_getElem hlt
        generalize hit : L[k] = p at *
        have hst := good_step hxk hg
        obtain ⟨px, pc⟩ := p
        obtain ⟨b0, off, rfl, hbl, c0, c1⟩ := (HI.out.call hb2).at_ k _ hxk
        have hok := HI.out.ok _ (List.mem_of_getElem? hxk)
        obtain ⟨⟨o1, o2⟩, o3, o4⟩ := hok
        have HST := Lib.hid hst
        have hneg : ∀ k : Nat, ¬ GoodP (L.take k) → ¬ GoodP L := fun k h hg => h (good_take _ hg)
        have HN := Lib.hid hneg
        simp only at c0 c1 o1 o2 o3 o4 HST
        clear hxk hit hg hst hneg
        by_cases h1 : pc = 0
        · have HE : Hid (b = false) := Lib.hid (by rw [← HB2.out]; exact goodB_false.2 (HN.out (k + 1) (fun hg => by have := (HST.out.1 hg).1; omega)))
          subst h1
          go_wp2_with fail
          go_ret
          exact ⟨by rw [HE.out]; rfl, hb2.alloc hbs _⟩
        · have h1' : (pc == 0) = false := by simpa using h1
          by_cases h2 : 9223372036854775807 < pc
          · have HE : Hid (b = false) := Lib.hid (by rw [← HB2.out]; exact goodB_false.2 (HN.out (k + 1) (fun hg => by have := (HST.out.1 hg).1; omega)))
            go_wp2_with fail
            go_ret
            exact ⟨by rw [HE.out]; rfl, hb2.alloc hbs _⟩
          · by_cases h0 : k = 0
            · subst h0
              simp only [Nat.zero_mul, Nat.add_zero, Nat.zero_add] at c0 c1
              have HG : Hid (GoodP (L.take (0 + 1))) := Lib.hid (HST.out.2 ⟨⟨by omega, by omega⟩, fun h => by omega⟩)
              go_wp2_with fail
              go_quiet (fail)
              go_wp2_with fail
              go_roundw
              case rel => exact ⟨1, by omega, by go_num, HG.out, below_drewM (hb2.alloc hbs _) _⟩
              case measure => simp [intOf]; omega
            · obtain ⟨u, hu⟩ : ∃ u, k = u + 1 := ⟨k - 1, by omega⟩
              have hxu : L[u]? = some L[u] := List.getElem?_eq_getElem (by omega)
              generalize hiu : L[u] = q at *
              obtain ⟨qx, qc⟩ := q
              obtain ⟨b1, off1, ea, hbl1, d0, d1⟩ := (HI.out.call hb2).at_ u _ hxu
              obtain ⟨rfl, rfl⟩ : b0 = b1 ∧ off = off1 := by
                have := Option.some.inj ea
                exact ⟨(Addr.mk.inj this).1, (Addr.mk.inj this).2.1⟩
              simp only at d0 d1
              have u1 : IntKind.i64.wrap ((k : Int) - 1) = (u : Int) := by rw [IntKind.wrap_i64]; omega
              have u2 : (k : Int) - 1 = (u : Int) := by omega
              have u3 : (u : Int) < L.length := by omega
              have k0 : 0 < k := by omega
              have k0d : decide (0 < k) = true := decide_eq_true k0
              have HU : Hid (L[k - 1]? = some (qx, qc)) := Lib.hid (by rw [hu, Nat.add_sub_cancel]; exact hxu)
              have HK := Lib.hid hu
              have hok := HI.out.ok _ (List.mem_of_getElem? hxu)
              clear ea hxu hiu h0 hu
              by_cases h3 : qx < px
              · have HG : Hid (GoodP (L.take (k + 1))) := Lib.hid (HST.out.2 ⟨⟨by omega, by omega⟩, fun h z hz => by rw [HU.out] at hz; have := Option.some.inj hz; rw [← this]; exact h3⟩)
                have h3' : decide (px ≤ qx) = false := decide_eq_false (by omega)
                go_wp2_with fail
                go_quiet (fail)
                go_wp2_with fail
                go_roundw
                case rel => exact ⟨k + 1, by omega, by go_num, HG.out, below_drewM (hb2.alloc hbs _) _⟩
                case measure => simp [intOf]; omega
              · have HE : Hid (b = false) := Lib.hid (by rw [← HB2.out]; exact goodB_false.2 (HN.out (k + 1) (fun hg => h3 ((HST.out.1 hg).2 (by omega) _ HU.out))))
                have h3' : decide (px ≤ qx) = true := decide_eq_true (by omega)
                go_wp2_with fail
                go_quiet (fail)
                go_wp2_with fail
                go_ret
                exact ⟨by rw [HE.out]; rfl, below_drewM (hb2.alloc hbs _) _⟩
      · obtain rfl : k = L.length := by omega
        rw [List.take_length] at hg
        have HE : Hid (b = true) := Lib.hid (by rw [← HB2.out]; exact goodB_true.2 hg)
        have kk : ¬ (L.length : Int) < L.length := by omega
        clear hg
        go_wp2_with fail
        go_ret
        exact ⟨by rw [HE.out]; rfl, hb2⟩
  · have q0 : most < (L.length : Int) := by omega
    have HE : Hid (b = false) := Lib.hid (by rw [← HB.out, decide_eq_false hlen, Bool.and_false])
    clear HB hlen
    go_enter Tryd.func83, Tryd.ntmps83
    go_wp2_with fail
    go_ret
    exact ⟨by rw [HE.out]; rfl, Below.refl _ _⟩
theorem good_does : GoodDoes := fun w A cap L most b h hl hm hbb => good_big w A cap L most b h (by omega) hm hbb

theorem psum_step {L : List PairV} {k : Nat} {p : PairV} (h : L[k]? = some p) : sumP (L.take (k + 1)) = sumP (L.take k) + p.2 := by rw [take_snocP h, sumP_app, sumP_one]

set_option maxRecDepth 100000 in
set_option maxHeartbeats 1000000 in
theorem total_does : TotalDoes := by
  intro w A cap L n b h hl hn hb
  have HI := Lib.hid h
  have HN := Lib.hid hn
  have HB := Lib.hid hb
  have HS := Lib.hid (fun k => sumP_take (L := L) k (ok_pos h.ok))
  clear h hn hb
  go_enter Tryd.func70, Tryd.ntmps70
  go_wp2_with fail
  go_loopw [4, 11] (fun s j wr => ∃ (k : Nat) (m : Int), k ≤ L.length ∧ j = .int .i64 k ∧ s = .int .u64 m ∧ sumP (L.take k) = m ∧ m ≤ 9223372036854775807 ∧ Below w.heap.size w wr) (fun _ j _ => L.length - (intOf j).toNat)
  case atStart => exact ⟨0, 0, Nat.zero_le _, rfl, rfl, rfl, by decide, Below.refl _ _⟩
  case round =>
    obtain ⟨k, m, hk, rfl, rfl, hm, hm1, hb2⟩ := hrel
    have HM := Lib.hid hm
    have m0 := (HS.out k).1
    rw [hm] at m0
    have hbs := hb2.size
    clear hm
    by_cases hlt : k < L.length
    · have kk : (k : Int) < L.length := by omega
      have hxk : L[k]? = some L[k] := List.getElem?_eq_getElem hlt
      generalize hit : L[k] = p at *
      obtain ⟨px, pc⟩ := p
      obtain ⟨b0, off, rfl, hbl, c0, c1⟩ := (HI.out.call hb2).at_ k _ hxk
      have hok := HI.out.ok _ (List.mem_of_getElem? hxk)
      have hst := psum_step hxk
      simp only at c0 c1 hst
      rw [HM.out] at hst
      have s1 := (HS.out (k + 1))
      rw [hst] at s1
      have HST := Lib.hid hst
      have HPC : Hid (Word pc) := Lib.hid hok.2
      obtain ⟨o3, o4⟩ := HPC.out
      obtain ⟨q, hq⟩ : ∃ q, plus2Q m pc = q := ⟨_, rfl⟩
      obtain ⟨ok, hok2⟩ : ∃ ok, plus2B m pc = ok := ⟨_, rfl⟩
      have HQ := Lib.hid hq
      have HOK := Lib.hid hok2
      have HSM := Lib.hid s1
      clear hxk hit hok hst hq hok2 s1
      go_wp2_with fail
      refine (plus_two m pc q ok _ _ _ ⟨by omega, by omega⟩ HPC.out (by go_simp) (by go_simp) HQ.out HOK.out).mono ?_
      rintro e w' ⟨rfl, rfl⟩
      cases ok with
      | true =>
        have HQ2 : Hid (q = m + pc ∧ m + pc ≤ 9223372036854775807) := Lib.hid (by
          have h1 := HOK.out; unfold plus2B at h1
          have h2 := HQ.out; unfold plus2Q plus2B at h2; rw [h1] at h2
          exact ⟨h2.symm, of_decide_eq_true h1⟩)
        go_wp2_with fail
        go_roundw
        case rel => exact ⟨k + 1, q, by omega, by go_num, rfl, by rw [HST.out, HQ2.out.1], by rw [HQ2.out.1]; exact HQ2.out.2, (hb2.alloc hbs _).alloc (by simp; omega) _⟩
        case measure => simp [intOf]; omega
      | false =>
        have HE : Hid (b = false ∧ n = 0) := Lib.hid (by
          have h1 := HOK.out; unfold plus2B at h1
          have h2 := of_decide_eq_false h1
          have h3 := HSM.out.2
          have e : fitsB L = false := by unfold fitsB; apply decide_eq_false; omega
          exact ⟨by rw [← HB.out, e], by rw [← HN.out]; unfold totalP; rw [e]; rfl⟩)
        go_wp2_with fail
        go_ret2
        exact ⟨ret_pair HE.out.2.symm HE.out.1.symm, (hb2.alloc hbs _).alloc (by simp; omega) _⟩
    · obtain rfl : k = L.length := by omega
      rw [List.take_length] at HM
      have HE : Hid (m = n ∧ true = b) := Lib.hid (by
        have e : fitsB L = true := by unfold fitsB; apply decide_eq_true; rw [HM.out]; exact hm1
        exact ⟨by rw [← HN.out, ← HM.out]; unfold totalP; rw [e]; rfl, by rw [← HB.out, e]⟩)
      have kk : ¬ (L.length : Int) < L.length := by omega
      go_wp2_with fail
      go_ret2
      exact ⟨ret_pair HE.out.1 HE.out.2, hb2⟩
end Go.Proofs.YtojincgbnjkegaaDoor

/-
  Walks: package strip: Pairs, Find, Below, of a strip and of a nil one.
  Walks: package strip: First, Last, of a strip and of a nil one.
  What the landed code of package strip does, a nil strip's too.
-/
namespace Go.Proofs.YtojincgbnjkegaaDoor
set_option linter.unusedVariables false
set_option linter.unusedSimpArgs false
open Go.RowKit

set_option maxRecDepth 100000 in
set_option maxHeartbeats 1000000 in
theorem clone_none (w : World) :
    Calls Tryd.prog 81 #[.slice none 0 0] w fun e w' => e = .returned (.slice none 0 0) ∧ w = w' := by
  have he : ∀ w : World, (binOp .eql 70 (.slice none 0 0) (.slice none 0 0)).run Tryd.prog w = .ok (.bool true) w := fun _ => rfl
  go_enter Tryd.func81, Tryd.ntmps81
  go_wp2_with fail
  go_ret
  exact ⟨rfl, rfl⟩

set_option maxRecDepth 100000 in
set_option maxHeartbeats 1000000 in
theorem clone_some (w : World) (g off n cap : Nat) (L : List PairV) (h : Pairs w (some ⟨g, off, none⟩) L) (hn : n = L.length) (hl : n ≤ 1000) :
    Calls Tryd.prog 81 #[.slice (some ⟨g, off, none⟩) n cap] w fun e w' => ∃ v, e = .returned v ∧ OwnP w' w.heap.size v L ∧ Below w.heap.size w w' := by
  subst hn
  have hO := World.ownsRow_made (base := w.heap.size) (e := 77) (size := 2) w #[] 0 (by simp) (by decide) rfl
  have HO : Hid (OwnP (w.alloc (.cells #[] 77)) w.heap.size (.slice (some ⟨w.heap.size, 0, none⟩) 0 0) []) := Lib.hid hO
  have HB : Hid (Below w.heap.size w (w.alloc (.cells #[] 77))) := Lib.hid ((Below.refl _ _).alloc (Nat.le_refl _) _)
  have HP := Lib.hid (h.call HB.out)
  have he : ∀ w : World, (binOp .eql 70 (.slice (some ⟨g, off, none⟩) L.length cap) (.slice none 0 0)).run Tryd.prog w = .ok (.bool false) w := fun _ => rfl
  clear h hO
  go_enter Tryd.func81, Tryd.ntmps81
  go_wp2_with (at_builtin; refine wpList_append_pairs rfl (.tmp 5) (.tmp 6) rfl w.heap.size _ [] (some ⟨g, off, none⟩) cap L rfl HO.out rfl HP.out ?c1 ?c2 ?_)
  case c1 => simp; omega
  case c2 => simp
  intro v5 w5 hown5 hg5
  have hb5 : Below w.heap.size w w5 := HB.out.grown hg5 HB.out.size (fun k hk => by cases hk; exact Nat.le_refl _)
  obtain ⟨A5, k5, rfl⟩ := hown5.form
  have HO5 := Lib.hid hown5
  have HB5 := Lib.hid hb5
  clear hown5 hg5 hb5
  go_wp2_with fail
  go_ret
  exact ⟨_, rfl, HO5.out, HB5.out⟩

set_option maxRecDepth 100000 in
set_option maxHeartbeats 1000000 in
theorem spairs_of (w : World) (p A : Option Addr) (cap : Nat) (L : List PairV) (h : OwnsV w p A L.length cap) (hr : Slab w A cap L) (hl : L.length ≤ 1000) :
    Calls Tryd.prog 57 #[.pointer p] w fun e w' => ∃ v, e = .returned v ∧ OwnP w' w.heap.size v L ∧ Below w.heap.size w w' := by
  have H := Lib.hid h
  rcases hr.form with ⟨rfl, rfl, rfl⟩ | ⟨g, off, rfl⟩
  · have H0 : Hid (OwnsV w p none 0 0) := Lib.hid H.out
    clear h hr H
    go_enter Tryd.func57, Tryd.ntmps57
    go_wp2_with fail
    refine H0.out.now.mono ?_
    rintro e w2 ⟨rfl, rfl⟩
    go_wp2_with fail
    refine (clone_none w).mono ?_
    rintro e w3 ⟨rfl, rfl⟩
    go_wp2_with fail
    go_ret
    exact ⟨_, rfl, OwnP.nil _ _, Below.refl _ _⟩
  · obtain ⟨n, hn⟩ : ∃ n, L.length = n := ⟨_, rfl⟩
    have HC := Lib.hid (clone_some w g off n cap L hr.pairs hn.symm (by omega))
    rw [hn] at H
    clear h hr hn hl
    go_enter Tryd.func57, Tryd.ntmps57
    go_wp2_with fail
    refine H.out.now.mono ?_
    rintro e w2 ⟨rfl, rfl⟩
    go_wp2_with fail
    refine HC.out.mono ?_
    rintro e w3 ⟨v, rfl, ho, hb⟩
    obtain ⟨A5, k5, rfl⟩ := ho.form
    have HO5 := Lib.hid ho
    clear ho
    go_wp2_with fail
    go_ret
    exact ⟨_, rfl, HO5.out, hb⟩

set_option maxRecDepth 100000 in
set_option maxHeartbeats 1000000 in
theorem spairs_none (w : World) :
    Calls Tryd.prog 57 #[.pointer none] w fun e w' => ∃ A cap, e = .returned (.slice A 0 cap) ∧ Below w.heap.size w w' := by
  go_enter Tryd.func57, Tryd.ntmps57
  go_wp2_with fail
  refine (sown_none w).mono ?_
  rintro e w2 ⟨rfl, rfl⟩
  go_wp2_with fail
  refine (clone_none w).mono ?_
  rintro e w3 ⟨rfl, rfl⟩
  go_wp2_with fail
  go_ret
  exact ⟨none, 0, rfl, Below.refl _ _⟩

set_option maxRecDepth 100000 in
set_option maxHeartbeats 1000000 in
theorem sfind_of (w : World) (p A : Option Addr) (cap : Nat) (L : List PairV) (t x : Int) (fb : Bool) (h : OwnsV w p A L.length cap) (hP : Pairs w A L) (hl : L.length ≤ 1000) (ht : Word t) (hb : sumP L < 18446744073709551616) (hf : (findP L t).getD 0 = x) (hs : (findP L t).isSome = fb) :
    Calls Tryd.prog 63 #[.pointer p, .int .u64 t] w fun e w' => e = .returned (.tuple #[.int .i64 x, .bool fb]) ∧ Below w.heap.size w w' := by
  have H := Lib.hid h
  have HI := Lib.hid hP
  have HX := Lib.hid hf
  have HB := Lib.hid hs
  have HP := Lib.hid (fun k => sumP_take (L := L) k (ok_pos hP.ok))
  have HSL := Lib.hid hb
  have HAT := Lib.hid (fun k p => seek_at t L 0 k p (ok_pos hP.ok))
  have HNO := Lib.hid (seek_none t L 0 (ok_pos hP.ok))
  obtain ⟨t0, t1⟩ := ht
  clear h hP hf hs hb
  by_cases hz : t = 0
  · subst hz
    have HF : Hid (findP L 0 = none) := Lib.hid (by unfold findP; rw [if_neg (by omega)])
    have HE : Hid (0 = x ∧ false = fb) := Lib.hid (by
      have h1 := HX.out; have h2 := HB.out
      rw [HF.out] at h1 h2
      exact ⟨h1, h2⟩)
    go_enter Tryd.func63, Tryd.ntmps63
    go_wp2_with fail
    go_ret2
    exact ⟨by rw [← HE.out.1, ← HE.out.2]; rfl, Below.refl _ _⟩
  have hz' : (t == 0) = false := by simp [hz]
  have ht0 : 0 < t := by omega
  go_enter Tryd.func63, Tryd.ntmps63
  go_wp2_with fail
  refine H.out.now.mono ?_
  rintro e w2 ⟨rfl, rfl⟩
  go_wp2_with fail
  go_loopw [1, 13] (fun s j wr => ∃ (k : Nat) (u : Int), k ≤ L.length ∧ j = .int .i64 k ∧ s = .int .u64 u ∧ u = t - sumP (L.take k) ∧ 0 < u ∧ Below w.heap.size w wr) (fun _ j _ => L.length - (intOf j).toNat)
  case atStart => exact ⟨0, t, Nat.zero_le _, rfl, rfl, by rw [List.take_zero]; show t = t - 0; omega, ht0, Below.refl _ _⟩
  case round =>
    obtain ⟨k, u, hk, rfl, rfl, hu, hu0, hb2⟩ := hrel
    have HU := Lib.hid hu
    by_cases hlt : k < L.length
    · have kk : (k : Int) < L.length := by omega
      have hxk : L[k]? = some L[k] := List.getElem?_eq_getElem hlt
      generalize hit : L[k] = p at *
      obtain ⟨px, pc⟩ := p
      obtain ⟨b, off, rfl, hbl, c0, c1⟩ := (HI.out.call hb2).at_ k _ hxk
      have HS := Lib.hid (sum_step' hxk)
      have HXK := Lib.hid hxk
      have hok := HI.out.ok _ (List.mem_of_getElem? hxk)
      have p1 := HP.out (k + 1)
      have p0 := HP.out k
      rw [HS.out] at p1
      have hbs := hb2.size
      obtain ⟨⟨o1, o2⟩, o3, o4⟩ := hok
      simp only at c0 c1 o1 o2 o3 o4 p1 HS HXK
      obtain ⟨p2, p3⟩ := p1
      obtain ⟨p4, _⟩ := p0
      have u1 : u < 18446744073709551616 := by omega
      by_cases hge : u ≤ pc
      · have HF : Hid (findP L t = some px) := Lib.hid (by
          unfold findP; rw [if_pos ht0]
          exact HAT.out k (px, pc) HXK.out (by omega) (by show t ≤ 0 + sumP (L.take k) + pc; omega))
        have HE : Hid (px = x ∧ true = fb) := Lib.hid (by
          have h1 := HX.out; have h2 := HB.out
          rw [HF.out] at h1 h2
          exact ⟨h1, h2⟩)
        clear hxk hit hu p2 p3 p4
        go_wp2_with fail
        go_ret2
        exact ⟨by rw [← HE.out.1, ← HE.out.2]; rfl, hb2.alloc hbs _⟩
      · have HR : Hid (u - pc = t - sumP (L.take (k + 1))) := Lib.hid (by rw [HS.out]; omega)
        have hd : IntKind.u64.wrap (u - pc) = u - pc := by rw [IntKind.wrap_u64]; omega
        clear hxk hit hu p2 p3 p4
        go_wp2_with fail
        go_roundw
        case rel => exact ⟨k + 1, u - pc, by omega, by go_num, rfl, HR.out, by omega, hb2.alloc hbs _⟩
        case measure => simp [intOf]; omega
    · obtain rfl : k = L.length := by omega
      rw [List.take_length] at hu
      have HF : Hid (findP L t = none) := Lib.hid (by
        unfold findP
        rw [if_pos ht0]
        exact HNO.out (by omega))
      have HE : Hid (0 = x ∧ false = fb) := Lib.hid (by
        have h1 := HX.out; have h2 := HB.out
        rw [HF.out] at h1 h2
        exact ⟨h1, h2⟩)
      have kk : ¬ (L.length : Int) < L.length := by omega
      clear hu
      go_wp2_with fail
      go_ret2
      exact ⟨by rw [← HE.out.1, ← HE.out.2]; rfl, hb2⟩

set_option maxRecDepth 100000 in
set_option maxHeartbeats 1000000 in
theorem sbelow_none (w : World) (p : Option Addr) (i : Int) (h : OwnsV w p none 0 0) (hi : I64 i) :
    Calls Tryd.prog 41 #[.pointer p, .int .i64 i] w fun e w' => e = .returned (.int .u64 0) ∧ Below w.heap.size w w' := by
  have hF := find_big w none 0 [] i 0 false (Pairs.nil w) (by simp) good_nil hi rfl rfl
  have hT := fun w' => total_does w' none 0 [] 0 true (Pairs.nil w') (by simp) rfl rfl
  have HF : Hid (Calls Tryd.prog 69 #[.slice none 0 0, .int .i64 i] w fun e w' => e = .returned (.tuple #[.int .i64 0, .bool false]) ∧ Below w.heap.size w w') := Lib.hid hF
  have HT : Hid (∀ w' : World, Calls Tryd.prog 70 #[.slice none 0 0] w' fun e w'' => e = .returned (.tuple #[.int .u64 0, .bool true]) ∧ Below w'.heap.size w' w'') := Lib.hid hT
  have H := Lib.hid h
  clear h hF hT
  go_enter Tryd.func41, Tryd.ntmps41
  go_wp2_with fail
  refine H.out.now.mono ?_
  rintro e w2 ⟨rfl, rfl⟩
  go_wp2_with fail
  refine HF.out.mono ?_
  rintro e w3 ⟨rfl, b3⟩
  go_wp2_with fail
  refine (HT.out _).mono ?_
  rintro e w4 ⟨rfl, b4⟩
  go_wp2_with fail
  go_ret
  exact ⟨rfl, b3.trans (b4.mono b3.size)⟩

set_option maxRecDepth 100000 in
set_option maxHeartbeats 1000000 in
theorem sbelow_of (w : World) (p A : Option Addr) (cap : Nat) (L : List PairV) (i x : Int) (h : OwnsV w p A L.length cap) (hr : Slab w A cap L) (hg : GoodP L) (hl : L.length ≤ 1000) (hi : I64 i) (hs : sumP L ≤ 9223372036854775807) (hx : belowP L i = x) :
    Calls Tryd.prog 41 #[.pointer p, .int .i64 i] w fun e w' => e = .returned (.int .u64 x) ∧ Below w.heap.size w w' := by
  have hP := hr.pairs
  rcases hr.form with ⟨rfl, rfl, rfl⟩ | ⟨g, off, rfl⟩
  · subst hx
    exact sbelow_none w p i h hi
  · obtain ⟨n, hn, hnl, hor⟩ := good_where i hg
    have hcap := hr.fit
    have hT : ∀ k, k ≤ L.length → ∀ s, sumP (L.take k) = s → ∀ w', Below w.heap.size w w' → Calls Tryd.prog 70 #[.slice (some ⟨g, off, none⟩) k cap] w' fun e w'' => e = .returned (.tuple #[.int .u64 s, .bool true]) ∧ Below w'.heap.size w' w'' := fun k hk s hsum w' hb => by
      have hp : Pairs w (some ⟨g, off, none⟩) (L.take k) := pairs_low (hi := L.drop k) (by rw [List.take_append_drop]; exact hP)
      have hlen : (L.take k).length = k := by rw [List.length_take]; omega
      have hs2 := (sumP_take (L := L) k (ok_pos hP.ok)).2
      have hfit : fitsB (L.take k) = true := by unfold fitsB; apply decide_eq_true; omega
      have := total_does w' (some ⟨g, off, none⟩) cap (L.take k) s true (hp.call hb) (by omega) (by unfold totalP; rw [hfit]; exact hsum) hfit
      rw [hlen] at this
      exact this
    rcases hor with ⟨hb, hlt, _, hbl, _⟩ | ⟨hb, _, hbl, _⟩
    · have hF := find_big w (some ⟨g, off, none⟩) cap L i n true hP (by omega) hg hi hn hb
      have HF := Lib.hid hF
      have HT := Lib.hid (hT (n + 1) hlt x (by rw [← hbl]; exact hx))
      have H := Lib.hid h
      have nn : (n : Int) < L.length := by omega
      have n2 : n + 1 ≤ cap := by omega
      have n3 : (n : Int) + 1 ≤ cap := by omega
      obtain ⟨n1, hn1⟩ : ∃ n1, n + 1 = n1 := ⟨_, rfl⟩
      have e1 : (n : Int) + 1 = (n1 : Int) := by omega
      have e2 : IntKind.i64.wrap ((n : Int) + 1) = (n1 : Int) := by rw [IntKind.wrap_i64]; omega
      have e3 : (n1 : Int) ≤ cap := by omega
      rw [hn1] at HT
      clear h hT hF hP hg hn hx hb hbl hr hs
      go_enter Tryd.func41, Tryd.ntmps41
      go_wp2_with fail
      refine H.out.now.mono ?_
      rintro e w2 ⟨rfl, rfl⟩
      go_wp2_with fail
      refine HF.out.mono ?_
      rintro e w3 ⟨rfl, b3⟩
      go_wp2_with fail
      refine (HT.out _ b3).mono ?_
      rintro e w4 ⟨rfl, b4⟩
      go_wp2_with fail
      go_ret
      exact ⟨rfl, b3.trans (b4.mono b3.size)⟩
    · have hF := find_big w (some ⟨g, off, none⟩) cap L i n false hP (by omega) hg hi hn hb
      have HF := Lib.hid hF
      have HT := Lib.hid (hT n hnl x (by rw [← hbl]; exact hx))
      have H := Lib.hid h
      have n2 : n ≤ cap := by omega
      have n3 : (n : Int) ≤ cap := by omega
      clear h hT hF hP hg hn hx hb hbl hr hs
      go_enter Tryd.func41, Tryd.ntmps41
      go_wp2_with fail
      refine H.out.now.mono ?_
      rintro e w2 ⟨rfl, rfl⟩
      go_wp2_with fail
      refine HF.out.mono ?_
      rintro e w3 ⟨rfl, b3⟩
      go_wp2_with fail
      refine (HT.out _ b3).mono ?_
      rintro e w4 ⟨rfl, b4⟩
      go_wp2_with fail
      go_ret
      exact ⟨rfl, b3.trans (b4.mono b3.size)⟩
end Go.Proofs.YtojincgbnjkegaaDoor

namespace Go.Proofs.YtojincgbnjkegaaDoor
set_option linter.unusedVariables false
set_option linter.unusedSimpArgs false
open Go.RowKit

/-- A strip on its way: its block holds these; all else that was is as it was. -/
structure Left (w : World) (B : Nat) (m : Int) (V : Value) (t : Int) (X : World) : Prop where
  b : X.heap[B]? = some (.cells #[.int .i64 m, V, .int .u64 t] 119 (0, 0))
  k : Keeps (fun k => k = B) w X
theorem Left.start {w w2 : World} {B : Nat} {A : Option Addr} {n cap : Nat} {m t : Int} {L : List PairV} (h : LayS w B A n cap m t L) (b2 : Below w.heap.size w w2) (V : Value) (o : Obj) : Left w B m V t ((w2.setCell ⟨B, 1, none⟩ V).alloc o) := by
  have h1 : (w2.setCell ⟨B, 1, none⟩ V).heap[B]? = some (.cells #[.int .i64 m, V, .int .u64 t] 119 (0, 0)) := set_cells8 (h.call b2).b 1 V
  exact ⟨(heap_alloc_old _ _ (lt_of_block h1)).trans h1, (Keeps.set (S := fun k => k = B) (Keeps.of_below b2) 1 V (Or.inl rfl)).new o⟩
theorem Left.draws {w X : World} {B : Nat} {m t : Int} {V : Value} (h : Left w B m V t X) (n : Nat) : Left w B m V t (X.drewN n) := ⟨((below_drewN (Below.refl X.heap.size X) n).block _ (lt_of_block h.b)).trans h.b, h.k.draws n⟩
theorem Left.total {w X : World} {B : Nat} {m t : Int} {V : Value} (h : Left w B m V t X) (t' : Int) : Left w B m V t' (X.setCell ⟨B, 2, none⟩ (.int .u64 t')) := ⟨set_cells8 h.b 2 _, h.k.set 2 _ (Or.inl rfl)⟩
theorem Left.box {w X : World} {B : Nat} {m t : Int} {V : Value} (h : Left w B m V t X) (hB : B < w.heap.size) (o : Nat) (u : Value) : Left w B m V t (X.setCell ⟨w.heap.size, o, none⟩ u) :=
  ⟨by rw [Below.heap_setCell _ _ _ _ (by show B ≠ w.heap.size; omega)]; exact h.b, h.k.set o u (Or.inr (Nat.le_refl _))⟩
theorem left_facts {w w2 : World} {B : Nat} {A : Option Addr} {n cap : Nat} {m t : Int} {L : List PairV} (h : LayS w B A n cap m t L) (b2 : Below w.heap.size w w2) (hz : w2.heap.size = w.heap.size + 1) (hw : Two w2 w.heap.size (.int .i64 0) (.int .u64 0)) (V : Value) (px pc : Int) :
    ∃ X, (w2.setCell ⟨B, 1, none⟩ V).alloc (.cells #[.int .i64 px, .int .u64 pc] 77) = X ∧ Left w B m V t X ∧ X.cell? ⟨B, 2, none⟩ = some (.int .u64 t) ∧ X.frozen? ⟨B, 2, none⟩ = false ∧
      X.cell? ⟨w.heap.size + 1, 0, none⟩ = some (.int .i64 px) ∧ X.cell? ⟨w.heap.size + 1, 1, none⟩ = some (.int .u64 pc) ∧ Two X w.heap.size (.int .i64 0) (.int .u64 0) := by
  have h1 := Left.start h b2 V (.cells #[.int .i64 px, .int .u64 pc] 77)
  have hsz : (w2.setCell ⟨B, 1, none⟩ V).heap.size = w.heap.size + 1 := by simpa [World.setCell] using hz
  have h2 : ((w2.setCell ⟨B, 1, none⟩ V).alloc (.cells #[.int .i64 px, .int .u64 pc] 77)).heap[w.heap.size + 1]? = some (.cells #[.int .i64 px, .int .u64 pc] 77 (0, 0)) := by
    have := heap_alloc_new (w2.setCell ⟨B, 1, none⟩ V) (.cells #[.int .i64 px, .int .u64 pc] 77)
    rwa [hsz] at this
  have hBl := h.lt
  refine ⟨_, rfl, h1, by rw [Joins.cell_of_block h1.b]; rfl, free8 h1.b _, by rw [Joins.cell_of_block h2]; rfl, by rw [Joins.cell_of_block h2]; rfl, ?_⟩
  refine hw.block ?_
  rw [heap_alloc_old _ _ (by rw [hsz]; omega), Below.heap_setCell _ _ _ _ (by show w.heap.size ≠ B; omega)]
theorem left_done {w X : World} {B : Nat} {m t : Int} {V : Value} {px pc : Int} (h : Left w B m V t X) (hB : B < w.heap.size) (p0 : X.cell? ⟨w.heap.size + 1, 0, none⟩ = some (.int .i64 px)) (p1 : X.cell? ⟨w.heap.size + 1, 1, none⟩ = some (.int .u64 pc)) (hw : Two X w.heap.size (.int .i64 0) (.int .u64 0)) (t' : Int) :
    ∃ Y, (X.setCell ⟨B, 2, none⟩ (.int .u64 t')).drew = Y ∧ Y.cell? ⟨w.heap.size + 1, 0, none⟩ = some (.int .i64 px) ∧ Y.cell? ⟨w.heap.size + 1, 1, none⟩ = some (.int .u64 pc) ∧ Two Y w.heap.size (.int .i64 0) (.int .u64 0) ∧
      (Y.setCell ⟨w.heap.size, 0, none⟩ (.int .i64 px)).cell? ⟨w.heap.size, 0, none⟩ = some (.int .i64 px) ∧
      ((Y.setCell ⟨w.heap.size, 0, none⟩ (.int .i64 px)).setCell ⟨w.heap.size, 1, none⟩ (.int .u64 pc)).cell? ⟨w.heap.size, 1, none⟩ = some (.int .u64 pc) ∧
      Left w B m V t' ((Y.setCell ⟨w.heap.size, 0, none⟩ (.int .i64 px)).setCell ⟨w.heap.size, 1, none⟩ (.int .u64 pc)) := by
  have hL : Left w B m V t' ((X.setCell ⟨B, 2, none⟩ (.int .u64 t')).drew) := (h.total t').draws 1
  have e : ∀ k, k ≠ B → ((X.setCell ⟨B, 2, none⟩ (.int .u64 t')).drew).heap[k]? = X.heap[k]? := fun k hk => Below.heap_setCell _ _ _ _ hk
  have hT : Two ((X.setCell ⟨B, 2, none⟩ (.int .u64 t')).drew) w.heap.size (.int .i64 0) (.int .u64 0) := hw.block (e _ (by omega))
  refine ⟨_, rfl, (World.cell?_of_block (a := ⟨w.heap.size + 1, 0, none⟩) (e (w.heap.size + 1) (by omega))).trans p0, (World.cell?_of_block (a := ⟨w.heap.size + 1, 1, none⟩) (e (w.heap.size + 1) (by omega))).trans p1, hT, World.cell?_setCell_same _ _ _ hT.c0, ?_, (hL.box hB _ _).box hB _ _⟩
  exact World.cell?_setCell_same _ _ _ (u := .int .u64 0) (by rw [World.cell?_setCell_other _ _ _ _ (two_off (by omega))]; exact hT.c1)
theorem left_end {w X : World} {B : Nat} {A A' : Option Addr} {n n' cap cap' : Nat} {m t t' : Int} {L L' : List PairV} {S : Nat → Prop} (h : LayS w B A n cap m t L) (hS : ∀ k, S k ↔ k = B ∨ blkA A = some k)
    (hA : ∀ k, blkA A' = some k → blkA A = some k) (hr : Slab w A' cap' L') (hn : L'.length = n') (hst : Stp m L') (hm : I64 m) (ht : sumP L' = t') (hX : Left w B m (.slice A' n' cap') t' X) :
    ∃ S', StX X B S' m L' ∧ Keeps S w X ∧ (∀ k, S' k → S k ∨ w.heap.size ≤ k) := by
  subst hn ht
  refine ⟨fun k => k = B ∨ blkA A' = some k, ⟨hst, hm, A', cap', ⟨hX.b, ?_⟩, fun k => Iff.rfl⟩, ?_, ?_⟩
  · exact hr.keep fun k hk => hX.k.block k (hr.lt hk) (h.ne (hA k hk))
  · exact ⟨hX.k.os, hX.k.tape, hX.k.output, hX.k.size, fun k hk hn => hX.k.block k hk (fun e => hn ((hS k).2 (Or.inl e)))⟩
  · rintro k (rfl | hk)
    · exact Or.inl ((hS k).2 (Or.inl rfl))
    · exact Or.inl ((hS k).2 (Or.inr (hA k hk)))

theorem empty_len {L : List PairV} (h : L = []) : L.length = 0 := by rw [h]; rfl

end Go.Proofs.YtojincgbnjkegaaDoor

namespace Go.Proofs.YtojincgbnjkegaaDoor
set_option linter.unusedVariables false
set_option linter.unusedSimpArgs false
open Go.RowKit

theorem same_below {P : Ending → Prop} {w : World} {e : Ending} {w' : World} (h : P e ∧ w = w') : P e ∧ Below w.heap.size w w' := by
  obtain ⟨h1, rfl⟩ := h
  exact ⟨h1, Below.refl _ _⟩
theorem strip_does : StripDoes StX where
  keep := stx_keep
  lt := stx_lt
  stp := fun w B S m L h => h.1
  cells := stx_cells
  new := fun w m h1 h2 => snew_any w m h1 h2
  bad := fun w m h1 h2 => sbad_any w m h1 h2
  add := fun w B S m L i c h hl hi hc => sadd_any w B S m L i c h hl hi hc
  at_ := fun w B S m L i h hl hi => by
    obtain ⟨hst, hm, A, cap, hL, hS⟩ := h
    exact sat_of w _ A cap L i (owns_at hL.c1) hL.row.pairs hst.good (by omega) hi
  total := fun w B S m L h hl => by
    obtain ⟨hst, hm, A, cap, hL, hS⟩ := h
    exact (stotal_at w B _ hL.c2).mono fun e w' => same_below (P := fun e => e = _)
  len := fun w B S m L h hl => by
    obtain ⟨hst, hm, A, cap, hL, hS⟩ := h
    exact (slen_of w _ A _ cap (owns_at hL.c1)).mono fun e w' => same_below (P := fun e => e = _)
  pairs := fun w B S m L h hl => by
    obtain ⟨hst, hm, A, cap, hL, hS⟩ := h
    exact spairs_of w _ A cap L (owns_at hL.c1) hL.row (by omega)
  find := fun w B S m L t h hl ht => by
    obtain ⟨hst, hm, A, cap, hL, hS⟩ := h
    exact sfind_of w _ A cap L t _ _ (owns_at hL.c1) hL.row.pairs (by omega) ht (by have := hst.sum; omega) rfl rfl
  below := fun w B S m L i h hl hi => by
    obtain ⟨hst, hm, A, cap, hL, hS⟩ := h
    exact sbelow_of w _ A cap L i _ (owns_at hL.c1) hL.row hst.good (by omega) hi hst.sum rfl
theorem strip_nil : StripNil where
  add := fun w i c hi hc => sadd_none w i c hi hc
  at_ := fun w i hi => sat_of w none none 0 [] i (owns_none w) (Pairs.nil w) good_nil (by simp) hi
  total := fun w => (stotal_none w).mono fun e w' => same_below (P := fun e => e = _)
  len := fun w => (slen_of w none none 0 0 (owns_none w)).mono fun e w' => same_below (P := fun e => e = _)
  pairs := fun w => spairs_none w
  find := fun w t ht => sfind_of w none none 0 [] t 0 false (owns_none w) (Pairs.nil w) (by simp) ht (by decide) (by unfold findP; split <;> rfl) (by unfold findP; split <;> rfl)
  below := fun w i hi => sbelow_none w none i (owns_none w) hi
end Go.Proofs.YtojincgbnjkegaaDoor

/-
  Plain mathematics of spans, of magnitudes by their first digits: no program in sight.
-/
namespace Go.Proofs.YtojincgbnjkegaaDoor
set_option linter.unusedVariables false
set_option linter.unusedSimpArgs false

/-- So many digits, the log of the least power of two that isn't below so many tens, and these. -/
def SpanP (d : Int) (L : Nat) (T : Int) : Prop := (d = 1 ∧ L = 4 ∧ T = 10) ∨ (d = 2 ∧ L = 7 ∧ T = 100) ∨ (d = 3 ∧ L = 10 ∧ T = 1000) ∨ (d = 4 ∧ L = 14 ∧ T = 10000)
theorem spanp_of {d : Int} (h1 : 1 ≤ d) (h2 : d ≤ 4) : ∃ L T, SpanP d L T := by
  unfold SpanP
  obtain rfl | rfl | rfl | rfl : d = 1 ∨ d = 2 ∨ d = 3 ∨ d = 4 := by omega
  · exact ⟨4, 10, by omega⟩
  · exact ⟨7, 100, by omega⟩
  · exact ⟨10, 1000, by omega⟩
  · exact ⟨14, 10000, by omega⟩
theorem spanp_log {d : Int} {L : Nat} {T : Int} (h : SpanP d L T) : 4 ≤ L ∧ L ≤ 14 := by unfold SpanP at h; omega
theorem spanp_ten {d : Int} {L : Nat} {T : Int} (h : SpanP d L T) : 1 ≤ T ∧ T ≤ 2 ^ L := by
  rcases h with ⟨_, rfl, rfl⟩ | ⟨_, rfl, rfl⟩ | ⟨_, rfl, rfl⟩ | ⟨_, rfl, rfl⟩ <;> decide
theorem spanp_finer {d e : Int} {L M : Nat} {T U : Int} (h : SpanP d L T) (k : SpanP e M U) (hd : d ≤ e) : L ≤ M := by unfold SpanP at *; omega

theorem pow_i (k : Nat) : ((2 ^ k : Nat) : Int) = (2 : Int) ^ k := by rw [Int.natCast_pow]; rfl
theorem pow_pos (k : Nat) : (1 : Int) ≤ 2 ^ k := by have := Int.pow_pos (n := (2 : Int)) (m := k) (by omega); omega
theorem pow_up (k : Nat) : (2 : Int) ^ (k + 1) = 2 * 2 ^ k := by rw [Int.pow_succ]; omega
theorem pow_le {j k : Nat} (h : j ≤ k) : (2 : Int) ^ j ≤ 2 ^ k := by
  rw [← pow_i, ← pow_i]; exact Int.ofNat_le.2 (Nat.pow_le_pow_right (by omega) h)
theorem pow_join (j k : Nat) : (2 : Int) ^ j * 2 ^ k = 2 ^ (j + k) := by rw [Int.pow_add]

/-- By how many bits a magnitude is cut, what is left of it, its span's index; the least and the greatest one of its span; what stands for it. -/
def cutS (L : Nat) (m : Int) : Nat := Lib.bitLen m.toNat - 1 - L
def leftS (L : Nat) (m : Int) : Int := m / 2 ^ cutS L m
def idxS (L : Nat) (m : Int) : Int := cutS L m * 2 ^ L + leftS L m
def loS (L : Nat) (m : Int) : Int := leftS L m * 2 ^ cutS L m
def hiS (L : Nat) (m : Int) : Int := min (loS L m + (2 ^ cutS L m - 1)) 9223372036854775808
def midS (lo hi : Int) : Int := lo + (hi - lo) / 2
def repS (L : Nat) (m : Int) : Int := midS (loS L m) (hiS L m)
/-- By how many bits what lies in a span is cut; the least and the greatest one there. -/
def cutI (L : Nat) (i : Int) : Nat := (i / 2 ^ L - 1).toNat
def lowI (L : Nat) (i : Int) : Int := (i - cutI L i * 2 ^ L) * 2 ^ cutI L i
def highI (L : Nat) (i : Int) : Int := min (lowI L i + (2 ^ cutI L i - 1)) 9223372036854775808
/-- How many spans there are. -/
def lastS (L : Nat) : Int := (64 - L) * 2 ^ L

theorem len_bd {m : Int} (h1 : 1 ≤ m) (h2 : m ≤ 9223372036854775808) : 1 ≤ Lib.bitLen m.toNat ∧ Lib.bitLen m.toNat ≤ 64 ∧ 2 ^ (Lib.bitLen m.toNat - 1) ≤ m ∧ m < 2 ^ Lib.bitLen m.toNat := by
  obtain ⟨a, b, c⟩ := Lib.bitLenAux_bounds 64 m.toNat (by omega) (by omega)
  have e : Lib.bitLen m.toNat = Lib.bitLenAux 64 m.toNat := rfl
  have l := Lib.bitLen_le m.toNat 64 (Nat.le_refl _) (by omega)
  rw [← e] at a b c
  generalize Lib.bitLen m.toNat = n at *
  refine ⟨a, l, ?_, ?_⟩
  · have := Int.ofNat_le.2 b; rw [pow_i] at this; omega
  · have := Int.ofNat_lt.2 c; rw [pow_i] at this; omega
theorem len_of {m : Int} {n : Nat} (h1 : 1 ≤ m) (h2 : m ≤ 9223372036854775808) (a : 2 ^ n ≤ m) (b : m < 2 ^ (n + 1)) : Lib.bitLen m.toNat = n + 1 := by
  obtain ⟨c, _, d, e⟩ := len_bd h1 h2
  generalize Lib.bitLen m.toNat = l at *
  rcases Nat.lt_trichotomy l (n + 1) with h | h | h
  · have := pow_le (show l ≤ n by omega); omega
  · exact h
  · have := pow_le (show n + 1 ≤ l - 1 by omega); omega

/-- What the cut says of a magnitude. -/
theorem cut_facts (L : Nat) {m : Int} (h1 : 1 ≤ m) (h2 : m ≤ 9223372036854775808) (hL : L ≤ 14) :
    cutS L m ≤ 63 - L ∧ 1 ≤ leftS L m ∧ leftS L m < 2 ^ (L + 1) ∧ (cutS L m = 0 ∨ 2 ^ L ≤ leftS L m) ∧ loS L m ≤ m ∧ m ≤ loS L m + (2 ^ cutS L m - 1) ∧ m < 2 ^ (L + 1 + cutS L m) := by
  obtain ⟨a, b, c, d⟩ := len_bd h1 h2
  have hk : cutS L m = Lib.bitLen m.toNat - 1 - L := rfl
  generalize Lib.bitLen m.toNat = n at *
  have hq : leftS L m = m / 2 ^ cutS L m := rfl
  have hl : loS L m = leftS L m * 2 ^ cutS L m := rfl
  have hp := pow_pos (cutS L m)
  have e := Int.mul_ediv_add_emod m (2 ^ cutS L m)
  have e1 := Int.emod_lt_of_pos m (show 0 < (2 : Int) ^ cutS L m by omega)
  have e2 := Int.emod_nonneg m (show (2 : Int) ^ cutS L m ≠ 0 by omega)
  have hu : m < 2 ^ (L + 1 + cutS L m) := by
    have := pow_le (show n ≤ L + 1 + cutS L m by omega); omega
  have hq1 : leftS L m < 2 ^ (L + 1) := by
    rw [hq, Int.ediv_lt_iff_lt_mul (by omega), pow_join]; exact hu
  have hq2 : cutS L m = 0 ∨ 2 ^ L ≤ leftS L m := by
    by_cases h : cutS L m = 0
    · exact .inl h
    · refine .inr ?_
      rw [hq, Int.le_ediv_iff_mul_le (by omega), pow_join]
      have : L + cutS L m = n - 1 := by omega
      rw [this]; exact c
  refine ⟨by omega, ?_, hq1, hq2, ?_, ?_, hu⟩
  · rcases hq2 with h | h
    · rw [hq, h]; simp; omega
    · have := pow_pos L; omega
  · rw [hl, hq, Int.mul_comm]; omega
  · rw [hl, hq, Int.mul_comm]; omega

/-- Whoever is so much, cut by so many bits, has that cut. -/
theorem cut_is (L k : Nat) {m q : Int} (hL : L ≤ 14) (h2 : m ≤ 9223372036854775808) (a : k = 0 ∨ 2 ^ L ≤ q) (q1 : 1 ≤ q) (b : q < 2 ^ (L + 1)) (c : q * 2 ^ k ≤ m) (d : m < (q + 1) * 2 ^ k) : cutS L m = k ∧ leftS L m = q := by
  have hp := pow_pos k
  have hqp : 1 * 2 ^ k ≤ q * 2 ^ k := Int.mul_le_mul_of_nonneg_right q1 (by omega)
  have h1 : 1 ≤ m := by omega
  obtain ⟨x, y, z, t⟩ := len_bd h1 h2
  have hk : cutS L m = Lib.bitLen m.toNat - 1 - L := rfl
  have hq : leftS L m = m / 2 ^ cutS L m := rfl
  generalize Lib.bitLen m.toNat = n at *
  have hu : m < 2 ^ (L + 1 + k) := by
    have : (q + 1) * 2 ^ k ≤ 2 ^ (L + 1) * 2 ^ k := Int.mul_le_mul_of_nonneg_right (by omega) (by omega)
    rw [pow_join] at this; omega
  have hc : cutS L m = k := by
    rcases a with rfl | a
    · have : ¬ L + 1 + 0 ≤ n - 1 := fun h => by have := pow_le h; omega
      omega
    · have hw : 2 ^ (L + k) ≤ m := by
        have : 2 ^ L * 2 ^ k ≤ q * 2 ^ k := Int.mul_le_mul_of_nonneg_right a (by omega)
        rw [pow_join] at this; omega
      have h3 : ¬ L + 1 + k ≤ n - 1 := fun h => by have := pow_le h; omega
      have h4 : ¬ n ≤ L + k := fun h => by have := pow_le h; omega
      omega
  refine ⟨hc, ?_⟩
  rw [hq, hc]
  have u1 : m / 2 ^ k < q + 1 := (Int.ediv_lt_iff_lt_mul (by omega)).2 d
  have u2 : q ≤ m / 2 ^ k := (Int.le_ediv_iff_mul_le (by omega)).2 c
  omega

theorem half_pow (L : Nat) {q : Int} (h0 : 0 ≤ q) (h : q < 2 ^ (L + 1)) : q / 2 ^ L = if 2 ^ L ≤ q then 1 else 0 := by
  have hp := pow_pos L
  rw [pow_up] at h
  split
  · have u1 : q / 2 ^ L < 2 := (Int.ediv_lt_iff_lt_mul (by omega)).2 (by omega)
    have u2 : 1 ≤ q / 2 ^ L := (Int.le_ediv_iff_mul_le (by omega)).2 (by omega)
    omega
  · have u1 : q / 2 ^ L < 1 := (Int.ediv_lt_iff_lt_mul (by omega)).2 (by omega)
    have u2 : 0 ≤ q / 2 ^ L := (Int.le_ediv_iff_mul_le (by omega)).2 (by omega)
    omega
theorem cuti_of (L k : Nat) {q : Int} (a : k = 0 ∨ 2 ^ L ≤ q) (q0 : 0 ≤ q) (b : q < 2 ^ (L + 1)) : cutI L (k * 2 ^ L + q) = k ∧ (k * 2 ^ L + q : Int) / 2 ^ L - 1 = (k : Int) - (if 2 ^ L ≤ q then 0 else 1) := by
  have hp := pow_pos L
  have e : (k * 2 ^ L + q : Int) / 2 ^ L = k + (if 2 ^ L ≤ q then 1 else 0) := by
    rw [Int.add_comm, Int.add_mul_ediv_right _ _ (by omega), half_pow L q0 b]; omega
  refine ⟨?_, by rw [e]; split <;> omega⟩
  unfold cutI
  rw [e]
  rcases a with rfl | a
  · split <;> simp
  · rw [if_pos a]; omega
theorem cuti_idx (L : Nat) {m : Int} (h1 : 1 ≤ m) (h2 : m ≤ 9223372036854775808) (hL : L ≤ 14) : cutI L (idxS L m) = cutS L m := by
  obtain ⟨_, a, b, c, _⟩ := cut_facts L h1 h2 hL
  exact (cuti_of L _ c (by omega) b).1
theorem low_idx (L : Nat) {m : Int} (h1 : 1 ≤ m) (h2 : m ≤ 9223372036854775808) (hL : L ≤ 14) : lowI L (idxS L m) = loS L m := by
  unfold lowI; rw [cuti_idx L h1 h2 hL]; unfold idxS loS
  rw [show (cutS L m * 2 ^ L + leftS L m - cutS L m * 2 ^ L : Int) = leftS L m by omega]
theorem high_idx (L : Nat) {m : Int} (h1 : 1 ≤ m) (h2 : m ≤ 9223372036854775808) (hL : L ≤ 14) : highI L (idxS L m) = hiS L m := by
  unfold highI hiS; rw [low_idx L h1 h2 hL, cuti_idx L h1 h2 hL]
theorem idx_bd (L : Nat) {m : Int} (h1 : 1 ≤ m) (h2 : m ≤ 9223372036854775808) (hL : L ≤ 14) : 1 ≤ idxS L m := by
  obtain ⟨_, a, _⟩ := cut_facts L h1 h2 hL
  have := pow_pos L
  have : 0 * 2 ^ L ≤ (cutS L m : Int) * 2 ^ L := Int.mul_le_mul_of_nonneg_right (by omega) (by omega)
  unfold idxS; omega
theorem last_idx (L : Nat) (hL : L ≤ 14) : idxS L 9223372036854775808 = lastS L := by
  have hb : Lib.bitLen (9223372036854775808 : Int).toNat = 64 := by decide
  have hp := pow_pos L
  have e : (2 : Int) ^ L * 2 ^ (63 - L) = 9223372036854775808 := by rw [pow_join, show L + (63 - L) = 63 by omega]; decide
  have := cut_is L (63 - L) (m := 9223372036854775808) (q := 2 ^ L) hL (by omega) (.inr (by omega)) hp (by rw [pow_up]; omega) (by rw [e]; omega) (by rw [Int.add_mul, e]; have := pow_pos (63 - L); omega)
  unfold idxS lastS
  rw [this.1, this.2]
  rw [show ((64 : Int) - L) = ((63 - L : Nat) : Int) + 1 by omega, Int.add_mul]; omega
/-- A greater magnitude has no lesser index. -/
theorem idx_mono (L : Nat) {m n : Int} (h1 : 1 ≤ m) (h : m ≤ n) (h2 : n ≤ 9223372036854775808) (hL : L ≤ 14) : idxS L m ≤ idxS L n := by
  obtain ⟨a0, a1, a2, a3, a4, a5, a6⟩ := cut_facts L h1 (by omega) hL
  obtain ⟨b0, b1, b2, b3, b4, b5, b6⟩ := cut_facts L (show 1 ≤ n by omega) h2 hL
  have hp := pow_pos L
  have u := pow_up L
  have hk : cutS L m ≤ cutS L n := by
    obtain ⟨c1, c2, c3, c4⟩ := len_bd h1 (by omega : m ≤ 9223372036854775808)
    obtain ⟨d1, d2, d3, d4⟩ := len_bd (show 1 ≤ n by omega) h2
    have : ¬ Lib.bitLen n.toNat ≤ Lib.bitLen m.toNat - 1 := fun h => by have := pow_le h; omega
    unfold cutS; omega
  by_cases e : cutS L m = cutS L n
  · have : leftS L m ≤ leftS L n := by
      show m / 2 ^ cutS L m ≤ n / 2 ^ cutS L n
      rw [e]; exact Int.ediv_le_ediv (by have := pow_pos (cutS L n); omega) h
    unfold idxS; rw [e]; omega
  · have hq : 2 ^ L ≤ leftS L n := by rcases b3 with h | h <;> omega
    have : ((cutS L m : Int) + 1) * 2 ^ L ≤ (cutS L n : Int) * 2 ^ L := Int.mul_le_mul_of_nonneg_right (by omega) (by omega)
    rw [Int.add_mul] at this
    unfold idxS; omega
theorem idx_last (L : Nat) {m : Int} (h1 : 1 ≤ m) (h2 : m ≤ 9223372036854775808) (hL : L ≤ 14) : idxS L m ≤ lastS L := by
  rw [← last_idx L hL]; exact idx_mono L h1 h2 (Int.le_refl _) hL
/-- The least one of a span has that span. -/
theorem low_in (L : Nat) {i : Int} (h1 : 1 ≤ i) (h2 : i ≤ lastS L) (hL : L ≤ 14) : 1 ≤ lowI L i ∧ lowI L i ≤ 9223372036854775808 ∧ idxS L (lowI L i) = i := by
  have hp := pow_pos L
  have u := pow_up L
  obtain ⟨k, hk⟩ : ∃ k, cutI L i = k := ⟨_, rfl⟩
  obtain ⟨q, hq⟩ : ∃ q, i - k * 2 ^ L = q := ⟨_, rfl⟩
  have hl : lowI L i = q * 2 ^ k := by unfold lowI; rw [hk, hq]
  have e := Int.mul_ediv_add_emod i (2 ^ L)
  have e1 := Int.emod_lt_of_pos i (show 0 < (2 : Int) ^ L by omega)
  have e2 := Int.emod_nonneg i (show (2 : Int) ^ L ≠ 0 by omega)
  have e3 : 0 ≤ i / 2 ^ L := (Int.le_ediv_iff_mul_le (by omega)).2 (by omega)
  have e4 : i / 2 ^ L ≤ 64 - L := by
    have : i / 2 ^ L < 64 - L + 1 := by
      rw [Int.ediv_lt_iff_lt_mul (by omega), Int.add_mul]; unfold lastS at h2; omega
    omega
  have hk' : (k : Int) = if i / 2 ^ L = 0 then 0 else i / 2 ^ L - 1 := by rw [← hk]; unfold cutI; split <;> omega
  rw [Int.mul_comm] at e
  obtain ⟨t, ht⟩ : ∃ t, i / 2 ^ L = t := ⟨_, rfl⟩
  rw [ht] at e e3 e4 hk'
  have hq3 : (k = 0 ∨ 2 ^ L ≤ q) ∧ 1 ≤ q ∧ q < 2 ^ (L + 1) := by
    by_cases h0 : t = 0
    · rw [if_pos h0] at hk'
      have : k = 0 := by omega
      subst this; subst h0
      simp at hq e
      omega
    · rw [if_neg h0] at hk'
      have : (k : Int) * 2 ^ L = t * 2 ^ L - 2 ^ L := by rw [hk', Int.sub_mul]; omega
      omega
  obtain ⟨a, b, c⟩ := hq3
  have hkp := pow_pos k
  have hqp : 1 * 2 ^ k ≤ q * 2 ^ k := Int.mul_le_mul_of_nonneg_right b (by omega)
  have htop : q * 2 ^ k ≤ 9223372036854775808 := by
    by_cases hm : (k : Int) = 63 - L
    · have hq2 : q = 2 ^ L := by
        have : i = k * 2 ^ L + q := by omega
        have h3 : lastS L = (k : Int) * 2 ^ L + 2 ^ L := by unfold lastS; rw [hm, show ((64 : Int) - L) = (63 - L) + 1 by omega, Int.add_mul]; omega
        by_cases h0 : k = 0
        · omega
        · rcases a with a | a <;> omega
      rw [hq2, pow_join, show L + k = 63 by omega]; decide
    · have h5 : q * 2 ^ k ≤ 2 ^ (L + 1) * 2 ^ k := Int.mul_le_mul_of_nonneg_right (by omega) (by omega)
      rw [pow_join] at h5
      have h6 : k ≤ 62 - L := by split at hk' <;> omega
      have := pow_le (show L + 1 + k ≤ 63 by omega)
      have e63 : (2 : Int) ^ 63 = 9223372036854775808 := by decide
      omega
  have hi := cut_is L k (m := q * 2 ^ k) (q := q) hL htop a b c (Int.le_refl _) (by rw [Int.add_mul]; omega)
  rw [hl]
  refine ⟨by omega, htop, ?_⟩
  unfold idxS; rw [hi.1, hi.2]; omega
/-- Behind the greatest magnitude of a span the next one begins. -/
theorem next_span (L : Nat) {m : Int} (h1 : 1 ≤ m) (h2 : m ≤ 9223372036854775808) (hL : L ≤ 14) (h : hiS L m < 9223372036854775808) : idxS L (hiS L m + 1) = idxS L m + 1 ∧ loS L (hiS L m + 1) = hiS L m + 1 := by
  obtain ⟨a0, a1, a2, a3, a4, a5, a6⟩ := cut_facts L h1 h2 hL
  have hh : hiS L m = min (loS L m + (2 ^ cutS L m - 1)) 9223372036854775808 := rfl
  have hl : loS L m = leftS L m * 2 ^ cutS L m := rfl
  have hx : idxS L m = cutS L m * 2 ^ L + leftS L m := rfl
  generalize cutS L m = k at *
  generalize leftS L m = q at *
  have hp := pow_pos k
  have hpL := pow_pos L
  have u := pow_up L
  have e : hiS L m + 1 = (q + 1) * 2 ^ k := by rw [Int.add_mul]; omega
  by_cases hq : q + 1 < 2 ^ (L + 1)
  · have := cut_is L k (m := hiS L m + 1) (q := q + 1) hL (by omega) (by omega) (by omega) hq (by omega) (by rw [Int.add_mul (q + 1)]; omega)
    refine ⟨?_, ?_⟩
    · rw [hx]; unfold idxS; rw [this.1, this.2]; omega
    · unfold loS; rw [this.1, this.2]; omega
  · have hq' : q + 1 = 2 * 2 ^ L := by omega
    have e2 : hiS L m + 1 = 2 ^ L * 2 ^ (k + 1) := by rw [e, hq', pow_up, Int.mul_assoc, Int.mul_left_comm]
    have := cut_is L (k + 1) (m := hiS L m + 1) (q := 2 ^ L) hL (by omega) (.inr (Int.le_refl _)) hpL (by omega) (by omega) (by rw [Int.add_mul, ← e2]; have := pow_pos (k + 1); omega)
    refine ⟨?_, ?_⟩
    · rw [hx]; unfold idxS; rw [this.1, this.2, show (((k + 1 : Nat) : Int)) = (k : Int) + 1 by omega, Int.add_mul]; omega
    · unfold loS; rw [this.1, this.2]; omega
theorem span_in (L : Nat) {m : Int} (h1 : 1 ≤ m) (h2 : m ≤ 9223372036854775808) (hL : L ≤ 14) : 1 ≤ loS L m ∧ loS L m ≤ m ∧ m ≤ hiS L m ∧ hiS L m ≤ 9223372036854775808 := by
  obtain ⟨a0, a1, a2, a3, a4, a5, a6⟩ := cut_facts L h1 h2 hL
  have hp := pow_pos (cutS L m)
  have : 1 * 2 ^ cutS L m ≤ leftS L m * 2 ^ cutS L m := Int.mul_le_mul_of_nonneg_right a1 (by omega)
  have hl : loS L m = leftS L m * 2 ^ cutS L m := rfl
  unfold hiS; omega
theorem mid_in {lo hi : Int} (h : lo ≤ hi) : lo ≤ midS lo hi ∧ midS lo hi ≤ hi := by unfold midS; omega
/-- What stands for a magnitude's span lies close to it. -/
theorem span_close {d : Int} {L : Nat} {T m : Int} (hs : SpanP d L T) (h1 : 1 ≤ m) (h2 : m ≤ 9223372036854775808) : (max (repS L m) m - min (repS L m) m) * T ≤ m := by
  have hL := (spanp_log hs).2
  have hT := spanp_ten hs
  obtain ⟨a0, a1, a2, a3, a4, a5, a6⟩ := cut_facts L h1 h2 hL
  obtain ⟨b0, b1, b2, b3⟩ := span_in L h1 h2 hL
  obtain ⟨c1, c2⟩ := mid_in (show loS L m ≤ hiS L m by omega)
  have hr : repS L m = midS (loS L m) (hiS L m) := rfl
  have hh : hiS L m ≤ loS L m + (2 ^ cutS L m - 1) := by unfold hiS; omega
  have hp := pow_pos (cutS L m)
  have g : max (repS L m) m - min (repS L m) m ≤ 2 ^ cutS L m - 1 := by omega
  have g0 : 0 ≤ max (repS L m) m - min (repS L m) m := by omega
  generalize max (repS L m) m - min (repS L m) m = x at *
  rcases a3 with a | a
  · rw [a] at g
    have : x = 0 := by simp at g; omega
    subst this; omega
  · have e1 : x * T ≤ 2 ^ cutS L m * T := Int.mul_le_mul_of_nonneg_right (by omega) (by omega)
    have e2 : 2 ^ cutS L m * T ≤ 2 ^ cutS L m * leftS L m := Int.mul_le_mul_of_nonneg_left (by omega) (by omega)
    rw [Int.mul_comm _ (leftS L m)] at e2
    have hl : loS L m = leftS L m * 2 ^ cutS L m := rfl
    omega
/-- More digits: the span lies in the wider one. -/
theorem span_finer {L M : Nat} {m : Int} (hLM : L ≤ M) (hM : M ≤ 14) (h1 : 1 ≤ m) (h2 : m ≤ 9223372036854775808) : loS L m ≤ loS M m ∧ hiS M m ≤ hiS L m := by
  have hk : cutS M m ≤ cutS L m := by unfold cutS; omega
  obtain ⟨j, hj⟩ : ∃ j, cutS L m = cutS M m + j := ⟨cutS L m - cutS M m, by omega⟩
  obtain ⟨a0, a1, a2, a3, a4, a5, a6⟩ := cut_facts L h1 h2 (by omega)
  obtain ⟨b0, b1, b2, b3, b4, b5, b6⟩ := cut_facts M h1 h2 hM
  have hl : loS L m = leftS L m * 2 ^ cutS L m := rfl
  have hn : loS M m = leftS M m * 2 ^ cutS M m := rfl
  have hp := pow_pos (cutS M m)
  have e : loS L m = leftS L m * 2 ^ j * 2 ^ cutS M m := by rw [hl, hj, Int.mul_assoc, pow_join, Nat.add_comm]
  have e2 : (2 : Int) ^ cutS L m = 2 ^ j * 2 ^ cutS M m := by rw [hj, pow_join, Nat.add_comm]
  have x1 : leftS L m * 2 ^ j ≤ leftS M m := by
    have : ¬ (leftS M m + 1) * 2 ^ cutS M m ≤ leftS L m * 2 ^ j * 2 ^ cutS M m := by rw [Int.add_mul]; omega
    have h : ¬ leftS M m + 1 ≤ leftS L m * 2 ^ j := fun h => this (Int.mul_le_mul_of_nonneg_right h (by omega))
    omega
  have x2 : leftS M m + 1 ≤ (leftS L m + 1) * 2 ^ j := by
    have : ¬ (leftS L m + 1) * 2 ^ j * 2 ^ cutS M m ≤ leftS M m * 2 ^ cutS M m := by
      rw [Int.mul_assoc, ← e2, Int.add_mul]; omega
    have h : ¬ (leftS L m + 1) * 2 ^ j ≤ leftS M m := fun h => this (Int.mul_le_mul_of_nonneg_right h (by omega))
    omega
  have y1 : leftS L m * 2 ^ j * 2 ^ cutS M m ≤ leftS M m * 2 ^ cutS M m := Int.mul_le_mul_of_nonneg_right x1 (by omega)
  have y2 : (leftS M m + 1) * 2 ^ cutS M m ≤ (leftS L m + 1) * 2 ^ j * 2 ^ cutS M m := Int.mul_le_mul_of_nonneg_right x2 (by omega)
  rw [Int.mul_assoc, ← e2, Int.add_mul, Int.add_mul] at y2
  refine ⟨by omega, ?_⟩
  unfold hiS; omega
end Go.Proofs.YtojincgbnjkegaaDoor

/-
  The library contracts that the proofs lean on, laid at this translation by program.
-/
namespace Go.Proofs
open Go.Shelf
def Tryd.lays134_ren : Go.Shelf.Ren := ⟨fun | 134 => 105 | 129 => 99 | n => n, fun | 53 => 23 | 3 => 3 | 4 => 4 | 46 => 151 | 5 => 5 | 9 => 9 | n => n, fun | n => n⟩
theorem Tryd.lays134 : Go.Proofs.Lays.n134 Tryd.prog Tryd.lays134_ren := {
  mixed := by kernel_rfl
  f129 := Tryd.func99.trans (congrArg some (by kernel_rfl))
  f134 := Tryd.func105.trans (congrArg some (by kernel_rfl))
  t3 := Tryd.underlying3
  a3 := Tryd.isAgg3
  z3 := Tryd.sizeOf3
  v3 := Tryd.zeroValue3
  t4 := Tryd.underlying4
  a4 := Tryd.isAgg4
  z4 := Tryd.sizeOf4
  v4 := Tryd.zeroValue4
  t5 := Tryd.underlying5
  a5 := Tryd.isAgg5
  z5 := Tryd.sizeOf5
  v5 := Tryd.zeroValue5
  t9 := Tryd.underlying9
  a9 := Tryd.isAgg9
  z9 := Tryd.sizeOf9
  v9 := Tryd.zeroValue9
  t46 := Tryd.underlying151
  a46 := Tryd.isAgg151
  z46 := Tryd.sizeOf151
  v46 := Tryd.zeroValue151
  t53 := Tryd.underlying23
  a53 := Tryd.isAgg23
  z53 := Tryd.sizeOf23
  v53 := Tryd.zeroValue23 }
theorem Tryd.bits_LeadingZeros64 (x : Int) (w : World) (h0 : 0 ≤ x) (h1 : x ≤ 18446744073709551615) :
    Calls Tryd.prog 105 #[.int .u64 x] w fun e w' => e = .returned (.int .i64 (64 - (Lib.bitLen x.toNat : Int))) ∧ w' = w := Any.bits_LeadingZeros64 Tryd.lays134 x w h0 h1
def Tryd.lays129_ren : Go.Shelf.Ren := ⟨fun | 129 => 99 | n => n, fun | 53 => 23 | 3 => 3 | 4 => 4 | 46 => 151 | 5 => 5 | 9 => 9 | n => n, fun | n => n⟩
theorem Tryd.lays129 : Go.Proofs.Lays.n129 Tryd.prog Tryd.lays129_ren := {
  mixed := by kernel_rfl
  f129 := Tryd.func99.trans (congrArg some (by kernel_rfl))
  t3 := Tryd.underlying3
  a3 := Tryd.isAgg3
  z3 := Tryd.sizeOf3
  v3 := Tryd.zeroValue3
  t4 := Tryd.underlying4
  a4 := Tryd.isAgg4
  z4 := Tryd.sizeOf4
  v4 := Tryd.zeroValue4
  t5 := Tryd.underlying5
  a5 := Tryd.isAgg5
  z5 := Tryd.sizeOf5
  v5 := Tryd.zeroValue5
  t9 := Tryd.underlying9
  a9 := Tryd.isAgg9
  z9 := Tryd.sizeOf9
  v9 := Tryd.zeroValue9
  t46 := Tryd.underlying151
  a46 := Tryd.isAgg151
  z46 := Tryd.sizeOf151
  v46 := Tryd.zeroValue151
  t53 := Tryd.underlying23
  a53 := Tryd.isAgg23
  z53 := Tryd.sizeOf23
  v53 := Tryd.zeroValue23 }
theorem Tryd.bits_Len64 (x : Int) (w : World) (h0 : 0 ≤ x) (h1 : x ≤ 18446744073709551615) :
    Calls Tryd.prog 99 #[.int .u64 x] w fun e w' => e = .returned (.int .i64 (Lib.bitLen x.toNat)) ∧ w' = w := Any.bits_Len64 Tryd.lays129 x w h0 h1
def Tryd.lays264_ren : Go.Shelf.Ren := ⟨fun | 264 => 101 | n => n, fun | 53 => 23 | 46 => 151 | n => n, fun | n => n⟩
theorem Tryd.lays264 : Go.Proofs.Lays.n264 Tryd.prog Tryd.lays264_ren := {
  mixed := by kernel_rfl
  f264 := Tryd.func101.trans (congrArg some (by kernel_rfl))
  t46 := Tryd.underlying151
  a46 := Tryd.isAgg151
  z46 := Tryd.sizeOf151
  v46 := Tryd.zeroValue151
  t53 := Tryd.underlying23
  a53 := Tryd.isAgg23
  z53 := Tryd.sizeOf23
  v53 := Tryd.zeroValue23 }
open Go.RowKit Go.Lib in
theorem Tryd.bits_Mul64 (x y : Nat) (hx : x < 18446744073709551616) (hy : y < 18446744073709551616) (w : World) :
    Calls Tryd.prog 101 #[.int .u64 x, .int .u64 y] w fun e w' => e = .returned (.tuple #[.int .u64 ((x * y / 18446744073709551616 : Nat) : Int), .int .u64 ((x * y % 18446744073709551616 : Nat) : Int)]) ∧ w' = w := Any.bits_Mul64 Tryd.lays264 x y hx hy w
end Go.Proofs

/-
  math/bits.Add64 and Sub64 at this translation: equations on a call, over whole numbers; Mul64 and Len64 likewise as contracts over whole numbers.
-/
namespace Go.Proofs.YtojincgbnjkegaaDoor
set_option linter.unusedVariables false
open Go.RowKit Go.Shelf

theorem add64 (x y c : Int) (hx : 0 ≤ x) (hy : 0 ≤ y) (hc0 : 0 ≤ c) (hc : c ≤ 1) (w : World) : (callFunc 87 #[.int .u64 x, .int .u64 y, .int .u64 c]).run Tryd.prog w =
    .ok (.value (.tuple #[.int .u64 ((x + y + c) % 18446744073709551616), .int .u64 ((x + y + c) / 18446744073709551616)])) w := by
  rw [run_callFunc_extern Tryd.func87 (by kernel_rfl) (by kernel_rfl) (by kernel_rfl) (e := add64Entry) (by kernel_rfl), run_add64 x y c hx hy hc0 hc]
  rfl
theorem add64_0 (x y : Int) (hx : 0 ≤ x) (hy : 0 ≤ y) (w : World) : (callFunc 87 #[.int .u64 x, .int .u64 y, .int .u64 0]).run Tryd.prog w =
    .ok (.value (.tuple #[.int .u64 ((x + y) % 18446744073709551616), .int .u64 ((x + y) / 18446744073709551616)])) w := by
  simpa using add64 x y 0 hx hy (Int.le_refl 0) (by decide) w
theorem mul64_any (x y : Int) (wx : Word x) (wy : Word y) (w : World) :
    Calls Tryd.prog 101 #[.int .u64 x, .int .u64 y] w fun e w' => e = .returned (.tuple #[.int .u64 (hiW (x * y)), .int .u64 (loW (x * y))]) ∧ w' = w := by
  obtain ⟨hx, hx'⟩ := wx; obtain ⟨hy, hy'⟩ := wy
  obtain ⟨x, rfl⟩ := Int.eq_ofNat_of_zero_le hx
  obtain ⟨y, rfl⟩ := Int.eq_ofNat_of_zero_le hy
  have hb : x * y < 18446744073709551616 * 18446744073709551616 := Nat.mul_lt_mul'' (by omega) (by omega)
  refine (Tryd.bits_Mul64 x y (by omega) (by omega) w).mono fun e w' h => ?_
  rw [h.1]
  refine ⟨?_, h.2⟩
  have e1 : hiW ((x : Int) * y) = ((x * y / 18446744073709551616 : Nat) : Int) := by
    unfold hiW; rw [← Int.natCast_mul]; generalize x * y = n at *; omega
  have e2 : loW ((x : Int) * y) = ((x * y % 18446744073709551616 : Nat) : Int) := by
    unfold loW; rw [← Int.natCast_mul]; generalize x * y = n at *; omega
  rw [e1, e2]
end Go.Proofs.YtojincgbnjkegaaDoor

/-
  Walks: wide.Times, Compare, Sub; the reference's Less and Add.
-/
namespace Go.Proofs.YtojincgbnjkegaaDoor
set_option linter.unusedVariables false
open Go.RowKit Go.Shelf

set_option maxHeartbeats 400000 in
theorem times_any (a b : Int) (wa : Word a) (wb : Word b) (w : World) :
    Calls Tryd.prog 86 #[.int .u64 a, .int .u64 b] w fun e w' =>
      e = .returned (.agg #[.int .u64 (hiW (a * b)), .int .u64 (loW (a * b))]) ∧ Below w.heap.size w w' := by
  go_enter Tryd.func86, Tryd.ntmps86
  go_wp2_with (go_at_call 101; refine (mul64_any _ _ wa wb _).mono ?_; rintro e w' ⟨rfl, rfl⟩)
  refine bodyPost_ret (v := .agg #[.int .u64 (hiW (a * b)), .int .u64 (loW (a * b))]) (by simp [results, Tryd.results86, go_sem]) rfl ⟨rfl, ?_⟩
  exact (Below.refl _ _).alloc (Nat.le_refl _) _

set_option maxHeartbeats 400000 in
theorem less_any (ah al bh bl : Int) (w1 : Word ah) (w2 : Word al) (w3 : Word bh) (w4 : Word bl) (w : World) :
    Calls Tryd.prog 47 #[.agg #[.int .u64 ah, .int .u64 al], .agg #[.int .u64 bh, .int .u64 bl]] w fun e w' =>
      e = .returned (.bool (belowB (wval ah al - wval bh bl))) ∧ Below w.heap.size w w' := by
  by_cases h : ah = bh
  · subst h
    have e1 := less_lo ah al bl
    have hb : (!(ah == ah)) = false := by simp
    go_enter Tryd.func47, Tryd.ntmps47
    go_wp2
    refine bodyPost_ret (v := .bool (decide (al < bl))) (by simp [results, Tryd.results47, go_sem]) rfl ⟨by rw [e1], ?_⟩
    exact ((Below.refl _ _).alloc (Nat.le_refl _) _).alloc (by simp) _
  · have e1 := less_hi ah al bh bl w2 w4 h
    have hb' : (ah != bh) = true := by simp [h]
    clear h
    go_enter Tryd.func47, Tryd.ntmps47
    go_wp2
    refine bodyPost_ret (v := .bool (decide (ah < bh))) (by simp [results, Tryd.results47, go_sem]) rfl ⟨by rw [e1], ?_⟩
    exact ((Below.refl _ _).alloc (Nat.le_refl _) _).alloc (by simp) _

set_option maxHeartbeats 400000 in
theorem rwadd_any (ah al bh bl : Int) (w1 : Word ah) (w2 : Word al) (w3 : Word bh) (w4 : Word bl) (w : World) :
    Calls Tryd.prog 74 #[.agg #[.int .u64 ah, .int .u64 al], .agg #[.int .u64 bh, .int .u64 bl]] w fun e w' =>
      e = .returned (.tuple #[.agg #[.int .u64 (hiW (wval ah al + wval bh bl)), .int .u64 (loW (wval ah al + wval bh bl))], .bool (carryB (wval ah al + wval bh bl))]) ∧ Below w.heap.size w w' := by
  have EL := Lib.hid (radd_lo ah al bh bl)
  by_cases h : IntKind.u64.wrap (al + bl) < al
  · have EH := Lib.hid (radd_hiB (ah := ah) (bh := bh) w2 w4 h)
    by_cases h2 : IntKind.u64.wrap (ah + bh) < ah
    · have EC := Lib.hid (radd_cB1 w1 w2 w3 w4 h h2)
      clear w1 w2 w3 w4
      go_enter Tryd.func74, Tryd.ntmps74
      go_wp2
      refine bodyPost_ret (v := .tuple #[.agg #[.int .u64 (IntKind.u64.wrap (IntKind.u64.wrap (ah + bh) + 1)), .int .u64 (IntKind.u64.wrap (al + bl))], .bool true]) (by simp [results, Tryd.results74, go_sem]) rfl ⟨by rw [EL.out, EH.out, EC.out], ?_⟩
      exact (((Below.refl _ _).alloc (Nat.le_refl _) _).alloc (by simp) _).alloc (by simp; omega) _
    · have EC := Lib.hid (radd_cB2 w1 w2 w3 w4 h h2)
      clear w1 w2 w3 w4
      go_enter Tryd.func74, Tryd.ntmps74
      go_wp2
      refine bodyPost_ret (v := .tuple #[.agg #[.int .u64 (IntKind.u64.wrap (IntKind.u64.wrap (ah + bh) + 1)), .int .u64 (IntKind.u64.wrap (al + bl))], .bool (IntKind.u64.wrap (IntKind.u64.wrap (ah + bh) + 1) == 0)]) (by simp [results, Tryd.results74, go_sem]) rfl ⟨by rw [EC.out, EL.out, EH.out], ?_⟩
      exact (((Below.refl _ _).alloc (Nat.le_refl _) _).alloc (by simp) _).alloc (by simp; omega) _
  · have EH := Lib.hid (radd_hiA (ah := ah) (bh := bh) w2 w4 h)
    have EC := Lib.hid (radd_cA w1 w2 w3 w4 h)
    clear w1 w2 w3 w4
    go_enter Tryd.func74, Tryd.ntmps74
    go_wp2
    refine bodyPost_ret (v := .tuple #[.agg #[.int .u64 (IntKind.u64.wrap (ah + bh)), .int .u64 (IntKind.u64.wrap (al + bl))], .bool (decide (IntKind.u64.wrap (ah + bh) < ah))]) (by simp [results, Tryd.results74, go_sem]) rfl ⟨by rw [EC.out, EL.out, EH.out], ?_⟩
    exact (((Below.refl _ _).alloc (Nat.le_refl _) _).alloc (by simp) _).alloc (by simp; omega) _
end Go.Proofs.YtojincgbnjkegaaDoor

/-
  Plain mathematics of a long division by two digits of 32 bits (Knuth's, of a divisor that fills 64 bits).
-/
namespace Go.Proofs.YtojincgbnjkegaaDoor
set_option linter.unusedVariables false
open Go.RowKit

/-- The divisor's parts. -/
theorem digit_le_iff {u v1 v0 d q r : Int} (hr : r = u - q * v1) (hv : 0 < v1 * 4294967296 + v0) :
    q ≤ (u * 4294967296 + d) / (v1 * 4294967296 + v0) ↔ q * v0 ≤ 4294967296 * r + d := by
  rw [Int.le_ediv_iff_mul_le hv, Int.mul_add, ← Int.mul_assoc]
  subst hr
  generalize q * v1 = a
  generalize q * v0 = b
  omega
theorem digit_lt {u v d : Int} (hu : u < v) (h0 : 0 ≤ u) (hd : d < 4294967296) : (u * 4294967296 + d) / v < 4294967296 := by
  refine Int.ediv_lt_of_lt_mul (by omega) ?_
  omega
theorem digit_nonneg {u v d : Int} (hu : 0 ≤ u) (hv : 0 < v) (hd : 0 ≤ d) : 0 ≤ (u * 4294967296 + d) / v := Int.ediv_nonneg (by omega) (by omega)

/-- The first guess. -/
theorem digit_start {u v1 v0 d : Int} (hu : 0 ≤ u) (hv1 : 0 < v1) (hv0 : 0 ≤ v0) (hd : d < 4294967296) (hd0 : 0 ≤ d) :
    (u * 4294967296 + d) / (v1 * 4294967296 + v0) ≤ u / v1 := by
  rw [Int.le_ediv_iff_mul_le hv1]
  have hv : 0 < v1 * 4294967296 + v0 := by omega
  have h1 := Int.ediv_mul_le (u * 4294967296 + d) (b := v1 * 4294967296 + v0) (by omega)
  have hq := digit_nonneg (u := u) (v := v1 * 4294967296 + v0) (d := d) hu hv hd0
  generalize (u * 4294967296 + d) / (v1 * 4294967296 + v0) = q at *
  rw [Int.mul_add, ← Int.mul_assoc] at h1
  have h2 := Int.mul_nonneg hq hv0
  generalize q * v1 = a at *
  generalize q * v0 = b at *
  omega
theorem digit_most {u v1 v0 : Int} (hu : u < v1 * 4294967296 + v0) (hv1 : 2147483648 ≤ v1) (hv0 : v0 < 4294967296) : u / v1 ≤ 4294967297 := by
  have h := Int.ediv_lt_of_lt_mul (a := u) (b := 4294967298) (c := v1) (by omega) (by omega)
  omega
/-- The guess is too great: one less will do. -/
theorem digit_down {u v1 v0 d q r : Int} (hr : r = u - q * v1) (hv : 0 < v1 * 4294967296 + v0) (hlt : (u * 4294967296 + d) / (v1 * 4294967296 + v0) < 4294967296)
    (h : 4294967296 ≤ q ∨ 4294967296 * r + d < q * v0) : (u * 4294967296 + d) / (v1 * 4294967296 + v0) ≤ q - 1 := by
  rcases h with h | h
  · omega
  · have := (not_congr (digit_le_iff (d := d) hr hv)).2 (by omega)
    omega
/-- The guess is right: what is left is great enough. -/
theorem digit_done {u v1 v0 d q r : Int} (hr : r = u - q * v1) (hv : 0 < v1 * 4294967296 + v0) (hq : (u * 4294967296 + d) / (v1 * 4294967296 + v0) ≤ q)
    (h : q * v0 ≤ 4294967296 * r + d) : q = (u * 4294967296 + d) / (v1 * 4294967296 + v0) := by
  have := (digit_le_iff (d := d) hr hv).2 h
  omega
theorem digit_break {u v1 v0 d q r : Int} (hr : r = u - q * v1) (hv : 0 < v1 * 4294967296 + v0) (hv0 : 0 ≤ v0) (hv0' : v0 < 4294967296) (hd : 0 ≤ d) (hq : (u * 4294967296 + d) / (v1 * 4294967296 + v0) ≤ q)
    (h0 : 0 ≤ q) (h1 : q ≤ 4294967296) (h2 : 4294967296 ≤ r) : q = (u * 4294967296 + d) / (v1 * 4294967296 + v0) := by
  refine digit_done hr hv hq ?_
  have := Int.mul_le_mul h1 (show v0 ≤ 4294967295 by omega) hv0 (by omega)
  omega
theorem step_left {u v1 q r : Int} (hr : r = u - q * v1) : r + v1 = u - (q - 1) * v1 := by
  rw [Int.sub_mul]; omega

/-- What is left behind a digit, by numbers that go round. -/
theorem left_over {u d v : Int} (hv : 0 < v) (hv' : v < 18446744073709551616) :
    (u * 4294967296 + d - (u * 4294967296 + d) / v * v) % 18446744073709551616 = (u * 4294967296 + d) % v := by
  have h1 := Int.ediv_mul_add_emod (u * 4294967296 + d) v
  have h2 := Int.emod_nonneg (u * 4294967296 + d) (show v ≠ 0 by omega)
  have h3 := Int.emod_lt_of_pos (u * 4294967296 + d) hv
  generalize (u * 4294967296 + d) / v * v = a at *
  omega

/-- Two digits are the whole quotient. -/
theorem two_digits {u d1 d0 v : Int} (hv : 0 < v) :
    (u * 4294967296 + d1) / v * 4294967296 + ((u * 4294967296 + d1) % v * 4294967296 + d0) / v = (u * 18446744073709551616 + d1 * 4294967296 + d0) / v ∧
    ((u * 4294967296 + d1) % v * 4294967296 + d0) % v = (u * 18446744073709551616 + d1 * 4294967296 + d0) % v := by
  have h1 := Int.ediv_mul_add_emod (u * 4294967296 + d1) v
  generalize (u * 4294967296 + d1) / v = q1 at *
  generalize (u * 4294967296 + d1) % v = r1 at *
  have h4 := Int.ediv_mul_add_emod (r1 * 4294967296 + d0) v
  have h5 := Int.emod_nonneg (r1 * 4294967296 + d0) (show v ≠ 0 by omega)
  have h6 := Int.emod_lt_of_pos (r1 * 4294967296 + d0) hv
  generalize (r1 * 4294967296 + d0) / v = q0 at *
  generalize (r1 * 4294967296 + d0) % v = r0 at *
  have h := (Int.ediv_emod_unique (a := u * 18446744073709551616 + d1 * 4294967296 + d0) (r := r0) (q := q1 * 4294967296 + q0) hv).2 ⟨by
    rw [Int.mul_add, ← Int.mul_assoc, Int.mul_comm v q1, Int.mul_comm v q0]
    generalize q1 * v = a at *
    generalize q0 * v = b at *
    omega, h5, h6⟩
  exact ⟨h.1.symm, h.2.symm⟩

/-- The divisor is moved up till it fills 64 bits. -/
theorem div_norm {y : Int} (h0 : 0 < y) (h1 : y < 18446744073709551616) :
    ∃ s : Nat, s < 64 ∧ 64 - (Lib.bitLen y.toNat : Int) = s ∧ 9223372036854775808 ≤ y * 2 ^ s ∧ y * 2 ^ s < 18446744073709551616 := by
  obtain ⟨Y, rfl⟩ := Int.eq_ofNat_of_zero_le (show 0 ≤ y by omega)
  obtain ⟨a, b, c⟩ := Lib.bitLenAux_bounds 64 Y (by omega) (by omega)
  have hL : Lib.bitLenAux 64 Y ≤ 64 := Lib.bitLen_le Y 64 (Nat.le_refl _) (by omega)
  simp only [Int.toNat_natCast]
  unfold Lib.bitLen
  generalize Lib.bitLenAux 64 Y = L at a b c hL ⊢
  refine ⟨64 - L, by omega, by omega, ?_, ?_⟩
  · have h := Nat.mul_le_mul_right (2 ^ (64 - L)) b
    rw [← Nat.pow_add, show L - 1 + (64 - L) = 63 by omega] at h
    have e : ((Y : Int) * 2 ^ (64 - L)) = ((Y * 2 ^ (64 - L) : Nat) : Int) := by simp
    rw [e]; omega
  · have h := Nat.mul_lt_mul_of_pos_right c (Nat.pow_pos (n := 64 - L) (show 0 < 2 by omega))
    rw [← Nat.pow_add, show L + (64 - L) = 64 by omega] at h
    have e : ((Y : Int) * 2 ^ (64 - L)) = ((Y * 2 ^ (64 - L) : Nat) : Int) := by simp
    rw [e]; omega

theorem pow_parts {s : Nat} (h : s < 64) : ((2 : Int) ^ s) * 2 ^ (64 - s) = 18446744073709551616 ∧ 1 ≤ (2 : Int) ^ s ∧ 1 ≤ (2 : Int) ^ (64 - s) := by
  refine ⟨?_, ?_, ?_⟩
  · rw [← Int.pow_add, show s + (64 - s) = 64 by omega]; rfl
  · have : 0 < (2 : Int) ^ s := Int.pow_pos (by omega); omega
  · have : 0 < (2 : Int) ^ (64 - s) := Int.pow_pos (by omega); omega
/-- The lower half of a word. -/
theorem mask32 {a : Int} (h0 : 0 ≤ a) (h1 : a < 18446744073709551616) : bits .and .u64 a 4294967295 = a % 4294967296 := by
  obtain ⟨n, rfl⟩ := Int.eq_ofNat_of_zero_le h0
  have h := bits_and_u64_nat n 4294967295 (by omega) (by omega)
  have e : n &&& 4294967295 = n % 4294967296 := Nat.and_two_pow_sub_one_eq_mod n 32
  rw [e] at h
  exact h
/-- Two parts that don't meet. -/
theorem or_parts {a b : Int} {s : Nat} (ha : 0 ≤ a) (hb : 0 ≤ b) (hb' : b < 2 ^ s) (h1 : a * 2 ^ s + b < 18446744073709551616) :
    bits .or .u64 (a * 2 ^ s) b = a * 2 ^ s + b := by
  obtain ⟨a, rfl⟩ := Int.eq_ofNat_of_zero_le ha
  obtain ⟨b, rfl⟩ := Int.eq_ofNat_of_zero_le hb
  have e1 : (a : Int) * 2 ^ s = ((a * 2 ^ s : Nat) : Int) := by simp
  have e2 : b < 2 ^ s := by
    have e : ((2 : Int) ^ s) = ((2 ^ s : Nat) : Int) := by simp
    rw [e] at hb'; omega
  rw [e1] at h1 ⊢
  rw [bits_or_u64_nat _ _ (by omega) (by omega), Nat.mul_comm a, ← Nat.two_pow_add_eq_or_of_lt e2 a]
  simp
/-- A number moved up by so many bits, in words. -/
theorem norm_parts {hi lo y : Int} {s : Nat} (hs : s < 64) (h0 : 0 ≤ hi) (hy : hi < y) (l0 : 0 ≤ lo) (l1 : lo < 18446744073709551616) (hv : y * 2 ^ s < 18446744073709551616) :
    IntKind.u64.wrap (y * 2 ^ s) = y * 2 ^ s ∧ IntKind.u64.wrap (hi * 2 ^ s) = hi * 2 ^ s ∧ bits .or .u64 (hi * 2 ^ s) (lo / 2 ^ (64 - s)) = hi * 2 ^ s + lo / 2 ^ (64 - s) ∧
    0 ≤ hi * 2 ^ s + lo / 2 ^ (64 - s) ∧ hi * 2 ^ s + lo / 2 ^ (64 - s) < y * 2 ^ s ∧
    (hi * 2 ^ s + lo / 2 ^ (64 - s)) * 18446744073709551616 + IntKind.u64.wrap (lo * 2 ^ s) = wval hi lo * 2 ^ s := by
  obtain ⟨p1, p2, p3⟩ := pow_parts hs
  have q1 : lo / 2 ^ (64 - s) < 2 ^ s := Int.ediv_lt_of_lt_mul (by omega) (by rw [p1]; exact l1)
  have q0 : 0 ≤ lo / 2 ^ (64 - s) := Int.ediv_nonneg l0 (by omega)
  have g0 : 0 ≤ hi * 2 ^ s := Int.mul_nonneg h0 (by omega)
  have g1 : hi * 2 ^ s + 2 ^ s ≤ y * 2 ^ s := by
    have := Int.mul_le_mul_of_nonneg_right (show hi + 1 ≤ y by omega) (show (0 : Int) ≤ 2 ^ s by omega)
    rw [Int.add_mul] at this; omega
  have e6 : (hi * 2 ^ s + lo / 2 ^ (64 - s)) * 18446744073709551616 + IntKind.u64.wrap (lo * 2 ^ s) = wval hi lo * 2 ^ s := by
    have d1 : lo * 2 ^ s / 18446744073709551616 = lo / 2 ^ (64 - s) := by
      rw [← p1, Int.mul_comm ((2 : Int) ^ s), Int.mul_ediv_mul_of_pos_left _ _ (by omega)]
    rw [IntKind.wrap_u64, ← d1]
    unfold wval
    rw [Int.add_mul (hi * 18446744073709551616), Int.mul_assoc hi, Int.mul_comm 18446744073709551616, ← Int.mul_assoc hi]
    generalize hi * 2 ^ s = a
    generalize lo * 2 ^ s = b
    omega
  refine ⟨?_, ?_, or_parts h0 q0 q1 (by omega), by omega, by omega, e6⟩
  · rw [IntKind.wrap_u64]; omega
  · rw [IntKind.wrap_u64]; omega
/-- The quotient, and what is left, of numbers that were both moved up. -/
theorem moved_back {n y : Int} {s : Nat} (hs : s < 64) : n * 2 ^ s / (y * 2 ^ s) = n / y ∧ n * 2 ^ s % (y * 2 ^ s) / 2 ^ s = n % y := by
  obtain ⟨p1, p2, p3⟩ := pow_parts hs
  refine ⟨Int.mul_ediv_mul_of_pos_left _ _ (by omega), ?_⟩
  have e : n * 2 ^ s % (y * 2 ^ s) = n % y * 2 ^ s := by
    rw [Int.mul_comm n, Int.mul_comm y, Int.mul_emod_mul_of_pos _ _ (by omega), Int.mul_comm]
  rw [e, Int.mul_ediv_cancel _ (by omega)]
/-- The first loop's and the second loop's relation: the guess, and what is left by it. -/
structure DigRel (u v v1 v0 d a b : Int) : Prop where
  low : (u * 4294967296 + d) / v ≤ a
  high : a ≤ 4294967297
  left : b = u - a * v1
  b0 : 0 ≤ b
  b1 : b < 4294967296
/-- What the loop is over: a divisor of two halves, an upper part that is less, one more half. -/
structure DigOver (u v v1 v0 d : Int) : Prop where
  u0 : 0 ≤ u
  uv : u < v
  parts : v = v1 * 4294967296 + v0
  v1lo : 2147483648 ≤ v1
  v1hi : v1 < 4294967296
  v0lo : 0 ≤ v0
  v0hi : v0 < 4294967296
  d0 : 0 ≤ d
  d1 : d < 4294967296
theorem DigOver.start {u v v1 v0 d : Int} (o : DigOver u v v1 v0 d) : DigRel u v v1 v0 d (u / v1) (u - u / v1 * v1) := by
  obtain ⟨u0, uv, rfl, v1lo, v1hi, v0lo, v0hi, d0, d1⟩ := o
  have h1 := Int.ediv_mul_le u (b := v1) (by omega)
  have h2 := Int.ediv_mul_add_emod u v1
  have h3 := Int.emod_lt_of_pos u (show 0 < v1 by omega)
  exact ⟨digit_start u0 (by omega) v0lo d1 d0, digit_most uv v1lo v0hi, rfl, by omega, by omega⟩
theorem DigOver.pos {u v v1 v0 d : Int} (o : DigOver u v v1 v0 d) : 0 ≤ (u * 4294967296 + d) / v ∧ (u * 4294967296 + d) / v < 4294967296 := by
  have hp := o.parts; have h1 := o.v1lo; have h2 := o.v0lo
  exact ⟨digit_nonneg o.u0 (by omega) o.d0, digit_lt o.uv o.u0 o.d1⟩
theorem DigOver.prod {u v v1 v0 d a b : Int} (o : DigOver u v v1 v0 d) (r : DigRel u v v1 v0 d a b) : 0 ≤ a * v0 ∧ a * v0 ≤ 18446744073709551615 := by
  have h0 := o.pos.1; have h1 := r.low; have h2 := o.v0lo; have h3 := o.v0hi
  refine ⟨Int.mul_nonneg (by omega) h2, ?_⟩
  have := Int.mul_le_mul r.high (show v0 ≤ 4294967295 by omega) h2 (by omega)
  omega
theorem DigOver.next {u v v1 v0 d a b : Int} (o : DigOver u v v1 v0 d) (r : DigRel u v v1 v0 d a b) (h : 4294967296 ≤ a ∨ 4294967296 * b + d < a * v0) (g : ¬ 4294967296 ≤ b + v1) : DigRel u v v1 v0 d (a - 1) (b + v1) := by
  obtain ⟨u0, uv, rfl, v1lo, v1hi, v0lo, v0hi, d0, d1⟩ := o
  obtain ⟨low, high, left, b0, b1⟩ := r
  exact ⟨digit_down left (by omega) (digit_lt uv u0 d1) h, by omega, step_left left, by omega, by omega⟩
theorem DigOver.brk {u v v1 v0 d a b : Int} (o : DigOver u v v1 v0 d) (r : DigRel u v v1 v0 d a b) (h : 4294967296 ≤ a ∨ 4294967296 * b + d < a * v0) (g : 4294967296 ≤ b + v1) : a - 1 = (u * 4294967296 + d) / v := by
  have hp := o.pos.1
  obtain ⟨u0, uv, rfl, v1lo, v1hi, v0lo, v0hi, d0, d1⟩ := o
  obtain ⟨low, high, left, b0, b1⟩ := r
  have := digit_down left (by omega) (digit_lt uv u0 d1) h
  exact digit_break (step_left left) (by omega) v0lo v0hi d0 this (by omega) (by omega) g
theorem DigOver.done {u v v1 v0 d a b : Int} (o : DigOver u v v1 v0 d) (r : DigRel u v v1 v0 d a b) (h : ¬ 4294967296 * b + d < a * v0) : a = (u * 4294967296 + d) / v := by
  obtain ⟨u0, uv, rfl, v1lo, v1hi, v0lo, v0hi, d0, d1⟩ := o
  obtain ⟨low, high, left, b0, b1⟩ := r
  exact digit_done left (by omega) low (by omega)
theorem DigOver.one {u v v1 v0 d a b : Int} (o : DigOver u v v1 v0 d) (r : DigRel u v v1 v0 d a b) (h : 4294967296 ≤ a ∨ 4294967296 * b + d < a * v0) : 1 ≤ a := by
  have hp := o.pos.1
  obtain ⟨u0, uv, rfl, v1lo, v1hi, v0lo, v0hi, d0, d1⟩ := o
  have := digit_down r.left (by omega) (digit_lt uv u0 d1) h
  omega
theorem DigOver.guess {u v v1 v0 d : Int} (o : DigOver u v v1 v0 d) : 0 ≤ u / v1 ∧ u / v1 ≤ 4294967297 ∧ u / v1 * v1 ≤ u ∧ 0 ≤ u / v1 * v1 ∧ u - u / v1 * v1 < v1 := by
  obtain ⟨u0, uv, rfl, v1lo, v1hi, v0lo, v0hi, d0, d1⟩ := o
  have k0 : 0 ≤ u / v1 := Int.ediv_nonneg u0 (by omega)
  have h2 := Int.ediv_mul_add_emod u v1
  have h3 := Int.emod_lt_of_pos u (show 0 < v1 by omega)
  exact ⟨k0, digit_most uv v1lo v0hi, Int.ediv_mul_le u (by omega), Int.mul_nonneg k0 (by omega), by omega⟩
/-- What is left behind a digit, as the program reckons it. -/
theorem DigOver.wraps {u v v1 v0 d : Int} (o : DigOver u v v1 v0 d) (hv : v < 18446744073709551616) :
    IntKind.u64.wrap (IntKind.u64.wrap (IntKind.u64.wrap (u * 4294967296) + d) - IntKind.u64.wrap ((u * 4294967296 + d) / v * v)) = (u * 4294967296 + d) % v := by
  have hp := o.parts; have h1 := o.v1lo; have h2 := o.v0lo
  have h := left_over (u := u) (d := d) (v := v) (by omega) hv
  rw [← h]
  simp only [IntKind.wrap_u64]
  generalize (u * 4294967296 + d) / v * v = a
  omega
theorem DigOver.left {u v v1 v0 d : Int} (o : DigOver u v v1 v0 d) : 0 ≤ (u * 4294967296 + d) % v ∧ (u * 4294967296 + d) % v < v := by
  have hp := o.parts; have h1 := o.v1lo; have h2 := o.v0lo
  exact ⟨Int.emod_nonneg _ (by omega), Int.emod_lt_of_pos _ (by omega)⟩

end Go.Proofs.YtojincgbnjkegaaDoor

/-
  Walks: bits.Div64.
-/
namespace Go.Proofs.YtojincgbnjkegaaDoor
set_option linter.unusedVariables false
open Go.RowKit Go.Shelf

theorem lz_any (y : Int) (s : Nat) (h0 : 0 ≤ y) (h1 : y ≤ 18446744073709551615) (hs : 64 - (Lib.bitLen y.toNat : Int) = s) (w : World) :
    Calls Tryd.prog 105 #[.int .u64 y] w fun e w' => e = .returned (.int .i64 s) ∧ w = w' := by
  rw [← hs]; exact (Tryd.bits_LeadingZeros64 y w h0 h1).mono fun e w' h => ⟨h.1, h.2.symm⟩

set_option maxHeartbeats 400000 in
theorem div64_zero (lo y : Int) (wl : Word lo) (wy : Word y) (hy : 0 < y) (w : World) :
    Calls Tryd.prog 100 #[.int .u64 0, .int .u64 lo, .int .u64 y] w fun e w' =>
      e = .returned (.tuple #[.int .u64 (lo / y), .int .u64 (lo % y)]) ∧ Below w.heap.size w w' := by
  obtain ⟨l1, l2⟩ := wl
  obtain ⟨y1, y2⟩ := wy
  have hy0 : (y == 0) = false := by simp; omega
  have hy0' : ¬ y = 0 := by omega
  go_enter Tryd.func100, Tryd.ntmps100
  go_wp2_with fail
  go_quiet (fail)
  go_wp2
  refine bodyPost_ret (v := .tuple #[.int .u64 (lo / y), .int .u64 (lo % y)]) (by simp [results, Tryd.results100, go_sem]) rfl ⟨rfl, ?_⟩
  exact below_drewN (Below.refl _ _) _

set_option maxHeartbeats 400000 in
theorem div64_more (hi lo y : Int) (wh : Word hi) (wl : Word lo) (wy : Word y) (hh : 0 < hi) (hy : hi < y) (w : World) :
    Calls Tryd.prog 100 #[.int .u64 hi, .int .u64 lo, .int .u64 y] w fun e w' =>
      e = .returned (.tuple #[.int .u64 (wval hi lo / y), .int .u64 (wval hi lo % y)]) ∧ Below w.heap.size w w' := by
  obtain ⟨l1, l2⟩ := wl
  obtain ⟨y1, y2⟩ := wy
  obtain ⟨h1, h2⟩ := wh
  have hy0 : (y == 0) = false := by simp; omega
  have hh0 : (hi == 0) = false := by simp; omega
  obtain ⟨s, hs, hz, n1, n2⟩ := div_norm (show 0 < y by omega) y2
  obtain ⟨R1, R4, R5, u0, uv, HN⟩ := norm_parts (lo := lo) hs h1 hy l1 l2 n2
  have RES := Lib.hid (moved_back (n := wval hi lo) (y := y) hs)
  rw [← HN] at RES
  have HZ := Lib.hid hz
  clear hz HN
  have ll0 : 0 ≤ IntKind.u64.wrap (lo * 2 ^ s) ∧ IntKind.u64.wrap (lo * 2 ^ s) < 18446744073709551616 := by rw [IntKind.wrap_u64]; omega
  generalize hl : IntKind.u64.wrap (lo * 2 ^ s) = l at *
  generalize hu : hi * 2 ^ s + lo / 2 ^ (64 - s) = u at *
  generalize hv : y * 2 ^ s = v at *
  generalize hh' : hi * 2 ^ s = h' at *
  have hu' : bits .or .u64 h' (lo / 2 ^ (64 - s)) = u := by rw [R5]
  go_enter Tryd.func100, Tryd.ntmps100
  go_wp2_with fail
  refine (lz_any y s y1 (by omega) HZ.out _).mono ?_
  rintro e w' ⟨rfl, rfl⟩
  clear hu R5 HZ hh
  obtain ⟨ll1, ll2⟩ := ll0
  have M1 := mask32 (a := v) (by omega) n2
  have M2 := mask32 ll1 ll2
  have S1 := Lib.hid (Int.ediv_mul_add_emod v 4294967296)
  have S2 := Lib.hid (Int.ediv_mul_add_emod l 4294967296)
  have b1 : v / 4294967296 < 4294967296 := by omega
  have b2 : 2147483648 ≤ v / 4294967296 := by omega
  have b3 : 0 ≤ v % 4294967296 := by omega
  have b4 : v % 4294967296 < 4294967296 := by omega
  have c1 : l / 4294967296 < 4294967296 := by omega
  have c2 : 0 ≤ l / 4294967296 := by omega
  have c3 : 0 ≤ l % 4294967296 := by omega
  have c4 : l % 4294967296 < 4294967296 := by omega
  generalize v % 4294967296 = v0 at *
  generalize l % 4294967296 = d0 at *
  generalize hv1 : v / 4294967296 = v1 at *
  generalize hd1 : l / 4294967296 = d1 at *
  have o1 : DigOver u v v1 v0 d1 := ⟨u0, uv, S1.out.symm, b2, b1, b3, b4, c2, c1⟩
  have st_o1 := DigOver.start o1
  obtain ⟨k0, k1, k2, k3, k4⟩ := DigOver.guess o1
  go_upto_block 0 with fail
  go_cut [15, 16] (fun q r wx => ∃ z : Int, q = .int .u64 ((u * 4294967296 + d1) / v) ∧ r = .int .u64 z ∧ w = wx)
  case first =>
    go_wp2_with fail
    go_loop [15, 16] (fun q r => ∃ a b : Int, DigRel u v v1 v0 d1 a b ∧ q = .int .u64 a ∧ r = .int .u64 b) (fun q _ => (intOf q).toNat)
    case atStart => exact ⟨_, _, st_o1, rfl, rfl⟩
    case round =>
      obtain ⟨a, b, hr, rfl, rfl⟩ := hrel
      have a0 := hr.low; have a1 := hr.high; have bb0 := hr.b0; have bb1 := hr.b1
      obtain ⟨p0, p1⟩ := DigOver.prod o1 hr
      obtain ⟨z0, z1⟩ := DigOver.pos o1
      clear k0 k1 k2 k3 k4 st_o1
      generalize hQ : (u * 4294967296 + d1) / v = Q at a0 z0 z1
      have HQ := Lib.hid hQ
      clear hQ
      by_cases g1 : 4294967296 ≤ a
      · have a2 := DigOver.one o1 hr (.inl g1)
        by_cases g3 : 4294967296 ≤ b + v1
        · have HE := Lib.hid (DigOver.brk o1 hr (.inl g1) g3)
          go_wp2_with fail
          go_meet
          exact ⟨_, by rw [HE.out], rfl, rfl⟩
        · have HN := DigOver.next o1 hr (.inl g1) g3
          go_wp2_with fail
          go_round
          case rel => exact ⟨_, _, HN, rfl, rfl⟩
          case measure => simp [intOf]; omega
      · by_cases g2 : 4294967296 * b + d1 < a * v0
        · have a2 := DigOver.one o1 hr (.inr g2)
          by_cases g3 : 4294967296 ≤ b + v1
          · have HE := Lib.hid (DigOver.brk o1 hr (.inr g2) g3)
            go_wp2_with fail
            go_meet
            exact ⟨_, by rw [HE.out], rfl, rfl⟩
          · have HN := DigOver.next o1 hr (.inr g2) g3
            go_wp2_with fail
            go_round
            case rel => exact ⟨_, _, HN, rfl, rfl⟩
            case measure => simp [intOf]; omega
        · have HE := Lib.hid (DigOver.done o1 hr g2)
          go_wp2_with fail
          go_meet
          exact ⟨_, by rw [HE.out], rfl, rfl⟩
  case rest =>
    obtain ⟨z, rfl, rfl, rfl⟩ := hcut
    clear st_o1 k0 k1 k2 k3 k4
    have WR := DigOver.wraps o1 n2
    obtain ⟨e0, e1⟩ := DigOver.left o1
    obtain ⟨z0, z1⟩ := DigOver.pos o1
    have T := Lib.hid (two_digits (u := u) (d1 := d1) (d0 := d0) (v := v) (by omega))
    generalize (u * 4294967296 + d1) % v = u2 at *
    generalize (u * 4294967296 + d1) / v = Q1 at *
    have o2 : DigOver u2 v v1 v0 d0 := ⟨e0, e1, S1.out.symm, b2, b1, b3, b4, c3, c4⟩
    have st_o2 := DigOver.start o2
    obtain ⟨k0, k1, k2, k3, k4⟩ := DigOver.guess o2
    go_upto_block 2 with fail
    go_cut [18, 16] (fun q r wx => ∃ z : Int, q = .int .u64 ((u2 * 4294967296 + d0) / v) ∧ r = .int .u64 z ∧ w = wx)
    case first =>
      go_wp2_with fail
      go_loop [18, 16] (fun q r => ∃ a b : Int, DigRel u2 v v1 v0 d0 a b ∧ q = .int .u64 a ∧ r = .int .u64 b) (fun q _ => (intOf q).toNat)
      case atStart => exact ⟨_, _, st_o2, rfl, rfl⟩
      case round =>
        obtain ⟨a, b, hr, rfl, rfl⟩ := hrel
        have a0 := hr.low; have a1 := hr.high; have bb0 := hr.b0; have bb1 := hr.b1
        obtain ⟨p0, p1⟩ := DigOver.prod o2 hr
        obtain ⟨z0, z1⟩ := DigOver.pos o2
        clear k0 k1 k2 k3 k4 st_o2
        generalize hQ : (u2 * 4294967296 + d0) / v = Q at a0 z0 z1
        have HQ := Lib.hid hQ
        clear hQ
        by_cases g1 : 4294967296 ≤ a
        · have a2 := DigOver.one o2 hr (.inl g1)
          by_cases g3 : 4294967296 ≤ b + v1
          · have HE := Lib.hid (DigOver.brk o2 hr (.inl g1) g3)
            go_wp2_with fail
            go_meet
            exact ⟨_, by rw [HE.out], rfl, rfl⟩
          · have HN := DigOver.next o2 hr (.inl g1) g3
            go_wp2_with fail
            go_round
            case rel => exact ⟨_, _, HN, rfl, rfl⟩
            case measure => simp [intOf]; omega
        · by_cases g2 : 4294967296 * b + d0 < a * v0
          · have a2 := DigOver.one o2 hr (.inr g2)
            by_cases g3 : 4294967296 ≤ b + v1
            · have HE := Lib.hid (DigOver.brk o2 hr (.inr g2) g3)
              go_wp2_with fail
              go_meet
              exact ⟨_, by rw [HE.out], rfl, rfl⟩
            · have HN := DigOver.next o2 hr (.inr g2) g3
              go_wp2_with fail
              go_round
              case rel => exact ⟨_, _, HN, rfl, rfl⟩
              case measure => simp [intOf]; omega
          · have HE := Lib.hid (DigOver.done o2 hr g2)
            go_wp2_with fail
            go_meet
            exact ⟨_, by rw [HE.out], rfl, rfl⟩
    case rest =>
      obtain ⟨z, rfl, rfl, rfl⟩ := hcut
      clear st_o2 k0 k1 k2 k3 k4
      have WR2 := DigOver.wraps o2 n2
      obtain ⟨f0, f1⟩ := DigOver.left o2
      obtain ⟨y0, y1⟩ := DigOver.pos o2
      generalize (u2 * 4294967296 + d0) % v = r2 at *
      generalize (u2 * 4294967296 + d0) / v = Q2 at *
      go_wp2_with fail
      have e : u * 18446744073709551616 + d1 * 4294967296 + d0 = u * 18446744073709551616 + l := by have := S2.out; omega
      obtain ⟨t1, t2⟩ := T.out
      obtain ⟨r1, r3⟩ := RES.out
      rw [e] at t1 t2
      rw [← t1] at r1
      rw [← t2] at r3
      refine bodyPost_ret (v := .tuple #[.int .u64 (Q1 * 4294967296 + Q2), .int .u64 (r2 / 2 ^ s)]) (by simp [results, Tryd.results100, go_sem]) rfl ⟨by rw [r1, r3], ?_⟩
      exact Below.refl _ _

/-- math/bits.Div64, wherever it doesn't panic. -/
theorem div64_any (hi lo y : Int) (wh : Word hi) (wl : Word lo) (wy : Word y) (hy : hi < y) (w : World) :
    Calls Tryd.prog 100 #[.int .u64 hi, .int .u64 lo, .int .u64 y] w fun e w' =>
      e = .returned (.tuple #[.int .u64 (wval hi lo / y), .int .u64 (wval hi lo % y)]) ∧ Below w.heap.size w w' := by
  by_cases h : hi = 0
  · subst h
    have e : wval 0 lo = lo := by unfold wval; omega
    rw [e]
    exact div64_zero lo y wl wy hy w
  · exact div64_more hi lo y wh wl wy (by have := wh.1; omega) hy w
end Go.Proofs.YtojincgbnjkegaaDoor

/-
  Walks: wide.Over, Floor and Ceil.
-/
namespace Go.Proofs.YtojincgbnjkegaaDoor
set_option linter.unusedVariables false
open Go.RowKit Go.Shelf

/-- A number divided, where the quotient has room; noughts, where it hasn't. -/
def ovB (n by' : Int) : Bool := decide (0 < by' ∧ n / by' < 18446744073709551616)
def ovQ (n by' : Int) : Int := if ovB n by' = true then n / by' else 0
def ovR (n by' : Int) : Int := if ovB n by' = true then n % by' else 0
theorem ov_iff {h l y : Int} (wh : Word h) (wl : Word l) (wy : Word y) : ovB (wval h l) y = true ↔ h < y := by
  unfold ovB Word at *
  rw [decide_eq_true_iff]
  constructor
  · rintro ⟨a, b⟩
    rw [Int.ediv_lt_iff_lt_mul a] at b
    unfold wval at b; omega
  · intro a
    refine ⟨by omega, ?_⟩
    rw [Int.ediv_lt_iff_lt_mul (by omega)]
    unfold wval; omega
theorem ov_yes {h l y : Int} (wh : Word h) (wl : Word l) (wy : Word y) (hy : h < y) : ovB (wval h l) y = true ∧ ovQ (wval h l) y = wval h l / y ∧ ovR (wval h l) y = wval h l % y := by
  have e := (ov_iff (l := l) wh wl wy).2 hy
  refine ⟨e, ?_, ?_⟩
  · unfold ovQ; rw [if_pos e]
  · unfold ovR; rw [if_pos e]
theorem ov_no {h l y : Int} (wh : Word h) (wl : Word l) (wy : Word y) (hy : ¬ h < y) : ovB (wval h l) y = false ∧ ovQ (wval h l) y = 0 ∧ ovR (wval h l) y = 0 := by
  have e : ovB (wval h l) y = false := by
    cases hb : ovB (wval h l) y with
    | false => rfl
    | true => exact absurd ((ov_iff wh wl wy).1 hb) hy
  refine ⟨e, ?_, ?_⟩
  · unfold ovQ; rw [e]; rfl
  · unfold ovR; rw [e]; rfl
theorem ov_word {n y : Int} (h0 : 0 ≤ n) (wy : Word y) : Word (ovQ n y) ∧ Word (ovR n y) := by
  unfold ovQ ovR Word at *
  split
  · rename_i h
    unfold ovB at h
    rw [decide_eq_true_iff] at h
    obtain ⟨a, b⟩ := h
    have h1 := Int.ediv_nonneg h0 (show 0 ≤ y by omega)
    have h2 := Int.emod_nonneg n (show y ≠ 0 by omega)
    have h3 := Int.emod_lt_of_pos n a
    omega
  · omega

set_option maxHeartbeats 400000 in
theorem over_any (h l y : Int) (wh : Word h) (wl : Word l) (wy : Word y) (w : World) :
    Calls Tryd.prog 85 #[.agg #[.int .u64 h, .int .u64 l], .int .u64 y] w fun e w' =>
      e = .returned (.tuple #[.int .u64 (ovQ (wval h l) y), .int .u64 (ovR (wval h l) y), .bool (ovB (wval h l) y)]) ∧ Below w.heap.size w w' := by
  by_cases hy : h < y
  · obtain ⟨e1, e2, e3⟩ := ov_yes wh wl wy hy
    have E1 := Lib.hid e1; have E2 := Lib.hid e2; have E3 := Lib.hid e3
    clear e1 e2 e3
    go_enter Tryd.func85, Tryd.ntmps85
    go_wp2_with fail
    refine (div64_any h l y wh wl wy hy _).mono ?_
    rintro e wA ⟨rfl, hbA⟩
    go_wp2_with fail
    refine bodyPost_ret (v := .tuple #[.int .u64 (wval h l / y), .int .u64 (wval h l % y), .bool true]) (by simp [results, Tryd.results85, go_sem]) rfl ⟨by rw [E1.out, E2.out, E3.out], ?_⟩
    exact ((Below.refl _ _).alloc (Nat.le_refl _) _).trans (hbA.mono (by simp))
  · obtain ⟨e1, e2, e3⟩ := ov_no (l := l) wh wl wy hy
    have E1 := Lib.hid e1; have E2 := Lib.hid e2; have E3 := Lib.hid e3
    clear e1 e2 e3
    go_enter Tryd.func85, Tryd.ntmps85
    go_wp2_with fail
    refine bodyPost_ret (v := .tuple #[.int .u64 0, .int .u64 0, .bool false]) (by simp [results, Tryd.results85, go_sem]) rfl ⟨by rw [E1.out, E2.out, E3.out], ?_⟩
    exact (Below.refl _ _).alloc (Nat.le_refl _) _

/-- The same, of a number that two words tell. -/
theorem over_num (n y : Int) (h0 : 0 ≤ n) (h1 : n < 340282366920938463463374607431768211456) (wy : Word y) (w : World) :
    Calls Tryd.prog 85 #[.agg #[.int .u64 (hiW n), .int .u64 (loW n)], .int .u64 y] w fun e w' =>
      e = .returned (.tuple #[.int .u64 (ovQ n y), .int .u64 (ovR n y), .bool (ovB n y)]) ∧ Below w.heap.size w w' := by
  have h := over_any (hiW n) (loW n) y (word_hi n) (word_lo n) wy w
  rw [wval_split h0 h1] at h
  exact h

/-- A product divided, rounded up. -/
def clB (n y : Int) : Bool := ovB n y && !(decide (0 < ovR n y) && ovQ n y == 18446744073709551615)
def clQ (n y : Int) : Int := if clB n y = true then (if 0 < ovR n y then ovQ n y + 1 else ovQ n y) else 0
theorem cl_zero {n y : Int} (h : ovR n y = 0) : clB n y = ovB n y ∧ clQ n y = ovQ n y := by
  have e : clB n y = ovB n y := by unfold clB; rw [h]; simp
  refine ⟨e, ?_⟩
  unfold clQ; rw [e, h]; simp only [Int.lt_irrefl, if_false]
  split
  · rfl
  · rename_i hn; unfold ovQ; rw [if_neg hn]
theorem ovR_pos {n y : Int} (h0 : 0 ≤ n) (wy : Word y) (h : ¬ ovR n y = 0) : 0 < ovR n y ∧ ovB n y = true := by
  have := (ov_word h0 wy).2.1
  refine ⟨by omega, ?_⟩
  cases hb : ovB n y with
  | true => rfl
  | false => exfalso; apply h; unfold ovR; rw [hb]; rfl
theorem cl_more {n y : Int} (h0 : 0 ≤ n) (wy : Word y) (h : ¬ ovR n y = 0) : ((ovQ n y + 1) / 18446744073709551616 == 0) = clB n y ∧ (ovQ n y + 1) % 18446744073709551616 = clQ n y := by
  obtain ⟨hp, hb⟩ := ovR_pos h0 wy h
  obtain ⟨q0, q1⟩ := (ov_word h0 wy).1
  have e : clB n y = ((ovQ n y + 1) / 18446744073709551616 == 0) := by
    unfold clB; rw [hb, decide_eq_true hp, Bool.true_and, Bool.true_and, Bool.eq_iff_iff]
    simp only [Bool.not_eq_true', beq_eq_false_iff_ne, beq_iff_eq, ne_eq]; omega
  refine ⟨e.symm, ?_⟩
  unfold clQ; rw [if_pos hp, e]
  split <;> simp_all <;> omega

set_option maxHeartbeats 400000 in
theorem ceil_any (a b y : Int) (wa : Word a) (wb : Word b) (wy : Word y) (w : World) :
    Calls Tryd.prog 62 #[.int .u64 a, .int .u64 b, .int .u64 y] w fun e w' =>
      e = .returned (.tuple #[.int .u64 (clQ (a * b) y), .bool (clB (a * b) y)]) ∧ Below w.heap.size w w' := by
  obtain ⟨n0, n1⟩ := mul_bd wa wb
  by_cases hr : ovR (a * b) y = 0
  · obtain ⟨e1, e2⟩ := cl_zero hr
    have E1 := Lib.hid e1; have E2 := Lib.hid e2
    have hr0 : (ovR (a * b) y == 0) = true := by simp [hr]
    clear e1 e2 hr
    go_enter Tryd.func62, Tryd.ntmps62
    go_wp2_with fail
    refine (times_any a b wa wb _).mono ?_
    rintro e wA ⟨rfl, hbA⟩
    go_wp2_with fail
    refine (over_num (a * b) y n0 n1 wy _).mono ?_
    rintro e wB ⟨rfl, hbB⟩
    go_wp2_with fail
    refine bodyPost_ret (v := .tuple #[.int .u64 (ovQ (a * b) y), .bool (ovB (a * b) y)]) (by simp [results, Tryd.results62, go_sem]) rfl ⟨by rw [E1.out, E2.out], ?_⟩
    exact hbA.trans (hbB.mono hbA.size)
  · obtain ⟨e1, e2⟩ := cl_more n0 wy hr
    obtain ⟨q0, q1⟩ := (ov_word (n := a * b) n0 wy).1
    have E1 := Lib.hid e1; have E2 := Lib.hid e2
    have hr0 : (ovR (a * b) y == 0) = false := by simp [hr]
    clear e1 e2 hr
    go_enter Tryd.func62, Tryd.ntmps62
    go_wp2_with fail
    refine (times_any a b wa wb _).mono ?_
    rintro e wA ⟨rfl, hbA⟩
    go_wp2_with fail
    refine (over_num (a * b) y n0 n1 wy _).mono ?_
    rintro e wB ⟨rfl, hbB⟩
    go_wp2_with (simp only [add64_0 (ovQ (a * b) y) 1 q0 (by decide)])
    refine bodyPost_ret (v := .tuple #[.int .u64 ((ovQ (a * b) y + 1) % 18446744073709551616), .bool ((ovQ (a * b) y + 1) / 18446744073709551616 == 0)]) (by simp [results, Tryd.results62, go_sem]) rfl ⟨by rw [E1.out, E2.out], ?_⟩
    exact hbA.trans (hbB.mono hbA.size)
end Go.Proofs.YtojincgbnjkegaaDoor

/-
  Walks: the reference's Sub.
-/
namespace Go.Proofs.YtojincgbnjkegaaDoor
set_option linter.unusedVariables false
open Go.RowKit Go.Shelf

set_option maxHeartbeats 400000 in
theorem rsub_any (ah al bh bl : Int) (w1 : Word ah) (w2 : Word al) (w3 : Word bh) (w4 : Word bl) (w : World) :
    Calls Tryd.prog 95 #[.agg #[.int .u64 ah, .int .u64 al], .agg #[.int .u64 bh, .int .u64 bl]] w fun e w' =>
      e = .returned (.tuple #[.agg #[.int .u64 (hiW (wval ah al - wval bh bl)), .int .u64 (loW (wval ah al - wval bh bl))], .bool (belowB (wval ah al - wval bh bl))]) ∧ Below w.heap.size w w' := by
  have n3 := word_comp w3; have n4 := word_comp w4
  have hq := w3.1; have hq' := w3.2; have hr := w4.1; have hr' := w4.2
  go_enter Tryd.func95, Tryd.ntmps95
  go_wp2_with fail
  refine (rwadd_any ah al _ _ w1 w2 n3 n4 _).mono ?_
  rintro e wA ⟨rfl, hbA⟩
  obtain ⟨hcA, hfA⟩ := bcell hbA
  have hzA : w.heap.size + 1 + 1 + 1 + 1 ≤ wA.heap.size := by have := hbA.size; simp at this; omega
  have g0 : w.heap.size < wA.heap.size := by omega
  have g1 : w.heap.size + 1 < wA.heap.size := by omega
  have g2 : w.heap.size + 1 + 1 < wA.heap.size := by omega
  have g0' : w.heap.size ≤ wA.heap.size := by omega
  have g1' : w.heap.size + 1 ≤ wA.heap.size := by omega
  have g2' : w.heap.size + 1 + 1 ≤ wA.heap.size := by omega
  go_wp2_with fail
  refine (rwadd_any _ _ 0 1 (word_hi _) (word_lo _) (by unfold Word; omega) (by unfold Word; omega) _).mono ?_
  rintro e wB ⟨rfl, hbB⟩
  obtain ⟨hcB, hfB⟩ := bcell hbB
  have hzB : wA.heap.size + 1 ≤ wB.heap.size := by have := hbB.size; simp at this; omega
  go_wp2_with fail
  simp only [comp_wval, rsub_hi, rsub_lo]
  generalize hx : hiW (wval ah al - wval bh bl) = x
  generalize hy : loW (wval ah al - wval bh bl) = y
  have HX := Lib.hid hx; have HY := Lib.hid hy
  clear hx hy
  have ne1 : wA.heap.size ≠ w.heap.size := by omega
  have ne2 : wA.heap.size ≠ w.heap.size + 1 := by omega
  have ne3 : wA.heap.size ≠ w.heap.size + 1 + 1 := by omega
  have ne3' : w.heap.size + 1 + 1 ≠ wA.heap.size := by omega
  obtain ⟨W, hW⟩ : ∃ W : World, W = (wB.setCell ⟨wA.heap.size, 0, none⟩ (.int .u64 x)).setCell ⟨wA.heap.size, 1, none⟩ (.int .u64 y) := ⟨_, rfl⟩
  have s1 : W.cell? ⟨wA.heap.size, 0, none⟩ = some (.int .u64 x) := by subst hW; go_simp
  have s2 : W.cell? ⟨wA.heap.size, 1, none⟩ = some (.int .u64 y) := by subst hW; go_simp
  have s3 : W.cell? ⟨w.heap.size, 0, none⟩ = some (.int .u64 ah) := by subst hW; go_simp
  have s4 : W.cell? ⟨w.heap.size, 1, none⟩ = some (.int .u64 al) := by subst hW; go_simp
  have s5 : W.cell? ⟨w.heap.size + 1, 0, none⟩ = some (.int .u64 bh) := by subst hW; go_simp
  have s6 : W.cell? ⟨w.heap.size + 1, 1, none⟩ = some (.int .u64 bl) := by subst hW; go_simp
  have s7 : (W.cell? ⟨w.heap.size + 1 + 1, 0, none⟩) = some (.int .u64 0) := by subst hW; go_simp
  have s8 : (W.cell? ⟨w.heap.size + 1 + 1, 1, none⟩) = some (.int .u64 0) := by subst hW; go_simp
  have f7 : (W.frozen? ⟨w.heap.size + 1 + 1, 0, none⟩) = false := by subst hW; go_simp
  have f8 : (W.frozen? ⟨w.heap.size + 1 + 1, 1, none⟩) = false := by subst hW; go_simp
  have hz : wA.heap.size < W.heap.size := by subst hW; simp; omega
  have hBel : Below w.heap.size w W := by
    subst hW
    refine Below.setCell (Below.setCell ?_ (by simp; omega) _) (by simp; omega) _
    refine Below.trans ?_ (hbB.mono (by simp; omega))
    refine Below.alloc ?_ (by omega) _
    refine Below.trans ?_ (hbA.mono (by simp; omega))
    refine Below.alloc ?_ (by simp; omega) _
    refine Below.alloc ?_ (by simp; omega) _
    refine Below.alloc ?_ (by simp) _
    exact Below.alloc (Below.refl _ _) (Nat.le_refl _) _
  rw [← hW]
  clear hW hcA hfA hcB hfB hbA hbB
  go_region_held3 (fun w' => w'.cell? ⟨wA.heap.size, 0, none⟩ = some (.int .u64 x) ∧ w'.cell? ⟨wA.heap.size, 1, none⟩ = some (.int .u64 y) ∧ w'.cell? ⟨w.heap.size, 0, none⟩ = some (.int .u64 ah) ∧ w'.cell? ⟨w.heap.size, 1, none⟩ = some (.int .u64 al) ∧ w'.cell? ⟨w.heap.size + 1, 0, none⟩ = some (.int .u64 bh) ∧ w'.cell? ⟨w.heap.size + 1, 1, none⟩ = some (.int .u64 bl)) (go_simp)
    (first
      | (go_at_call 47; refine (less_any ah al bh bl w1 w2 w3 w4 _).mono ?_; rintro e wC ⟨rfl, hbC⟩; have t1 := cell_later hbC s1; have t2 := cell_later hbC s2; have t3 := cell_later hbC s3; have t4 := cell_later hbC s4; have t5 := cell_later hbC s5; have t6 := cell_later hbC s6; have t7 := cell_later hbC s7; have t8 := cell_later hbC s8; have u7 := (bcell hbC).2 (w.heap.size + 1 + 1) 0 (by simp; omega); have u8 := (bcell hbC).2 (w.heap.size + 1 + 1) 1 (by simp; omega)))
  go_wp2
  refine bodyPost_ret (v := .tuple #[.agg #[.int .u64 x, .int .u64 y], .bool (belowB (wval ah al - wval bh bl))]) (by simp [results, Tryd.results95, go_sem, t7, t8]) rfl ⟨by rw [HX.out, HY.out], ?_⟩
  exact Below.setCell (Below.setCell ((Below.drew hBel).trans (hbC.mono (by simp; omega))) (by simp; omega) _) (by simp; omega) _
end Go.Proofs.YtojincgbnjkegaaDoor

/-
  Walks: the reference's Times.
-/
namespace Go.Proofs.YtojincgbnjkegaaDoor
set_option linter.unusedVariables false
open Go.RowKit Go.Shelf

/-- What the reference's product has come to, behind so many of its two middle parts. -/
def tmsTo (a b : Int) (k : Nat) : Int :=
  if k = 0 then wval (a / 4294967296 * (b / 4294967296)) (a % 4294967296 * (b % 4294967296))
  else if k = 1 then wval (a / 4294967296 * (b / 4294967296)) (a % 4294967296 * (b % 4294967296)) + (a / 4294967296 * (b % 4294967296)) * 4294967296
  else a * b
theorem tms0 (a b : Int) : tmsTo a b 0 = wval (a / 4294967296 * (b / 4294967296)) (a % 4294967296 * (b % 4294967296)) := rfl
theorem tms1 (a b : Int) : tmsTo a b 0 + (a / 4294967296 * (b % 4294967296)) * 4294967296 = tmsTo a b 1 := rfl
theorem tms2 (a b : Int) : tmsTo a b 1 + (a % 4294967296 * (b / 4294967296)) * 4294967296 = tmsTo a b 2 := times_parts a b
theorem tmsE (a b : Int) : tmsTo a b 2 = a * b := rfl

set_option maxHeartbeats 400000 in
theorem rtimes_any (a b : Int) (wa : Word a) (wb : Word b) (w : World) :
    Calls Tryd.prog 48 #[.int .u64 a, .int .u64 b] w fun e w' =>
      e = .returned (.agg #[.int .u64 (hiW (a * b)), .int .u64 (loW (a * b))]) ∧ Below w.heap.size w w' := by
  obtain ⟨a1, a2⟩ := wa
  obtain ⟨b1, b2⟩ := wb
  obtain ⟨p1, p2⟩ := half_mul (x := a / 4294967296) (y := b / 4294967296) (by omega) (by omega) (by omega) (by omega)
  obtain ⟨q1, q2⟩ := half_mul (x := a % 4294967296) (y := b % 4294967296) (by omega) (by omega) (by omega) (by omega)
  obtain ⟨r1, r2⟩ := half_mul (x := a / 4294967296) (y := b % 4294967296) (by omega) (by omega) (by omega) (by omega)
  obtain ⟨s1, s2⟩ := half_mul (x := a % 4294967296) (y := b / 4294967296) (by omega) (by omega) (by omega) (by omega)
  have E0 := Lib.hid (tms0 a b); have E1 := Lib.hid (tms1 a b); have E2 := Lib.hid (tms2 a b)
  go_enter Tryd.func48, Tryd.ntmps48
  go_wp2_with fail
  generalize a / 4294967296 * (b % 4294967296) = m0 at *
  generalize a % 4294967296 * (b / 4294967296) = m1 at *
  generalize a / 4294967296 * (b / 4294967296) = x0 at *
  generalize a % 4294967296 * (b % 4294967296) = y0 at *
  have X0 : hiW (tmsTo a b 0) = x0 := by rw [E0.out]; exact hi_wval ⟨by omega, by omega⟩ ⟨by omega, by omega⟩
  have Y0 : loW (tmsTo a b 0) = y0 := by rw [E0.out]; exact lo_wval ⟨by omega, by omega⟩
  have HX0 := Lib.hid X0; have HY0 := Lib.hid Y0
  clear X0 Y0 E0
  go_loopw [35] (fun i wr => ∃ k : Nat, k ≤ 2 ∧ i = .int .i64 k ∧
      wr.cell? ⟨w.heap.size + 1, 0, none⟩ = some (.int .u64 (hiW (tmsTo a b k))) ∧ wr.cell? ⟨w.heap.size + 1, 1, none⟩ = some (.int .u64 (loW (tmsTo a b k))) ∧
      wr.cell? ⟨w.heap.size, 0, none⟩ = some (.int .u64 0) ∧ wr.cell? ⟨w.heap.size, 1, none⟩ = some (.int .u64 0) ∧
      wr.cell? ⟨w.heap.size + 1 + 1, 0, none⟩ = some (.int .u64 m0) ∧ wr.cell? ⟨w.heap.size + 1 + 1, 1, none⟩ = some (.int .u64 m1) ∧
      wr.frozen? ⟨w.heap.size + 1, 0, none⟩ = false ∧ wr.frozen? ⟨w.heap.size + 1, 1, none⟩ = false ∧ wr.frozen? ⟨w.heap.size, 0, none⟩ = false ∧ wr.frozen? ⟨w.heap.size, 1, none⟩ = false ∧
      w.heap.size + 1 + 1 < wr.heap.size ∧ Below w.heap.size w wr) (fun i _ => 2 - (intOf i).toNat)
  case atStart => exact ⟨0, Nat.zero_le _, rfl, by go_simp; rw [HX0.out], by go_simp; rw [HY0.out], by go_simp, by go_simp, by go_simp, by go_simp, by go_simp, by go_simp, by go_simp, by go_simp, by simp, (((Below.refl _ _).alloc (Nat.le_refl _) _).alloc (by simp) _).alloc (by simp; omega) _⟩
  case round =>
    obtain ⟨k, hk, rfl, c1, c2, c3, c4, c5, c6, f1, f2, f3, f4, hz, hb⟩ := hrel
    have hz0 : w.heap.size < wr.heap.size := by omega
    have hz1 : w.heap.size + 1 < wr.heap.size := by omega
    have k3 : k = 0 ∨ k = 1 ∨ k = 2 := by omega
    rcases k3 with rfl | rfl | rfl
    · clear E2
      go_wp2_with fail
      refine (rwadd_any (hiW (tmsTo a b 0)) (loW (tmsTo a b 0)) _ _ (word_hi _) (word_lo _) ⟨by omega, by omega⟩ ⟨by omega, by omega⟩ _).mono ?_
      rintro e wA ⟨rfl, hbA⟩
      have d1 := cell_later hbA c1; have d2 := cell_later hbA c2; have d3 := cell_later hbA c3; have d4 := cell_later hbA c4; have d5 := cell_later hbA c5; have d6 := cell_later hbA c6
      have g1 := ((bcell hbA).2 (w.heap.size + 1) 0 (by omega)).trans f1; have g2 := ((bcell hbA).2 (w.heap.size + 1) 1 (by omega)).trans f2; have g3 := ((bcell hbA).2 w.heap.size 0 (by omega)).trans f3; have g4 := ((bcell hbA).2 w.heap.size 1 (by omega)).trans f4
      have hbS := hbA.size
      clear c1 c2 c3 c4 c5 c6 f1 f2 f3 f4
      go_wp2_with fail
      go_roundw
      case rel =>
        refine ⟨1, by omega, rfl, by go_simp; rw [shift_wval, hi_add, E1.out], by go_simp; rw [shift_wval, lo_add, E1.out], by go_simp, by go_simp, by go_simp, by go_simp, by go_simp, by go_simp, by go_simp, by go_simp, by simp; omega, ?_⟩
        exact (((hb.trans (hbA.mono (by omega))).setCell (p := ⟨w.heap.size + 1, 0, none⟩) (Nat.le_succ _) _).setCell (p := ⟨w.heap.size + 1, 1, none⟩) (Nat.le_succ _) _)
      case measure => simp [intOf]
    · clear E1
      go_wp2_with fail
      refine (rwadd_any (hiW (tmsTo a b 1)) (loW (tmsTo a b 1)) _ _ (word_hi _) (word_lo _) ⟨by omega, by omega⟩ ⟨by omega, by omega⟩ _).mono ?_
      rintro e wA ⟨rfl, hbA⟩
      have d1 := cell_later hbA c1; have d2 := cell_later hbA c2; have d3 := cell_later hbA c3; have d4 := cell_later hbA c4; have d5 := cell_later hbA c5; have d6 := cell_later hbA c6
      have g1 := ((bcell hbA).2 (w.heap.size + 1) 0 (by omega)).trans f1; have g2 := ((bcell hbA).2 (w.heap.size + 1) 1 (by omega)).trans f2; have g3 := ((bcell hbA).2 w.heap.size 0 (by omega)).trans f3; have g4 := ((bcell hbA).2 w.heap.size 1 (by omega)).trans f4
      have hbS := hbA.size
      clear c1 c2 c3 c4 c5 c6 f1 f2 f3 f4
      go_wp2_with fail
      go_roundw
      case rel =>
        refine ⟨2, by omega, rfl, by go_simp; rw [shift_wval, hi_add, E2.out], by go_simp; rw [shift_wval, lo_add, E2.out], by go_simp, by go_simp, by go_simp, by go_simp, by go_simp, by go_simp, by go_simp, by go_simp, by simp; omega, ?_⟩
        exact (((hb.trans (hbA.mono (by omega))).setCell (p := ⟨w.heap.size + 1, 0, none⟩) (Nat.le_succ _) _).setCell (p := ⟨w.heap.size + 1, 1, none⟩) (Nat.le_succ _) _)
      case measure => simp [intOf]
    · go_wp2_with fail
      refine bodyPost_ret (v := .agg #[.int .u64 (hiW (tmsTo a b 2)), .int .u64 (loW (tmsTo a b 2))]) (by simp [results, Tryd.results48, go_sem, c3, c4]) rfl ⟨by rw [tmsE], ?_⟩
      exact (hb.setCell (p := ⟨w.heap.size, 0, none⟩) (Nat.le_refl _) _).setCell (p := ⟨w.heap.size, 1, none⟩) (Nat.le_refl _) _
end Go.Proofs.YtojincgbnjkegaaDoor
