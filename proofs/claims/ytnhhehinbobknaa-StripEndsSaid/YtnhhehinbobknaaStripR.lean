/-
  How package strip's row lies in memory (anywhere in its block); walk: runs.Add of such a row.
-/
import Derived.Test.YtnhhehinbobknaaRunsI
import Derived.Test.YtnhhehinbobknaaRef8
namespace Go.Proofs.Ytnhhehinbobknaa
set_option linter.unusedVariables false
set_option linter.unusedSimpArgs false
open Go.RowKit

theorem set_cells8 {w : World} {b : Nat} {cs : Array Value} {t : TypeId} (h : w.heap[b]? = some (.cells cs t (0, 0))) (o : Nat) (u : Value) : (w.setCell ⟨b, o, none⟩ u).heap[b]? = some (.cells (cs.setIfInBounds o u) t (0, 0)) := by
  have hlt := lt_of_block h
  have h' : w.heap[b] = .cells cs t (0, 0) := by simpa [Array.getElem?_eq_getElem hlt] using h
  show (w.heap.modify b _)[b]? = _
  rw [Array.getElem?_eq_getElem (by simpa using hlt), Array.getElem_modify_self, h']
  rfl
theorem free8 {w : World} {b : Nat} {cs : Array Value} {t : TypeId} (h : w.heap[b]? = some (.cells cs t (0, 0))) (o : Nat) : w.frozen? ⟨b, o, none⟩ = false := by simp [World.frozen?, h]

/-- A row of pairs that may be written; its first pair may lie anywhere in its block. -/
structure Slab (w : World) (A : Option Addr) (cap : Nat) (L : List PairV) : Prop where
  pairs : Pairs w A L
  fit : L.length ≤ cap
  blk : (A = none ∧ cap = 0) ∨ ∃ g off cs, A = some ⟨g, off, none⟩ ∧ w.heap[g]? = some (.cells cs 30 (0, 0))
  room : ∀ g off cs, A = some ⟨g, off, none⟩ → w.heap[g]? = some (.cells cs 30 (0, 0)) → off + cap * 2 ≤ cs.size
  capm : cap ≤ 9223372036854775807
/-- The block of such a row. -/
def blkA (A : Option Addr) : Option Nat := A.map fun a => a.block
theorem blk_slice (A : Option Addr) (n cap : Nat) : (Value.slice A n cap).ownBlock = blkA A := by cases A <;> rfl
theorem Slab.nil (w : World) : Slab w none 0 [] := ⟨Pairs.nil w, by simp, Or.inl ⟨rfl, rfl⟩, fun g off cs e => (by cases e), by omega⟩
theorem Slab.form {w : World} {A : Option Addr} {cap : Nat} {L : List PairV} (h : Slab w A cap L) : (A = none ∧ L = [] ∧ cap = 0) ∨ ∃ g off, A = some ⟨g, off, none⟩ := by
  rcases h.blk with ⟨rfl, rfl⟩ | ⟨g, off, cs, rfl, _⟩
  · exact Or.inl ⟨rfl, List.eq_nil_of_length_eq_zero (by have := h.fit; omega), rfl⟩
  · exact Or.inr ⟨g, off, rfl⟩
theorem Slab.lt {w : World} {A : Option Addr} {cap : Nat} {L : List PairV} (h : Slab w A cap L) {k : Nat} (hk : blkA A = some k) : k < w.heap.size := by
  rcases h.blk with ⟨rfl, _⟩ | ⟨g, off, cs, rfl, hb⟩
  · cases hk
  · cases hk; exact lt_of_block hb
theorem Slab.keep {w w' : World} {A : Option Addr} {cap : Nat} {L : List PairV} (h : Slab w A cap L) (hk : ∀ k, blkA A = some k → w'.heap[k]? = w.heap[k]?) : Slab w' A cap L := by
  refine ⟨⟨h.pairs.ok, fun i p hi => ?_⟩, h.fit, ?_, fun g off cs e hb => h.room g off cs e (by rw [← hk g (by rw [e]; rfl)]; exact hb), h.capm⟩
  · obtain ⟨b, off, rfl, hlt, c0, c1⟩ := h.pairs.at_ i p hi
    have hb := hk b rfl
    refine ⟨b, off, rfl, ?_, (World.cell?_of_block (a := ⟨b, off + i * 2, none⟩) hb).trans c0, (World.cell?_of_block (a := ⟨b, off + i * 2 + 1, none⟩) hb).trans c1⟩
    exact World.block_lt_of_cell? (a := ⟨b, off + i * 2, none⟩) _ ((World.cell?_of_block (a := ⟨b, off + i * 2, none⟩) hb).trans c0)
  · rcases h.blk with h0 | ⟨g, off, cs, rfl, hb⟩
    · exact Or.inl h0
    · exact Or.inr ⟨g, off, cs, rfl, (hk g rfl).trans hb⟩
theorem Slab.call {w w' : World} {A : Option Addr} {cap : Nat} {L : List PairV} (h : Slab w A cap L) (hb : Below w.heap.size w w') : Slab w' A cap L := h.keep fun k hk => hb.block k (h.lt hk)
theorem Slab.of_own {w : World} {base : Nat} {v : Value} {L : List PairV} (h : OwnP w base v L) (ok : ∀ p, p ∈ L → okP p) : ∃ A cap, v = .slice A L.length cap ∧ Slab w A cap L ∧ ∀ k, blkA A = some k → base ≤ k := by
  obtain ⟨A, cap, rfl, hP⟩ := h.pairs ok
  refine ⟨A, cap, rfl, ?_, fun k hk => (h.lt k (by rw [blk_slice]; exact hk)).1⟩
  rcases h.2 with ⟨e, e0⟩ | ⟨g, cap', cur, e, _, hg, hnc, hcm, hcz, _⟩
  · injection e with e1 e2 e3
    exact ⟨hP, by omega, Or.inl ⟨e1, e3⟩, fun g off cs e => (by rw [e1] at e; cases e), by omega⟩
  · injection e with e1 _ e3
    subst e1
    exact ⟨hP, by omega, Or.inr ⟨g, 0, cur, rfl, hg⟩, (fun g' off' cs' e hg' => by
      obtain ⟨rfl, rfl, _⟩ := Addr.mk.inj (Option.some.inj e)
      rw [hg] at hg'
      obtain ⟨rfl, _⟩ := Obj.cells.inj (Option.some.inj hg')
      omega), by unfold maxLen at hcm; omega⟩
/-- A count is written. -/
theorem Slab.put {w : World} {g off cap n : Nat} {L lo hi : List PairV} {i m m' : Int} (h : Slab w (some ⟨g, off, none⟩) cap L) (hp : lo ++ ((i, m) :: hi) = L) (hn : lo.length = n) (hi' : I64 i) (hm : Word m') :
    Slab (w.setCell ⟨g, off + n * 2 + 1, none⟩ (.int .u64 m')) (some ⟨g, off, none⟩) cap (lo ++ ((i, m') :: hi)) := by
  subst hn hp
  have hsz : (lo ++ ((i, m') :: hi)).length = (lo ++ ((i, m) :: hi)).length := by simp
  refine ⟨⟨fun p hp' => ?_, fun j p hj => ?_⟩, by rw [hsz]; exact h.fit, ?_, ?_, h.capm⟩
  · rcases List.mem_append.1 hp' with h1 | h1
    · exact h.pairs.ok p (List.mem_append_left _ h1)
    · rcases List.mem_cons.1 h1 with rfl | h2
      · exact ⟨hi', hm⟩
      · exact h.pairs.ok p (List.mem_append_right _ (List.mem_cons_of_mem _ h2))
  · obtain ⟨b0, o0, e0, hlt, x0, x1⟩ := h.pairs.at_ lo.length (i, m) (by rw [List.getElem?_append_right (Nat.le_refl _), Nat.sub_self]; rfl)
    obtain ⟨rfl, rfl, _⟩ := Addr.mk.inj (Option.some.inj e0)
    by_cases hjn : j = lo.length
    · subst hjn
      rw [List.getElem?_append_right (Nat.le_refl _), Nat.sub_self] at hj
      obtain rfl := Option.some.inj hj
      refine ⟨g, off, rfl, by simpa [World.setCell] using hlt, ?_, World.cell?_setCell_same _ _ _ x1⟩
      rw [World.cell?_setCell_other _ _ _ _ (two_off (by omega))]; exact x0
    · have hj' : (lo ++ ((i, m) :: hi))[j]? = some p := by
        rcases Nat.lt_or_ge j lo.length with h1 | h1
        · rw [List.getElem?_append_left h1] at hj ⊢; exact hj
        · rw [List.getElem?_append_right h1] at hj ⊢
          obtain ⟨t, ht⟩ : ∃ t, j - lo.length = t + 1 := ⟨j - lo.length - 1, by omega⟩
          rw [ht] at hj ⊢
          exact hj
      obtain ⟨b0, o0, e0, hlt', c0, c1⟩ := h.pairs.at_ j p hj'
      obtain ⟨rfl, rfl, _⟩ := Addr.mk.inj (Option.some.inj e0)
      refine ⟨g, off, rfl, by simpa [World.setCell] using hlt, ?_, ?_⟩
      · rw [World.cell?_setCell_other _ _ _ _ (two_off (by omega))]; exact c0
      · rw [World.cell?_setCell_other _ _ _ _ (two_off (by omega))]; exact c1
  · rcases h.blk with ⟨e, _⟩ | ⟨g', off', cs, e, hb⟩
    · cases e
    · obtain ⟨rfl, rfl, _⟩ := Addr.mk.inj (Option.some.inj e)
      exact Or.inr ⟨g, off, _, rfl, set_cells8 hb _ _⟩
  · intro g2 off2 cs2 e2 hb2
    obtain ⟨rfl, rfl, _⟩ := Addr.mk.inj (Option.some.inj e2)
    rcases h.blk with ⟨e, _⟩ | ⟨g', off', cs, e, hb⟩
    · cases e
    · obtain ⟨rfl, rfl, _⟩ := Addr.mk.inj (Option.some.inj e)
      have hr := h.room _ _ cs rfl hb
      rw [set_cells8 hb] at hb2
      obtain ⟨rfl, _⟩ := Obj.cells.inj (Option.some.inj hb2)
      simpa using hr

/-- What has become of a row. -/
def AddedV (w : World) (A : Option Addr) (L : List PairV) (e : Ending) (w' : World) : Prop :=
  ∃ A' cap', e = .returned (.slice A' L.length cap') ∧ Slab w' A' cap' L ∧ w.grownBy w' (blkA A) ∧ (A' = A ∨ ∀ k, blkA A' = some k → w.heap.size ≤ k)

theorem pairs_from {w : World} {g off : Nat} {lo hi : List PairV} (h : Pairs w (some ⟨g, off, none⟩) (lo ++ hi)) (n : Nat) (hn : lo.length = n) : Pairs w (some ⟨g, off + n * 2, none⟩) hi := by
  have h1 := h.shift n
  rw [List.drop_append_of_le_length (by omega), List.drop_of_length_le (by omega), List.nil_append] at h1
  exact h1

end Go.Proofs.Ytnhhehinbobknaa