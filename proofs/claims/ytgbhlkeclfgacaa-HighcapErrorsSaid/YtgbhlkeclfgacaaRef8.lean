/-
  Walks: layer 8's reference: a strip's Add, First, Last.
-/
import Derived.Test.YtgbhlkeclfgacaaStripC
import Derived.Test.YtgbhlkeclfgacaaPairW
import Derived.Test.YtgbhlkeclfgacaaRunsK
namespace Go.Proofs.Ytgbhlkeclfgacaa
set_option linter.unusedVariables false
set_option linter.unusedSimpArgs false
open Go.RowKit

theorem Two.block {w w' : World} {B : Nat} {x y : Value} (h : Two w B x y) (hb : w'.heap[B]? = w.heap[B]?) : Two w' B x y :=
  ⟨(World.cell?_of_block (a := ⟨B, 0, none⟩) hb).trans h.c0, (World.cell?_of_block (a := ⟨B, 1, none⟩) hb).trans h.c1, (World.frozen?_of_block (a := ⟨B, 0, none⟩) hb).trans h.f0, (World.frozen?_of_block (a := ⟨B, 1, none⟩) hb).trans h.f1⟩
theorem Two.put1 {w : World} {B : Nat} {x y : Value} (h : Two w B x y) (y' : Value) : Two (w.setCell ⟨B, 1, none⟩ y') B x y' := by
  refine ⟨?_, World.cell?_setCell_same _ _ _ h.c1, ?_, ?_⟩
  · rw [World.cell?_setCell_other _ _ _ _ (two_off (by omega))]; exact h.c0
  · rw [World.frozen?_setCell]; exact h.f0
  · rw [World.frozen?_setCell]; exact h.f1
/-- The reference's strip at block M, its row v. -/
def RefS (w : World) (M : Nat) (m : Int) (v : Value) (L : List PairV) : Prop := Two w M (.int .i64 m) v ∧ OwnP w (M + 1) v L
theorem RefS.lt {w : World} {M : Nat} {m : Int} {v : Value} {L : List PairV} (h : RefS w M m v L) : M < w.heap.size := h.1.lt
theorem RefS.call {w w' : World} {M : Nat} {m : Int} {v : Value} {L : List PairV} (h : RefS w M m v L) (hb : Below w.heap.size w w') : RefS w' M m v L := ⟨h.1.call hb, h.2.call hb⟩
theorem RefS.past {w w' : World} {M : Nat} {m : Int} {v : Value} {L : List PairV} {S : Nat → Prop} (h : RefS w M m v L) (hk : Keeps S w w') (h1 : ¬ S M) (h2 : ∀ g, v.ownBlock = some g → ¬ S g) : RefS w' M m v L :=
  ⟨h.1.block (hk.block M h.lt h1), hk.own h.2 h2⟩
theorem RefS.mk_new (w : World) (m : Int) (t : TypeId) : RefS (w.alloc (.cells #[.int .i64 m, .slice none 0 0] t)) w.heap.size m (.slice none 0 0) [] := ⟨Two.new _ _ _ _, OwnP.nil _ _⟩
theorem two_new9 (w : World) (x y : Value) (t : TypeId) : (w.alloc (.cells #[x, y] t)).cell? ⟨w.heap.size, 0, none⟩ = some x ∧ (w.alloc (.cells #[x, y] t)).cell? ⟨w.heap.size, 1, none⟩ = some y := ⟨(Two.new w x y t).c0, (Two.new w x y t).c1⟩
theorem RefS.row {w : World} {M : Nat} {m : Int} {v : Value} {A : List PairV} (h : RefS w M m v A) (ho : ∀ p, p ∈ A → okP p) : ∃ g cap, v = .slice g A.length cap ∧ Pairs w g A ∧ w.cell? ⟨M, 0, none⟩ = some (.int .i64 m) ∧ w.cell? ⟨M, 1, none⟩ = some (.slice g A.length cap) := by
  obtain ⟨g, cap, rfl, hp⟩ := h.2.pairs ho
  exact ⟨g, cap, rfl, hp, h.1.c0, h.1.c1⟩
theorem own_mono8 {w : World} {base base' : Nat} {v : Value} {L : List PairV} (h : OwnP w base v L) (hb : base' ≤ base) : OwnP w base' v L := World.ownsRow.mono h hb
theorem own_set8 {w : World} {base : Nat} {v : Value} {L : List PairV} (h : OwnP w base v L) {M o : Nat} (hM : M < base) (u : Value) : OwnP (w.setCell ⟨M, o, none⟩ u) base v L :=
  OwnP.other h (grown_setCell w M o u) (by
    cases hb : v.ownBlock with
    | none => exact Or.inl rfl
    | some g => exact Or.inr fun e => by have h1 := (h.lt g hb).1; have h2 := Option.some.inj e; omega)
theorem grown_of_below8 {w w' : World} {r : Option Nat} (h : Below w.heap.size w w') : w.grownBy w' r := ⟨h.os, h.tape, h.output, h.size, fun k hk _ => h.block k hk⟩
/-- What has become of the reference's strip. -/
def Done8 (w : World) (M : Nat) (m : Int) (v : Value) (L' : List PairV) (w' : World) : Prop :=
  (∃ v', RefS w' M m v' L' ∧ (v' = v ∨ ∀ g, v'.ownBlock = some g → w.heap.size ≤ g)) ∧ w.grownBy w' (some M)
theorem Done8.same {w w' : World} {M : Nat} {m : Int} {v : Value} {L : List PairV} (h : RefS w M m v L) (hb : Below w.heap.size w w') : Done8 w M m v L w' := ⟨⟨v, h.call hb, Or.inl rfl⟩, grown_of_below8 hb⟩
theorem Done8.put {w w1 : World} {M : Nat} {m : Int} {v v' : Value} {L' : List PairV} {L : List PairV} (h : RefS w M m v L) (hb : Below w.heap.size w w1) (ho : OwnP w1 w.heap.size v' L') : Done8 w M m v L' (w1.setCell ⟨M, 1, none⟩ v') :=
  ⟨⟨v', ⟨(h.1.call hb).put1 v', own_set8 (own_mono8 ho (by have := h.lt; omega)) (by omega) _⟩, Or.inr fun g hg => (ho.lt g hg).1⟩, grown_trans (grown_of_below8 hb) (grown_setCell _ _ _ _)⟩
theorem grown_own8 {a b c : World} {r r' : Option Nat} (h : a.grownBy b r) (k : b.grownBy c r') (hr : ∀ g, r' = some g → a.heap.size ≤ g) : a.grownBy c r :=
  ⟨k.os.trans h.os, k.tape.trans h.tape, k.output.trans h.output, Nat.le_trans h.size k.size, fun i hi hne => (k.block i (Nat.lt_of_lt_of_le hi h.size) (fun e => by have := hr i e.symm; omega)).trans (h.block i hi hne)⟩
theorem Done8.put2 {w w1 : World} {M : Nat} {m : Int} {v v' : Value} {L' : List PairV} {L : List PairV} (h : RefS w M m v L) (hb : Below w.heap.size w w1) (ho : OwnP w1 (w.heap.size + 1) v' L') (x y : Value) :
    Done8 w M m v L' (((w1.setCell ⟨M, 1, none⟩ v').setCell ⟨w.heap.size, 0, none⟩ x).setCell ⟨w.heap.size, 1, none⟩ y) := by
  have hM := h.lt
  refine ⟨⟨v', ⟨((h.1.call hb).put1 v').past (by omega) x y, own_mono8 (own_set8 (own_set8 (own_set8 ho (by omega) _) (by omega) _) (by omega) _) (by omega)⟩, Or.inr fun g hg => by have := (ho.lt g hg).1; omega⟩, ?_⟩
  exact grown_own8 (grown_own8 (grown_trans (grown_of_below8 hb) (grown_setCell _ _ _ _)) (grown_setCell _ w.heap.size 0 _) (fun g e => by have := Option.some.inj e; omega)) (grown_setCell _ w.heap.size 1 _) (fun g e => by have := Option.some.inj e; omega)

theorem Pairs.shift {w : World} {b off : Nat} {L : List PairV} (h : Pairs w (some ⟨b, off, none⟩) L) (k : Nat) : Pairs w (some ⟨b, off + k * 2, none⟩) (L.drop k) :=
  ⟨fun p hp => h.ok p (List.mem_of_mem_drop hp), fun i p hi => by
    rw [List.getElem?_drop] at hi
    obtain ⟨b', off', e, hlt, c0, c1⟩ := h.at_ (k + i) p hi
    have := Addr.mk.inj (Option.some.inj e)
    obtain ⟨rfl, rfl, _⟩ := this
    refine ⟨b, off + k * 2, rfl, hlt, ?_, ?_⟩
    · rw [show off + k * 2 + i * 2 = off + (k + i) * 2 by omega]; exact c0
    · rw [show off + k * 2 + i * 2 + 1 = off + (k + i) * 2 + 1 by omega]; exact c1⟩

end Go.Proofs.Ytgbhlkeclfgacaa