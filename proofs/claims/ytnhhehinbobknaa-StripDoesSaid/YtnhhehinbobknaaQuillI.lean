/-
  Rows of things that are written: in memory, as an argument; walks: whether they are more than is played.
-/
import Derived.Test.YtnhhehinbobknaaQuillU
import Derived.Deep.Slices
import Derived.Deep.Fields
import Derived.SizedLaws
import Derived.Carry
namespace Go.Proofs.Ytnhhehinbobknaa
set_option linter.unusedVariables false
set_option linter.unusedSimpArgs false
open Go.RowKit

/-- A thing that is written. -/
structure ItemV where
  kind : Int
  u : Int
  x : Int
  s : ByteArray
structure ItemV.ok (it : ItemV) : Prop where
  kind : I64 it.kind
  u : Word it.u
  x : I64 it.x
  s : it.s.size ≤ 140737488351232
/-- A row of them in memory. -/
structure Items (w : World) (A : Option Addr) (L : List ItemV) : Prop where
  ok : ∀ it, it ∈ L → it.ok
  at_ : ∀ (i : Nat) (it : ItemV), L[i]? = some it → ∃ b off, A = some ⟨b, off, none⟩ ∧ b < w.heap.size ∧ w.cell? ⟨b, off + i * 4, none⟩ = some (.int .i64 it.kind) ∧
    w.cell? ⟨b, off + i * 4 + 1, none⟩ = some (.int .u64 it.u) ∧ w.cell? ⟨b, off + i * 4 + 2, none⟩ = some (.int .i64 it.x) ∧ w.cell? ⟨b, off + i * 4 + 3, none⟩ = some (.string it.s)
theorem Items.call {w w' : World} {A : Option Addr} {L : List ItemV} (h : Items w A L) (hb : Below w.heap.size w w') : Items w' A L :=
  ⟨h.ok, fun i it hi => by
    obtain ⟨b, off, hA, hlt, c0, c1, c2, c3⟩ := h.at_ i it hi
    exact ⟨b, off, hA, Nat.lt_of_lt_of_le hlt hb.size, cell_later hb c0, cell_later hb c1, cell_later hb c2, cell_later hb c3⟩⟩
/-- How many bytes their texts have; whether that is too many. -/
def tot (L : List ItemV) : Nat := (L.map fun it => it.s.size).sum
def greatB (L : List ItemV) : Bool := decide (4096 < tot L) || decide (60 < L.length)
theorem tot_snoc {L : List ItemV} {k : Nat} {it : ItemV} (h : L[k]? = some it) : tot (L.take (k + 1)) = tot (L.take k) + it.s.size := by
  have hk : k < L.length := by
    rcases Nat.lt_or_ge k L.length with h' | h'
    · exact h'
    · rw [List.getElem?_eq_none h'] at h; cases h
  rw [List.take_succ_eq_append_getElem hk]
  rw [List.getElem?_eq_getElem hk] at h
  rw [Option.some.inj h]
  unfold tot
  rw [List.map_append, List.sum_append]; simp
theorem tot_le (L : List ItemV) (k : Nat) : tot (L.take k) ≤ tot L := by
  have : tot L = tot (L.take k) + tot (L.drop k) := by
    unfold tot
    rw [← List.sum_append, ← List.map_append, List.take_append_drop]
  omega

theorem two_blocks (w : World) (o o' : Obj) : ((w.alloc o).alloc o').heap[w.heap.size]? = some o ∧ ((w.alloc o).alloc o').heap[w.heap.size + 1]? = some o' := by
  constructor
  · rw [heap_alloc_old _ _ (by simp)]; exact heap_alloc_new _ _
  · have := heap_alloc_new (w.alloc o) o'
    simpa using this

end Go.Proofs.Ytnhhehinbobknaa