/-
  Rows of things that are written: in memory, as an argument; walks: whether they are more than is played.
-/
import Derived.Test.YtllnbbfeplgjjaaQuillD
import Derived.Deep.Slices
import Derived.Deep.Fields
import Derived.SizedLaws
import Derived.Carry
namespace Go.Proofs.Ytllnbbfeplgjjaa
set_option linter.unusedVariables false
set_option linter.unusedSimpArgs false
open Go.RowKit

/-- A thing that is written. -/
structure ItemV where
  kind : Int
  u : Int
  x : Int
  s : ByteArray
structure ItemV.ok (it : ItemV) : Prop where
  kind : I64 it.kind
  u : Word it.u
  x : I64 it.x
  s : it.s.size ≤ 140737488351232
/-- A row of them in memory. -/
structure Items (w : World) (A : Option Addr) (L : List ItemV) : Prop where
  ok : ∀ it, it ∈ L → it.ok
  at_ : ∀ (i : Nat) (it : ItemV), L[i]? = some it → ∃ b off, A = some ⟨b, off, none⟩ ∧ b < w.heap.size ∧ w.cell? ⟨b, off + i * 4, none⟩ = some (.int .i64 it.kind) ∧
    w.cell? ⟨b, off + i * 4 + 1, none⟩ = some (.int .u64 it.u) ∧ w.cell? ⟨b, off + i * 4 + 2, none⟩ = some (.int .i64 it.x) ∧ w.cell? ⟨b, off + i * 4 + 3, none⟩ = some (.string it.s)
theorem Items.call {w w' : World} {A : Option Addr} {L : List ItemV} (h : Items w A L) (hb : Below w.heap.size w w') : Items w' A L :=
  ⟨h.ok, fun i it hi => by
    obtain ⟨b, off, hA, hlt, c0, c1, c2, c3⟩ := h.at_ i it hi
    exact ⟨b, off, hA, Nat.lt_of_lt_of_le hlt hb.size, cell_later hb c0, cell_later hb c1, cell_later hb c2, cell_later hb c3⟩⟩
/-- How many bytes their texts have; whether that is too many. -/
def tot (L : List ItemV) : Nat := (L.map fun it => it.s.size).sum
def greatB (L : List ItemV) : Bool := decide (4096 < tot L) || decide (60 < L.length)
theorem tot_snoc {L : List ItemV} {k : Nat} {it : ItemV} (h : L[k]? = some it) : tot (L.take (k + 1)) = tot (L.take k) + it.s.size := by
  have hk : k < L.length := by
    rcases Nat.lt_or_ge k L.length with h' | h'
    · exact h'
    · rw [List.getElem?_eq_none h'] at h; cases h
  rw [List.take_succ_eq_append_getElem hk]
  rw [List.getElem?_eq_getElem hk] at h
  rw [Option.some.inj h]
  unfold tot
  rw [List.map_append, List.sum_append]; simp
theorem tot_le (L : List ItemV) (k : Nat) : tot (L.take k) ≤ tot L := by
  have : tot L = tot (L.take k) + tot (L.drop k) := by
    unfold tot
    rw [← List.sum_append, ← List.map_append, List.take_append_drop]
  omega

/-- The bytes of things. -/
def itemB (it : ItemV) : List UInt8 := if it.kind = 0 then natB it.u.toNat else if it.kind = 1 then natB (zig it.x).toNat else if it.kind = 2 then it.s.data.toList else []
def itemsB (L : List ItemV) : List UInt8 := L.flatMap itemB
theorem itemsB_snoc {L : List ItemV} {k : Nat} {it : ItemV} (h : L[k]? = some it) : itemsB (L.take (k + 1)) = itemsB (L.take k) ++ itemB it := by
  have hk : k < L.length := by
    rcases Nat.lt_or_ge k L.length with h' | h'
    · exact h'
    · rw [List.getElem?_eq_none h'] at h; cases h
  rw [List.take_succ_eq_append_getElem hk]
  rw [List.getElem?_eq_getElem hk] at h
  rw [Option.some.inj h]
  unfold itemsB
  rw [List.flatMap_append]; simp
theorem itemB_len {it : ItemV} (h : it.ok) : (itemB it).length ≤ 10 + it.s.size := by
  have h1 := natB_len10 (n := it.u.toNat) (by have := h.u; unfold Word at this; omega)
  have h2 := natB_len10 (n := (zig it.x).toNat) (by have := zig_word h.x; unfold Word at this; omega)
  unfold itemB
  rw [Lib.size_eq]
  split
  · omega
  · split
    · omega
    · split
      · omega
      · simp
theorem itemsB_len {L : List ItemV} (h : ∀ it, it ∈ L → it.ok) : (itemsB L).length ≤ 10 * L.length + tot L := by
  induction L with
  | nil => simp [itemsB]
  | cons it r ih =>
    have h1 := itemB_len (h it (List.mem_cons_self))
    have h2 := ih fun x hx => h x (List.mem_cons_of_mem _ hx)
    unfold itemsB tot at *
    rw [List.flatMap_cons, List.length_append, List.map_cons, List.sum_cons, List.length_cons]; omega
theorem Quil.call {w w' : World} {B : Nat} {l : List UInt8} (h : Quil w B l) (hb : Below w.heap.size w w') : Quil w' B l := by
  obtain ⟨v, h1, h2⟩ := h
  refine ⟨v, (hb.block B (lt_of_block h1)).trans h1, h2.kept (row := none) ⟨hb.os, hb.tape, hb.output, hb.size, fun k hk _ => hb.block k hk⟩ (by cases hv : v.ownBlock <;> simp)⟩
theorem app_list (a b : ByteArray) : (a ++ b).data.toList = a.data.toList ++ b.data.toList := by rw [ByteArray.data_append]; simp
theorem box_cells {w : World} {g : Nat} {x0 x1 x2 x3 : Value} {t : TypeId} (h : w.heap[g]? = some (.cells #[x0, x1, x2, x3] t (0, 0))) :
    w.cell? ⟨g, 0, none⟩ = some x0 ∧ w.cell? ⟨g, 1, none⟩ = some x1 ∧ w.cell? ⟨g, 2, none⟩ = some x2 ∧ w.cell? ⟨g, 3, none⟩ = some x3 := by
  simp [World.cell?, h]
theorem rnat_str (n : Int) (hn : Word n) (r : ByteArray) (hr : r.data.toList = natB n.toNat) (w : World) :
    Calls Try.prog 31 #[.int .u64 n] w fun e w' => e = .returned (.string r) ∧ Below w.heap.size w w' :=
  (rnat_any n hn w).mono fun e w' hh => ⟨by rw [hh.1, str_eq hr], hh.2⟩
theorem rint_str (x : Int) (hx : I64 x) (r : ByteArray) (hr : r.data.toList = natB (zig x).toNat) (w : World) :
    Calls Try.prog 32 #[.int .i64 x] w fun e w' => e = .returned (.string r) ∧ Below w.heap.size w w' :=
  (rint_any x hx w).mono fun e w' hh => ⟨by rw [hh.1, str_eq hr], hh.2⟩
theorem quil_int1 (w : World) (B L cap : Nat) (l : List UInt8) (x : Int) (hx : I64 x) (hl : l.length ≤ 50000) (h : Quil w B l)
    (hL : w.heap[L]? = some (.cells #[.int .i64 x] 2 (0, 0))) :
    Calls Try.prog 36 #[.pointer (some ⟨B, 0, none⟩), .slice (some ⟨L, 0, none⟩) 1 cap] w fun e w' =>
      e = .returned (.tuple #[]) ∧ Quil w' B (l ++ natB (zig x).toNat) ∧ Wrote B w w' := by
  have C := quil_int w B L cap l [x] (fun y hy => by simp at hy; subst hy; exact hx) (by simp) hl h hL
  have e : natsB ([x].map zig) = natB (zig x).toNat := by rw [List.map_cons, List.map_nil, natsB_one]
  rw [e] at C
  exact C

theorem two_blocks (w : World) (o o' : Obj) : ((w.alloc o).alloc o').heap[w.heap.size]? = some o ∧ ((w.alloc o).alloc o').heap[w.heap.size + 1]? = some o' := by
  constructor
  · rw [heap_alloc_old _ _ (by simp)]; exact heap_alloc_new _ _
  · have := heap_alloc_new (w.alloc o) o'
    simpa using this

end Go.Proofs.Ytllnbbfeplgjjaa