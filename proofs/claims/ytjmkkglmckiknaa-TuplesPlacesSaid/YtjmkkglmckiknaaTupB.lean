/-
  Arguments of stage 18 opened: rows of steps, rows of tuples.
-/
import Derived.Test.YtjmkkglmckiknaaTupA
import Derived.Test.YtjmkkglmckiknaaTupO
import Derived.Test.YtjmkkglmckiknaaOpen
namespace Go.Proofs.Ytjmkkglmckiknaa
set_option linter.unusedVariables false
set_option linter.unusedSimpArgs false
set_option maxRecDepth 100000
open Go.ChangeShapes Go.WideShapes Go.ChangeAt Go.RowKit Go.Joins

theorem deep18 (a : Addr) (i j : Nat) : (a.add i).add j = a.add (i + j) := Go.Deep.add_add a i j
def okSt (x : StepV) : Prop := I64 x.x ∧ Word x.lim
/-- A row of steps in memory. -/
structure Stps (w : World) (A : Option Addr) (L : List StepV) : Prop where
  ok : ∀ x, x ∈ L → okSt x
  at_ : ∀ (i : Nat) (x : StepV), L[i]? = some x → ∃ b off, A = some ⟨b, off, none⟩ ∧ b < w.heap.size ∧ w.cell? ⟨b, off + i * 3, none⟩ = some (.int .i64 x.x) ∧ w.cell? ⟨b, off + i * 3 + 1, none⟩ = some (.int .u64 x.lim) ∧ w.cell? ⟨b, off + i * 3 + 2, none⟩ = some (.bool x.sq)
theorem Stps.call {w w' : World} {A : Option Addr} {L : List StepV} (h : Stps w A L) (hb : Below w.heap.size w w') : Stps w' A L :=
  ⟨h.ok, fun i it hi => by
    obtain ⟨b, off, hA, hlt, c0, c1, c2⟩ := h.at_ i it hi
    exact ⟨b, off, hA, Nat.lt_of_lt_of_le hlt hb.size, cell_later hb c0, cell_later hb c1, cell_later hb c2⟩⟩
theorem Stps.grown {w w' : World} {A : Option Addr} {L : List StepV} (h : Stps w A L) {base : Nat} {r : Option Nat} (hb : ∀ b off s, A = some ⟨b, off, s⟩ → b < base) (hr : ∀ g, r = some g → base ≤ g) (hg : w.grownBy w' r) : Stps w' A L :=
  ⟨h.ok, fun i it hi => by
    obtain ⟨b, off, hA, hlt, c0, c1, c2⟩ := h.at_ i it hi
    have e := hg.block b hlt (fun e => by have h1 := hb b off none hA; have h2 := hr b e.symm; omega)
    exact ⟨b, off, hA, Nat.lt_of_lt_of_le hlt hg.size, (World.cell?_of_block (a := ⟨b, off + i * 3, none⟩) e).trans c0, (World.cell?_of_block (a := ⟨b, off + i * 3 + 1, none⟩) e).trans c1, (World.cell?_of_block (a := ⟨b, off + i * 3 + 2, none⟩) e).trans c2⟩⟩
theorem Stps.nil (w : World) : Stps w none [] := ⟨fun p h => (by cases h), fun i p h => by simp at h⟩

theorem cellsStep18 : Try.prog.cellsOf 67 = 3 := by kernel_rfl
theorem bytesStep18 : Try.prog.bytesOf 67 = 24 := by kernel_rfl
/-- Three cells that read as a call. -/
theorem open_step18 {H : Type} {enc : TypeId × Value → H} {W : World} {base n : Nat} {spare : Nat → Bool} {held : Bool} {ad : Addr} {cs : List Value} {d : DataW H} {pl : List MemPlace}
    (hc : W.cells? base ad 3 = some cs) (h : DataW.trod enc Try.prog W base spare held n 67 cs = some (d, pl)) :
    ∃ x : StepV, okSt x ∧ W.cell? (ad.add 0) = some (.int .i64 x.x) ∧ W.cell? (ad.add 1) = some (.int .u64 x.lim) ∧ W.cell? (ad.add 2) = some (.bool x.sq) := by
  obtain ⟨_, hl, hat⟩ := World.cells?_some hc
  obtain ⟨ys, m, _, hx, _, hyl, hf⟩ := DataW.trod_struct Try.underlying67 h
  match cs, hl with
  | [x0, x1, x2], _ =>
    have h0 := hf 0 _ rfl
    have h1 := hf 1 _ rfl
    have h2 := hf 2 _ rfl
    match ys, hyl with
    | [y0, y1, y2], _ =>
      obtain ⟨k, e0, r0, w0⟩ := DataW.trod_int Try.underlying2 h0
      obtain ⟨i, e1, r1, w1⟩ := DataW.trod_int Try.underlying29 h1
      obtain ⟨c, e2, r2⟩ := DataW.trod_bool Try.underlying4 h2
      have g0 : [x0] = [.int .i64 k] := e0
      have g1 : [x1] = [.int .u64 i] := e1
      have g2 : [x2] = [.bool c] := e2
      simp only [List.cons.injEq, and_true] at g0 g1 g2
      subst g0 g1 g2
      exact ⟨⟨k, i, c⟩, ⟨i64_of_wf w0, word_of_wf w1⟩, hat 0 (by omega), hat 1 (by omega), hat 2 (by omega)⟩

theorem open_steps18 {H : Type} {enc : TypeId × Value → H} {W : World} {base : Nat} {v : Value} {d : DataW H} {p : List MemPlace}
    (hv : Value.okWide Try.prog W .any base 22 v) (h : DataW.Trod enc Try.prog W 0 (fun _ => true) true 22 v d p)
    (hz : ∀ n ∈ DataW.weights Try.prog 22 d, n ≤ reachBytes) :
    ∃ A cap L, v = .slice A (List.length L) cap ∧ Stps W A L ∧ L.length ≤ 140737488351232 := by
  obtain ⟨a0, len, cap, rfl⟩ := okWide_slice Try.underlying22 hv
  obtain ⟨fuel, hf⟩ := h
  rcases Go.Deep.open_slice Try.underlying22 hf with ⟨hcs, hx⟩ | ⟨a, len', cap', m, n, D, Pl, hcs, _, hl, hm, hmm, hx, hi⟩
  · simp [Value.cells] at hcs
    obtain ⟨rfl, rfl, rfl⟩ := hcs
    exact ⟨none, 0, [], rfl, Stps.nil W, Nat.zero_le _⟩
  · simp [Value.cells] at hcs
    obtain ⟨rfl, rfl, rfl⟩ := hcs
    simp only [if_true] at hmm
    obtain rfl : cap = m := hmm.symm
    simp only [Prod.mk.injEq] at hx
    obtain ⟨rfl, rfl⟩ := hx
    have hw : DataW.weights Try.prog 22 (.slice ((List.range len).map D) ((List.range (cap - len)).map fun j => D (len + j))) =
        (((List.range len).map D).length + ((List.range (cap - len)).map fun j => D (len + j)).length) * Try.prog.bytesOf 67 ::
        (DataW.weightsAll Try.prog 67 ((List.range len).map D) ++ DataW.weightsAll Try.prog 67 ((List.range (cap - len)).map fun j => D (len + j))) := by
      conv => lhs; unfold DataW.weights
      rw [Try.underlying22]
    have hlen : len ≤ 140737488351232 := by
      have := hz _ (by rw [hw]; exact List.mem_cons_self)
      rw [bytesStep18] at this
      simp only [List.length_map, List.length_range, reachBytes] at this
      omega
    have hall : ∀ i, i < len → ∃ x : StepV, okSt x ∧ W.cell? (a.add (i * 3)) = some (.int .i64 x.x) ∧ W.cell? (a.add (i * 3 + 1)) = some (.int .u64 x.lim) ∧ W.cell? (a.add (i * 3 + 2)) = some (.bool x.sq) := by
      intro i hi'
      obtain ⟨cs', hc, ht⟩ := hi i (by omega)
      rw [cellsStep18] at hc
      obtain ⟨x, i1, c0, c1, c2⟩ := open_step18 hc ht
      rw [deep18] at c0 c1 c2
      exact ⟨x, i1, c0, c1, c2⟩
    obtain ⟨f, hf'⟩ := Go.Deep.choose_lt hall
    refine ⟨some a, cap, (List.range len).map f, by simp, ⟨?_, ?_⟩, by simpa using hlen⟩
    · intro x hx
      obtain ⟨i, hi1, rfl⟩ := List.mem_map.1 hx
      exact (hf' i (List.mem_range.1 hi1)).1
    · intro i x hx
      have hil : i < len := by
        rcases Nat.lt_or_ge i len with h | h
        · exact h
        · rw [List.getElem?_eq_none (by simpa using h)] at hx; cases hx
      simp only [List.getElem?_map, List.getElem?_range hil, Option.map_some, Option.some.injEq] at hx
      subst hx
      obtain ⟨_, c0, c1, c2⟩ := hf' i hil
      obtain ⟨b, off, spot⟩ := a
      have hspot : spot = none := by
        have z0 := (hf' 0 (by omega)).2.1
        simpa [Addr.add] using World.cell?_spot z0
      subst hspot
      have hb : b < W.heap.size := by
        have := World.block_lt_of_cell? W _ c0
        revert this; unfold Addr.add; split <;> simp
      refine ⟨b, off, rfl, hb, ?_, ?_, ?_⟩
      · rw [← flat3]; exact c0
      · rw [Nat.add_assoc, ← flat3]; exact c1
      · rw [Nat.add_assoc, ← flat3]; exact c2

theorem cellsTup18 : Try.prog.cellsOf 52 = 3 := by kernel_rfl
theorem bytesTup18 : Try.prog.bytesOf 52 = 24 := by kernel_rfl
/-- Three cells that read as a call. -/
theorem open_tup18 {H : Type} {enc : TypeId × Value → H} {W : World} {base n : Nat} {spare : Nat → Bool} {held : Bool} {ad : Addr} {cs : List Value} {d : DataW H} {pl : List MemPlace}
    (hc : W.cells? base ad 3 = some cs) (h : DataW.trod enc Try.prog W base spare held n 52 cs = some (d, pl)) :
    ∃ x : TupV, okTu x ∧ W.cell? (ad.add 0) = some (.int .i64 x.x) ∧ W.cell? (ad.add 1) = some (.int .u64 x.st) ∧ W.cell? (ad.add 2) = some (.int .u64 x.sl) := by
  obtain ⟨_, hl, hat⟩ := World.cells?_some hc
  obtain ⟨ys, m, _, hx, _, hyl, hf⟩ := DataW.trod_struct Try.underlying52 h
  match cs, hl with
  | [x0, x1, x2], _ =>
    have h0 := hf 0 _ rfl
    have h1 := hf 1 _ rfl
    have h2 := hf 2 _ rfl
    match ys, hyl with
    | [y0, y1, y2], _ =>
      obtain ⟨k, e0, r0, w0⟩ := DataW.trod_int Try.underlying2 h0
      obtain ⟨i, e1, r1, w1⟩ := DataW.trod_int Try.underlying29 h1
      obtain ⟨c, e2, r2, w2⟩ := DataW.trod_int Try.underlying29 h2
      have g0 : [x0] = [.int .i64 k] := e0
      have g1 : [x1] = [.int .u64 i] := e1
      have g2 : [x2] = [.int .u64 c] := e2
      simp only [List.cons.injEq, and_true] at g0 g1 g2
      subst g0 g1 g2
      exact ⟨⟨k, i, c⟩, ⟨i64_of_wf w0, word_of_wf w1, word_of_wf w2⟩, hat 0 (by omega), hat 1 (by omega), hat 2 (by omega)⟩

theorem open_tups18 {H : Type} {enc : TypeId × Value → H} {W : World} {base : Nat} {v : Value} {d : DataW H} {p : List MemPlace}
    (hv : Value.okWide Try.prog W .any base 24 v) (h : DataW.Trod enc Try.prog W 0 (fun _ => true) true 24 v d p)
    (hz : ∀ n ∈ DataW.weights Try.prog 24 d, n ≤ reachBytes) :
    ∃ A cap L, v = .slice A (List.length L) cap ∧ Tups W A L ∧ L.length ≤ 140737488351232 ∧ L.length ≤ cap := by
  obtain ⟨a0, len, cap, rfl⟩ := okWide_slice Try.underlying24 hv
  obtain ⟨fuel, hf⟩ := h
  rcases Go.Deep.open_slice Try.underlying24 hf with ⟨hcs, hx⟩ | ⟨a, len', cap', m, n, D, Pl, hcs, _, hl, hm, hmm, hx, hi⟩
  · simp [Value.cells] at hcs
    obtain ⟨rfl, rfl, rfl⟩ := hcs
    exact ⟨none, 0, [], rfl, Tups.nil W none, Nat.zero_le _, Nat.le_refl _⟩
  · simp [Value.cells] at hcs
    obtain ⟨rfl, rfl, rfl⟩ := hcs
    simp only [if_true] at hmm
    obtain rfl : cap = m := hmm.symm
    simp only [Prod.mk.injEq] at hx
    obtain ⟨rfl, rfl⟩ := hx
    have hw : DataW.weights Try.prog 24 (.slice ((List.range len).map D) ((List.range (cap - len)).map fun j => D (len + j))) =
        (((List.range len).map D).length + ((List.range (cap - len)).map fun j => D (len + j)).length) * Try.prog.bytesOf 52 ::
        (DataW.weightsAll Try.prog 52 ((List.range len).map D) ++ DataW.weightsAll Try.prog 52 ((List.range (cap - len)).map fun j => D (len + j))) := by
      conv => lhs; unfold DataW.weights
      rw [Try.underlying24]
    have hlen : len ≤ 140737488351232 := by
      have := hz _ (by rw [hw]; exact List.mem_cons_self)
      rw [bytesTup18] at this
      simp only [List.length_map, List.length_range, reachBytes] at this
      omega
    have hall : ∀ i, i < len → ∃ x : TupV, okTu x ∧ W.cell? (a.add (i * 3)) = some (.int .i64 x.x) ∧ W.cell? (a.add (i * 3 + 1)) = some (.int .u64 x.st) ∧ W.cell? (a.add (i * 3 + 2)) = some (.int .u64 x.sl) := by
      intro i hi'
      obtain ⟨cs', hc, ht⟩ := hi i (by omega)
      rw [cellsTup18] at hc
      obtain ⟨x, i1, c0, c1, c2⟩ := open_tup18 hc ht
      rw [deep18] at c0 c1 c2
      exact ⟨x, i1, c0, c1, c2⟩
    obtain ⟨f, hf'⟩ := Go.Deep.choose_lt hall
    refine ⟨some a, cap, (List.range len).map f, by simp, ⟨?_, ?_⟩, by simpa using hlen, by simpa using hl⟩
    · intro x hx
      obtain ⟨i, hi1, rfl⟩ := List.mem_map.1 hx
      exact (hf' i (List.mem_range.1 hi1)).1
    · intro i x hx
      have hil : i < len := by
        rcases Nat.lt_or_ge i len with h | h
        · exact h
        · rw [List.getElem?_eq_none (by simpa using h)] at hx; cases hx
      simp only [List.getElem?_map, List.getElem?_range hil, Option.map_some, Option.some.injEq] at hx
      subst hx
      obtain ⟨_, c0, c1, c2⟩ := hf' i hil
      obtain ⟨b, off, spot⟩ := a
      have hspot : spot = none := by
        have z0 := (hf' 0 (by omega)).2.1
        simpa [Addr.add] using World.cell?_spot z0
      subst hspot
      have hb : b < W.heap.size := by
        have := World.block_lt_of_cell? W _ c0
        revert this; unfold Addr.add; split <;> simp
      refine ⟨b, off, rfl, hb, ?_, ?_, ?_⟩
      · rw [← flat3]; exact c0
      · rw [Nat.add_assoc, ← flat3]; exact c1
      · rw [Nat.add_assoc, ← flat3]; exact c2
end Go.Proofs.Ytjmkkglmckiknaa
