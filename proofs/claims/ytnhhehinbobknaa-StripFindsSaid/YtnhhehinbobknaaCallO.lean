/-
  How a script of calls that comes in as an argument is opened.
-/
import Derived.Test.YtnhhehinbobknaaPairV
namespace Go.Proofs.Ytnhhehinbobknaa
set_option linter.unusedVariables false
set_option linter.unusedSimpArgs false
set_option maxRecDepth 100000
open Go.ChangeShapes Go.WideShapes Go.ChangeAt Go.RowKit Go.Joins

/-- A call: its kind, its index, its count. -/
structure CallV where
  k : Int
  i : Int
  c : Int
instance : Inhabited CallV := ⟨⟨0, 0, 0⟩⟩
def okC (x : CallV) : Prop := I64 x.k ∧ I64 x.i ∧ Word x.c
/-- A row of calls in memory. -/
structure Scr (w : World) (A : Option Addr) (L : List CallV) : Prop where
  ok : ∀ x, x ∈ L → okC x
  at_ : ∀ (i : Nat) (x : CallV), L[i]? = some x → ∃ b off, A = some ⟨b, off, none⟩ ∧ b < w.heap.size ∧ w.cell? ⟨b, off + i * 3, none⟩ = some (.int .i64 x.k) ∧ w.cell? ⟨b, off + i * 3 + 1, none⟩ = some (.int .i64 x.i) ∧ w.cell? ⟨b, off + i * 3 + 2, none⟩ = some (.int .u64 x.c)
theorem Scr.call {w w' : World} {A : Option Addr} {L : List CallV} (h : Scr w A L) (hb : Below w.heap.size w w') : Scr w' A L :=
  ⟨h.ok, fun i it hi => by
    obtain ⟨b, off, hA, hlt, c0, c1, c2⟩ := h.at_ i it hi
    exact ⟨b, off, hA, Nat.lt_of_lt_of_le hlt hb.size, cell_later hb c0, cell_later hb c1, cell_later hb c2⟩⟩
theorem Scr.nil (w : World) : Scr w none [] := ⟨fun p h => (by cases h), fun i p h => by simp at h⟩

theorem cellsCall : Try.prog.cellsOf 47 = 3 := by kernel_rfl
theorem bytesCall : Try.prog.bytesOf 47 = 24 := by kernel_rfl
/-- Three cells that read as a call. -/
theorem open_call {H : Type} {enc : TypeId × Value → H} {W : World} {base n : Nat} {spare : Nat → Bool} {held : Bool} {ad : Addr} {cs : List Value} {d : DataW H} {pl : List MemPlace}
    (hc : W.cells? base ad 3 = some cs) (h : DataW.trod enc Try.prog W base spare held n 47 cs = some (d, pl)) :
    ∃ x : CallV, okC x ∧ W.cell? (ad.add 0) = some (.int .i64 x.k) ∧ W.cell? (ad.add 1) = some (.int .i64 x.i) ∧ W.cell? (ad.add 2) = some (.int .u64 x.c) := by
  obtain ⟨_, hl, hat⟩ := World.cells?_some hc
  obtain ⟨ys, m, _, hx, _, hyl, hf⟩ := DataW.trod_struct Try.underlying47 h
  match cs, hl with
  | [x0, x1, x2], _ =>
    have h0 := hf 0 _ rfl
    have h1 := hf 1 _ rfl
    have h2 := hf 2 _ rfl
    match ys, hyl with
    | [y0, y1, y2], _ =>
      obtain ⟨k, e0, r0, w0⟩ := DataW.trod_int Try.underlying3 h0
      obtain ⟨i, e1, r1, w1⟩ := DataW.trod_int Try.underlying3 h1
      obtain ⟨c, e2, r2, w2⟩ := DataW.trod_int Try.underlying28 h2
      have g0 : [x0] = [.int .i64 k] := e0
      have g1 : [x1] = [.int .i64 i] := e1
      have g2 : [x2] = [.int .u64 c] := e2
      simp only [List.cons.injEq, and_true] at g0 g1 g2
      subst g0 g1 g2
      exact ⟨⟨k, i, c⟩, ⟨i64_of_wf w0, i64_of_wf w1, word_of_wf w2⟩, hat 0 (by omega), hat 1 (by omega), hat 2 (by omega)⟩

theorem open_calls {H : Type} {enc : TypeId × Value → H} {W : World} {base : Nat} {v : Value} {d : DataW H} {p : List MemPlace}
    (hv : Value.okWide Try.prog W .any base 22 v) (h : DataW.Trod enc Try.prog W 0 (fun _ => true) true 22 v d p)
    (hz : ∀ n ∈ DataW.weights Try.prog 22 d, n ≤ reachBytes) :
    ∃ A cap L, v = .slice A (List.length L) cap ∧ Scr W A L ∧ L.length ≤ 140737488351232 := by
  obtain ⟨a0, len, cap, rfl⟩ := okWide_slice Try.underlying22 hv
  obtain ⟨fuel, hf⟩ := h
  rcases Go.Deep.open_slice Try.underlying22 hf with ⟨hcs, hx⟩ | ⟨a, len', cap', m, n, D, Pl, hcs, _, hl, hm, hmm, hx, hi⟩
  · simp [Value.cells] at hcs
    obtain ⟨rfl, rfl, rfl⟩ := hcs
    exact ⟨none, 0, [], rfl, Scr.nil W, Nat.zero_le _⟩
  · simp [Value.cells] at hcs
    obtain ⟨rfl, rfl, rfl⟩ := hcs
    simp only [if_true] at hmm
    obtain rfl : cap = m := hmm.symm
    simp only [Prod.mk.injEq] at hx
    obtain ⟨rfl, rfl⟩ := hx
    have hw : DataW.weights Try.prog 22 (.slice ((List.range len).map D) ((List.range (cap - len)).map fun j => D (len + j))) =
        (((List.range len).map D).length + ((List.range (cap - len)).map fun j => D (len + j)).length) * Try.prog.bytesOf 47 ::
        (DataW.weightsAll Try.prog 47 ((List.range len).map D) ++ DataW.weightsAll Try.prog 47 ((List.range (cap - len)).map fun j => D (len + j))) := by
      conv => lhs; unfold DataW.weights
      rw [Try.underlying22]
    have hlen : len ≤ 140737488351232 := by
      have := hz _ (by rw [hw]; exact List.mem_cons_self)
      rw [bytesCall] at this
      simp only [List.length_map, List.length_range, reachBytes] at this
      omega
    have hall : ∀ i, i < len → ∃ x : CallV, okC x ∧ W.cell? (a.add (i * 3)) = some (.int .i64 x.k) ∧ W.cell? (a.add (i * 3 + 1)) = some (.int .i64 x.i) ∧ W.cell? (a.add (i * 3 + 2)) = some (.int .u64 x.c) := by
      intro i hi'
      obtain ⟨cs', hc, ht⟩ := hi i (by omega)
      rw [cellsCall] at hc
      obtain ⟨x, i1, c0, c1, c2⟩ := open_call hc ht
      rw [add_deep] at c0 c1 c2
      exact ⟨x, i1, c0, c1, c2⟩
    obtain ⟨f, hf'⟩ := Go.Deep.choose_lt hall
    refine ⟨some a, cap, (List.range len).map f, by simp, ⟨?_, ?_⟩, by simpa using hlen⟩
    · intro x hx
      obtain ⟨i, hi1, rfl⟩ := List.mem_map.1 hx
      exact (hf' i (List.mem_range.1 hi1)).1
    · intro i x hx
      have hil : i < len := by
        rcases Nat.lt_or_ge i len with h | h
        · exact h
        · rw [List.getElem?_eq_none (by simpa using h)] at hx; cases hx
      simp only [List.getElem?_map, List.getElem?_range hil, Option.map_some, Option.some.injEq] at hx
      subst hx
      obtain ⟨_, c0, c1, c2⟩ := hf' i hil
      obtain ⟨b, off, spot⟩ := a
      have hspot : spot = none := by
        have z0 := (hf' 0 (by omega)).2.1
        simpa [Addr.add] using World.cell?_spot z0
      subst hspot
      have hb : b < W.heap.size := by
        have := World.block_lt_of_cell? W _ c0
        revert this; unfold Addr.add; split <;> simp
      refine ⟨b, off, rfl, hb, ?_, ?_, ?_⟩
      · rw [← add_flat]; exact c0
      · rw [Nat.add_assoc, ← add_flat]; exact c1
      · rw [Nat.add_assoc, ← add_flat]; exact c2
end Go.Proofs.Ytnhhehinbobknaa
