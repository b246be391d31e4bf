/-
  Arguments of stage 19 opened: rows of values, rows of whole numbers. (tools/gen_gw_o.py, out of ValO)
-/
import Derived.Test.YtecnlpkfcggimaaPairA
import Derived.Test.YtecnlpkfcggimaaTupB
import Derived.Test.YtecnlpkfcggimaaOpen
import Derived.Test.YtecnlpkfcggimaaGwA
import Derived.ProofKit
namespace Go.Proofs.Ytecnlpkfcggimaa
set_option linter.unusedVariables false
set_option linter.unusedSimpArgs false
set_option maxRecDepth 100000
open Go.ChangeShapes Go.WideShapes Go.ChangeAt Go.RowKit Go.Joins

theorem cellsInt19 : Try.prog.cellsOf 2 = 1 := by kernel_rfl
theorem bytesInt19 : Try.prog.bytesOf 2 = 8 := by kernel_rfl
/-- A cell that reads as a whole number. -/
theorem open_num19 {H : Type} {enc : TypeId × Value → H} {W : World} {base n : Nat} {spare : Nat → Bool} {held : Bool} {ad : Addr} {cs : List Value} {d : DataW H} {pl : List MemPlace}
    (hc : W.cells? base ad 1 = some cs) (h : DataW.trod enc Try.prog W base spare held n 2 cs = some (d, pl)) :
    ∃ x : Int, I64 x ∧ W.cell? (ad.add 0) = some (.int .i64 x) := by
  obtain ⟨_, hl, hat⟩ := World.cells?_some hc
  obtain ⟨x, e0, r0, w0⟩ := DataW.trod_int Try.underlying2 h
  subst e0
  exact ⟨x, i64_of_wf w0, hat 0 (by omega)⟩
/-- Cells that read as a row of whole numbers. -/
theorem open_nrow19 {H : Type} {enc : TypeId × Value → H} {W : World} {n : Nat} {cs : List Value} {d : DataW H} {pl : List MemPlace}
    (hf : DataW.trod enc Try.prog W 0 (fun _ => true) true n 31 cs = some (d, pl)) (hz : ∀ n ∈ DataW.weights Try.prog 31 d, n ≤ reachBytes) :
    ∃ A cap L, cs = [.slice A (List.length L) cap] ∧ Nums W A L ∧ L.length ≤ 140737488351232 := by
  rcases Go.Deep.open_slice Try.underlying31 hf with ⟨hcs, hx⟩ | ⟨a, len, cap, m, n, D, Pl, hcs, _, hl, hm, hmm, hx, hi⟩
  · exact ⟨none, 0, [], hcs, Nums.nil W none, Nat.zero_le _⟩
  · simp only [if_true] at hmm
    obtain rfl : cap = m := hmm.symm
    simp only [Prod.mk.injEq] at hx
    obtain ⟨rfl, rfl⟩ := hx
    have hw : DataW.weights Try.prog 31 (.slice ((List.range len).map D) ((List.range (cap - len)).map fun j => D (len + j))) =
        (((List.range len).map D).length + ((List.range (cap - len)).map fun j => D (len + j)).length) * Try.prog.bytesOf 2 ::
        (DataW.weightsAll Try.prog 2 ((List.range len).map D) ++ DataW.weightsAll Try.prog 2 ((List.range (cap - len)).map fun j => D (len + j))) := by
      conv => lhs; unfold DataW.weights
      rw [Try.underlying31]
    have hlen : len ≤ 140737488351232 := by
      have := hz _ (by rw [hw]; exact List.mem_cons_self)
      rw [bytesInt19] at this
      simp only [List.length_map, List.length_range, reachBytes] at this
      omega
    have hall : ∀ i, i < len → ∃ x : Int, I64 x ∧ W.cell? (a.add i) = some (.int .i64 x) := by
      intro i hi'
      obtain ⟨cs', hc, ht⟩ := hi i (by omega)
      rw [cellsInt19] at hc
      obtain ⟨x, i1, c0⟩ := open_num19 hc ht
      rw [deep18, Nat.mul_one] at c0
      exact ⟨x, i1, c0⟩
    obtain ⟨f, hf'⟩ := Go.Deep.choose_lt hall
    refine ⟨some a, cap, (List.range len).map f, by rw [hcs]; simp, ⟨?_, ?_⟩, by simpa using hlen⟩
    · intro p hp
      obtain ⟨i, hi1, rfl⟩ := List.mem_map.1 hp
      exact (hf' i (List.mem_range.1 hi1)).1
    · intro i p hp
      have hil : i < len := by
        rcases Nat.lt_or_ge i len with h | h
        · exact h
        · rw [List.getElem?_eq_none (by simpa using h)] at hp; cases hp
      simp only [List.getElem?_map, List.getElem?_range hil, Option.map_some, Option.some.injEq] at hp
      subst hp
      obtain ⟨_, c0⟩ := hf' i hil
      obtain ⟨b, off, spot⟩ := a
      have hspot : spot = none := by
        have z0 := (hf' 0 (by omega)).2
        simpa [Addr.add] using World.cell?_spot z0
      subst hspot
      have hb : b < W.heap.size := by
        have := World.block_lt_of_cell? W _ c0
        revert this; unfold Addr.add; split <;> simp
      refine ⟨b, off, rfl, hb, ?_⟩
      rw [← flat3]; exact c0

theorem open_nums19 {H : Type} {enc : TypeId × Value → H} {W : World} {base : Nat} {v : Value} {d : DataW H} {p : List MemPlace}
    (hv : Value.okWide Try.prog W .any base 31 v) (h : DataW.Trod enc Try.prog W 0 (fun _ => true) true 31 v d p)
    (hz : ∀ n ∈ DataW.weights Try.prog 31 d, n ≤ reachBytes) :
    ∃ A cap L, v = .slice A (List.length L) cap ∧ Nums W A L ∧ L.length ≤ 140737488351232 := by
  obtain ⟨a0, len, cap, rfl⟩ := okWide_slice Try.underlying31 hv
  obtain ⟨fuel, hf⟩ := h
  obtain ⟨A, cap', L, hcs, hP, hl⟩ := open_nrow19 hf hz
  simp [Value.cells] at hcs
  obtain ⟨rfl, rfl, rfl⟩ := hcs
  exact ⟨_, _, L, rfl, hP, hl⟩
end Go.Proofs.Ytecnlpkfcggimaa
