/-
  Arguments of stage 20 opened: rows of whole numbers that fit.
-/
import Derived.Test.YtecnlpkfcggimaaGwO
namespace Go.Proofs.Ytecnlpkfcggimaa
set_option linter.unusedVariables false
set_option linter.unusedSimpArgs false
set_option maxRecDepth 100000
open Go.ChangeShapes Go.WideShapes Go.ChangeAt Go.RowKit Go.Joins

theorem open_nums20 {H : Type} {enc : TypeId × Value → H} {W : World} {base : Nat} {v : Value} {d : DataW H} {p : List MemPlace}
    (hv : Value.okWide Try.prog W .any base 31 v) (h : DataW.Trod enc Try.prog W 0 (fun _ => true) true 31 v d p)
    (hz : ∀ n ∈ DataW.weights Try.prog 31 d, n ≤ reachBytes) :
    ∃ A cap L, v = .slice A (List.length L) cap ∧ Nums W A L ∧ L.length ≤ 140737488351232 ∧ L.length ≤ cap := by
  obtain ⟨A, cap, L, rfl, hN, hl⟩ := open_nums19 hv h hz
  refine ⟨A, cap, L, rfl, hN, hl, ?_⟩
  obtain ⟨fuel, hf⟩ := h
  rcases Go.Deep.open_slice Try.underlying31 hf with ⟨hcs, _⟩ | ⟨a, len, cap', m, n, D, Pl, hcs, _, hl2, _⟩
  · simp [Value.cells] at hcs
    rw [hcs.2.1]
    exact Nat.zero_le _
  · simp [Value.cells] at hcs
    omega
end Go.Proofs.Ytecnlpkfcggimaa
