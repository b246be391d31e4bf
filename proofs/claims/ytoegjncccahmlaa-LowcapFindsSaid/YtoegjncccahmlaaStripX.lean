/-
  What the landed code of package strip does, a nil strip's too.
-/
import Derived.Test.YtoegjncccahmlaaStripO
import Derived.Test.YtoegjncccahmlaaStripP
namespace Go.Proofs.Ytoegjncccahmlaa
set_option linter.unusedVariables false
set_option linter.unusedSimpArgs false
open Go.RowKit

theorem same_below {P : Ending → Prop} {w : World} {e : Ending} {w' : World} (h : P e ∧ w = w') : P e ∧ Below w.heap.size w w' := by
  obtain ⟨h1, rfl⟩ := h
  exact ⟨h1, Below.refl _ _⟩
theorem strip_does : StripDoes StX where
  keep := stx_keep
  lt := stx_lt
  stp := fun w B S m L h => h.1
  cells := stx_cells
  new := fun w m h1 h2 => snew_any w m h1 h2
  bad := fun w m h1 h2 => sbad_any w m h1 h2
  add := fun w B S m L i c h hl hi hc => sadd_any w B S m L i c h hl hi hc
  first := fun w B S m L h hl => sfirst_any w B S m L h hl
  at_ := fun w B S m L i h hl hi => by
    obtain ⟨hst, hm, A, cap, hL, hS⟩ := h
    exact sat_of w _ A cap L i (owns_at hL.c1) hL.row.pairs hst.good (by omega) hi
  total := fun w B S m L h hl => by
    obtain ⟨hst, hm, A, cap, hL, hS⟩ := h
    exact (stotal_at w B _ hL.c2).mono fun e w' => same_below (P := fun e => e = _)
  len := fun w B S m L h hl => by
    obtain ⟨hst, hm, A, cap, hL, hS⟩ := h
    exact (slen_of w _ A _ cap (owns_at hL.c1)).mono fun e w' => same_below (P := fun e => e = _)
  ends := fun w B S m L h hl => by
    obtain ⟨hst, hm, A, cap, hL, hS⟩ := h
    by_cases hne : L = []
    · subst hne
      exact sends_none w _ A cap (owns_at hL.c1)
    · have hpos : 0 < L.length := by cases L with
        | nil => exact absurd rfl hne
        | cons p r => simp
      obtain ⟨px, pc, hx0⟩ : ∃ px pc, L[0]? = some (px, pc) := ⟨L[0].1, L[0].2, List.getElem?_eq_getElem hpos⟩
      obtain ⟨qx, qc, hx1⟩ : ∃ qx qc, L[L.length - 1]? = some (qx, qc) := ⟨L[L.length - 1].1, L[L.length - 1].2, List.getElem?_eq_getElem (by omega)⟩
      have h1 : (firP L).1 = px := by unfold firP; rw [List.head?_eq_getElem?, hx0]; rfl
      have h2 : (lasP L).1 = qx := by unfold lasP; rw [List.getLast?_eq_getElem?, hx1]; rfl
      have h3 : (!L.isEmpty) = true := by cases L with
        | nil => exact absurd rfl hne
        | cons p r => rfl
      rw [h1, h2, h3]
      exact sends_of w _ A cap L.length px pc qx qc L (owns_at hL.c1) hL.row.pairs rfl hpos (by omega) hx0 hx1
  pairs := fun w B S m L h hl => by
    obtain ⟨hst, hm, A, cap, hL, hS⟩ := h
    exact spairs_of w _ A cap L (owns_at hL.c1) hL.row (by omega)
  find := fun w B S m L t h hl ht => by
    obtain ⟨hst, hm, A, cap, hL, hS⟩ := h
    exact sfind_of w _ A cap L t _ _ (owns_at hL.c1) hL.row.pairs (by omega) ht (by have := hst.sum; omega) rfl rfl
  below := fun w B S m L i h hl hi => by
    obtain ⟨hst, hm, A, cap, hL, hS⟩ := h
    exact sbelow_of w _ A cap L i _ (owns_at hL.c1) hL.row hst.good (by omega) hi hst.sum rfl
theorem strip_nil : StripNil where
  add := fun w i c hi hc => sadd_none w i c hi hc
  first := fun w => sfirst_none w none none 0 (owns_none w)
  at_ := fun w i hi => sat_of w none none 0 [] i (owns_none w) (Pairs.nil w) good_nil (by simp) hi
  total := fun w => (stotal_none w).mono fun e w' => same_below (P := fun e => e = _)
  len := fun w => (slen_of w none none 0 0 (owns_none w)).mono fun e w' => same_below (P := fun e => e = _)
  ends := fun w => sends_none w none none 0 (owns_none w)
  pairs := fun w => spairs_none w
  find := fun w t ht => sfind_of w none none 0 [] t 0 false (owns_none w) (Pairs.nil w) (by simp) ht (by decide) (by unfold findP; split <;> rfl) (by unfold findP; split <;> rfl)
  below := fun w i hi => sbelow_none w none i (owns_none w) hi
end Go.Proofs.Ytoegjncccahmlaa
