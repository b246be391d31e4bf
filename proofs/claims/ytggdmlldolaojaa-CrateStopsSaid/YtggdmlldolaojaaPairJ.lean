/-
  Rows of rows of pairs: plain, in memory, appended to.
-/
import Derived.Test.YtggdmlldolaojaaPairC
import Derived.Deep.Onto
namespace Go.Proofs.Ytggdmlldolaojaa
set_option linter.unusedVariables false
set_option linter.unusedSimpArgs false
open Go.RowKit

/-- A row among others: where it lies, its room, its pairs. -/
structure RowV where
  a : Option Addr
  cap : Nat
  l : List PairV
def allP (R : List RowV) : List PairV := R.flatMap fun r => r.l
theorem allP_app (A B : List RowV) : allP (A ++ B) = allP A ++ allP B := by unfold allP; rw [List.flatMap_append]
theorem allP_one (r : RowV) : allP [r] = r.l := by unfold allP; simp
theorem count_all_rev : ∀ (R : List RowV) (j : Int), countP (allP R.reverse) j = countP (allP R) j := by
  intro R
  induction R with
  | nil => intro j; rfl
  | cons r t ih =>
    intro j
    rw [List.reverse_cons, allP_app, countP_app, ih, allP_one]
    show _ = countP (allP ([r] ++ t)) j
    rw [allP_app, countP_app, allP_one]; omega
theorem all_mem {R : List RowV} {p : PairV} (h : p ∈ allP R) : ∃ r, r ∈ R ∧ p ∈ r.l := by unfold allP at h; exact List.mem_flatMap.1 h
theorem all_len : ∀ (R : List RowV) (n : Nat), (∀ r, r ∈ R → r.l.length ≤ n) → (allP R).length ≤ n * R.length := by
  intro R n
  induction R with
  | nil => intro _; exact Nat.zero_le _
  | cons r t ih =>
    intro h
    have h1 := h r (by simp)
    have h2 := ih fun x hx => h x (List.mem_cons_of_mem _ hx)
    unfold allP at *
    rw [List.flatMap_cons, List.length_append, List.length_cons, Nat.mul_succ]; omega
/-- Whatever the rows' order, what comes of them is the same. -/
theorem fold_rev {R : List RowV} (h : ∀ p, p ∈ allP R → okP p ∧ p.2 ≤ 1099511627776) (hl : (allP R).length ≤ 1000) : foldP (allP R.reverse) = foldP (allP R) := by
  have h' : ∀ p, p ∈ allP R.reverse → okP p ∧ p.2 ≤ 1099511627776 := fun p hp => by
    obtain ⟨r, hr, hq⟩ := all_mem hp
    exact h p (by unfold allP; exact List.mem_flatMap.2 ⟨r, List.mem_reverse.1 hr, hq⟩)
  have hl' : (allP R.reverse).length ≤ 1000 := by
    have : (allP R.reverse).length = (allP R).length := by
      unfold allP
      rw [List.length_flatMap, List.length_flatMap, List.map_reverse, List.sum_reverse]
    omega
  obtain ⟨s1, c1⟩ := fold_sums _ h hl
  obtain ⟨s2, c2⟩ := fold_sums _ h' hl'
  exact good_ext s2.good s1.good fun j => by rw [c2, c1, count_all_rev]

end Go.Proofs.Ytggdmlldolaojaa