/-
  Plain: rows of additions in another order.
-/
import Derived.Test.YtggdmlldolaojaaRef7b
namespace Go.Proofs.Ytggdmlldolaojaa
set_option linter.unusedVariables false
set_option linter.unusedSimpArgs false

/-- What additions come to that all have room together. -/
structure Come (L R : List PairV) : Prop where
  good : GoodP R
  ok : ∀ p, p ∈ R → okP p
  len : R.length ≤ L.length
  cnt : ∀ j, countP R j = countP L j
  sum : sumP R = sumP L
theorem Come.nil : Come [] [] := ⟨good_nil, fun p h => (by cases h), Nat.le_refl _, fun _ => rfl, rfl⟩
theorem Come.add {L R : List PairV} (h : Come L R) {p : PairV} (hp : okP p) (h0 : 0 < p.2) (hL : ∀ q, q ∈ L → 0 ≤ q.2) (hs : sumP L + p.2 ≤ 9223372036854775807) : Come (L ++ [p]) (addP R p.1 p.2) := by
  have hc := count_le_sum (L := L) p.1 hL
  have e := h.cnt p.1
  refine ⟨add_good h.good (by omega), add_ok h.ok hp.1 (by omega), ?_, fun j => ?_, ?_⟩
  · have := add_len R p.1 p.2
    rw [List.length_append, List.length_singleton]
    have := h.len; omega
  · rw [count_add (by omega), h.cnt, countP_app, countP_one]
    by_cases e : j = p.1
    · subst e; rw [if_pos rfl]
    · rw [if_neg e, if_neg (fun h => e h.symm)]
  · rw [add_sum (by omega), h.sum, sumP_app, sumP_one]
theorem Come.same {L M R S : List PairV} (h : Come L R) (k : Come M S) (hc : ∀ j, countP L j = countP M j) : R = S :=
  good_ext h.good k.good fun j => by rw [h.cnt, k.cnt, hc]
/-- An index that stands in the row was added, and one that was added stands there. -/
theorem count_some {L : List PairV} {j : Int} (h : countP L j ≠ 0) : ∃ q, q ∈ L ∧ q.1 = j := by
  apply Classical.byContradiction
  intro hn
  apply h
  unfold countP
  rw [List.filter_eq_nil_iff.2 (fun q hq => by
    simp only [beq_iff_eq]
    intro e
    exact hn ⟨q, hq, e⟩)]; rfl
theorem count_pos {L : List PairV} {q : PairV} (hq : q ∈ L) (h0 : 0 < q.2) (hL : ∀ p, p ∈ L → 0 ≤ p.2) : 0 < countP L q.1 := by
  obtain ⟨A, B, rfl⟩ := List.append_of_mem hq
  rw [countP_app, count_cons, if_pos rfl]
  have h1 : 0 ≤ countP A q.1 := sumP_pos fun p hp => hL p (List.mem_append_left _ (List.mem_filter.1 hp).1)
  have h2 : 0 ≤ countP B q.1 := sumP_pos fun p hp => hL p (List.mem_append_right _ (List.mem_cons_of_mem _ (List.mem_filter.1 hp).1))
  omega
theorem Come.from {L R : List PairV} (h : Come L R) {p : PairV} (hp : p ∈ R) : ∃ q, q ∈ L ∧ q.1 = p.1 := by
  apply count_some
  rw [← h.cnt]
  have := count_pos hp (by have := h.good.1 p hp; omega) (ok_pos h.ok)
  omega
theorem Come.has {L R : List PairV} (h : Come L R) (hL : ∀ q, q ∈ L → 0 < q.2) {q : PairV} (hq : q ∈ L) : ∃ p, p ∈ R ∧ p.1 = q.1 := by
  apply count_some
  rw [h.cnt]
  have := count_pos hq (hL q hq) (fun p hp => by have := hL p hp; omega)
  omega
/-- All indexes of a good row lie between its ends. -/
theorem ends_of {R : List PairV} (h : GoodP R) {p : PairV} (hp : p ∈ R) : headP R ≤ p.1 ∧ p.1 ≤ lastP R := by
  obtain ⟨A, B, rfl⟩ := List.append_of_mem hp
  constructor
  · cases A with
    | nil => exact Int.le_refl _
    | cons z t =>
      have := (List.pairwise_cons.1 h.2).1 p (by simp)
      show z.1 ≤ p.1; omega
  · have hl : lastP (A ++ p :: B) = lastP (p :: B) := by
      unfold lastP; rw [List.getLast?_append]; cases hb : (p :: B).getLast? with
      | none => simp at hb
      | some z => rfl
    rw [hl]
    exact good_ends (good_app h).2.1
theorem head_mem {R : List PairV} (h : R ≠ []) : ∃ p, p ∈ R ∧ p.1 = headP R := by
  cases R with
  | nil => exact absurd rfl h
  | cons p r => exact ⟨p, by simp, rfl⟩
theorem last_mem {R : List PairV} (h : R ≠ []) : ∃ p, p ∈ R ∧ p.1 = lastP R := by
  cases hl : R.getLast? with
  | none => rw [List.getLast?_eq_none_iff] at hl; exact absurd hl h
  | some z => exact ⟨z, List.mem_of_getLast? hl, by unfold lastP; rw [hl]; rfl⟩
/-- Fewer additions do not reach further. -/
theorem spread_less {L M R S : List PairV} (h : Come L R) (k : Come M S) (hL : ∀ q, q ∈ L → 0 < q.2) (hsub : ∀ q, q ∈ M → ∃ p, p ∈ L ∧ p.1 = q.1) (hS : S ≠ []) : spreadP S ≤ spreadP R := by
  have key : ∀ p, p ∈ S → headP R ≤ p.1 ∧ p.1 ≤ lastP R := fun p hp => by
    obtain ⟨q, hq, e1⟩ := k.from hp
    obtain ⟨z, hz, e2⟩ := hsub q hq
    obtain ⟨y, hy, e3⟩ := h.has hL hz
    have := ends_of h.good hy
    omega
  obtain ⟨a, ha, e1⟩ := head_mem hS
  obtain ⟨b, hb, e2⟩ := last_mem hS
  have h1 := key a ha
  have h2 := key b hb
  unfold spreadP; omega

/-- A row turned: its end first, from some place on. -/
def turnP (L : List PairV) (a : Nat) : List PairV := (L.take a).reverse ++ (L.drop a).reverse
theorem turn_len (L : List PairV) (a : Nat) : (turnP L a).length = L.length := by
  unfold turnP; rw [List.length_append, List.length_reverse, List.length_reverse, ← List.length_append, List.take_append_drop]
theorem turn_mem {L : List PairV} {a : Nat} {p : PairV} : p ∈ turnP L a ↔ p ∈ L := by
  unfold turnP
  rw [List.mem_append, List.mem_reverse, List.mem_reverse, ← List.mem_append, List.take_append_drop]
theorem turn_at (L : List PairV) (a i : Nat) (ha : a ≤ L.length) (hi : i < L.length) : (turnP L a)[i]? = L[(L.length - 1 - i + a) % L.length]? := by
  unfold turnP
  by_cases h : i < a
  · rw [List.getElem?_append_left (by rw [List.length_reverse, List.length_take]; omega), List.getElem?_reverse (by rw [List.length_take]; omega), List.length_take, List.getElem?_take_of_lt (by omega)]
    congr 1
    have e : L.length - 1 - i + a = (a - 1 - i) + L.length := by omega
    rw [e, Nat.add_mod_right, Nat.mod_eq_of_lt (by omega)]; omega
  · rw [List.getElem?_append_right (by rw [List.length_reverse, List.length_take]; omega), List.length_reverse, List.length_take, List.getElem?_reverse (by rw [List.length_drop]; omega), List.length_drop, List.getElem?_drop]
    congr 1
    rw [Nat.mod_eq_of_lt (by omega)]; omega
theorem sumP_rev (L : List PairV) : sumP L.reverse = sumP L := by
  induction L with
  | nil => rfl
  | cons p r ih => rw [List.reverse_cons, sumP_app, ih, sumP_one, sumP_cons]; omega
theorem filter_turn (L : List PairV) (a : Nat) (f : PairV → Bool) : sumP ((turnP L a).filter f) = sumP (L.filter f) := by
  unfold turnP
  rw [List.filter_append, List.filter_reverse, List.filter_reverse, sumP_app, sumP_rev, sumP_rev, ← sumP_app, ← List.filter_append, List.take_append_drop]
/-- Those that count. -/
def posP (L : List PairV) : List PairV := L.filter fun p => decide (0 < p.2)
theorem pos_turn_sum (L : List PairV) (a : Nat) : sumP (posP (turnP L a)) = sumP (posP L) := filter_turn L a _
theorem pos_turn_count (L : List PairV) (a : Nat) (j : Int) : countP (posP (turnP L a)) j = countP (posP L) j := by
  unfold countP posP
  rw [List.filter_filter, List.filter_filter]
  exact filter_turn L a _
theorem posP_step {L : List PairV} {k : Nat} {p : PairV} (h : L[k]? = some p) : posP (L.take (k + 1)) = posP (L.take k) ++ (if 0 < p.2 then [p] else []) := by
  rw [take_snocP h]; unfold posP; rw [List.filter_append]
  congr 1
  by_cases hc : 0 < p.2
  · rw [if_pos hc, List.filter_cons_of_pos (by simpa using hc)]; rfl
  · rw [if_neg hc, List.filter_cons_of_neg (by simpa using hc)]; rfl
theorem posP_mem {L : List PairV} {p : PairV} : p ∈ posP L ↔ p ∈ L ∧ 0 < p.2 := by unfold posP; rw [List.mem_filter]; simp
theorem posP_sum_take (L : List PairV) (k : Nat) : 0 ≤ sumP (posP (L.take k)) ∧ sumP (posP (L.take k)) ≤ sumP (posP L) := by
  have e : posP L = posP (L.take k) ++ posP (L.drop k) := by unfold posP; rw [← List.filter_append, List.take_append_drop]
  have h1 : 0 ≤ sumP (posP (L.take k)) := sumP_pos fun p hp => by have := (posP_mem.1 hp).2; omega
  have h2 : 0 ≤ sumP (posP (L.drop k)) := sumP_pos fun p hp => by have := (posP_mem.1 hp).2; omega
  rw [e, sumP_app]; omega
end Go.Proofs.Ytggdmlldolaojaa
