/-
  Plain mathematics of counts that lie side by side: no program in sight.
-/
import Derived.Test.YtggdmlldolaojaaTurnM
import Derived.Laws.CopyOwn
namespace Go.Proofs.Ytggdmlldolaojaa
set_option linter.unusedVariables false
set_option linter.unusedSimpArgs false

theorem count_out {L : List PairV} {j : Int} (hg : GoodP L) (h : j < headP L ∨ lastP L < j) : countP L j = 0 := by
  rcases Decidable.em (countP L j = 0) with e | e
  · exact e
  · obtain ⟨q, hq, rfl⟩ := count_some e
    have := ends_of hg hq
    omega
theorem good_pos {L : List PairV} (h : GoodP L) : ∀ p, p ∈ L → 0 ≤ p.2 := fun p hp => by have := h.1 p hp; omega
theorem count_nil (j : Int) : countP [] j = 0 := rfl
theorem head_is {R : List PairV} {x : Int} (h : GoodP R) (hx : ∃ p, p ∈ R ∧ p.1 = x) (ha : ∀ p, p ∈ R → x ≤ p.1) : headP R = x := by
  obtain ⟨p, hp, rfl⟩ := hx
  have h1 := (ends_of h hp).1
  obtain ⟨q, hq, e⟩ := head_mem (R := R) (fun e => by rw [e] at hp; cases hp)
  have h2 := ha q hq
  omega
theorem last_is {R : List PairV} {x : Int} (h : GoodP R) (hx : ∃ p, p ∈ R ∧ p.1 = x) (ha : ∀ p, p ∈ R → p.1 ≤ x) : lastP R = x := by
  obtain ⟨p, hp, rfl⟩ := hx
  have h1 := (ends_of h hp).2
  obtain ⟨q, hq, e⟩ := last_mem (R := R) (fun e => by rw [e] at hp; cases hp)
  have h2 := ha q hq
  omega
/-- The indexes of a row to which was added. -/
theorem add_idx {L : List PairV} {i c : Int} (hn : 0 < countP L i + c) {p : PairV} (hp : p ∈ addP L i c) : p.1 = i ∨ ∃ q, q ∈ L ∧ q.1 = p.1 := by
  unfold addP midP at hp
  rw [if_pos hn] at hp
  rcases List.mem_append.1 hp with h | h
  · exact Or.inr ⟨p, (lowP_mem h).1, rfl⟩
  · rcases List.mem_append.1 h with h | h
    · simp at h; exact Or.inl (by rw [h])
    · exact Or.inr ⟨p, (highP_mem h).1, rfl⟩
theorem idx_add {L : List PairV} {i c : Int} (hn : 0 < countP L i + c) : (∃ p, p ∈ addP L i c ∧ p.1 = i) ∧ ∀ q, q ∈ L → ∃ p, p ∈ addP L i c ∧ p.1 = q.1 := by
  have e : addP L i c = lowP L i ++ ([(i, countP L i + c)] ++ highP L i) := by unfold addP midP; rw [if_pos hn]
  have h1 : ∃ p, p ∈ addP L i c ∧ p.1 = i := ⟨(i, countP L i + c), by rw [e]; simp, rfl⟩
  refine ⟨h1, fun q hq => ?_⟩
  rcases Int.lt_trichotomy q.1 i with h | h | h
  · exact ⟨q, by rw [e]; exact List.mem_append_left _ (List.mem_filter.2 ⟨hq, by simpa using h⟩), rfl⟩
  · rw [h]; exact h1
  · exact ⟨q, by rw [e]; exact List.mem_append_right _ (List.mem_append_right _ (List.mem_filter.2 ⟨hq, by simpa using h⟩)), rfl⟩
theorem add_head {L : List PairV} {i c : Int} (hg : GoodP L) (hL : L ≠ []) (h0 : 0 < countP L i + c) (hn : countP L i + c ≤ 9223372036854775807) : headP (addP L i c) = min (headP L) i := by
  obtain ⟨h1, h2⟩ := idx_add h0
  refine head_is (add_good hg hn) ?_ fun p hp => ?_
  · rcases Int.le_total (headP L) i with h | h
    · obtain ⟨q, hq, e⟩ := head_mem hL
      obtain ⟨p, hp, e2⟩ := h2 q hq
      exact ⟨p, hp, by omega⟩
    · obtain ⟨p, hp, e2⟩ := h1
      exact ⟨p, hp, by omega⟩
  · rcases add_idx h0 hp with e | ⟨q, hq, e⟩
    · omega
    · have := (ends_of hg hq).1; omega
theorem add_last {L : List PairV} {i c : Int} (hg : GoodP L) (hL : L ≠ []) (h0 : 0 < countP L i + c) (hn : countP L i + c ≤ 9223372036854775807) : lastP (addP L i c) = max (lastP L) i := by
  obtain ⟨h1, h2⟩ := idx_add h0
  refine last_is (add_good hg hn) ?_ fun p hp => ?_
  · rcases Int.le_total i (lastP L) with h | h
    · obtain ⟨q, hq, e⟩ := last_mem hL
      obtain ⟨p, hp, e2⟩ := h2 q hq
      exact ⟨p, hp, by omega⟩
    · obtain ⟨p, hp, e2⟩ := h1
      exact ⟨p, hp, by omega⟩
  · rcases add_idx h0 hp with e | ⟨q, hq, e⟩
    · omega
    · have := (ends_of hg hq).2; omega
theorem add_nil {i c : Int} (hc : 0 < c) : addP [] i c = [(i, c)] := by
  unfold addP midP
  rw [count_nil, Int.zero_add, if_pos hc]; rfl
theorem sum_pos {L : List PairV} (hg : GoodP L) (hL : L ≠ []) : 0 < sumP L := by
  cases L with
  | nil => exact absurd rfl hL
  | cons p r =>
    rw [sumP_cons]
    have h1 := hg.1 p (by simp)
    have h2 := sumP_pos (L := r) fun q hq => good_pos hg q (List.mem_cons_of_mem _ hq)
    omega

/-- What lies below an index, index by index. -/
theorem low_up0 {L : List PairV} {i : Int} (hg : GoodP L) (h : countP L i = 0) : lowP L (i + 1) = lowP L i := by
  refine good_ext (good_filter _ hg) (good_filter _ hg) fun j => ?_
  rw [count_low, count_low]
  by_cases e : j = i
  · subst e; rw [if_pos (by omega), if_neg (by omega), h]
  · by_cases h1 : j < i
    · rw [if_pos (by omega), if_pos h1]
    · rw [if_neg (by omega), if_neg h1]
theorem count_most {L : List PairV} (i : Int) (hg : GoodP L) : countP L i ≤ 9223372036854775807 := by
  rcases good_part i hg with ⟨n, e1, e2, e3⟩ | ⟨e1, e2⟩
  · have := hg.1 (i, n) (by rw [← e1]; simp)
    rw [e2]; exact this.2
  · rw [e2]; decide
theorem low_up1 {L : List PairV} {i : Int} (hg : GoodP L) (h : 0 < countP L i) : lowP L (i + 1) = lowP L i ++ [(i, countP L i)] := by
  refine good_ext (good_filter _ hg) (good_mk (good_filter _ hg) (good_one ⟨h, count_most i hg⟩) fun p hp q hq => ?_) fun j => ?_
  · simp at hq; subst hq; exact (lowP_mem hp).2
  · rw [countP_app, count_low, count_low, countP_one]
    by_cases e : j = i
    · subst e; rw [if_pos (by omega), if_neg (by omega), if_pos rfl]; omega
    · have e' : ¬ i = j := fun x => e x.symm
      simp only [if_neg e']
      by_cases h1 : j < i
      · rw [if_pos (by omega), if_pos h1]; omega
      · rw [if_neg (by omega), if_neg h1]; omega
theorem low_first {L : List PairV} (hg : GoodP L) : lowP L (headP L) = [] := by
  unfold lowP
  rw [List.filter_eq_nil_iff]
  intro p hp
  have := (ends_of hg hp).1
  simp; omega
theorem low_all {L : List PairV} {i : Int} (hg : GoodP L) (h : lastP L < i) : lowP L i = L := by
  unfold lowP
  rw [List.filter_eq_self]
  intro p hp
  have := (ends_of hg hp).2
  simp; omega
theorem low_pre {L : List PairV} (i : Int) (hg : GoodP L) : lowP L i <+: L := by
  rcases good_part i hg with ⟨n, e1, e2, e3⟩ | ⟨e1, e2⟩
  · exact ⟨_, e1⟩
  · exact ⟨_, e1⟩
theorem low_less {L : List PairV} {i : Int} (hg : GoodP L) (h : 0 < countP L i) : (lowP L i).length < L.length := by
  have h1 := (low_pre (i + 1) hg).length_le
  rw [low_up1 hg h] at h1
  simp at h1; omega
theorem low_sum (L : List PairV) (i : Int) (h : ∀ p, p ∈ L → 0 ≤ p.2) : 0 ≤ sumP (lowP L i) ∧ sumP (lowP L i) ≤ sumP L := by
  have h1 := sum_part L i
  have h2 : 0 ≤ sumP (lowP L i) := sumP_pos fun p hp => h p (lowP_mem hp).1
  have h3 : 0 ≤ sumP (highP L i) := sumP_pos fun p hp => h p (highP_mem hp).1
  have h4 := (count_le_sum i h).1
  omega

/-- The counts from an index on, so many, as cells. -/
def tabC (L : List PairV) (lo : Int) (n : Nat) : List Value := (List.range n).map fun (k : Nat) => .int .u64 (countP L (lo + k))
theorem tabC_len (L : List PairV) (lo : Int) (n : Nat) : (tabC L lo n).length = n := by unfold tabC; simp
theorem tabC_at (L : List PairV) (lo : Int) (n k : Nat) (h : k < n) : (tabC L lo n)[k]? = some (.int .u64 (countP L (lo + k))) := by
  unfold tabC
  rw [List.getElem?_map, List.getElem?_range h]; rfl
theorem tabC_one (L : List PairV) (lo : Int) (n : Nat) : ∀ u ∈ tabC L lo n, u.oneCell' = true := by
  intro u hu
  unfold tabC at hu
  obtain ⟨k, _, rfl⟩ := List.mem_map.1 hu
  rfl
theorem tabC_nil (lo : Int) (n : Nat) : tabC [] lo n = List.replicate n (.int .u64 0) := by
  apply List.ext_getElem?
  intro k
  by_cases h : k < n
  · rw [tabC_at _ _ _ _ h, List.getElem?_replicate, if_pos h]; rfl
  · rw [List.getElem?_eq_none (by rw [tabC_len]; omega), List.getElem?_eq_none (by simp; omega)]
/-- Wider, with noughts on both sides. -/
theorem tabC_wide {L : List PairV} {lo lo' : Int} {n n' off : Nat} (hout : ∀ j, j < lo ∨ lo + n ≤ j → countP L j = 0) (ho : lo - lo' = off) (hn : off + n ≤ n') :
    splice (List.replicate n' (Value.int .u64 0)) off (tabC L lo n) = tabC L lo' n' := by
  unfold splice
  rw [tabC_len]
  apply List.ext_getElem?
  intro k
  by_cases h1 : k < off
  · rw [List.getElem?_append_left (by simp; omega), List.getElem?_take_of_lt h1, List.getElem?_replicate, if_pos (by omega), tabC_at _ _ _ _ (by omega), hout _ (by omega)]
  · rw [List.getElem?_append_right (by simp; omega)]
    simp only [List.length_take, List.length_replicate, Nat.min_eq_left (show off ≤ n' by omega)]
    by_cases h2 : k < off + n
    · rw [List.getElem?_append_left (by rw [tabC_len]; omega), tabC_at _ _ _ _ (by omega), tabC_at _ _ _ _ (by omega)]
      congr 3; omega
    · rw [List.getElem?_append_right (by rw [tabC_len]; omega), tabC_len, List.getElem?_drop, List.getElem?_replicate]
      by_cases h3 : k < n'
      · rw [if_pos (by omega), tabC_at _ _ _ _ h3, hout _ (by omega)]
      · rw [if_neg (by omega), List.getElem?_eq_none (by rw [tabC_len]; omega)]
/-- One more count written. -/
theorem tabC_add {L : List PairV} {lo i c : Int} {n : Nat} {k : Nat} (h0 : 0 ≤ countP L i + c) (hk : i = lo + k) : (tabC L lo n).set k (.int .u64 (countP L i + c)) = tabC (addP L i c) lo n := by
  apply List.ext_getElem?
  intro m
  rw [List.getElem?_set]
  by_cases hm : m < n
  · rw [tabC_at _ _ _ _ hm, tabC_at _ _ _ _ hm, count_add h0]
    by_cases e : k = m
    · subst e
      rw [if_pos rfl, if_pos (by rw [tabC_len]; exact hm), hk, if_pos rfl]
    · rw [if_neg e, if_neg (by omega), Int.add_zero]
  · rw [List.getElem?_eq_none (by rw [tabC_len]; omega), List.getElem?_eq_none (l := tabC (addP L i c) lo n) (by rw [tabC_len]; omega)]
    split
    · rw [if_neg (by rw [tabC_len]; omega)]
    · rfl
end Go.Proofs.Ytggdmlldolaojaa
