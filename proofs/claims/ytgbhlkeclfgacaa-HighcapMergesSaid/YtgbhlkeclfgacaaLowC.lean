/-
  Plain mathematics of layer 9 (lowcap): what is kept of a row, where so many indexes side by side are kept, the greatest ones.
  What package lowcap is to do, said once (proved elsewhere of the code); a nil one.
-/
import Derived.Test.YtgbhlkeclfgacaaStripC
namespace Go.Proofs.Ytgbhlkeclfgacaa
set_option linter.unusedVariables false
set_option linter.unusedSimpArgs false
open Go.RowKit

theorem lt_or_geI (a b : Int) : a < b ∨ b ≤ a := by omega
/-- The greatest index of a row. -/
def endP (L : List PairV) : Int := (lasP L).1
/-- What is kept of a row. -/
def keepP (m : Int) (L : List PairV) : List PairV := highP L (endP L - m)
theorem las_snoc (A : List PairV) (p : PairV) : lasP (A ++ [p]) = p := by unfold lasP; rw [List.getLast?_concat]; rfl
theorem end_snoc (A : List PairV) (p : PairV) : endP (A ++ [p]) = p.1 := by unfold endP; rw [las_snoc]
theorem end_mem {L : List PairV} (h : L ≠ []) : ∃ p, p ∈ L ∧ p.1 = endP L := by
  rcases List.eq_nil_or_concat L with rfl | ⟨A, p, rfl⟩
  · exact absurd rfl h
  · rw [List.concat_eq_append]; exact ⟨p, by simp, (end_snoc A p).symm⟩
theorem end_ge {L : List PairV} (hg : GoodP L) : ∀ p, p ∈ L → p.1 ≤ endP L := by
  intro p hp
  rcases List.eq_nil_or_concat L with rfl | ⟨A, q, rfl⟩
  · cases hp
  · rw [List.concat_eq_append] at *
    rw [end_snoc]
    rcases List.mem_append.1 hp with h | h
    · have := (good_app hg).2.2 p h q (by simp); omega
    · simp at h; subst h; exact Int.le_refl _
theorem end_i64 {L : List PairV} (h : ∀ p, p ∈ L → okP p) : I64 (endP L) := by
  by_cases hL : L = []
  · subst hL; exact ⟨by decide, by decide⟩
  · obtain ⟨p, hp, e⟩ := end_mem hL
    rw [← e]; exact (h p hp).1
theorem fir_i64 {L : List PairV} (h : ∀ p, p ∈ L → okP p) : I64 (firP L).1 := by
  cases L with
  | nil => exact ⟨by decide, by decide⟩
  | cons p r => exact (h p (by simp)).1
/-- Where there is a count there is a pair. -/
theorem count_mem {L : List PairV} {j : Int} (h : countP L j ≠ 0) : ∃ p, p ∈ L ∧ p.1 = j := by
  cases hf : L.filter fun p => p.1 == j with
  | nil => exact absurd (by unfold countP; rw [hf]; rfl) h
  | cons p r =>
    have hp : p ∈ L.filter fun p => p.1 == j := by rw [hf]; simp
    have := List.mem_filter.1 hp
    exact ⟨p, this.1, by simpa using this.2⟩
theorem mem_count {L : List PairV} (hg : GoodP L) {p : PairV} (hp : p ∈ L) : 1 ≤ countP L p.1 := by
  obtain ⟨A, B, rfl⟩ := List.append_of_mem hp
  have h1 := hg.1 p hp
  have h2 : 0 ≤ countP A p.1 := sumP_pos fun q hq => by have := hg.1 q (List.mem_append_left _ (List.mem_filter.1 hq).1); omega
  have h3 : 0 ≤ countP B p.1 := sumP_pos fun q hq => by have := hg.1 q (List.mem_append_right _ (List.mem_cons_of_mem _ (List.mem_filter.1 hq).1)); omega
  rw [countP_app, count_cons, if_pos rfl]; omega
theorem count_end {L : List PairV} (hg : GoodP L) (h : L ≠ []) : 1 ≤ countP L (endP L) := by
  obtain ⟨p, hp, e⟩ := end_mem h
  rw [← e]; exact mem_count hg hp
theorem count_past {L : List PairV} (hg : GoodP L) {j : Int} (h : endP L < j) : countP L j = 0 := by
  by_cases hc : countP L j = 0
  · exact hc
  · obtain ⟨p, hp, e⟩ := count_mem hc
    have := end_ge hg p hp; omega
/-- The end is told by the counts. -/
theorem end_uniq {L : List PairV} (hg : GoodP L) {e : Int} (h1 : 1 ≤ countP L e) (h2 : ∀ j, e < j → countP L j = 0) : endP L = e := by
  obtain ⟨p, hp, he⟩ := count_mem (L := L) (j := e) (by omega)
  have hne : L ≠ [] := by rintro rfl; cases hp
  have h3 := end_ge hg p hp
  have h4 := count_end hg hne
  rcases lt_or_geI e (endP L) with h | h
  · have := h2 _ h; omega
  · omega
theorem ne_of_count {L : List PairV} {j : Int} (h : 1 ≤ countP L j) : L ≠ [] := by
  rintro rfl
  have : countP [] j = 0 := rfl
  omega

theorem keep_nil (m : Int) : keepP m [] = [] := rfl
theorem keep_count (m : Int) (L : List PairV) (j : Int) : countP (keepP m L) j = if endP L - m < j then countP L j else 0 := count_high _ _ _
theorem keep_mem {m : Int} {L : List PairV} {p : PairV} (h : p ∈ keepP m L) : p ∈ L ∧ endP L - m < p.1 := highP_mem h
theorem keep_good {m : Int} {L : List PairV} (h : GoodP L) : GoodP (keepP m L) := good_filter _ h
theorem keep_ok {m : Int} {L : List PairV} (h : ∀ p, p ∈ L → okP p) : ∀ p, p ∈ keepP m L → okP p := fun p hp => h p (keep_mem hp).1
theorem keep_le (m : Int) (L : List PairV) : (keepP m L).length ≤ L.length := List.length_filter_le _ _
theorem keep_ne {m : Int} {L : List PairV} (hm : 0 < m) (h : L ≠ []) : keepP m L ≠ [] := by
  obtain ⟨p, hp, e⟩ := end_mem h
  have : p ∈ keepP m L := List.mem_filter.2 ⟨hp, by simp; omega⟩
  intro h0; rw [h0] at this; cases this
theorem keep_end {m : Int} {L : List PairV} (hm : 0 < m) (hg : GoodP L) (h : L ≠ []) : endP (keepP m L) = endP L := by
  refine end_uniq (keep_good hg) ?_ fun j hj => ?_
  · rw [keep_count, if_pos (by omega)]; exact count_end hg h
  · rw [keep_count, if_pos (by omega)]; exact count_past hg hj
theorem keep_idem {m : Int} {L : List PairV} (hm : 0 < m) (hg : GoodP L) : keepP m (keepP m L) = keepP m L := by
  by_cases h : L = []
  · subst h; rfl
  · refine good_ext (keep_good (keep_good hg)) (keep_good hg) fun j => ?_
    rw [keep_count, keep_end hm hg h, keep_count]
    split <;> rfl
/-- Rows with the same end, and the same counts near it, keep the same. -/
theorem keep_ext {m : Int} {L M : List PairV} (hL : GoodP L) (hM : GoodP M) (he : endP L = endP M) (hc : ∀ j, endP L - m < j → countP L j = countP M j) : keepP m L = keepP m M := by
  refine good_ext (keep_good hL) (keep_good hM) fun j => ?_
  rw [keep_count, keep_count, ← he]
  by_cases h : endP L - m < j
  · rw [if_pos h, if_pos h, hc j h]
  · rw [if_neg h, if_neg h]
theorem sumP_filter (f : PairV → Bool) : ∀ {L : List PairV}, (∀ p, p ∈ L → 0 ≤ p.2) → 0 ≤ sumP (L.filter f) ∧ sumP (L.filter f) ≤ sumP L := by
  intro L
  induction L with
  | nil => intro _; exact ⟨Int.le_refl _, Int.le_refl _⟩
  | cons p r ih =>
    intro h
    have h1 := h p (by simp)
    have h2 := ih fun q hq => h q (List.mem_cons_of_mem _ hq)
    by_cases hf : f p = true
    · rw [List.filter_cons_of_pos hf, sumP_cons, sumP_cons]; omega
    · rw [List.filter_cons_of_neg hf, sumP_cons]; omega
theorem keep_sum (m : Int) {L : List PairV} (h : ∀ p, p ∈ L → 0 ≤ p.2) : 0 ≤ sumP (keepP m L) ∧ sumP (keepP m L) ≤ sumP L := sumP_filter _ h
/-- Indexes that lie close to one another are few. -/
theorem spread_len : ∀ (L : List PairV) (a b : Int), GoodP L → a ≤ b → (∀ p, p ∈ L → a < p.1 ∧ p.1 ≤ b) → (L.length : Int) ≤ b - a := by
  intro L
  induction L with
  | nil => intro a b _ h _; simp; omega
  | cons p r ih =>
    intro a b hg hab h
    have h1 := h p (by simp)
    have h2 := (List.pairwise_cons.1 hg.2).1
    have h3 := ih p.1 b (good_drop 1 hg) h1.2 fun q hq => ⟨h2 q hq, (h q (List.mem_cons_of_mem _ hq)).2⟩
    rw [List.length_cons]; omega
theorem keep_len {m : Int} {L : List PairV} (hm : 0 ≤ m) (hg : GoodP L) : ((keepP m L).length : Int) ≤ m := by
  have := spread_len (keepP m L) (endP L - m) (endP L) (keep_good hg) (by omega) fun p hp => ⟨(keep_mem hp).2, end_ge hg p (keep_mem hp).1⟩
  omega

/-- The end behind an addition. -/
theorem end_add {L : List PairV} {i c : Int} (hg : GoodP L) (hn : countP L i + c ≤ 9223372036854775807) (hc : 0 < c) (h0 : 0 ≤ countP L i) : endP (addP L i c) = if L = [] then i else max (endP L) i := by
  have hC := count_add (L := L) (i := i) (c := c) (by omega)
  refine end_uniq (add_good hg hn) ?_ fun j hj => ?_
  · rw [hC]
    by_cases h : L = []
    · subst h; rw [if_pos rfl, if_pos rfl]; have : countP [] i = 0 := rfl; omega
    · rw [if_neg h]
      rcases lt_or_geI (endP L) i with h1 | h1
      · rw [Int.max_eq_right (by omega), if_pos rfl]; omega
      · rw [Int.max_eq_left h1]; have := count_end hg h; split <;> omega
  · rw [hC]
    by_cases h : L = []
    · subst h; rw [if_pos rfl] at hj; rw [if_neg (by omega)]; rfl
    · rw [if_neg h] at hj
      rw [count_past hg (by omega), if_neg (by omega)]; rfl
theorem cnt_pos {L : List PairV} (hg : GoodP L) (i : Int) : 0 ≤ countP L i := sumP_pos fun p hp => by have := hg.1 p (List.mem_filter.1 hp).1; omega
theorem keep_cnt_le {m : Int} {L : List PairV} (hg : GoodP L) (i : Int) : countP (keepP m L) i ≤ countP L i := by
  rw [keep_count]; have := cnt_pos hg i; split <;> omega
/-- What is added to what is kept is kept as it is of all. -/
theorem keep_add {m : Int} {A : List PairV} {i c : Int} (hm : 0 < m) (hg : GoodP A) (hn : countP A i + c ≤ 9223372036854775807) (hc : 0 < c) : keepP m (addP (keepP m A) i c) = keepP m (addP A i c) := by
  by_cases h : A = []
  · subst h; rfl
  · have hk := keep_cnt_le (m := m) hg i
    have h0 := cnt_pos hg i
    have h1 := cnt_pos (keep_good (m := m) hg) i
    have e1 := end_add (keep_good (m := m) hg) (by omega) hc h1
    have e2 := end_add hg hn hc h0
    rw [if_neg (keep_ne hm h), keep_end hm hg h] at e1
    rw [if_neg h] at e2
    refine keep_ext (add_good (keep_good hg) (by omega)) (add_good hg hn) (e1.trans e2.symm) fun j hj => ?_
    rw [e1] at hj
    rw [count_add (by omega), count_add (by omega), keep_count, if_pos (by omega)]
/-- Too far below the end: all stays as it was. -/
theorem keep_far {m : Int} {K : List PairV} {i c : Int} (hm : 0 < m) (hg : GoodP K) (hk : keepP m K = K) (hn : countP K i + c ≤ 9223372036854775807) (hc : 0 < c) (hne : K ≠ []) (hf : i ≤ endP K - m) : keepP m (addP K i c) = K := by
  have h0 := cnt_pos hg i
  have e2 := end_add hg hn hc h0
  rw [if_neg hne, Int.max_eq_left (by omega)] at e2
  refine Eq.trans (keep_ext (add_good hg hn) hg e2 fun j hj => ?_) hk
  rw [e2] at hj
  rw [count_add (by omega), if_neg (by omega), Int.add_zero]
/-- Else what lies too far below goes, and the rest is added to. -/
theorem keep_near {m : Int} {K : List PairV} {i c : Int} (hm : 0 < m) (hg : GoodP K) (hk : keepP m K = K) (hn : countP K i + c ≤ 9223372036854775807) (hc : 0 < c) (hf : K = [] ∨ endP K - m < i) : keepP m (addP K i c) = addP (highP K (i - m)) i c := by
  have h0 := cnt_pos hg i
  have e2 := end_add hg hn hc h0
  have hh : countP (highP K (i - m)) i = countP K i := by rw [count_high, if_pos (by omega)]
  refine good_ext (keep_good (add_good hg hn)) (add_good (good_filter _ hg) (by rw [hh]; exact hn)) fun j => ?_
  rw [keep_count, e2, count_add (by omega), count_add (by rw [hh]; omega), count_high]
  by_cases h : K = []
  · subst h
    rw [if_pos rfl]
    have hz : countP [] j = 0 := rfl
    rw [hz]
    by_cases hj : j = i
    · subst hj; by_cases hx : j - m < j <;> simp [hx]; omega
    · by_cases hx : i - m < j <;> simp [hx, hj]
  · rw [if_neg h]
    have hf' : endP K - m < i := by rcases hf with h1 | h1; exact absurd h1 h; exact h1
    have hz : j ≤ endP K - m → countP K j = 0 := fun hj => by rw [← hk, keep_count, if_neg (by omega)]
    rcases lt_or_geI (endP K) i with h1 | h1
    · rw [Int.max_eq_right (by omega)]
      by_cases hj : i - m < j
      · rw [if_pos hj, if_pos hj]
      · rw [if_neg hj, if_neg hj, if_neg (by omega)]; rfl
    · rw [Int.max_eq_left h1]
      by_cases hj : endP K - m < j
      · rw [if_pos hj, if_pos (show i - m < j by omega)]
      · have hz' := hz (by omega)
        rw [if_neg hj, hz', if_neg (show ¬ j = i by omega)]
        split <;> rfl
/-- Where the front of a good row goes. -/
theorem high_drop {K : List PairV} {x : Int} {k : Nat} (hg : GoodP K) (h1 : ∀ p, p ∈ K.take k → p.1 ≤ x) (h2 : K.drop k = [] ∨ x < (firP (K.drop k)).1) : highP K x = K.drop k := by
  have e : highP K x = highP (K.take k ++ K.drop k) x := by rw [List.take_append_drop]
  rw [e]
  unfold highP
  rw [List.filter_append, List.filter_eq_nil_iff.2 (fun p hp => by have := h1 p hp; simp; omega), List.nil_append, List.filter_eq_self]
  intro p hp
  rcases h2 with h | h
  · rw [h] at hp; cases hp
  · have hg2 := good_drop k hg
    revert hp h hg2
    generalize K.drop k = R
    intro hp h hg2
    cases R with
    | nil => cases hp
    | cons q r =>
      have h' : x < q.1 := h
      rcases List.mem_cons.1 hp with rfl | h3
      · simpa using h'
      · have := (List.pairwise_cons.1 hg2.2).1 p h3; simp; omega
theorem sum_high_drop {K : List PairV} {k : Nat} : sumP K - sumP (K.drop k) = sumP (K.take k) := by
  have e := sumP_app (K.take k) (K.drop k)
  rw [List.take_append_drop] at e
  omega

/-- All pairs of a row, added one by one to another one. -/
def joinP (A B : List PairV) : List PairV := B.foldl (fun R p => addP R p.1 p.2) A
theorem join_nil (A : List PairV) : joinP A [] = A := rfl
theorem join_cons (A : List PairV) (p : PairV) (r : List PairV) : joinP A (p :: r) = joinP (addP A p.1 p.2) r := rfl
theorem join_snoc (A B : List PairV) (p : PairV) : joinP A (B ++ [p]) = addP (joinP A B) p.1 p.2 := by unfold joinP; rw [List.foldl_append]; rfl
theorem join_fold (A : List PairV) : joinP [] A = foldP A := rfl
theorem join_app (A B C : List PairV) : joinP A (B ++ C) = joinP (joinP A B) C := by unfold joinP; rw [List.foldl_append]
/-- What is known of such a row. -/
structure Joined (A B R : List PairV) : Prop where
  good : GoodP R
  ok : ∀ p, p ∈ R → okP p
  cnt : ∀ j, countP R j = countP A j + countP B j
  sum : sumP R = sumP A + sumP B
  len : R.length ≤ A.length + B.length
theorem join_facts : ∀ (B A : List PairV), GoodP A → (∀ p, p ∈ A → okP p) → (∀ p, p ∈ B → okP p ∧ 0 < p.2) → sumP A + sumP B ≤ 9223372036854775807 → Joined A B (joinP A B) := by
  intro B
  induction B with
  | nil => intro A h1 h2 _ _; exact ⟨h1, h2, fun j => by show _ = countP A j + 0; rw [Int.add_zero]; rfl, by rw [sumP_nil, Int.add_zero]; rfl, Nat.le_refl _⟩
  | cons p r ih =>
    intro A h1 h2 h3 h4
    have hp := h3 p (by simp)
    have hr : ∀ q, q ∈ r → okP q ∧ 0 < q.2 := fun q hq => h3 q (List.mem_cons_of_mem _ hq)
    have hrs := sumP_pos (L := r) fun q hq => by have := hr q hq; omega
    have hc := count_le_sum p.1 (ok_pos h2)
    rw [sumP_cons] at h4
    have hs := add_sum (L := A) (i := p.1) (c := p.2) (by omega)
    have hi := ih (addP A p.1 p.2) (add_good h1 (by omega)) (add_ok h2 hp.1.1 (by omega)) hr (by rw [hs]; omega)
    rw [join_cons]
    refine ⟨hi.good, hi.ok, fun j => ?_, ?_, ?_⟩
    · rw [hi.cnt, count_add (by omega), count_cons]
      by_cases e : j = p.1
      · rw [if_pos e, if_pos e.symm]; omega
      · rw [if_neg e, if_neg (fun h => e h.symm)]; omega
    · rw [hi.sum, hs, sumP_cons]; omega
    · have := hi.len; have := add_len A p.1 p.2; rw [List.length_cons]; omega
theorem good_each {B : List PairV} (hg : GoodP B) (h : ∀ p, p ∈ B → okP p) : ∀ p, p ∈ B → okP p ∧ 0 < p.2 := fun p hp => ⟨h p hp, by have := hg.1 p hp; omega⟩
/-- Merging what is kept is what is kept of all. -/
theorem keep_join {m : Int} {A B : List PairV} (hm : 0 < m) (hA : GoodP A) (oA : ∀ p, p ∈ A → okP p) (hB : GoodP B) (oB : ∀ p, p ∈ B → okP p) (hs : sumP A + sumP B ≤ 9223372036854775807) : keepP m (joinP (keepP m A) (keepP m B)) = keepP m (joinP A B) := by
  have sA := keep_sum m (ok_pos oA)
  have sB := keep_sum m (ok_pos oB)
  have J1 := join_facts (keepP m B) (keepP m A) (keep_good hA) (keep_ok oA) (good_each (keep_good hB) (keep_ok oB)) (by omega)
  have J2 := join_facts B A hA oA (good_each hB oB) hs
  have hc0 : ∀ j, countP [] j = 0 := fun j => rfl
  by_cases eA : A = []
  · subst eA
    have e1 : joinP (keepP m []) (keepP m B) = keepP m B := good_ext J1.good (keep_good hB) fun j => by rw [J1.cnt, keep_nil, hc0, Int.zero_add]
    have e2 : joinP [] B = B := good_ext J2.good hB fun j => by rw [J2.cnt, hc0, Int.zero_add]
    rw [e1, e2, keep_idem hm hB]
  · by_cases eB : B = []
    · subst eB
      rw [keep_nil, join_nil, join_nil, keep_idem hm hA]
    · have cA := count_end hA eA
      have cB := count_end hB eB
      have f1 : endP (joinP (keepP m A) (keepP m B)) = max (endP A) (endP B) := by
        refine end_uniq J1.good ?_ fun j hj => ?_
        · rw [J1.cnt, keep_count, keep_count]
          rcases lt_or_geI (endP A) (endP B) with h | h
          · rw [Int.max_eq_right (by omega), if_pos (show endP B - m < endP B by omega)]
            have := cnt_pos hA (endP B); split <;> omega
          · rw [Int.max_eq_left h, if_pos (show endP A - m < endP A by omega)]
            have := cnt_pos hB (endP A); split <;> omega
        · rw [J1.cnt, keep_count, keep_count, count_past hA (by omega), count_past hB (by omega)]
          split <;> split <;> rfl
      have f2 : endP (joinP A B) = max (endP A) (endP B) := by
        refine end_uniq J2.good ?_ fun j hj => ?_
        · rw [J2.cnt]
          rcases lt_or_geI (endP A) (endP B) with h | h
          · rw [Int.max_eq_right (by omega)]; have := cnt_pos hA (endP B); omega
          · rw [Int.max_eq_left h]; have := cnt_pos hB (endP A); omega
        · rw [J2.cnt, count_past hA (by omega), count_past hB (by omega)]; rfl
      refine keep_ext J1.good J2.good (f1.trans f2.symm) fun j hj => ?_
      rw [f1] at hj
      rw [J1.cnt, J2.cnt, keep_count, keep_count, if_pos (by omega), if_pos (by omega)]
/-- In whatever order a row is gone over. -/
theorem countP_rev (L : List PairV) (j : Int) : countP L.reverse j = countP L j := by
  induction L with
  | nil => rfl
  | cons p r ih => rw [List.reverse_cons, countP_app, ih, countP_one, count_cons]; omega
theorem sumP_rev (L : List PairV) : sumP L.reverse = sumP L := by
  induction L with
  | nil => rfl
  | cons p r ih => rw [List.reverse_cons, sumP_app, ih, sumP_one, sumP_cons]; omega
theorem join_rev {A B : List PairV} (hA : GoodP A) (oA : ∀ p, p ∈ A → okP p) (oB : ∀ p, p ∈ B → okP p ∧ 0 < p.2) (hs : sumP A + sumP B ≤ 9223372036854775807) : joinP A B.reverse = joinP A B := by
  have J1 := join_facts B.reverse A hA oA (fun p hp => oB p (List.mem_reverse.1 hp)) (by rw [sumP_rev]; exact hs)
  have J2 := join_facts B A hA oA oB hs
  exact good_ext J1.good J2.good fun j => by rw [J1.cnt, J2.cnt, countP_rev]

/-- The lost ones stand ahead of those that are kept. -/
theorem part_at {L : List PairV} (x : Int) (hg : GoodP L) : (L.filter fun p => decide (p.1 ≤ x)) ++ highP L x = L := by
  have hC : ∀ j, countP (L.filter fun p => decide (p.1 ≤ x)) j = if j ≤ x then countP L j else 0 := by
    intro j
    unfold countP
    rw [List.filter_filter]
    by_cases h : j ≤ x
    · rw [if_pos h]; congr 1
      refine List.filter_congr fun p _ => ?_
      by_cases e : p.1 = j
      · subst e; simp [h]
      · simp [e]
    · rw [if_neg h, List.filter_eq_nil_iff.2]; rfl
      intro p _
      simp only [Bool.and_eq_true, decide_eq_true_eq, beq_iff_eq, not_and]
      intro e; omega
  refine good_ext (good_mk (good_filter _ hg) (good_filter _ hg) fun p hp q hq => ?_) hg fun j => ?_
  · have h1 := (List.mem_filter.1 hp).2
    have h2 := (highP_mem hq).2
    simp at h1; omega
  · rw [countP_app, hC, count_high]
    by_cases h : j ≤ x
    · rw [if_pos h, if_neg (by omega), Int.add_zero]
    · rw [if_neg h, if_pos (by omega), Int.zero_add]
/-- Where the t-th one stands, ahead of a row's kept part or in it. -/
theorem seek_cons (t s : Int) (p : PairV) (r : List PairV) : seekP t s (p :: r) = if t ≤ s + p.2 then some p.1 else seekP t (s + p.2) r := rfl
theorem seek_app (t : Int) : ∀ (A B : List PairV) (s : Int), seekP t s (A ++ B) = match seekP t s A with | some x => some x | none => seekP t (s + sumP A) B := by
  intro A
  induction A with
  | nil => intro B s; rw [List.nil_append, sumP_nil, Int.add_zero]; rfl
  | cons p r ih =>
    intro B s
    rw [List.cons_append, seek_cons, seek_cons]
    by_cases h : t ≤ s + p.2
    · rw [if_pos h, if_pos h]
    · rw [if_neg h, if_neg h, ih, sumP_cons, ← Int.add_assoc]
theorem seek_shift (t d : Int) : ∀ (L : List PairV) (s : Int), seekP t (s + d) L = seekP (t - d) s L := by
  intro L
  induction L with
  | nil => intro s; rfl
  | cons p r ih =>
    intro s
    unfold seekP
    by_cases h : t ≤ s + d + p.2
    · rw [if_pos h, if_pos (by omega)]
    · rw [if_neg h, if_neg (by omega), show s + d + p.2 = s + p.2 + d by omega, ih]
theorem seek_some (t : Int) : ∀ (A : List PairV) (s : Int), t ≤ s + sumP A → A ≠ [] → ∃ x, seekP t s A = some x ∧ ∃ p, p ∈ A ∧ p.1 = x := by
  intro A
  induction A with
  | nil => intro s _ h; exact absurd rfl h
  | cons p r ih =>
    intro s h _
    unfold seekP
    by_cases hc : t ≤ s + p.2
    · rw [if_pos hc]; exact ⟨_, rfl, p, by simp, rfl⟩
    · rw [if_neg hc]
      rw [sumP_cons] at h
      by_cases hr : r = []
      · subst hr; rw [sumP_nil] at h; omega
      · obtain ⟨x, hx, q, hq, e⟩ := ih (s + p.2) (by omega) hr
        exact ⟨x, hx, q, List.mem_cons_of_mem _ hq, e⟩
/-- What Find of a lowcap tells: of those that are kept, so many being lost. -/
def findL (K : List PairV) (l t : Int) : Option Int := if t ≤ l then none else findP K (t - l)
/-- .. is what is asked for of all, unless it is lost. -/
theorem find_keep {m : Int} {A : List PairV} (hm : 0 < m) (hg : GoodP A) (t : Int) :
    findL (keepP m A) (sumP A - sumP (keepP m A)) t = match findP A t with | none => none | some x => if endP A - x < m then some x else none := by
  have hp := part_at (endP A - m) hg
  obtain ⟨D, hD⟩ : ∃ D, (A.filter fun p => decide (p.1 ≤ endP A - m)) = D := ⟨_, rfl⟩
  have hDm : ∀ p, p ∈ D → p.1 ≤ endP A - m := fun p h => by rw [← hD] at h; have := (List.mem_filter.1 h).2; simpa using this
  have hDp : 0 ≤ sumP D := sumP_pos fun p h => by rw [← hD] at h; have := hg.1 p (List.mem_filter.1 h).1; omega
  rw [hD] at hp
  obtain ⟨K, hK⟩ : ∃ K, keepP m A = K := ⟨_, rfl⟩
  have hp' : D ++ K = A := by rw [← hK]; exact hp
  have hs : sumP A - sumP K = sumP D := by have := sumP_app D K; rw [hp'] at this; omega
  have hKm : ∀ p, p ∈ K → endP A - p.1 < m := fun p h => by rw [← hK] at h; have := (keep_mem h).2; omega
  rw [hK, hs]
  unfold findL
  by_cases ht : t ≤ sumP D
  · rw [if_pos ht]
    unfold findP
    by_cases h0 : 0 < t
    · have hne : D ≠ [] := by rintro rfl; rw [sumP_nil] at ht; omega
      obtain ⟨x, hx, p, hpm, e⟩ := seek_some t D 0 (by omega) hne
      rw [if_pos h0, ← hp', seek_app, hx]
      have := hDm p hpm
      show none = if endP (D ++ K) - x < m then some x else none
      rw [hp', if_neg (by omega)]
    · rw [if_neg h0]
  · rw [if_neg ht]
    unfold findP
    have hn : seekP t 0 D = none := seek_none t D 0 (fun q hq => by rw [← hD] at hq; have := hg.1 q (List.mem_filter.1 hq).1; omega) (by omega)
    rw [if_pos (by omega), if_pos (by omega)]
    have e : seekP t 0 A = seekP (t - sumP D) 0 K := by
      rw [← hp', seek_app, hn]
      show seekP t (0 + sumP D) K = _
      rw [seek_shift]
    rw [e]
    cases hf : seekP (t - sumP D) 0 K with
    | none => rfl
    | some x =>
      have hx : ∃ p, p ∈ K ∧ p.1 = x := by
        have key : ∀ (L : List PairV) (s x : Int), seekP (t - sumP D) s L = some x → ∃ p, p ∈ L ∧ p.1 = x := by
          intro L
          induction L with
          | nil => intro s x h; cases h
          | cons p r ih =>
            intro s x h
            unfold seekP at h
            split at h
            · exact ⟨p, by simp, Option.some.inj h⟩
            · obtain ⟨q, hq, e⟩ := ih _ x h
              exact ⟨q, List.mem_cons_of_mem _ hq, e⟩
        exact key K 0 x hf
      obtain ⟨p, hpm, e⟩ := hx
      have := hKm p hpm
      show some x = if endP A - x < m then some x else none
      rw [if_pos (by omega)]
/-- How many there are up to an index: at least, and at most. -/
def lowB (m : Int) (K : List PairV) (l i : Int) : Int := if K ≠ [] ∧ m < endP K - i then 0 else l + belowP K i
def highB (m : Int) (K : List PairV) (l i : Int) : Int := if K ≠ [] ∧ m < endP K - i then l else l + belowP K i
theorem below_keep {m : Int} {A : List PairV} (hm : 0 < m) (hg : GoodP A) (i : Int) :
    lowB m (keepP m A) (sumP A - sumP (keepP m A)) i ≤ belowP A i ∧ belowP A i ≤ highB m (keepP m A) (sumP A - sumP (keepP m A)) i ∧
    (lowB m (keepP m A) (sumP A - sumP (keepP m A)) i = highB m (keepP m A) (sumP A - sumP (keepP m A)) i ∨ (A ≠ [] ∧ 0 < sumP A - sumP (keepP m A))) := by
  have hp := part_at (endP A - m) hg
  obtain ⟨D, hD⟩ : ∃ D, (A.filter fun p => decide (p.1 ≤ endP A - m)) = D := ⟨_, rfl⟩
  have hDm : ∀ p, p ∈ D → p.1 ≤ endP A - m := fun p h => by rw [← hD] at h; have := (List.mem_filter.1 h).2; simpa using this
  have hDq : ∀ p, p ∈ D → 0 ≤ p.2 := fun p h => by rw [← hD] at h; have := hg.1 p (List.mem_filter.1 h).1; omega
  have hDp : 0 ≤ sumP D := sumP_pos hDq
  rw [hD] at hp
  by_cases h : A = []
  · subst h
    have e : (keepP m [] : List PairV) = [] := rfl
    rw [e]
    unfold lowB highB
    simp [belowP, sumP]
  have hen := keep_end hm hg h
  have hkn := keep_ne hm h
  obtain ⟨K, hK⟩ : ∃ K, keepP m A = K := ⟨_, rfl⟩
  have hp' : D ++ K = A := by rw [← hK]; exact hp
  have hs : sumP A - sumP K = sumP D := by have := sumP_app D K; rw [hp'] at this; omega
  have hKm : ∀ p, p ∈ K → endP A - m < p.1 := fun p h => by rw [← hK] at h; exact (keep_mem h).2
  have hb : belowP A i = belowP D i + belowP K i := by rw [← hp']; exact below_app D K i
  rw [hK] at hen hkn ⊢
  rw [hs]
  have hb1 := below_le (L := D) i hDq
  have hb0 : 0 ≤ belowP D i := (sumP_filter _ hDq).1
  unfold lowB highB
  by_cases hc : m < endP K - i
  · rw [if_pos ⟨hkn, hc⟩, if_pos ⟨hkn, hc⟩]
    have hz : belowP K i = 0 := by
      unfold belowP
      rw [List.filter_eq_nil_iff.2 (fun p hp => by have := hKm p hp; simp; omega)]; rfl
    refine ⟨by omega, by omega, ?_⟩
    by_cases hz' : sumP D = 0
    · exact Or.inl hz'.symm
    · exact Or.inr ⟨h, by omega⟩
  · rw [if_neg (fun h => hc h.2), if_neg (fun h => hc h.2)]
    have hall : belowP D i = sumP D := by
      unfold belowP
      rw [List.filter_eq_self.2 (fun p hp => by have := hDm p hp; simp; omega)]
    exact ⟨by omega, by omega, Or.inl rfl⟩
end Go.Proofs.Ytgbhlkeclfgacaa

namespace Go.Proofs.Ytgbhlkeclfgacaa
set_option linter.unusedVariables false
set_option linter.unusedSimpArgs false
open Go.RowKit

/-- What a lowcap of m indexes can keep, T being all that was added. -/
structure Lwp (m : Int) (K : List PairV) (T : Int) : Prop where
  good : GoodP K
  ok : ∀ p, p ∈ K → okP p
  kept : keepP m K = K
  sum : sumP K ≤ T
  top : T ≤ 9223372036854775807
  m1 : 1 ≤ m
  m2 : m ≤ 4096
theorem Lwp.pos {m : Int} {K : List PairV} {T : Int} (h : Lwp m K T) : 0 ≤ sumP K := sumP_pos (ok_pos h.ok)
theorem Lwp.nil {m : Int} (h1 : 1 ≤ m) (h2 : m ≤ 4096) : Lwp m [] 0 := ⟨good_nil, fun p h => (by cases h), rfl, Int.le_refl _, by decide, h1, h2⟩
theorem Lwp.cnt {m : Int} {K : List PairV} {T : Int} (h : Lwp m K T) (i : Int) : 0 ≤ countP K i ∧ countP K i ≤ sumP K := count_le_sum i (ok_pos h.ok)
theorem Lwp.stp {m : Int} {K : List PairV} {T : Int} (h : Lwp m K T) : Stp m K :=
  ⟨h.good, h.ok, Int.le_trans h.sum h.top, by have := keep_len (m := m) (by have := h.m1; omega) h.good; rw [h.kept] at this; exact this⟩
theorem Lwp.add {m : Int} {K : List PairV} {T i c : Int} (h : Lwp m K T) (hi : I64 i) (hc : 0 < c) (hs : T + c ≤ 9223372036854775807) : Lwp m (keepP m (addP K i c)) (T + c) := by
  have h1 := h.cnt i
  have h2 := h.sum
  have h3 : 0 < m := by have := h.m1; omega
  have h4 := add_good h.good (i := i) (c := c) (by omega)
  have h5 := add_ok h.ok hi (c := c) (by omega)
  have h6 := add_sum (L := K) (i := i) (c := c) (by omega)
  have h7 := keep_sum m (ok_pos h5)
  exact ⟨keep_good h4, keep_ok h5, keep_idem h3 h4, by omega, hs, h.m1, h.m2⟩
theorem Lwp.join {m : Int} {K K' : List PairV} {T T' : Int} (h : Lwp m K T) (h' : Lwp m K' T') (hs : T + T' ≤ 9223372036854775807) : Lwp m (keepP m (joinP K K')) (T + T') := by
  have h2 := h.sum
  have h2' := h'.sum
  have h3 : 0 < m := by have := h.m1; omega
  have J := join_facts K' K h.good h.ok (good_each h'.good h'.ok) (by omega)
  have h7 := keep_sum m (ok_pos J.ok)
  exact ⟨keep_good J.good, keep_ok J.ok, keep_idem h3 J.good, by have := J.sum; omega, hs, h.m1, h.m2⟩
/-- Of all that was added. -/
theorem Lwp.of {m : Int} {A : List PairV} (hg : GoodP A) (ho : ∀ p, p ∈ A → okP p) (hs : sumP A ≤ 9223372036854775807) (h1 : 1 ≤ m) (h2 : m ≤ 4096) : Lwp m (keepP m A) (sumP A) :=
  ⟨keep_good hg, keep_ok ho, keep_idem (by omega) hg, (keep_sum m (ok_pos ho)).2, hs, h1, h2⟩

/-- What adding tells; what is kept then, and how many there are in all. -/
def lwErr (T c : Int) : Int := if c = 0 then 1 else if 9223372036854775807 - T < c then 6 else 0
def lwRow (m : Int) (K : List PairV) (T i c : Int) : List PairV := if lwErr T c = 0 then keepP m (addP K i c) else K
def lwSum (T c : Int) : Int := if lwErr T c = 0 then T + c else T
theorem lwErr_cases {T c : Int} (hc : Word c) : (c = 0 ∧ lwErr T c = 1) ∨ (0 < c ∧ 9223372036854775807 - T < c ∧ lwErr T c = 6) ∨ (0 < c ∧ c ≤ 9223372036854775807 - T ∧ lwErr T c = 0) := by
  unfold Word at hc
  unfold lwErr
  by_cases h0 : c = 0
  · exact Or.inl ⟨h0, by rw [if_pos h0]⟩
  · rw [if_neg h0]
    by_cases h1 : 9223372036854775807 - T < c
    · exact Or.inr (Or.inl ⟨by omega, h1, by rw [if_pos h1]⟩)
    · exact Or.inr (Or.inr ⟨by omega, by omega, by rw [if_neg h1]⟩)
/-- Whether such a row, and so many lost beside it, can be. -/
def loadB (m : Int) (L : List PairV) (l : Int) : Bool := goodB L && decide ((L.length : Int) ≤ m) && decide (L = [] → l = 0) && decide (sumP L + l ≤ 9223372036854775807) && decide (L ≠ [] → endP L - (firP L).1 < m)

/-- Lw w B S m K T: at block B lies a lowcap of m indexes that keeps K, of T in all; S are its blocks. -/
structure LowDoes (Lw : World → Nat → (Nat → Prop) → Int → List PairV → Int → Prop) : Prop where
  keep : ∀ (w w' : World) (B : Nat) (S : Nat → Prop) (m : Int) (K : List PairV) (T : Int), Lw w B S m K T → (∀ k, S k → w'.heap[k]? = w.heap[k]?) → Lw w' B S m K T
  lt : ∀ (w : World) (B : Nat) (S : Nat → Prop) (m : Int) (K : List PairV) (T : Int), Lw w B S m K T → ∀ k, S k → k < w.heap.size
  lwp : ∀ (w : World) (B : Nat) (S : Nat → Prop) (m : Int) (K : List PairV) (T : Int), Lw w B S m K T → Lwp m K T
theorem LowDoes.call {Lw : World → Nat → (Nat → Prop) → Int → List PairV → Int → Prop} (D : LowDoes Lw) {w w' : World} {B : Nat} {S : Nat → Prop} {m : Int} {K : List PairV} {T : Int} (h : Lw w B S m K T) (hb : Below w.heap.size w w') : Lw w' B S m K T :=
  D.keep w w' B S m K T h fun k hk => hb.block k (D.lt _ _ _ _ _ _ h k hk)
theorem LowDoes.past {Lw : World → Nat → (Nat → Prop) → Int → List PairV → Int → Prop} (D : LowDoes Lw) {w w' : World} {B : Nat} {S S0 : Nat → Prop} {m : Int} {K : List PairV} {T : Int} (h : Lw w B S m K T) (hk : Keeps S0 w w') (hS : ∀ k, S k → ¬ S0 k) : Lw w' B S m K T :=
  D.keep w w' B S m K T h fun k hk' => hk.block k (D.lt _ _ _ _ _ _ h k hk') (hS k hk')

/-- A nil one. -/
structure LowNil : Prop where
end Go.Proofs.Ytgbhlkeclfgacaa
