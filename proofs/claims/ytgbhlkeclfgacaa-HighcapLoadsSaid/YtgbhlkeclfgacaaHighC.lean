/-
  Plain mathematics of layer 10 (highcap): what is kept of a row, where so many indexes side by side are kept, the least ones.
  What package highcap is to do, said once (proved elsewhere of the code); a nil one.
-/
import Derived.Test.YtgbhlkeclfgacaaLowC
namespace Go.Proofs.Ytgbhlkeclfgacaa
set_option linter.unusedVariables false
set_option linter.unusedSimpArgs false
open Go.RowKit

/-- The least index of a row. -/
def begP (L : List PairV) : Int := (firP L).1
/-- What is kept of a row. -/
def keepH (m : Int) (L : List PairV) : List PairV := lowP L (begP L + m)
theorem beg_cons (p : PairV) (r : List PairV) : begP (p :: r) = p.1 := rfl
theorem beg_mem {L : List PairV} (h : L ≠ []) : ∃ p, p ∈ L ∧ p.1 = begP L := by
  cases L with
  | nil => exact absurd rfl h
  | cons p r => exact ⟨p, by simp, rfl⟩
theorem beg_le {L : List PairV} (hg : GoodP L) : ∀ p, p ∈ L → begP L ≤ p.1 := by
  intro p hp
  cases L with
  | nil => cases hp
  | cons q r =>
    rcases List.mem_cons.1 hp with rfl | h
    · exact Int.le_refl _
    · have := (List.pairwise_cons.1 hg.2).1 p h; show q.1 ≤ p.1; omega
theorem beg_i64 {L : List PairV} (h : ∀ p, p ∈ L → okP p) : I64 (begP L) := fir_i64 h
theorem count_beg {L : List PairV} (hg : GoodP L) (h : L ≠ []) : 1 ≤ countP L (begP L) := by
  obtain ⟨p, hp, e⟩ := beg_mem h
  rw [← e]; exact mem_count hg hp
theorem count_ahead {L : List PairV} (hg : GoodP L) {j : Int} (h : j < begP L) : countP L j = 0 := by
  by_cases hc : countP L j = 0
  · exact hc
  · obtain ⟨p, hp, e⟩ := count_mem hc
    have := beg_le hg p hp; omega
/-- The beginning is told by the counts. -/
theorem beg_uniq {L : List PairV} (hg : GoodP L) {e : Int} (h1 : 1 ≤ countP L e) (h2 : ∀ j, j < e → countP L j = 0) : begP L = e := by
  obtain ⟨p, hp, he⟩ := count_mem (L := L) (j := e) (by omega)
  have hne : L ≠ [] := by rintro rfl; cases hp
  have h3 := beg_le hg p hp
  have h4 := count_beg hg hne
  rcases lt_or_geI (begP L) e with h | h
  · have := h2 _ h; omega
  · omega

theorem keeph_nil (m : Int) : keepH m [] = [] := rfl
theorem keeph_count (m : Int) (L : List PairV) (j : Int) : countP (keepH m L) j = if j < begP L + m then countP L j else 0 := count_low _ _ _
theorem keeph_mem {m : Int} {L : List PairV} {p : PairV} (h : p ∈ keepH m L) : p ∈ L ∧ p.1 < begP L + m := lowP_mem h
theorem keeph_good {m : Int} {L : List PairV} (h : GoodP L) : GoodP (keepH m L) := good_filter _ h
theorem keeph_ok {m : Int} {L : List PairV} (h : ∀ p, p ∈ L → okP p) : ∀ p, p ∈ keepH m L → okP p := fun p hp => h p (keeph_mem hp).1
theorem keeph_le (m : Int) (L : List PairV) : (keepH m L).length ≤ L.length := List.length_filter_le _ _
theorem keeph_ne {m : Int} {L : List PairV} (hm : 0 < m) (h : L ≠ []) : keepH m L ≠ [] := by
  obtain ⟨p, hp, e⟩ := beg_mem h
  have : p ∈ keepH m L := List.mem_filter.2 ⟨hp, by simp; omega⟩
  intro h0; rw [h0] at this; cases this
theorem keeph_beg {m : Int} {L : List PairV} (hm : 0 < m) (hg : GoodP L) (h : L ≠ []) : begP (keepH m L) = begP L := by
  refine beg_uniq (keeph_good hg) ?_ fun j hj => ?_
  · rw [keeph_count, if_pos (by omega)]; exact count_beg hg h
  · rw [keeph_count, if_pos (by omega)]; exact count_ahead hg hj
theorem keeph_idem {m : Int} {L : List PairV} (hm : 0 < m) (hg : GoodP L) : keepH m (keepH m L) = keepH m L := by
  by_cases h : L = []
  · subst h; rfl
  · refine good_ext (keeph_good (keeph_good hg)) (keeph_good hg) fun j => ?_
    rw [keeph_count, keeph_beg hm hg h, keeph_count]
    split <;> rfl
/-- Rows with the same beginning, and the same counts near it, keep the same. -/
theorem keeph_ext {m : Int} {L M : List PairV} (hL : GoodP L) (hM : GoodP M) (he : begP L = begP M) (hc : ∀ j, j < begP L + m → countP L j = countP M j) : keepH m L = keepH m M := by
  refine good_ext (keeph_good hL) (keeph_good hM) fun j => ?_
  rw [keeph_count, keeph_count, ← he]
  by_cases h : j < begP L + m
  · rw [if_pos h, if_pos h, hc j h]
  · rw [if_neg h, if_neg h]
theorem keeph_sum (m : Int) {L : List PairV} (h : ∀ p, p ∈ L → 0 ≤ p.2) : 0 ≤ sumP (keepH m L) ∧ sumP (keepH m L) ≤ sumP L := sumP_filter _ h
theorem keeph_len {m : Int} {L : List PairV} (hm : 0 ≤ m) (hg : GoodP L) : ((keepH m L).length : Int) ≤ m := by
  have := spread_len (keepH m L) (begP L - 1) (begP L + m - 1) (keeph_good hg) (by omega) fun p hp => ⟨by have := beg_le hg p (keeph_mem hp).1; omega, by have := (keeph_mem hp).2; omega⟩
  omega

/-- The beginning behind an addition. -/
theorem beg_add {L : List PairV} {i c : Int} (hg : GoodP L) (hn : countP L i + c ≤ 9223372036854775807) (hc : 0 < c) (h0 : 0 ≤ countP L i) : begP (addP L i c) = if L = [] then i else min (begP L) i := by
  have hC := count_add (L := L) (i := i) (c := c) (by omega)
  refine beg_uniq (add_good hg hn) ?_ fun j hj => ?_
  · rw [hC]
    by_cases h : L = []
    · subst h; rw [if_pos rfl, if_pos rfl]; have : countP [] i = 0 := rfl; omega
    · rw [if_neg h]
      rcases lt_or_geI i (begP L) with h1 | h1
      · rw [Int.min_eq_right (by omega), if_pos rfl]; omega
      · rw [Int.min_eq_left h1]; have := count_beg hg h; split <;> omega
  · rw [hC]
    by_cases h : L = []
    · subst h; rw [if_pos rfl] at hj; rw [if_neg (by omega)]; rfl
    · rw [if_neg h] at hj
      rw [count_ahead hg (by omega), if_neg (by omega)]; rfl
theorem keeph_cnt_le {m : Int} {L : List PairV} (hg : GoodP L) (i : Int) : countP (keepH m L) i ≤ countP L i := by
  rw [keeph_count]; have := cnt_pos hg i; split <;> omega
/-- What is added to what is kept is kept as it is of all. -/
theorem keeph_add {m : Int} {A : List PairV} {i c : Int} (hm : 0 < m) (hg : GoodP A) (hn : countP A i + c ≤ 9223372036854775807) (hc : 0 < c) : keepH m (addP (keepH m A) i c) = keepH m (addP A i c) := by
  by_cases h : A = []
  · subst h; rfl
  · have hk := keeph_cnt_le (m := m) hg i
    have h0 := cnt_pos hg i
    have h1 := cnt_pos (keeph_good (m := m) hg) i
    have e1 := beg_add (keeph_good (m := m) hg) (by omega) hc h1
    have e2 := beg_add hg hn hc h0
    rw [if_neg (keeph_ne hm h), keeph_beg hm hg h] at e1
    rw [if_neg h] at e2
    refine keeph_ext (add_good (keeph_good hg) (by omega)) (add_good hg hn) (e1.trans e2.symm) fun j hj => ?_
    rw [e1] at hj
    rw [count_add (by omega), count_add (by omega), keeph_count, if_pos (by omega)]
/-- Too far above the beginning: all stays as it was. -/
theorem keeph_far {m : Int} {K : List PairV} {i c : Int} (hm : 0 < m) (hg : GoodP K) (hk : keepH m K = K) (hn : countP K i + c ≤ 9223372036854775807) (hc : 0 < c) (hne : K ≠ []) (hf : begP K + m ≤ i) : keepH m (addP K i c) = K := by
  have h0 := cnt_pos hg i
  have e2 := beg_add hg hn hc h0
  rw [if_neg hne, Int.min_eq_left (by omega)] at e2
  refine Eq.trans (keeph_ext (add_good hg hn) hg e2 fun j hj => ?_) hk
  rw [e2] at hj
  rw [count_add (by omega), if_neg (by omega), Int.add_zero]
/-- Else what lies too far above goes, and the rest is added to. -/
theorem keeph_near {m : Int} {K : List PairV} {i c : Int} (hm : 0 < m) (hg : GoodP K) (hk : keepH m K = K) (hn : countP K i + c ≤ 9223372036854775807) (hc : 0 < c) (hf : K = [] ∨ i < begP K + m) : keepH m (addP K i c) = addP (lowP K (i + m)) i c := by
  have h0 := cnt_pos hg i
  have e2 := beg_add hg hn hc h0
  have hh : countP (lowP K (i + m)) i = countP K i := by rw [count_low, if_pos (by omega)]
  refine good_ext (keeph_good (add_good hg hn)) (add_good (good_filter _ hg) (by rw [hh]; exact hn)) fun j => ?_
  rw [keeph_count, e2, count_add (by omega), count_add (by rw [hh]; omega), count_low]
  by_cases h : K = []
  · subst h
    rw [if_pos rfl]
    have hz : countP [] j = 0 := rfl
    rw [hz]
    by_cases hj : j = i
    · subst hj; by_cases hx : j < j + m <;> simp [hx]; omega
    · by_cases hx : j < i + m <;> simp [hx, hj]
  · rw [if_neg h]
    have hf' : i < begP K + m := by rcases hf with h1 | h1; exact absurd h1 h; exact h1
    have hz : begP K + m ≤ j → countP K j = 0 := fun hj => by rw [← hk, keeph_count, if_neg (by omega)]
    rcases lt_or_geI i (begP K) with h1 | h1
    · rw [Int.min_eq_right (by omega)]
      by_cases hj : j < i + m
      · rw [if_pos hj, if_pos hj]
      · rw [if_neg hj, if_neg hj, if_neg (by omega)]; rfl
    · rw [Int.min_eq_left h1]
      by_cases hj : j < begP K + m
      · rw [if_pos hj, if_pos (show j < i + m by omega)]
      · have hz' := hz (by omega)
        rw [if_neg hj, hz', if_neg (show ¬ j = i by omega)]
        split <;> rfl
/-- Where the back of a good row goes. -/
theorem low_take {K : List PairV} {x : Int} {k : Nat} (hg : GoodP K) (h1 : ∀ p, p ∈ K.drop k → x ≤ p.1) (h2 : K.take k = [] ∨ (lasP (K.take k)).1 < x) : lowP K x = K.take k := by
  have e : lowP K x = lowP (K.take k ++ K.drop k) x := by rw [List.take_append_drop]
  rw [e]
  unfold lowP
  have hd : (K.drop k).filter (fun p => decide (p.1 < x)) = [] := List.filter_eq_nil_iff.2 (fun p hp => by have := h1 p hp; simp; omega)
  rw [List.filter_append, hd, List.append_nil, List.filter_eq_self]
  intro p hp
  rcases h2 with h | h
  · rw [h] at hp; cases hp
  · have := end_ge (good_take k hg) p hp
    have h' : endP (K.take k) < x := h
    simp; omega
theorem sum_low_take {K : List PairV} {k : Nat} : sumP K - sumP (K.take k) = sumP (K.drop k) := by
  have e := sumP_app (K.take k) (K.drop k)
  rw [List.take_append_drop] at e
  omega
/-- Merging what is kept is what is kept of all. -/
theorem keeph_join {m : Int} {A B : List PairV} (hm : 0 < m) (hA : GoodP A) (oA : ∀ p, p ∈ A → okP p) (hB : GoodP B) (oB : ∀ p, p ∈ B → okP p) (hs : sumP A + sumP B ≤ 9223372036854775807) : keepH m (joinP (keepH m A) (keepH m B)) = keepH m (joinP A B) := by
  have sA := keeph_sum m (ok_pos oA)
  have sB := keeph_sum m (ok_pos oB)
  have J1 := join_facts (keepH m B) (keepH m A) (keeph_good hA) (keeph_ok oA) (good_each (keeph_good hB) (keeph_ok oB)) (by omega)
  have J2 := join_facts B A hA oA (good_each hB oB) hs
  have hc0 : ∀ j, countP [] j = 0 := fun j => rfl
  by_cases eA : A = []
  · subst eA
    have e1 : joinP (keepH m []) (keepH m B) = keepH m B := good_ext J1.good (keeph_good hB) fun j => by rw [J1.cnt, keeph_nil, hc0, Int.zero_add]
    have e2 : joinP [] B = B := good_ext J2.good hB fun j => by rw [J2.cnt, hc0, Int.zero_add]
    rw [e1, e2, keeph_idem hm hB]
  · by_cases eB : B = []
    · subst eB
      rw [keeph_nil, join_nil, join_nil, keeph_idem hm hA]
    · have cA := count_beg hA eA
      have cB := count_beg hB eB
      have f1 : begP (joinP (keepH m A) (keepH m B)) = min (begP A) (begP B) := by
        refine beg_uniq J1.good ?_ fun j hj => ?_
        · rw [J1.cnt, keeph_count, keeph_count]
          rcases lt_or_geI (begP B) (begP A) with h | h
          · rw [Int.min_eq_right (by omega), if_pos (show begP B < begP B + m by omega)]
            have := cnt_pos hA (begP B); split <;> omega
          · rw [Int.min_eq_left h, if_pos (show begP A < begP A + m by omega)]
            have := cnt_pos hB (begP A); split <;> omega
        · rw [J1.cnt, keeph_count, keeph_count, count_ahead hA (by omega), count_ahead hB (by omega)]
          split <;> split <;> rfl
      have f2 : begP (joinP A B) = min (begP A) (begP B) := by
        refine beg_uniq J2.good ?_ fun j hj => ?_
        · rw [J2.cnt]
          rcases lt_or_geI (begP B) (begP A) with h | h
          · rw [Int.min_eq_right (by omega)]; have := cnt_pos hA (begP B); omega
          · rw [Int.min_eq_left h]; have := cnt_pos hB (begP A); omega
        · rw [J2.cnt, count_ahead hA (by omega), count_ahead hB (by omega)]; rfl
      refine keeph_ext J1.good J2.good (f1.trans f2.symm) fun j hj => ?_
      rw [f1] at hj
      rw [J1.cnt, J2.cnt, keeph_count, keeph_count, if_pos (by omega), if_pos (by omega)]

/-- The lost ones stand behind those that are kept. -/
theorem part_low {L : List PairV} (x : Int) (hg : GoodP L) : lowP L x ++ (L.filter fun p => decide (x ≤ p.1)) = L := by
  have hC : ∀ j, countP (L.filter fun p => decide (x ≤ p.1)) j = if x ≤ j then countP L j else 0 := by
    intro j
    unfold countP
    rw [List.filter_filter]
    by_cases h : x ≤ j
    · rw [if_pos h]; congr 1
      refine List.filter_congr fun p _ => ?_
      by_cases e : p.1 = j
      · subst e; simp [h]
      · simp [e]
    · rw [if_neg h, List.filter_eq_nil_iff.2]; rfl
      intro p _
      simp only [Bool.and_eq_true, decide_eq_true_eq, beq_iff_eq, not_and]
      intro e; omega
  refine good_ext (good_mk (good_filter _ hg) (good_filter _ hg) fun p hp q hq => ?_) hg fun j => ?_
  · have h1 := (List.mem_filter.1 hq).2
    have h2 := (lowP_mem hp).2
    simp at h1; omega
  · rw [countP_app, hC, count_low]
    by_cases h : x ≤ j
    · rw [if_pos h, if_neg (by omega), Int.zero_add]
    · rw [if_neg h, if_pos (by omega), Int.add_zero]
theorem seek_mem (t : Int) : ∀ (L : List PairV) (s x : Int), seekP t s L = some x → ∃ p, p ∈ L ∧ p.1 = x := by
  intro L
  induction L with
  | nil => intro s x h; cases h
  | cons p r ih =>
    intro s x h
    rw [seek_cons] at h
    split at h
    · exact ⟨p, by simp, Option.some.inj h⟩
    · obtain ⟨q, hq, e⟩ := ih _ x h
      exact ⟨q, List.mem_cons_of_mem _ hq, e⟩
/-- What Find of a highcap tells: of those that are kept alone. -/
def findH (K : List PairV) (l t : Int) : Option Int := findP K t
/-- .. is what is asked for of all, unless it is lost. -/
theorem find_keeph {m : Int} {A : List PairV} (hm : 0 < m) (hg : GoodP A) (t : Int) :
    findH (keepH m A) (sumP A - sumP (keepH m A)) t = match findP A t with | none => none | some x => if x - begP A < m then some x else none := by
  have hp := part_low (begP A + m) hg
  obtain ⟨D, hD⟩ : ∃ D, (A.filter fun p => decide (begP A + m ≤ p.1)) = D := ⟨_, rfl⟩
  have hDm : ∀ p, p ∈ D → begP A + m ≤ p.1 := fun p h => by rw [← hD] at h; have := (List.mem_filter.1 h).2; simpa using this
  rw [hD] at hp
  obtain ⟨K, hK⟩ : ∃ K, keepH m A = K := ⟨_, rfl⟩
  have hp' : K ++ D = A := by rw [← hK]; exact hp
  have hKm : ∀ p, p ∈ K → p.1 - begP A < m := fun p h => by rw [← hK] at h; have := (keeph_mem h).2; omega
  rw [hK]
  unfold findH findP
  by_cases h0 : 0 < t
  · rw [if_pos h0, if_pos h0]
    have e : seekP t 0 A = match seekP t 0 K with | some x => some x | none => seekP t (0 + sumP K) D := by rw [← hp']; exact seek_app t K D 0
    rw [e]
    cases hf : seekP t 0 K with
    | some x =>
      obtain ⟨p, hpm, e⟩ := seek_mem t K 0 x hf
      have := hKm p hpm
      show some x = if x - begP A < m then some x else none
      rw [if_pos (by omega)]
    | none =>
      show none = match seekP t (0 + sumP K) D with | none => none | some x => if x - begP A < m then some x else none
      cases hf2 : seekP t (0 + sumP K) D with
      | none => rfl
      | some x =>
        obtain ⟨p, hpm, e⟩ := seek_mem t D _ x hf2
        have := hDm p hpm
        show none = if x - begP A < m then some x else none
        rw [if_neg (by omega)]
  · rw [if_neg h0, if_neg h0]
/-- How many there are up to an index: at least, and at most. -/
def lowBH (m : Int) (K : List PairV) (l i : Int) : Int := belowP K i
def highBH (m : Int) (K : List PairV) (l i : Int) : Int := if K ≠ [] ∧ m ≤ i - begP K then belowP K i + l else belowP K i
theorem below_keeph {m : Int} {A : List PairV} (hm : 0 < m) (hg : GoodP A) (i : Int) :
    lowBH m (keepH m A) (sumP A - sumP (keepH m A)) i ≤ belowP A i ∧ belowP A i ≤ highBH m (keepH m A) (sumP A - sumP (keepH m A)) i ∧
    (lowBH m (keepH m A) (sumP A - sumP (keepH m A)) i = highBH m (keepH m A) (sumP A - sumP (keepH m A)) i ∨ (A ≠ [] ∧ 0 < sumP A - sumP (keepH m A))) := by
  have hp := part_low (begP A + m) hg
  obtain ⟨D, hD⟩ : ∃ D, (A.filter fun p => decide (begP A + m ≤ p.1)) = D := ⟨_, rfl⟩
  have hDm : ∀ p, p ∈ D → begP A + m ≤ p.1 := fun p h => by rw [← hD] at h; have := (List.mem_filter.1 h).2; simpa using this
  have hDq : ∀ p, p ∈ D → 0 ≤ p.2 := fun p h => by rw [← hD] at h; have := hg.1 p (List.mem_filter.1 h).1; omega
  have hDp : 0 ≤ sumP D := sumP_pos hDq
  rw [hD] at hp
  by_cases h : A = []
  · subst h
    have e : (keepH m [] : List PairV) = [] := rfl
    rw [e]
    unfold lowBH highBH
    simp [belowP, sumP]
  have hen := keeph_beg hm hg h
  have hkn := keeph_ne hm h
  obtain ⟨K, hK⟩ : ∃ K, keepH m A = K := ⟨_, rfl⟩
  have hp' : K ++ D = A := by rw [← hK]; exact hp
  have hs : sumP A - sumP K = sumP D := by have := sumP_app K D; rw [hp'] at this; omega
  have hb : belowP A i = belowP K i + belowP D i := by rw [← hp']; exact below_app K D i
  rw [hK] at hen hkn ⊢
  rw [hs]
  have hb1 := below_le (L := D) i hDq
  have hb0 : 0 ≤ belowP D i := (sumP_filter _ hDq).1
  unfold lowBH highBH
  by_cases hc : m ≤ i - begP K
  · rw [if_pos ⟨hkn, hc⟩]
    refine ⟨by omega, by omega, ?_⟩
    by_cases hz' : sumP D = 0
    · exact Or.inl (by omega)
    · exact Or.inr ⟨h, by omega⟩
  · rw [if_neg (fun h => hc h.2)]
    have hz : belowP D i = 0 := by
      unfold belowP
      rw [List.filter_eq_nil_iff.2 (fun p hp => by have := hDm p hp; simp; omega)]; rfl
    exact ⟨by omega, by omega, Or.inl rfl⟩

/-- What a highcap of m indexes can keep, T being all that was added. -/
structure Hgp (m : Int) (K : List PairV) (T : Int) : Prop where
  good : GoodP K
  ok : ∀ p, p ∈ K → okP p
  kept : keepH m K = K
  sum : sumP K ≤ T
  top : T ≤ 9223372036854775807
  m1 : 1 ≤ m
  m2 : m ≤ 4096
theorem Hgp.pos {m : Int} {K : List PairV} {T : Int} (h : Hgp m K T) : 0 ≤ sumP K := sumP_pos (ok_pos h.ok)
theorem Hgp.nil {m : Int} (h1 : 1 ≤ m) (h2 : m ≤ 4096) : Hgp m [] 0 := ⟨good_nil, fun p h => (by cases h), rfl, Int.le_refl _, by decide, h1, h2⟩
theorem Hgp.cnt {m : Int} {K : List PairV} {T : Int} (h : Hgp m K T) (i : Int) : 0 ≤ countP K i ∧ countP K i ≤ sumP K := count_le_sum i (ok_pos h.ok)
theorem Hgp.stp {m : Int} {K : List PairV} {T : Int} (h : Hgp m K T) : Stp m K :=
  ⟨h.good, h.ok, Int.le_trans h.sum h.top, by have := keeph_len (m := m) (by have := h.m1; omega) h.good; rw [h.kept] at this; exact this⟩
theorem Hgp.add {m : Int} {K : List PairV} {T i c : Int} (h : Hgp m K T) (hi : I64 i) (hc : 0 < c) (hs : T + c ≤ 9223372036854775807) : Hgp m (keepH m (addP K i c)) (T + c) := by
  have h1 := h.cnt i
  have h2 := h.sum
  have h3 : 0 < m := by have := h.m1; omega
  have h4 := add_good h.good (i := i) (c := c) (by omega)
  have h5 := add_ok h.ok hi (c := c) (by omega)
  have h6 := add_sum (L := K) (i := i) (c := c) (by omega)
  have h7 := keeph_sum m (ok_pos h5)
  exact ⟨keeph_good h4, keeph_ok h5, keeph_idem h3 h4, by omega, hs, h.m1, h.m2⟩
theorem Hgp.join {m : Int} {K K' : List PairV} {T T' : Int} (h : Hgp m K T) (h' : Hgp m K' T') (hs : T + T' ≤ 9223372036854775807) : Hgp m (keepH m (joinP K K')) (T + T') := by
  have h2 := h.sum
  have h2' := h'.sum
  have h3 : 0 < m := by have := h.m1; omega
  have J := join_facts K' K h.good h.ok (good_each h'.good h'.ok) (by omega)
  have h7 := keeph_sum m (ok_pos J.ok)
  exact ⟨keeph_good J.good, keeph_ok J.ok, keeph_idem h3 J.good, by have := J.sum; omega, hs, h.m1, h.m2⟩
/-- Of all that was added. -/
theorem Hgp.of {m : Int} {A : List PairV} (hg : GoodP A) (ho : ∀ p, p ∈ A → okP p) (hs : sumP A ≤ 9223372036854775807) (h1 : 1 ≤ m) (h2 : m ≤ 4096) : Hgp m (keepH m A) (sumP A) :=
  ⟨keeph_good hg, keeph_ok ho, keeph_idem (by omega) hg, (keeph_sum m (ok_pos ho)).2, hs, h1, h2⟩

/-- What adding tells; what is kept then, and how many there are in all. -/
def hgRow (m : Int) (K : List PairV) (T i c : Int) : List PairV := if lwErr T c = 0 then keepH m (addP K i c) else K

/-- Hw w B S m K T: at block B lies a highcap of m indexes that keeps K, of T in all; S are its blocks. -/
structure HighDoes (Hw : World → Nat → (Nat → Prop) → Int → List PairV → Int → Prop) : Prop where
  keep : ∀ (w w' : World) (B : Nat) (S : Nat → Prop) (m : Int) (K : List PairV) (T : Int), Hw w B S m K T → (∀ k, S k → w'.heap[k]? = w.heap[k]?) → Hw w' B S m K T
  lt : ∀ (w : World) (B : Nat) (S : Nat → Prop) (m : Int) (K : List PairV) (T : Int), Hw w B S m K T → ∀ k, S k → k < w.heap.size
  lwp : ∀ (w : World) (B : Nat) (S : Nat → Prop) (m : Int) (K : List PairV) (T : Int), Hw w B S m K T → Hgp m K T
  new : ∀ (w : World) (m : Int), 1 ≤ m → m ≤ 4096 → Calls Try.prog 10 #[.int .i64 m] w fun e w' => ∃ B S, e = .returned (.tuple #[.pointer (some ⟨B, 0, none⟩), .int .i64 0]) ∧ Hw w' B S m [] 0 ∧ (∀ k, S k → w.heap.size ≤ k) ∧ Below w.heap.size w w'
  bad : ∀ (w : World) (m : Int), I64 m → (m < 1 ∨ 4096 < m) → Calls Try.prog 10 #[.int .i64 m] w fun e w' => e = .returned (.tuple #[.pointer none, .int .i64 1]) ∧ Below w.heap.size w w'
  add : ∀ (w : World) (B : Nat) (S : Nat → Prop) (m : Int) (K : List PairV) (T i c : Int), Hw w B S m K T → K.length ≤ 700 → I64 i → Word c →
    Calls Try.prog 11 #[.pointer (some ⟨B, 0, none⟩), .int .i64 i, .int .u64 c] w fun e w' => ∃ S', e = .returned (.int .i64 (lwErr T c)) ∧ Hw w' B S' m (hgRow m K T i c) (lwSum T c) ∧ Keeps S w w' ∧ (∀ k, S' k → S k ∨ w.heap.size ≤ k)
  merge : ∀ (w : World) (B : Nat) (S : Nat → Prop) (m : Int) (K : List PairV) (T : Int) (B' : Nat) (S' : Nat → Prop) (K' : List PairV) (T' : Int), Hw w B S m K T → Hw w B' S' m K' T' → (B' = B ∨ ∀ k, S k → ¬ S' k) → K.length ≤ 300 → K'.length ≤ 300 → T + T' ≤ 9223372036854775807 →
    Calls Try.prog 29 #[.pointer (some ⟨B, 0, none⟩), .pointer (some ⟨B', 0, none⟩)] w fun e w' => ∃ S2, e = .returned (.int .i64 0) ∧ Hw w' B S2 m (keepH m (joinP K K')) (T + T') ∧ Keeps S w w' ∧ (∀ k, S2 k → S k ∨ w.heap.size ≤ k)
  other : ∀ (w : World) (B : Nat) (S : Nat → Prop) (m : Int) (K : List PairV) (T : Int) (B' : Nat) (S' : Nat → Prop) (m' : Int) (K' : List PairV) (T' : Int), Hw w B S m K T → Hw w B' S' m' K' T' → m ≠ m' →
    Calls Try.prog 29 #[.pointer (some ⟨B, 0, none⟩), .pointer (some ⟨B', 0, none⟩)] w fun e w' => e = .returned (.int .i64 8) ∧ Below w.heap.size w w'
  mnil : ∀ (w : World) (B : Nat) (S : Nat → Prop) (m : Int) (K : List PairV) (T : Int), Hw w B S m K T → Calls Try.prog 29 #[.pointer (some ⟨B, 0, none⟩), .pointer none] w fun e w' => e = .returned (.int .i64 2) ∧ Below w.heap.size w w'
  total : ∀ (w : World) (B : Nat) (S : Nat → Prop) (m : Int) (K : List PairV) (T : Int), Hw w B S m K T → K.length ≤ 700 →
    Calls Try.prog 18 #[.pointer (some ⟨B, 0, none⟩)] w fun e w' => e = .returned (.int .u64 T) ∧ Below w.heap.size w w'
  lost : ∀ (w : World) (B : Nat) (S : Nat → Prop) (m : Int) (K : List PairV) (T : Int), Hw w B S m K T →
    Calls Try.prog 16 #[.pointer (some ⟨B, 0, none⟩)] w fun e w' => e = .returned (.int .u64 (T - sumP K)) ∧ Below w.heap.size w w'
  pairs : ∀ (w : World) (B : Nat) (S : Nat → Prop) (m : Int) (K : List PairV) (T : Int), Hw w B S m K T → K.length ≤ 700 →
    Calls Try.prog 15 #[.pointer (some ⟨B, 0, none⟩)] w fun e w' => ∃ v, e = .returned v ∧ OwnP w' w.heap.size v K ∧ Below w.heap.size w w'
  at_ : ∀ (w : World) (B : Nat) (S : Nat → Prop) (m : Int) (K : List PairV) (T i : Int), Hw w B S m K T → K.length ≤ 700 → I64 i →
    Calls Try.prog 20 #[.pointer (some ⟨B, 0, none⟩), .int .i64 i] w fun e w' => e = .returned (.int .u64 (countP K i)) ∧ Below w.heap.size w w'
  most : ∀ (w : World) (B : Nat) (S : Nat → Prop) (m : Int) (K : List PairV) (T : Int), Hw w B S m K T →
    Calls Try.prog 22 #[.pointer (some ⟨B, 0, none⟩)] w fun e w' => e = .returned (.int .i64 m) ∧ Below w.heap.size w w'
  find : ∀ (w : World) (B : Nat) (S : Nat → Prop) (m : Int) (K : List PairV) (T t : Int), Hw w B S m K T → K.length ≤ 700 → Word t →
    Calls Try.prog 24 #[.pointer (some ⟨B, 0, none⟩), .int .u64 t] w fun e w' => e = .returned (.tuple #[.int .i64 ((findH K (T - sumP K) t).getD 0), .bool (findH K (T - sumP K) t).isSome]) ∧ Below w.heap.size w w'
  below : ∀ (w : World) (B : Nat) (S : Nat → Prop) (m : Int) (K : List PairV) (T i : Int), Hw w B S m K T → K.length ≤ 700 → I64 i →
    Calls Try.prog 26 #[.pointer (some ⟨B, 0, none⟩), .int .i64 i] w fun e w' => e = .returned (.tuple #[.int .u64 (lowBH m K (T - sumP K) i), .int .u64 (highBH m K (T - sumP K) i)]) ∧ Below w.heap.size w w'
  load : ∀ (w : World) (m : Int) (A : Option Addr) (cap : Nat) (L : List PairV) (l : Int), 1 ≤ m → m ≤ 4096 → Pairs w A L → L.length ≤ 300 → Word l → loadB m L l = true →
    Calls Try.prog 30 #[.int .i64 m, .slice A L.length cap, .int .u64 l] w fun e w' => ∃ B S, e = .returned (.tuple #[.pointer (some ⟨B, 0, none⟩), .int .i64 0]) ∧ Hw w' B S m L (sumP L + l) ∧ (∀ k, S k → w.heap.size ≤ k) ∧ Below w.heap.size w w'
  unfit : ∀ (w : World) (m : Int) (A : Option Addr) (cap : Nat) (L : List PairV) (l : Int), 1 ≤ m → m ≤ 4096 → Pairs w A L → L.length ≤ 300 → Word l → loadB m L l = false →
    Calls Try.prog 30 #[.int .i64 m, .slice A L.length cap, .int .u64 l] w fun e w' => e = .returned (.tuple #[.pointer none, .int .i64 1]) ∧ Below w.heap.size w w'
theorem HighDoes.call {Hw : World → Nat → (Nat → Prop) → Int → List PairV → Int → Prop} (D : HighDoes Hw) {w w' : World} {B : Nat} {S : Nat → Prop} {m : Int} {K : List PairV} {T : Int} (h : Hw w B S m K T) (hb : Below w.heap.size w w') : Hw w' B S m K T :=
  D.keep w w' B S m K T h fun k hk => hb.block k (D.lt _ _ _ _ _ _ h k hk)
theorem HighDoes.past {Hw : World → Nat → (Nat → Prop) → Int → List PairV → Int → Prop} (D : HighDoes Hw) {w w' : World} {B : Nat} {S S0 : Nat → Prop} {m : Int} {K : List PairV} {T : Int} (h : Hw w B S m K T) (hk : Keeps S0 w w') (hS : ∀ k, S k → ¬ S0 k) : Hw w' B S m K T :=
  D.keep w w' B S m K T h fun k hk' => hk.block k (D.lt _ _ _ _ _ _ h k hk') (hS k hk')

/-- A nil one. -/
structure HighNil : Prop where
  add : ∀ (w : World) (i c : Int), I64 i → Word c → Calls Try.prog 11 #[.pointer none, .int .i64 i, .int .u64 c] w fun e w' => e = .returned (.int .i64 2) ∧ Below w.heap.size w w'
  merge : ∀ (w : World), Calls Try.prog 29 #[.pointer none, .pointer none] w fun e w' => e = .returned (.int .i64 2) ∧ Below w.heap.size w w'
  total : ∀ (w : World), Calls Try.prog 18 #[.pointer none] w fun e w' => e = .returned (.int .u64 0) ∧ Below w.heap.size w w'
  lost : ∀ (w : World), Calls Try.prog 16 #[.pointer none] w fun e w' => e = .returned (.int .u64 0) ∧ Below w.heap.size w w'
  pairs : ∀ (w : World), Calls Try.prog 15 #[.pointer none] w fun e w' => ∃ A cap, e = .returned (.slice A 0 cap) ∧ Below w.heap.size w w'
  at_ : ∀ (w : World) (i : Int), I64 i → Calls Try.prog 20 #[.pointer none, .int .i64 i] w fun e w' => e = .returned (.int .u64 0) ∧ Below w.heap.size w w'
  most : ∀ (w : World), Calls Try.prog 22 #[.pointer none] w fun e w' => e = .returned (.int .i64 0) ∧ Below w.heap.size w w'
  find : ∀ (w : World) (t : Int), Word t → Calls Try.prog 24 #[.pointer none, .int .u64 t] w fun e w' => e = .returned (.tuple #[.int .i64 0, .bool false]) ∧ Below w.heap.size w w'
  below : ∀ (w : World) (i : Int), I64 i → Calls Try.prog 26 #[.pointer none, .int .i64 i] w fun e w' => e = .returned (.tuple #[.int .u64 0, .int .u64 0]) ∧ Below w.heap.size w w'
end Go.Proofs.Ytgbhlkeclfgacaa
