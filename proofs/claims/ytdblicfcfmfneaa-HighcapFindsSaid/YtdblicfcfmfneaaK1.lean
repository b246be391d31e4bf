/-
  Texts joined, in build order: HighC, QuillR, QuillU, QuillI, PairJ, RunsK, RunsI, PairW, Ref8, StripR, InsA, InsB, Plus, StripA, Grew, Cap.
-/
import Derived.Test.YtdblicfcfmfneaaK0
import Derived.Test.YtdblicfcfmfneaaRows
import Derived.WalkKit
import Derived.WalkSpells
import Derived.WalkLawsBesides
import Derived.WalkMore
import Derived.LoopTactic
import Derived.OneCell
import Derived.Lib.Strings
import Derived.Laws.BytesArg
import Derived.Laws.Concat
import Derived.Outline
import Derived.Deep.RegionHeld3
import Derived.Deep.Slices
import Derived.Deep.Fields
import Derived.SizedLaws
import Derived.Carry
import Derived.Deep.Onto
import Derived.Lib.AppendZerosOnto
import Derived.Lib.SliceRun
import Derived.Lib.Walk
import Derived.Laws.OwnMore
import Derived.Deep.CutRange
import Derived.Deep.RegionWith
import Derived.Deep.AppendLies
import Derived.Lib.JoinLaws
import Derived.Lib.Overlaps
import Derived.Lib.SmallJoins
import Derived.Laws.CopyRow
import Derived.Laws.NewBlocks
import Derived.Shelf.Spec.SlicesInsertGrow
import Derived.Deep.RegionLaw
import Derived.Deep.QuietTactic
import Derived.BigQuiet
import Derived.Sort.Grow
import Derived.Below
/-
  Plain mathematics of layer 10 (highcap): what is kept of a row, where so many indexes side by side are kept, the least ones.
  What package highcap is to do, said once (proved elsewhere of the code); a nil one.
-/
namespace Go.Proofs.Ytdblicfcfmfneaa
set_option linter.unusedVariables false
set_option linter.unusedSimpArgs false
open Go.RowKit

/-- The least index of a row. -/
def begP (L : List PairV) : Int := (firP L).1
/-- What is kept of a row. -/
def keepH (m : Int) (L : List PairV) : List PairV := lowP L (begP L + m)
theorem beg_cons (p : PairV) (r : List PairV) : begP (p :: r) = p.1 := rfl
theorem beg_mem {L : List PairV} (h : L ≠ []) : ∃ p, p ∈ L ∧ p.1 = begP L := by
  cases L with
  | nil => exact absurd rfl h
  | cons p r => exact ⟨p, by simp, rfl⟩
theorem beg_le {L : List PairV} (hg : GoodP L) : ∀ p, p ∈ L → begP L ≤ p.1 := by
  intro p hp
  cases L with
  | nil => cases hp
  | cons q r =>
    rcases List.mem_cons.1 hp with rfl | h
    · exact Int.le_refl _
    · have := (List.pairwise_cons.1 hg.2).1 p h; show q.1 ≤ p.1; omega
theorem beg_i64 {L : List PairV} (h : ∀ p, p ∈ L → okP p) : I64 (begP L) := fir_i64 h
theorem count_beg {L : List PairV} (hg : GoodP L) (h : L ≠ []) : 1 ≤ countP L (begP L) := by
  obtain ⟨p, hp, e⟩ := beg_mem h
  rw [← e]; exact mem_count hg hp
theorem count_ahead {L : List PairV} (hg : GoodP L) {j : Int} (h : j < begP L) : countP L j = 0 := by
  by_cases hc : countP L j = 0
  · exact hc
  · obtain ⟨p, hp, e⟩ := count_mem hc
    have := beg_le hg p hp; omega
/-- The beginning is told by the counts. -/
theorem beg_uniq {L : List PairV} (hg : GoodP L) {e : Int} (h1 : 1 ≤ countP L e) (h2 : ∀ j, j < e → countP L j = 0) : begP L = e := by
  obtain ⟨p, hp, he⟩ := count_mem (L := L) (j := e) (by omega)
  have hne : L ≠ [] := by rintro rfl; cases hp
  have h3 := beg_le hg p hp
  have h4 := count_beg hg hne
  rcases lt_or_geI (begP L) e with h | h
  · have := h2 _ h; omega
  · omega

theorem keeph_nil (m : Int) : keepH m [] = [] := rfl
theorem keeph_count (m : Int) (L : List PairV) (j : Int) : countP (keepH m L) j = if j < begP L + m then countP L j else 0 := count_low _ _ _
theorem keeph_mem {m : Int} {L : List PairV} {p : PairV} (h : p ∈ keepH m L) : p ∈ L ∧ p.1 < begP L + m := lowP_mem h
theorem keeph_good {m : Int} {L : List PairV} (h : GoodP L) : GoodP (keepH m L) := good_filter _ h
theorem keeph_ok {m : Int} {L : List PairV} (h : ∀ p, p ∈ L → okP p) : ∀ p, p ∈ keepH m L → okP p := fun p hp => h p (keeph_mem hp).1
theorem keeph_le (m : Int) (L : List PairV) : (keepH m L).length ≤ L.length := List.length_filter_le _ _
theorem keeph_ne {m : Int} {L : List PairV} (hm : 0 < m) (h : L ≠ []) : keepH m L ≠ [] := by
  obtain ⟨p, hp, e⟩ := beg_mem h
  have : p ∈ keepH m L := List.mem_filter.2 ⟨hp, by simp; omega⟩
  intro h0; rw [h0] at this; cases this
theorem keeph_beg {m : Int} {L : List PairV} (hm : 0 < m) (hg : GoodP L) (h : L ≠ []) : begP (keepH m L) = begP L := by
  refine beg_uniq (keeph_good hg) ?_ fun j hj => ?_
  · rw [keeph_count, if_pos (by omega)]; exact count_beg hg h
  · rw [keeph_count, if_pos (by omega)]; exact count_ahead hg hj
theorem keeph_idem {m : Int} {L : List PairV} (hm : 0 < m) (hg : GoodP L) : keepH m (keepH m L) = keepH m L := by
  by_cases h : L = []
  · subst h; rfl
  · refine good_ext (keeph_good (keeph_good hg)) (keeph_good hg) fun j => ?_
    rw [keeph_count, keeph_beg hm hg h, keeph_count]
    split <;> rfl
/-- Rows with the same beginning, and the same counts near it, keep the same. -/
theorem keeph_ext {m : Int} {L M : List PairV} (hL : GoodP L) (hM : GoodP M) (he : begP L = begP M) (hc : ∀ j, j < begP L + m → countP L j = countP M j) : keepH m L = keepH m M := by
  refine good_ext (keeph_good hL) (keeph_good hM) fun j => ?_
  rw [keeph_count, keeph_count, ← he]
  by_cases h : j < begP L + m
  · rw [if_pos h, if_pos h, hc j h]
  · rw [if_neg h, if_neg h]
theorem keeph_sum (m : Int) {L : List PairV} (h : ∀ p, p ∈ L → 0 ≤ p.2) : 0 ≤ sumP (keepH m L) ∧ sumP (keepH m L) ≤ sumP L := sumP_filter _ h
theorem keeph_len {m : Int} {L : List PairV} (hm : 0 ≤ m) (hg : GoodP L) : ((keepH m L).length : Int) ≤ m := by
  have := spread_len (keepH m L) (begP L - 1) (begP L + m - 1) (keeph_good hg) (by omega) fun p hp => ⟨by have := beg_le hg p (keeph_mem hp).1; omega, by have := (keeph_mem hp).2; omega⟩
  omega

/-- The beginning behind an addition. -/
theorem beg_add {L : List PairV} {i c : Int} (hg : GoodP L) (hn : countP L i + c ≤ 9223372036854775807) (hc : 0 < c) (h0 : 0 ≤ countP L i) : begP (addP L i c) = if L = [] then i else min (begP L) i := by
  have hC := count_add (L := L) (i := i) (c := c) (by omega)
  refine beg_uniq (add_good hg hn) ?_ fun j hj => ?_
  · rw [hC]
    by_cases h : L = []
    · subst h; rw [if_pos rfl, if_pos rfl]; have : countP [] i = 0 := rfl; omega
    · rw [if_neg h]
      rcases lt_or_geI i (begP L) with h1 | h1
      · rw [Int.min_eq_right (by omega), if_pos rfl]; omega
      · rw [Int.min_eq_left h1]; have := count_beg hg h; split <;> omega
  · rw [hC]
    by_cases h : L = []
    · subst h; rw [if_pos rfl] at hj; rw [if_neg (by omega)]; rfl
    · rw [if_neg h] at hj
      rw [count_ahead hg (by omega), if_neg (by omega)]; rfl
theorem keeph_cnt_le {m : Int} {L : List PairV} (hg : GoodP L) (i : Int) : countP (keepH m L) i ≤ countP L i := by
  rw [keeph_count]; have := cnt_pos hg i; split <;> omega
/-- What is added to what is kept is kept as it is of all. -/
theorem keeph_add {m : Int} {A : List PairV} {i c : Int} (hm : 0 < m) (hg : GoodP A) (hn : countP A i + c ≤ 9223372036854775807) (hc : 0 < c) : keepH m (addP (keepH m A) i c) = keepH m (addP A i c) := by
  by_cases h : A = []
  · subst h; rfl
  · have hk := keeph_cnt_le (m := m) hg i
    have h0 := cnt_pos hg i
    have h1 := cnt_pos (keeph_good (m := m) hg) i
    have e1 := beg_add (keeph_good (m := m) hg) (by omega) hc h1
    have e2 := beg_add hg hn hc h0
    rw [if_neg (keeph_ne hm h), keeph_beg hm hg h] at e1
    rw [if_neg h] at e2
    refine keeph_ext (add_good (keeph_good hg) (by omega)) (add_good hg hn) (e1.trans e2.symm) fun j hj => ?_
    rw [e1] at hj
    rw [count_add (by omega), count_add (by omega), keeph_count, if_pos (by omega)]
/-- Too far above the beginning: all stays as it was. -/
theorem keeph_far {m : Int} {K : List PairV} {i c : Int} (hm : 0 < m) (hg : GoodP K) (hk : keepH m K = K) (hn : countP K i + c ≤ 9223372036854775807) (hc : 0 < c) (hne : K ≠ []) (hf : begP K + m ≤ i) : keepH m (addP K i c) = K := by
  have h0 := cnt_pos hg i
  have e2 := beg_add hg hn hc h0
  rw [if_neg hne, Int.min_eq_left (by omega)] at e2
  refine Eq.trans (keeph_ext (add_good hg hn) hg e2 fun j hj => ?_) hk
  rw [e2] at hj
  rw [count_add (by omega), if_neg (by omega), Int.add_zero]
/-- Else what lies too far above goes, and the rest is added to. -/
theorem keeph_near {m : Int} {K : List PairV} {i c : Int} (hm : 0 < m) (hg : GoodP K) (hk : keepH m K = K) (hn : countP K i + c ≤ 9223372036854775807) (hc : 0 < c) (hf : K = [] ∨ i < begP K + m) : keepH m (addP K i c) = addP (lowP K (i + m)) i c := by
  have h0 := cnt_pos hg i
  have e2 := beg_add hg hn hc h0
  have hh : countP (lowP K (i + m)) i = countP K i := by rw [count_low, if_pos (by omega)]
  refine good_ext (keeph_good (add_good hg hn)) (add_good (good_filter _ hg) (by rw [hh]; exact hn)) fun j => ?_
  rw [keeph_count, e2, count_add (by omega), count_add (by rw [hh]; omega), count_low]
  by_cases h : K = []
  · subst h
    rw [if_pos rfl]
    have hz : countP [] j = 0 := rfl
    rw [hz]
    by_cases hj : j = i
    · subst hj; by_cases hx : j < j + m <;> simp [hx]; omega
    · by_cases hx : j < i + m <;> simp [hx, hj]
  · rw [if_neg h]
    have hf' : i < begP K + m := by rcases hf with h1 | h1; exact absurd h1 h; exact h1
    have hz : begP K + m ≤ j → countP K j = 0 := fun hj => by rw [← hk, keeph_count, if_neg (by omega)]
    rcases lt_or_geI i (begP K) with h1 | h1
    · rw [Int.min_eq_right (by omega)]
      by_cases hj : j < i + m
      · rw [if_pos hj, if_pos hj]
      · rw [if_neg hj, if_neg hj, if_neg (by omega)]; rfl
    · rw [Int.min_eq_left h1]
      by_cases hj : j < begP K + m
      · rw [if_pos hj, if_pos (show j < i + m by omega)]
      · have hz' := hz (by omega)
        rw [if_neg hj, hz', if_neg (show ¬ j = i by omega)]
        split <;> rfl
/-- Where the back of a good row goes. -/
theorem low_take {K : List PairV} {x : Int} {k : Nat} (hg : GoodP K) (h1 : ∀ p, p ∈ K.drop k → x ≤ p.1) (h2 : K.take k = [] ∨ (lasP (K.take k)).1 < x) : lowP K x = K.take k := by
  have e : lowP K x = lowP (K.take k ++ K.drop k) x := by rw [List.take_append_drop]
  rw [e]
  unfold lowP
  have hd : (K.drop k).filter (fun p => decide (p.1 < x)) = [] := List.filter_eq_nil_iff.2 (fun p hp => by have := h1 p hp; simp; omega)
  rw [List.filter_append, hd, List.append_nil, List.filter_eq_self]
  intro p hp
  rcases h2 with h | h
  · rw [h] at hp; cases hp
  · have := end_ge (good_take k hg) p hp
    have h' : endP (K.take k) < x := h
    simp; omega
theorem sum_low_take {K : List PairV} {k : Nat} : sumP K - sumP (K.take k) = sumP (K.drop k) := by
  have e := sumP_app (K.take k) (K.drop k)
  rw [List.take_append_drop] at e
  omega
/-- Merging what is kept is what is kept of all. -/
theorem keeph_join {m : Int} {A B : List PairV} (hm : 0 < m) (hA : GoodP A) (oA : ∀ p, p ∈ A → okP p) (hB : GoodP B) (oB : ∀ p, p ∈ B → okP p) (hs : sumP A + sumP B ≤ 9223372036854775807) : keepH m (joinP (keepH m A) (keepH m B)) = keepH m (joinP A B) := by
  have sA := keeph_sum m (ok_pos oA)
  have sB := keeph_sum m (ok_pos oB)
  have J1 := join_facts (keepH m B) (keepH m A) (keeph_good hA) (keeph_ok oA) (good_each (keeph_good hB) (keeph_ok oB)) (by omega)
  have J2 := join_facts B A hA oA (good_each hB oB) hs
  have hc0 : ∀ j, countP [] j = 0 := fun j => rfl
  by_cases eA : A = []
  · subst eA
    have e1 : joinP (keepH m []) (keepH m B) = keepH m B := good_ext J1.good (keeph_good hB) fun j => by rw [J1.cnt, keeph_nil, hc0, Int.zero_add]
    have e2 : joinP [] B = B := good_ext J2.good hB fun j => by rw [J2.cnt, hc0, Int.zero_add]
    rw [e1, e2, keeph_idem hm hB]
  · by_cases eB : B = []
    · subst eB
      rw [keeph_nil, join_nil, join_nil, keeph_idem hm hA]
    · have cA := count_beg hA eA
      have cB := count_beg hB eB
      have f1 : begP (joinP (keepH m A) (keepH m B)) = min (begP A) (begP B) := by
        refine beg_uniq J1.good ?_ fun j hj => ?_
        · rw [J1.cnt, keeph_count, keeph_count]
          rcases lt_or_geI (begP B) (begP A) with h | h
          · rw [Int.min_eq_right (by omega), if_pos (show begP B < begP B + m by omega)]
            have := cnt_pos hA (begP B); split <;> omega
          · rw [Int.min_eq_left h, if_pos (show begP A < begP A + m by omega)]
            have := cnt_pos hB (begP A); split <;> omega
        · rw [J1.cnt, keeph_count, keeph_count, count_ahead hA (by omega), count_ahead hB (by omega)]
          split <;> split <;> rfl
      have f2 : begP (joinP A B) = min (begP A) (begP B) := by
        refine beg_uniq J2.good ?_ fun j hj => ?_
        · rw [J2.cnt]
          rcases lt_or_geI (begP B) (begP A) with h | h
          · rw [Int.min_eq_right (by omega)]; have := cnt_pos hA (begP B); omega
          · rw [Int.min_eq_left h]; have := cnt_pos hB (begP A); omega
        · rw [J2.cnt, count_ahead hA (by omega), count_ahead hB (by omega)]; rfl
      refine keeph_ext J1.good J2.good (f1.trans f2.symm) fun j hj => ?_
      rw [f1] at hj
      rw [J1.cnt, J2.cnt, keeph_count, keeph_count, if_pos (by omega), if_pos (by omega)]

/-- The lost ones stand behind those that are kept. -/
theorem part_low {L : List PairV} (x : Int) (hg : GoodP L) : lowP L x ++ (L.filter fun p => decide (x ≤ p.1)) = L := by
  have hC : ∀ j, countP (L.filter fun p => decide (x ≤ p.1)) j = if x ≤ j then countP L j else 0 := by
    intro j
    unfold countP
    rw [List.filter_filter]
    by_cases h : x ≤ j
    · rw [if_pos h]; congr 1
      refine List.filter_congr fun p _ => ?_
      by_cases e : p.1 = j
      · subst e; simp [h]
      · simp [e]
    · rw [if_neg h, List.filter_eq_nil_iff.2]; rfl
      intro p _
      simp only [Bool.and_eq_true, decide_eq_true_eq, beq_iff_eq, not_and]
      intro e; omega
  refine good_ext (good_mk (good_filter _ hg) (good_filter _ hg) fun p hp q hq => ?_) hg fun j => ?_
  · have h1 := (List.mem_filter.1 hq).2
    have h2 := (lowP_mem hp).2
    simp at h1; omega
  · rw [countP_app, hC, count_low]
    by_cases h : x ≤ j
    · rw [if_pos h, if_neg (by omega), Int.zero_add]
    · rw [if_neg h, if_pos (by omega), Int.add_zero]
theorem seek_mem (t : Int) : ∀ (L : List PairV) (s x : Int), seekP t s L = some x → ∃ p, p ∈ L ∧ p.1 = x := by
  intro L
  induction L with
  | nil => intro s x h; cases h
  | cons p r ih =>
    intro s x h
    rw [seek_cons] at h
    split at h
    · exact ⟨p, by simp, Option.some.inj h⟩
    · obtain ⟨q, hq, e⟩ := ih _ x h
      exact ⟨q, List.mem_cons_of_mem _ hq, e⟩
/-- What Find of a highcap tells: of those that are kept alone. -/
def findH (K : List PairV) (l t : Int) : Option Int := findP K t
/-- .. is what is asked for of all, unless it is lost. -/
theorem find_keeph {m : Int} {A : List PairV} (hm : 0 < m) (hg : GoodP A) (t : Int) :
    findH (keepH m A) (sumP A - sumP (keepH m A)) t = match findP A t with | none => none | some x => if x - begP A < m then some x else none := by
  have hp := part_low (begP A + m) hg
  obtain ⟨D, hD⟩ : ∃ D, (A.filter fun p => decide (begP A + m ≤ p.1)) = D := ⟨_, rfl⟩
  have hDm : ∀ p, p ∈ D → begP A + m ≤ p.1 := fun p h => by rw [← hD] at h; have := (List.mem_filter.1 h).2; simpa using this
  rw [hD] at hp
  obtain ⟨K, hK⟩ : ∃ K, keepH m A = K := ⟨_, rfl⟩
  have hp' : K ++ D = A := by rw [← hK]; exact hp
  have hKm : ∀ p, p ∈ K → p.1 - begP A < m := fun p h => by rw [← hK] at h; have := (keeph_mem h).2; omega
  rw [hK]
  unfold findH findP
  by_cases h0 : 0 < t
  · rw [if_pos h0, if_pos h0]
    have e : seekP t 0 A = match seekP t 0 K with | some x => some x | none => seekP t (0 + sumP K) D := by rw [← hp']; exact seek_app t K D 0
    rw [e]
    cases hf : seekP t 0 K with
    | some x =>
      obtain ⟨p, hpm, e⟩ := seek_mem t K 0 x hf
      have := hKm p hpm
      show some x = if x - begP A < m then some x else none
      rw [if_pos (by omega)]
    | none =>
      show none = match seekP t (0 + sumP K) D with | none => none | some x => if x - begP A < m then some x else none
      cases hf2 : seekP t (0 + sumP K) D with
      | none => rfl
      | some x =>
        obtain ⟨p, hpm, e⟩ := seek_mem t D _ x hf2
        have := hDm p hpm
        show none = if x - begP A < m then some x else none
        rw [if_neg (by omega)]
  · rw [if_neg h0, if_neg h0]
/-- How many there are up to an index: at least, and at most. -/
def lowBH (m : Int) (K : List PairV) (l i : Int) : Int := belowP K i
def highBH (m : Int) (K : List PairV) (l i : Int) : Int := if K ≠ [] ∧ m ≤ i - begP K then belowP K i + l else belowP K i
theorem below_keeph {m : Int} {A : List PairV} (hm : 0 < m) (hg : GoodP A) (i : Int) :
    lowBH m (keepH m A) (sumP A - sumP (keepH m A)) i ≤ belowP A i ∧ belowP A i ≤ highBH m (keepH m A) (sumP A - sumP (keepH m A)) i ∧
    (lowBH m (keepH m A) (sumP A - sumP (keepH m A)) i = highBH m (keepH m A) (sumP A - sumP (keepH m A)) i ∨ (A ≠ [] ∧ 0 < sumP A - sumP (keepH m A))) := by
  have hp := part_low (begP A + m) hg
  obtain ⟨D, hD⟩ : ∃ D, (A.filter fun p => decide (begP A + m ≤ p.1)) = D := ⟨_, rfl⟩
  have hDm : ∀ p, p ∈ D → begP A + m ≤ p.1 := fun p h => by rw [← hD] at h; have := (List.mem_filter.1 h).2; simpa using this
  have hDq : ∀ p, p ∈ D → 0 ≤ p.2 := fun p h => by rw [← hD] at h; have := hg.1 p (List.mem_filter.1 h).1; omega
  have hDp : 0 ≤ sumP D := sumP_pos hDq
  rw [hD] at hp
  by_cases h : A = []
  · subst h
    have e : (keepH m [] : List PairV) = [] := rfl
    rw [e]
    unfold lowBH highBH
    simp [belowP, sumP]
  have hen := keeph_beg hm hg h
  have hkn := keeph_ne hm h
  obtain ⟨K, hK⟩ : ∃ K, keepH m A = K := ⟨_, rfl⟩
  have hp' : K ++ D = A := by rw [← hK]; exact hp
  have hs : sumP A - sumP K = sumP D := by have := sumP_app K D; rw [hp'] at this; omega
  have hb : belowP A i = belowP K i + belowP D i := by rw [← hp']; exact below_app K D i
  rw [hK] at hen hkn ⊢
  rw [hs]
  have hb1 := below_le (L := D) i hDq
  have hb0 : 0 ≤ belowP D i := (sumP_filter _ hDq).1
  unfold lowBH highBH
  by_cases hc : m ≤ i - begP K
  · rw [if_pos ⟨hkn, hc⟩]
    refine ⟨by omega, by omega, ?_⟩
    by_cases hz' : sumP D = 0
    · exact Or.inl (by omega)
    · exact Or.inr ⟨h, by omega⟩
  · rw [if_neg (fun h => hc h.2)]
    have hz : belowP D i = 0 := by
      unfold belowP
      rw [List.filter_eq_nil_iff.2 (fun p hp => by have := hDm p hp; simp; omega)]; rfl
    exact ⟨by omega, by omega, Or.inl rfl⟩

/-- What a highcap of m indexes can keep, T being all that was added. -/
structure Hgp (m : Int) (K : List PairV) (T : Int) : Prop where
  good : GoodP K
  ok : ∀ p, p ∈ K → okP p
  kept : keepH m K = K
  sum : sumP K ≤ T
  top : T ≤ 9223372036854775807
  m1 : 1 ≤ m
  m2 : m ≤ 4096
theorem Hgp.pos {m : Int} {K : List PairV} {T : Int} (h : Hgp m K T) : 0 ≤ sumP K := sumP_pos (ok_pos h.ok)
theorem Hgp.nil {m : Int} (h1 : 1 ≤ m) (h2 : m ≤ 4096) : Hgp m [] 0 := ⟨good_nil, fun p h => (by cases h), rfl, Int.le_refl _, by decide, h1, h2⟩
theorem Hgp.cnt {m : Int} {K : List PairV} {T : Int} (h : Hgp m K T) (i : Int) : 0 ≤ countP K i ∧ countP K i ≤ sumP K := count_le_sum i (ok_pos h.ok)
theorem Hgp.stp {m : Int} {K : List PairV} {T : Int} (h : Hgp m K T) : Stp m K :=
  ⟨h.good, h.ok, Int.le_trans h.sum h.top, by have := keeph_len (m := m) (by have := h.m1; omega) h.good; rw [h.kept] at this; exact this⟩
theorem Hgp.add {m : Int} {K : List PairV} {T i c : Int} (h : Hgp m K T) (hi : I64 i) (hc : 0 < c) (hs : T + c ≤ 9223372036854775807) : Hgp m (keepH m (addP K i c)) (T + c) := by
  have h1 := h.cnt i
  have h2 := h.sum
  have h3 : 0 < m := by have := h.m1; omega
  have h4 := add_good h.good (i := i) (c := c) (by omega)
  have h5 := add_ok h.ok hi (c := c) (by omega)
  have h6 := add_sum (L := K) (i := i) (c := c) (by omega)
  have h7 := keeph_sum m (ok_pos h5)
  exact ⟨keeph_good h4, keeph_ok h5, keeph_idem h3 h4, by omega, hs, h.m1, h.m2⟩
theorem Hgp.join {m : Int} {K K' : List PairV} {T T' : Int} (h : Hgp m K T) (h' : Hgp m K' T') (hs : T + T' ≤ 9223372036854775807) : Hgp m (keepH m (joinP K K')) (T + T') := by
  have h2 := h.sum
  have h2' := h'.sum
  have h3 : 0 < m := by have := h.m1; omega
  have J := join_facts K' K h.good h.ok (good_each h'.good h'.ok) (by omega)
  have h7 := keeph_sum m (ok_pos J.ok)
  exact ⟨keeph_good J.good, keeph_ok J.ok, keeph_idem h3 J.good, by have := J.sum; omega, hs, h.m1, h.m2⟩
/-- Of all that was added. -/
theorem Hgp.of {m : Int} {A : List PairV} (hg : GoodP A) (ho : ∀ p, p ∈ A → okP p) (hs : sumP A ≤ 9223372036854775807) (h1 : 1 ≤ m) (h2 : m ≤ 4096) : Hgp m (keepH m A) (sumP A) :=
  ⟨keeph_good hg, keeph_ok ho, keeph_idem (by omega) hg, (keeph_sum m (ok_pos ho)).2, hs, h1, h2⟩

/-- What adding tells; what is kept then, and how many there are in all. -/
def hgRow (m : Int) (K : List PairV) (T i c : Int) : List PairV := if lwErr T c = 0 then keepH m (addP K i c) else K

/-- Hw w B S m K T: at block B lies a highcap of m indexes that keeps K, of T in all; S are its blocks. -/
structure HighDoes (Hw : World → Nat → (Nat → Prop) → Int → List PairV → Int → Prop) : Prop where
  keep : ∀ (w w' : World) (B : Nat) (S : Nat → Prop) (m : Int) (K : List PairV) (T : Int), Hw w B S m K T → (∀ k, S k → w'.heap[k]? = w.heap[k]?) → Hw w' B S m K T
  lt : ∀ (w : World) (B : Nat) (S : Nat → Prop) (m : Int) (K : List PairV) (T : Int), Hw w B S m K T → ∀ k, S k → k < w.heap.size
  lwp : ∀ (w : World) (B : Nat) (S : Nat → Prop) (m : Int) (K : List PairV) (T : Int), Hw w B S m K T → Hgp m K T
  new : ∀ (w : World) (m : Int), 1 ≤ m → m ≤ 4096 → Calls Try.prog 10 #[.int .i64 m] w fun e w' => ∃ B S, e = .returned (.tuple #[.pointer (some ⟨B, 0, none⟩), .int .i64 0]) ∧ Hw w' B S m [] 0 ∧ (∀ k, S k → w.heap.size ≤ k) ∧ Below w.heap.size w w'
  bad : ∀ (w : World) (m : Int), I64 m → (m < 1 ∨ 4096 < m) → Calls Try.prog 10 #[.int .i64 m] w fun e w' => e = .returned (.tuple #[.pointer none, .int .i64 1]) ∧ Below w.heap.size w w'
  add : ∀ (w : World) (B : Nat) (S : Nat → Prop) (m : Int) (K : List PairV) (T i c : Int), Hw w B S m K T → K.length ≤ 700 → I64 i → Word c →
    Calls Try.prog 11 #[.pointer (some ⟨B, 0, none⟩), .int .i64 i, .int .u64 c] w fun e w' => ∃ S', e = .returned (.int .i64 (lwErr T c)) ∧ Hw w' B S' m (hgRow m K T i c) (lwSum T c) ∧ Keeps S w w' ∧ (∀ k, S' k → S k ∨ w.heap.size ≤ k)
  merge : ∀ (w : World) (B : Nat) (S : Nat → Prop) (m : Int) (K : List PairV) (T : Int) (B' : Nat) (S' : Nat → Prop) (K' : List PairV) (T' : Int), Hw w B S m K T → Hw w B' S' m K' T' → (B' = B ∨ ∀ k, S k → ¬ S' k) → K.length ≤ 300 → K'.length ≤ 300 → T + T' ≤ 9223372036854775807 →
    Calls Try.prog 29 #[.pointer (some ⟨B, 0, none⟩), .pointer (some ⟨B', 0, none⟩)] w fun e w' => ∃ S2, e = .returned (.int .i64 0) ∧ Hw w' B S2 m (keepH m (joinP K K')) (T + T') ∧ Keeps S w w' ∧ (∀ k, S2 k → S k ∨ w.heap.size ≤ k)
  other : ∀ (w : World) (B : Nat) (S : Nat → Prop) (m : Int) (K : List PairV) (T : Int) (B' : Nat) (S' : Nat → Prop) (m' : Int) (K' : List PairV) (T' : Int), Hw w B S m K T → Hw w B' S' m' K' T' → m ≠ m' →
    Calls Try.prog 29 #[.pointer (some ⟨B, 0, none⟩), .pointer (some ⟨B', 0, none⟩)] w fun e w' => e = .returned (.int .i64 8) ∧ Below w.heap.size w w'
  mnil : ∀ (w : World) (B : Nat) (S : Nat → Prop) (m : Int) (K : List PairV) (T : Int), Hw w B S m K T → Calls Try.prog 29 #[.pointer (some ⟨B, 0, none⟩), .pointer none] w fun e w' => e = .returned (.int .i64 2) ∧ Below w.heap.size w w'
  total : ∀ (w : World) (B : Nat) (S : Nat → Prop) (m : Int) (K : List PairV) (T : Int), Hw w B S m K T → K.length ≤ 700 →
    Calls Try.prog 18 #[.pointer (some ⟨B, 0, none⟩)] w fun e w' => e = .returned (.int .u64 T) ∧ Below w.heap.size w w'
  lost : ∀ (w : World) (B : Nat) (S : Nat → Prop) (m : Int) (K : List PairV) (T : Int), Hw w B S m K T →
    Calls Try.prog 16 #[.pointer (some ⟨B, 0, none⟩)] w fun e w' => e = .returned (.int .u64 (T - sumP K)) ∧ Below w.heap.size w w'
  pairs : ∀ (w : World) (B : Nat) (S : Nat → Prop) (m : Int) (K : List PairV) (T : Int), Hw w B S m K T → K.length ≤ 700 →
    Calls Try.prog 15 #[.pointer (some ⟨B, 0, none⟩)] w fun e w' => ∃ v, e = .returned v ∧ OwnP w' w.heap.size v K ∧ Below w.heap.size w w'
  at_ : ∀ (w : World) (B : Nat) (S : Nat → Prop) (m : Int) (K : List PairV) (T i : Int), Hw w B S m K T → K.length ≤ 700 → I64 i →
    Calls Try.prog 20 #[.pointer (some ⟨B, 0, none⟩), .int .i64 i] w fun e w' => e = .returned (.int .u64 (countP K i)) ∧ Below w.heap.size w w'
  most : ∀ (w : World) (B : Nat) (S : Nat → Prop) (m : Int) (K : List PairV) (T : Int), Hw w B S m K T →
    Calls Try.prog 22 #[.pointer (some ⟨B, 0, none⟩)] w fun e w' => e = .returned (.int .i64 m) ∧ Below w.heap.size w w'
  find : ∀ (w : World) (B : Nat) (S : Nat → Prop) (m : Int) (K : List PairV) (T t : Int), Hw w B S m K T → K.length ≤ 700 → Word t →
    Calls Try.prog 24 #[.pointer (some ⟨B, 0, none⟩), .int .u64 t] w fun e w' => e = .returned (.tuple #[.int .i64 ((findH K (T - sumP K) t).getD 0), .bool (findH K (T - sumP K) t).isSome]) ∧ Below w.heap.size w w'
  below : ∀ (w : World) (B : Nat) (S : Nat → Prop) (m : Int) (K : List PairV) (T i : Int), Hw w B S m K T → K.length ≤ 700 → I64 i →
    Calls Try.prog 26 #[.pointer (some ⟨B, 0, none⟩), .int .i64 i] w fun e w' => e = .returned (.tuple #[.int .u64 (lowBH m K (T - sumP K) i), .int .u64 (highBH m K (T - sumP K) i)]) ∧ Below w.heap.size w w'
  load : ∀ (w : World) (m : Int) (A : Option Addr) (cap : Nat) (L : List PairV) (l : Int), 1 ≤ m → m ≤ 4096 → Pairs w A L → L.length ≤ 300 → Word l → loadB m L l = true →
    Calls Try.prog 30 #[.int .i64 m, .slice A L.length cap, .int .u64 l] w fun e w' => ∃ B S, e = .returned (.tuple #[.pointer (some ⟨B, 0, none⟩), .int .i64 0]) ∧ Hw w' B S m L (sumP L + l) ∧ (∀ k, S k → w.heap.size ≤ k) ∧ Below w.heap.size w w'
  unfit : ∀ (w : World) (m : Int) (A : Option Addr) (cap : Nat) (L : List PairV) (l : Int), 1 ≤ m → m ≤ 4096 → Pairs w A L → L.length ≤ 300 → Word l → loadB m L l = false →
    Calls Try.prog 30 #[.int .i64 m, .slice A L.length cap, .int .u64 l] w fun e w' => e = .returned (.tuple #[.pointer none, .int .i64 1]) ∧ Below w.heap.size w w'
theorem HighDoes.call {Hw : World → Nat → (Nat → Prop) → Int → List PairV → Int → Prop} (D : HighDoes Hw) {w w' : World} {B : Nat} {S : Nat → Prop} {m : Int} {K : List PairV} {T : Int} (h : Hw w B S m K T) (hb : Below w.heap.size w w') : Hw w' B S m K T :=
  D.keep w w' B S m K T h fun k hk => hb.block k (D.lt _ _ _ _ _ _ h k hk)
theorem HighDoes.past {Hw : World → Nat → (Nat → Prop) → Int → List PairV → Int → Prop} (D : HighDoes Hw) {w w' : World} {B : Nat} {S S0 : Nat → Prop} {m : Int} {K : List PairV} {T : Int} (h : Hw w B S m K T) (hk : Keeps S0 w w') (hS : ∀ k, S k → ¬ S0 k) : Hw w' B S m K T :=
  D.keep w w' B S m K T h fun k hk' => hk.block k (D.lt _ _ _ _ _ _ h k hk') (hS k hk')

/-- A nil one. -/
structure HighNil : Prop where
  add : ∀ (w : World) (i c : Int), I64 i → Word c → Calls Try.prog 11 #[.pointer none, .int .i64 i, .int .u64 c] w fun e w' => e = .returned (.int .i64 2) ∧ Below w.heap.size w w'
  merge : ∀ (w : World), Calls Try.prog 29 #[.pointer none, .pointer none] w fun e w' => e = .returned (.int .i64 2) ∧ Below w.heap.size w w'
  total : ∀ (w : World), Calls Try.prog 18 #[.pointer none] w fun e w' => e = .returned (.int .u64 0) ∧ Below w.heap.size w w'
  lost : ∀ (w : World), Calls Try.prog 16 #[.pointer none] w fun e w' => e = .returned (.int .u64 0) ∧ Below w.heap.size w w'
  pairs : ∀ (w : World), Calls Try.prog 15 #[.pointer none] w fun e w' => ∃ A cap, e = .returned (.slice A 0 cap) ∧ Below w.heap.size w w'
  at_ : ∀ (w : World) (i : Int), I64 i → Calls Try.prog 20 #[.pointer none, .int .i64 i] w fun e w' => e = .returned (.int .u64 0) ∧ Below w.heap.size w w'
  most : ∀ (w : World), Calls Try.prog 22 #[.pointer none] w fun e w' => e = .returned (.int .i64 0) ∧ Below w.heap.size w w'
  find : ∀ (w : World) (t : Int), Word t → Calls Try.prog 24 #[.pointer none, .int .u64 t] w fun e w' => e = .returned (.tuple #[.int .i64 0, .bool false]) ∧ Below w.heap.size w w'
  below : ∀ (w : World) (i : Int), I64 i → Calls Try.prog 26 #[.pointer none, .int .i64 i] w fun e w' => e = .returned (.tuple #[.int .u64 0, .int .u64 0]) ∧ Below w.heap.size w w'
end Go.Proofs.Ytdblicfcfmfneaa

/-
  Plain mathematics of the reference's way to read a number: no program in sight.
  Walks: the reference's bytes of numbers and of values.
-/
namespace Go.Proofs.Ytdblicfcfmfneaa
set_option linter.unusedVariables false
set_option linter.unusedSimpArgs false

/-- The reference's way: from the last byte to the first one. -/
def hor (l : List UInt8) (j t : Nat) : Nat := valL ((l.take (j + 1)).drop t) % 18446744073709551616
theorem hor_start {l : List UInt8} {j : Nat} (h : j < l.length) : hor l j (j + 1) = 0 := by
  unfold hor; rw [List.drop_of_length_le (by rw [List.length_take]; omega)]; rfl
theorem hor_step {l : List UInt8} {j t : Nat} {b : UInt8} (ht : t ≤ j) (h : l[t]? = some b) : hor l j t = (hor l j (t + 1) * 128 + b.toNat % 128) % 18446744073709551616 := by
  have ht' := lt_of_some h
  have e : (l.take (j + 1)).drop t = b :: (l.take (j + 1)).drop (t + 1) := by
    rw [List.drop_eq_getElem_cons (by rw [List.length_take]; omega)]
    congr 1
    rw [List.getElem_take]
    rw [List.getElem?_eq_getElem ht'] at h
    exact Option.some.inj h
  unfold hor
  rw [e]
  show (b.toNat % 128 + 128 * valL ((l.take (j + 1)).drop (t + 1))) % 18446744073709551616 = _
  omega
theorem hor_end (l : List UInt8) (j : Nat) : hor l j 0 = valL (l.take (j + 1)) % 18446744073709551616 := by unfold hor; rw [List.drop_zero]
theorem hor_lt (l : List UInt8) (j t : Nat) : hor l j t < 18446744073709551616 := Nat.mod_lt _ (by decide)
/-- What the reference tells at the first byte that ends. -/
theorem tak_at {l : List UInt8} {j : Nat} {b : UInt8} {most : Nat} (hj : j < 10) (h1 : (l.take j).all hiB = true) (h2 : l[j]? = some b) (h3 : hiB b = false) :
    takS l most = if natB (hor l j 0) = l.take (j + 1) ∧ hor l j 0 ≤ most then (hor l j 0, j + 1) else (0, 0) := by
  have e := take_some h2
  have hlen : (l.take j).length = j := by rw [List.length_take]; have := lt_of_some h2; omega
  have hi := natB_iff h1 h3
  have hF := firstS_at h1 h2 h3
  rw [← e, hlen] at hi
  rw [hor_end]
  by_cases hc : natB (valL (l.take (j + 1)) % 18446744073709551616) = l.take (j + 1)
  · have hv := hi.1 hc
    have hm : valL (l.take (j + 1)) % 18446744073709551616 = valL (l.take (j + 1)) := Nat.mod_eq_of_lt hv.1
    rw [if_pos ⟨hj, hv.1, hv.2⟩] at hF
    rw [hm] at hc ⊢
    unfold takS
    rw [hF]
    by_cases hle : valL (l.take (j + 1)) ≤ most
    · rw [if_neg (by simp only []; omega), if_pos ⟨hc, hle⟩]
    · rw [if_pos (Or.inr (by simp only []; omega)), if_neg (fun h => hle h.2)]
  · have hn : ¬ (j < 10 ∧ valL (l.take (j + 1)) < 18446744073709551616 ∧ (j = 0 ∨ b.toNat ≠ 0)) := fun h => hc (hi.2 h.2)
    rw [if_neg hn] at hF
    unfold takS
    rw [hF, if_pos (Or.inl rfl), if_neg (fun h => hc h.1)]
theorem tak_none {l : List UInt8} {most : Nat} (h : firstS l = (0, 0)) : takS l most = (0, 0) := by
  unfold takS; rw [h, if_pos (Or.inl rfl)]
end Go.Proofs.Ytdblicfcfmfneaa

namespace Go.Proofs.Ytdblicfcfmfneaa
set_option linter.unusedVariables false
set_option linter.unusedSimpArgs false
open Go.RowKit

theorem byte_atA' (s : ByteArray) (k : Nat) (h : k < s.size) : s.data.toList[k]? = some (s[k]'h) := by
  obtain ⟨⟨l⟩⟩ := s
  exact List.getElem?_eq_getElem h

end Go.Proofs.Ytdblicfcfmfneaa
/-
  Walks: what the laws of quill ask first; small numbers.
  The law QuillSmall, walked.
  The law QuillNumbers, walked.
-/
namespace Go.Proofs.Ytdblicfcfmfneaa
set_option linter.unusedVariables false
set_option linter.unusedSimpArgs false
open Go.RowKit

theorem eye_sz {w w' : World} {B : Nat} (h : w.grownBy w' (some B)) : w.heap.size ≤ w'.heap.size := h.size
theorem grown_below' {n B : Nat} {a w w' : World} (h : Below n a w) (hg : w.grownBy w' (some B)) (hn : n ≤ B) (hs : n ≤ w.heap.size) : Below n a w' := h.trans (grown_below hg hn hs)

end Go.Proofs.Ytdblicfcfmfneaa

namespace Go.Proofs.Ytdblicfcfmfneaa
set_option linter.unusedVariables false
set_option linter.unusedSimpArgs false
open Go.RowKit

theorem mk_toList (l : List UInt8) : (⟨l.toArray⟩ : ByteArray).data.toList = l := rfl
theorem mk_size (l : List UInt8) : (⟨l.toArray⟩ : ByteArray).size = l.length := by rw [Lib.size_eq]
theorem ext_size (s : ByteArray) (a : Nat) : (s.extract a s.size).size = s.size - a := by
  rw [Lib.size_eq, ← Lib.toList_data, Lib.extract_toList, Lib.size_eq, List.length_take, List.length_drop]; omega
theorem below_eye {n : Nat} {a w w' : World} {B : Nat} (h : Below n a w) (hg : w.grownBy w' (some B)) (hB : n ≤ B) (hs : n ≤ w.heap.size) : Below n a w' := h.trans (grown_below hg hB hs)

end Go.Proofs.Ytdblicfcfmfneaa

namespace Go.Proofs.Ytdblicfcfmfneaa
set_option linter.unusedVariables false
set_option linter.unusedSimpArgs false
open Go.RowKit

theorem ext_list (s : ByteArray) (a : Nat) : (s.extract a s.size).data.toList = s.data.toList.drop a := by
  rw [← Lib.toList_data, Lib.extract_toList, Lib.size_eq, List.take_of_length_le (by rw [List.length_drop]; omega)]
/-- An eye on a number's bytes, and more. -/
theorem eye_got {t : ByteArray} {n m : Nat} {r : List UInt8} (hn : n < 18446744073709551616) (hm : n ≤ m) (ht : t.data.toList = natB n ++ r) :
    gone t false m = false ∧ nV t false m = n ∧ (nS t false m).data.toList = r := by
  have K := takS_nat hn hm r
  rw [← ht] at K
  have hp := natB_pos n
  have G : gone t false m = false := by unfold gone; rw [K]; show (false || decide ((natB n).length = 0)) = false; rw [decide_eq_false (by omega)]; rfl
  refine ⟨G, by unfold nV; rw [G, K]; rfl, ?_⟩
  unfold nS; rw [G, K]
  show (t.extract (natB n).length t.size).data.toList = r
  rw [ext_list, ht, List.drop_left]
/-- What the reference tells, and what an eye tells. -/
theorem eye_tak (t : ByteArray) (m a k : Nat) (h : takS t.data.toList m = (a, k)) : nV t false m = a ∧ gone t false m = ((k : Int) == 0) := by
  have G : gone t false m = decide (k = 0) := by unfold gone; rw [h]; rfl
  refine ⟨?_, ?_⟩
  · unfold nV; rw [G, h]
    by_cases hk : k = 0
    · have := takS_zero (l := t.data.toList) (m := m) (by rw [h]; exact hk)
      rw [h] at this
      have ha : a = 0 := this
      simp [hk, ha]
    · simp [hk]
  · rw [G]; by_cases hk : k = 0 <;> simp [hk]

end Go.Proofs.Ytdblicfcfmfneaa
/-
  Rows of things that are written: in memory, as an argument; walks: whether they are more than is played.
-/
namespace Go.Proofs.Ytdblicfcfmfneaa
set_option linter.unusedVariables false
set_option linter.unusedSimpArgs false
open Go.RowKit

/-- A thing that is written. -/
structure ItemV where
  kind : Int
  u : Int
  x : Int
  s : ByteArray
structure ItemV.ok (it : ItemV) : Prop where
  kind : I64 it.kind
  u : Word it.u
  x : I64 it.x
  s : it.s.size ≤ 140737488351232
/-- A row of them in memory. -/
structure Items (w : World) (A : Option Addr) (L : List ItemV) : Prop where
  ok : ∀ it, it ∈ L → it.ok
  at_ : ∀ (i : Nat) (it : ItemV), L[i]? = some it → ∃ b off, A = some ⟨b, off, none⟩ ∧ b < w.heap.size ∧ w.cell? ⟨b, off + i * 4, none⟩ = some (.int .i64 it.kind) ∧
    w.cell? ⟨b, off + i * 4 + 1, none⟩ = some (.int .u64 it.u) ∧ w.cell? ⟨b, off + i * 4 + 2, none⟩ = some (.int .i64 it.x) ∧ w.cell? ⟨b, off + i * 4 + 3, none⟩ = some (.string it.s)
theorem Items.call {w w' : World} {A : Option Addr} {L : List ItemV} (h : Items w A L) (hb : Below w.heap.size w w') : Items w' A L :=
  ⟨h.ok, fun i it hi => by
    obtain ⟨b, off, hA, hlt, c0, c1, c2, c3⟩ := h.at_ i it hi
    exact ⟨b, off, hA, Nat.lt_of_lt_of_le hlt hb.size, cell_later hb c0, cell_later hb c1, cell_later hb c2, cell_later hb c3⟩⟩
/-- How many bytes their texts have; whether that is too many. -/
def tot (L : List ItemV) : Nat := (L.map fun it => it.s.size).sum
def greatB (L : List ItemV) : Bool := decide (4096 < tot L) || decide (60 < L.length)
theorem tot_snoc {L : List ItemV} {k : Nat} {it : ItemV} (h : L[k]? = some it) : tot (L.take (k + 1)) = tot (L.take k) + it.s.size := by
  have hk : k < L.length := by
    rcases Nat.lt_or_ge k L.length with h' | h'
    · exact h'
    · rw [List.getElem?_eq_none h'] at h; cases h
  rw [List.take_succ_eq_append_getElem hk]
  rw [List.getElem?_eq_getElem hk] at h
  rw [Option.some.inj h]
  unfold tot
  rw [List.map_append, List.sum_append]; simp
theorem tot_le (L : List ItemV) (k : Nat) : tot (L.take k) ≤ tot L := by
  have : tot L = tot (L.take k) + tot (L.drop k) := by
    unfold tot
    rw [← List.sum_append, ← List.map_append, List.take_append_drop]
  omega

theorem two_blocks (w : World) (o o' : Obj) : ((w.alloc o).alloc o').heap[w.heap.size]? = some o ∧ ((w.alloc o).alloc o').heap[w.heap.size + 1]? = some o' := by
  constructor
  · rw [heap_alloc_old _ _ (by simp)]; exact heap_alloc_new _ _
  · have := heap_alloc_new (w.alloc o) o'
    simpa using this

end Go.Proofs.Ytdblicfcfmfneaa
/-
  Walks: the reference's Bytes of rows of pairs.
  What package runs is to do, said once (each is proved elsewhere of the code); what the laws of runs ask first.
  Rows of rows of pairs: plain, in memory, appended to.
-/
namespace Go.Proofs.Ytdblicfcfmfneaa
set_option linter.unusedVariables false
set_option linter.unusedSimpArgs false
open Go.RowKit

end Go.Proofs.Ytdblicfcfmfneaa

namespace Go.Proofs.Ytdblicfcfmfneaa
set_option linter.unusedVariables false
set_option linter.unusedSimpArgs false
open Go.RowKit

def GoodDoes : Prop := ∀ (w : World) (A : Option Addr) (cap : Nat) (L : List PairV) (most : Int) (b : Bool), Pairs w A L → L.length ≤ 1000 → I64 most → (goodB L && decide ((L.length : Int) ≤ most)) = b →
  Calls Try.prog 53 #[.slice A L.length cap, .int .i64 most] w fun e w' => e = .returned (.bool b) ∧ Below w.heap.size w w'

def TotalDoes : Prop := ∀ (w : World) (A : Option Addr) (cap : Nat) (L : List PairV) (n : Int) (b : Bool), Pairs w A L → L.length ≤ 1000 → totalP L = n → fitsB L = b →
  Calls Try.prog 50 #[.slice A L.length cap] w fun e w' => e = .returned (.tuple #[.int .u64 n, .bool b]) ∧ Below w.heap.size w w'

/-- Where an index stands, or would; whether it does. -/
def isP (L : List PairV) (i : Int) : Bool := L.any fun p => p.1 == i

def FindDoes : Prop := ∀ (w : World) (A : Option Addr) (cap : Nat) (L : List PairV) (i : Int) (n : Nat) (b : Bool), Pairs w A L → L.length ≤ 1000 → GoodP L → I64 i → (lowP L i).length = n → isP L i = b →
  Calls Try.prog 49 #[.slice A L.length cap, .int .i64 i] w fun e w' => e = .returned (.tuple #[.int .i64 n, .bool b]) ∧ Below w.heap.size w w'

/-- What adding to a row of one's own comes to. -/
def Added (w : World) (base : Nat) (v : Value) (L : List PairV) (i c : Int) (e : Ending) (w' : World) : Prop :=
  ∃ v', e = .returned v' ∧ OwnP w' base v' (addP L i c) ∧ w.grownBy w' v.ownBlock ∧ (v'.ownBlock = v.ownBlock ∨ ∀ g, v'.ownBlock = some g → w.heap.size ≤ g)

/-- A text that begins with a row's bytes. -/
def RowOf (s : List UInt8) (most : Int) (L : List PairV) (rest : List UInt8) : Prop := GoodP L ∧ (∀ p, p ∈ L → okP p) ∧ (L.length : Int) ≤ most ∧ s = rowB L ++ rest
/-- What getting a row comes to. -/
def Gets (w : World) (B : Nat) (s : ByteArray) (bad : Bool) (most : Int) (e : Ending) (w' : World) : Prop :=
  w.grownBy w' (some B) ∧
  ((∃ (v : Value) (L : List PairV) (t : ByteArray), e = .returned v ∧ bad = false ∧ RowOf s.data.toList (max most 0) L t.data.toList ∧ OwnP w' w.heap.size v L ∧ Eye w' B t false) ∨
   (∃ (A : Option Addr) (cap : Nat), e = .returned (.slice A 0 cap) ∧ (bad = true ∨ ∀ L t, ¬ RowOf s.data.toList most L t) ∧ Eye w' B ⟨#[]⟩ true))

theorem row_alive : rowB [(-1, 5), (3, 1)] = [2, 1, 5, 3, 1] := by
  have e : ∀ n, n < 128 → natB n = [UInt8.ofNat n] := fun n h => natB_lt h
  show natB 2 ++ (natB (zig (-1)).toNat ++ (natB (5 : Int).toNat ++ (natB (farP (-1) 3) ++ (natB (1 : Int).toNat ++ [])))) = _
  rw [show (zig (-1)).toNat = 1 from rfl, show farP (-1) 3 = 3 from rfl, show (5 : Int).toNat = 5 from rfl, show (1 : Int).toNat = 1 from rfl]
  rw [e 2 (by omega), e 1 (by omega), e 5 (by omega), e 3 (by omega)]
  rfl

/-- A block of pairs, known whole. -/
theorem pairs_of_block {w : World} {g : Nat} {cs : Array Value} {L : List PairV} (h : w.heap[g]? = some (.cells cs 34 (0, 0))) (hc : cs = (cellsQ L).toArray) (hok : ∀ p, p ∈ L → okP p) : Pairs w (some ⟨g, 0, none⟩) L := by
  subst hc
  refine ⟨hok, fun i p hi => ⟨g, 0, rfl, lt_of_block h, ?_, ?_⟩⟩
  · have := (cellsQ_at L i p hi).1
    simp [World.cell?, h, this]
  · have := (cellsQ_at L i p hi).2
    simp [World.cell?, h, this]
theorem two_ok : ∀ p, p ∈ [((-1 : Int), (5 : Int)), (3, 1)] → okP p := by
  intro p hp
  simp only [List.mem_cons, List.not_mem_nil, or_false] at hp
  rcases hp with rfl | rfl <;> exact ⟨⟨by decide, by decide⟩, by decide, by decide⟩
theorem one_ok : ∀ p, p ∈ [((1 : Int), (1 : Int))] → okP p := by
  intro p hp
  simp only [List.mem_cons, List.not_mem_nil, or_false] at hp
  subst hp; exact ⟨⟨by decide, by decide⟩, by decide, by decide⟩
theorem two_good : GoodP [((-1 : Int), (5 : Int)), (3, 1)] := by decide
theorem one_good : (goodB [((1 : Int), (1 : Int))] && decide ((([((1 : Int), (1 : Int))].length : Nat) : Int) ≤ 1)) = true := by decide

end Go.Proofs.Ytdblicfcfmfneaa

namespace Go.Proofs.Ytdblicfcfmfneaa
set_option linter.unusedVariables false
set_option linter.unusedSimpArgs false
open Go.RowKit

/-- A row among others: where it lies, its room, its pairs. -/
structure RowV where
  a : Option Addr
  cap : Nat
  l : List PairV
def allP (R : List RowV) : List PairV := R.flatMap fun r => r.l
theorem allP_app (A B : List RowV) : allP (A ++ B) = allP A ++ allP B := by unfold allP; rw [List.flatMap_append]
theorem allP_one (r : RowV) : allP [r] = r.l := by unfold allP; simp
theorem count_all_rev : ∀ (R : List RowV) (j : Int), countP (allP R.reverse) j = countP (allP R) j := by
  intro R
  induction R with
  | nil => intro j; rfl
  | cons r t ih =>
    intro j
    rw [List.reverse_cons, allP_app, countP_app, ih, allP_one]
    show _ = countP (allP ([r] ++ t)) j
    rw [allP_app, countP_app, allP_one]; omega
theorem all_mem {R : List RowV} {p : PairV} (h : p ∈ allP R) : ∃ r, r ∈ R ∧ p ∈ r.l := by unfold allP at h; exact List.mem_flatMap.1 h
theorem all_len : ∀ (R : List RowV) (n : Nat), (∀ r, r ∈ R → r.l.length ≤ n) → (allP R).length ≤ n * R.length := by
  intro R n
  induction R with
  | nil => intro _; exact Nat.zero_le _
  | cons r t ih =>
    intro h
    have h1 := h r (by simp)
    have h2 := ih fun x hx => h x (List.mem_cons_of_mem _ hx)
    unfold allP at *
    rw [List.flatMap_cons, List.length_append, List.length_cons, Nat.mul_succ]; omega
/-- Whatever the rows' order, what comes of them is the same. -/
theorem fold_rev {R : List RowV} (h : ∀ p, p ∈ allP R → okP p ∧ p.2 ≤ 1099511627776) (hl : (allP R).length ≤ 1000) : foldP (allP R.reverse) = foldP (allP R) := by
  have h' : ∀ p, p ∈ allP R.reverse → okP p ∧ p.2 ≤ 1099511627776 := fun p hp => by
    obtain ⟨r, hr, hq⟩ := all_mem hp
    exact h p (by unfold allP; exact List.mem_flatMap.2 ⟨r, List.mem_reverse.1 hr, hq⟩)
  have hl' : (allP R.reverse).length ≤ 1000 := by
    have : (allP R.reverse).length = (allP R).length := by
      unfold allP
      rw [List.length_flatMap, List.length_flatMap, List.map_reverse, List.sum_reverse]
    omega
  obtain ⟨s1, c1⟩ := fold_sums _ h hl
  obtain ⟨s2, c2⟩ := fold_sums _ h' hl'
  exact good_ext s2.good s1.good fun j => by rw [c2, c1, count_all_rev]

end Go.Proofs.Ytdblicfcfmfneaa
/-
  Walks: the library's slices.Grow of nothing, and slices.Concat, at rows of pairs.
-/
namespace Go.Proofs.Ytdblicfcfmfneaa
set_option linter.unusedVariables false
set_option linter.unusedSimpArgs false
open Go.RowKit

/-- Appending a whole row of pairs, a nil one too, to one of the call's own. -/
theorem wpList_append_pairs {w : World} {ops : Array Oper} {rest : List Oper} {o : Oper} {a : Act} {Q : Exit → Act → World → Prop} (hgd : o.guard = none) (s x : Operand)
    (ho : o.op = .call { callee := .builtin .append, args := #[s, x], argTypes := #[22, 22] })
    (base : Nat) (v : Value) (M : List PairV) (A : Option Addr) (cap : Nat) (L : List PairV) (hs : a.eval s = v) (hown : OwnP w base v M)
    (hx : a.eval x = .slice A L.length cap) (hsrc : Pairs w A L) (hn : M.length + L.length ≤ 100000) (hbase : base ≤ w.heap.size)
    (h : ∀ v' w', OwnP w' base v' (M ++ L) → w.grownBy w' v.ownBlock → wpList Try.prog ops Q rest (a.put o.dst v') w') : wpList Try.prog ops Q (o :: rest) a w := by
  obtain ⟨i0, hi, hz0, hz1, hz2⟩ := info_parts Try.infoPair
  by_cases hL : L = []
  · subst hL
    have hx' : a.eval x = .slice A 0 cap := hx
    have hrun : (Builtin.append_ #[22, 22] o.type #[v, .slice A 0 cap]).run Try.prog w = .ok v w := by
      have hl : ∀ (b : Option Addr) (n c : Nat), (Builtin.firstCells 2 0 (.slice A 0 cap)).run Try.prog w = .ok #[] w := by
        intro b n c
        cases A with
        | none => exact run_firstCells_none w 2 0 0 cap
        | some ad => exact run_firstCells_some w 2 0 ad 0 cap [] rfl (fun j v hj => by simp at hj)
      rcases hown.2 with ⟨rfl, h0⟩ | ⟨g, c2, cur, rfl, _, _, hnc, _⟩
      · rw [show (0 : Nat) = 0 from rfl] at *
        simp [Builtin.append_, run_underlying Try.underlying22, sizeOf, typeInfo, hi, hz1, Builtin.lenOf, hl none 0 0]
      · simp [Builtin.append_, run_underlying Try.underlying22, sizeOf, typeInfo, hi, hz1, Builtin.lenOf, hnc, storeCells, hl none 0 0]
    refine wpList_plain hgd fun K hK => ?_
    unfold Oper.wp
    simp [execOp, ho, resolve, invoke, builtin, hs, hx', hrun, Result.andThen]
    exact hK _ _ (h v w (by rw [List.append_nil]; exact hown) (World.grownBy.refl _ _))
  · obtain ⟨p, hp⟩ : ∃ p, L[0]? = some p := by
      cases L with
      | nil => exact absurd rfl hL
      | cons p r => exact ⟨p, rfl⟩
    obtain ⟨b, off, rfl, _, _, _⟩ := hsrc.at_ 0 p hp
    refine wpList_append_own w hgd s x _ ho base _ i0 _ 2 16 Try.underlying22 hi hz0 hz1 hz2 rfl (by decide) v M.length (cellsQ M) hs hown ⟨b, off, none⟩ L.length cap (cellsQ L) hx (cellsQ_len L) ?_ (cellsQ_one L)
      (by unfold maxLen; omega) (by omega) hbase (fun v' w' h1 h2 _ => h v' w' ?_ h2)
    · intro j u hu
      rw [add_flat]
      have hj : j < L.length * 2 := by
        rcases Nat.lt_or_ge j (L.length * 2) with h1 | h1
        · exact h1
        · rw [List.getElem?_eq_none (by rw [cellsQ_len]; exact h1)] at hu; cases hu
      have hq := List.getElem?_eq_getElem (l := L) (i := j / 2) (by omega)
      obtain ⟨b', off', e, _, c0, c1⟩ := hsrc.at_ (j / 2) _ hq
      obtain ⟨rfl, rfl⟩ : b = b' ∧ off = off' := by
        have := Option.some.inj e
        exact ⟨(Addr.mk.inj this).1, (Addr.mk.inj this).2.1⟩
      obtain ⟨q0, q1⟩ := cellsQ_at L (j / 2) _ hq
      rcases Nat.mod_two_eq_zero_or_one j with h2 | h2
      · have e1 : j / 2 * 2 = j := by omega
        rw [e1] at q0 c0; rw [q0] at hu; rw [c0, ← Option.some.inj hu]
      · have e1 : j / 2 * 2 + 1 = j := by omega
        rw [Nat.add_assoc, e1] at c1; rw [e1] at q1; rw [q1] at hu; rw [c1, ← Option.some.inj hu]
    · unfold OwnP
      rw [cellsQ_app, List.length_append]
      exact h1

end Go.Proofs.Ytdblicfcfmfneaa
/-
  Walk: the landed code of runs: Find; the library's cmp.Compare and slices.BinarySearchFunc at rows of pairs.
  Walk: the landed code of runs: the pair behind a row.
  Walk: the landed code of runs: Add.
-/
namespace Go.Proofs.Ytdblicfcfmfneaa
set_option linter.unusedVariables false
set_option linter.unusedSimpArgs false
open Go.RowKit

def cmpI (x y : Int) : Int := if x < y then -1 else if y < x then 1 else 0
theorem cmpI_neg {x y : Int} : cmpI x y < 0 ↔ x < y := by unfold cmpI; split <;> (try split) <;> omega
theorem cmpI_zero {x y : Int} : cmpI x y = 0 ↔ x = y := by unfold cmpI; split <;> (try split) <;> omega

set_option maxHeartbeats 400000 in
theorem nan_any (x : Int) (w : World) : Calls Try.prog 63 #[.int .i64 x] w fun e w' => e = .returned (.bool false) ∧ w = w' := by
  have e1 : (!(x == x)) = false := by simp
  go_enter Try.func63, Try.ntmps63
  go_wp2_with fail
  go_ret
  exact ⟨by simp, rfl⟩

set_option maxHeartbeats 400000 in
theorem compare_int (x y : Int) (w : World) : Calls Try.prog 58 #[.int .i64 x, .int .i64 y] w fun e w' => e = .returned (.int .i64 (cmpI x y)) ∧ w = w' := by
  have HN := Lib.hid nan_any
  obtain ⟨r, hr⟩ : ∃ r, cmpI x y = r := ⟨_, rfl⟩
  have HR := Lib.hid hr
  rw [hr]
  clear hr
  by_cases h1 : x < y
  · have HE : Hid (-1 = r) := Lib.hid (by rw [← HR.out]; unfold cmpI; rw [if_pos h1])
    go_enter Try.func58, Try.ntmps58
    go_wp2_with (go_at_call 63; refine (HN.out _ _).mono ?_; rintro e w' ⟨rfl, rfl⟩)
    go_ret
    exact ⟨ret_int HE.out, rfl⟩
  · by_cases h2 : y < x
    · have HE : Hid (1 = r) := Lib.hid (by rw [← HR.out]; unfold cmpI; rw [if_neg h1, if_pos h2])
      go_enter Try.func58, Try.ntmps58
      go_wp2_with (go_at_call 63; refine (HN.out _ _).mono ?_; rintro e w' ⟨rfl, rfl⟩)
      go_ret
      exact ⟨ret_int HE.out, rfl⟩
    · have HE : Hid (0 = r) := Lib.hid (by rw [← HR.out]; unfold cmpI; rw [if_neg h1, if_neg h2])
      go_enter Try.func58, Try.ntmps58
      go_wp2_with (go_at_call 63; refine (HN.out _ _).mono ?_; rintro e w' ⟨rfl, rfl⟩)
      go_ret
      exact ⟨ret_int HE.out, rfl⟩

set_option maxHeartbeats 400000 in
theorem find_cmp (px pc i r : Int) (hr : cmpI px i = r) (w : World) : Calls Try.prog 57 #[.agg #[.int .i64 px, .int .u64 pc], .int .i64 i] w fun e w' => e = .returned (.int .i64 r) ∧ Below w.heap.size w w' := by
  subst hr
  obtain ⟨r, hr⟩ : ∃ r, cmpI px i = r := ⟨_, rfl⟩
  have HC := Lib.hid (fun W => hr ▸ compare_int px i W)
  rw [hr]
  clear hr
  go_enter Try.func57, Try.ntmps57
  go_wp2_with fail
  refine (HC.out _).mono ?_
  rintro e w' ⟨rfl, rfl⟩
  go_wp2_with fail
  go_ret
  exact ⟨rfl, (Below.refl _ _).alloc (Nat.le_refl _) _⟩

/-- The place of an index: those ahead are less, those from there on aren't. -/
theorem low_at {L : List PairV} {i : Int} {lo : Nat} (hlo : lo ≤ L.length) (h1 : ∀ t p, t < lo → L[t]? = some p → p.1 < i) (h2 : ∀ t p, lo ≤ t → L[t]? = some p → i ≤ p.1) : lowP L i = L.take lo := by
  have e : lowP L i = lowP (L.take lo) i ++ lowP (L.drop lo) i := by unfold lowP; rw [← List.filter_append, List.take_append_drop]
  rw [e]
  have e1 : lowP (L.take lo) i = L.take lo := by
    unfold lowP; rw [List.filter_eq_self]
    intro p hp
    obtain ⟨t, ht, rfl⟩ := List.getElem_of_mem hp
    rw [List.length_take] at ht
    exact decide_eq_true (h1 t (L.take lo)[t] (by omega) (by rw [List.getElem_take]; exact List.getElem?_eq_getElem (by omega)))
  have e2 : lowP (L.drop lo) i = [] := by
    unfold lowP; rw [List.filter_eq_nil_iff]
    intro p hp
    obtain ⟨t, ht, rfl⟩ := List.getElem_of_mem hp
    rw [List.length_drop] at ht
    have := h2 (lo + t) (L.drop lo)[t] (by omega) (by rw [List.getElem_drop]; exact List.getElem?_eq_getElem (by omega))
    simp only [decide_eq_true_eq]; omega
  rw [e1, e2, List.append_nil]
theorem is_at {L : List PairV} {i : Int} {lo : Nat} (hg : GoodP L) (h1 : ∀ t p, t < lo → L[t]? = some p → p.1 < i) (h2 : ∀ t p, lo ≤ t → L[t]? = some p → i ≤ p.1) : isP L i = ((L[lo]?).map fun p => p.1 == i).getD false := by
  cases hx : L[lo]? with
  | none =>
    have hl : L.length ≤ lo := List.getElem?_eq_none_iff.1 hx
    show isP L i = false
    unfold isP; rw [List.any_eq_false]
    intro p hp
    obtain ⟨t, ht, rfl⟩ := List.getElem_of_mem hp
    have := h1 t _ (by omega) (List.getElem?_eq_getElem ht)
    simp; omega
  | some q =>
    show isP L i = (q.1 == i)
    by_cases hq : q.1 = i
    · rw [hq]
      have : isP L i = true := by unfold isP; rw [List.any_eq_true]; exact ⟨q, List.mem_of_getElem? hx, by simpa using hq⟩
      rw [this]; simp
    · have e : (q.1 == i) = false := by simpa using hq
      rw [e]; unfold isP; rw [List.any_eq_false]
      intro p hp
      obtain ⟨t, ht, rfl⟩ := List.getElem_of_mem hp
      have hqi := h2 lo q (Nat.le_refl _) hx
      rcases Nat.lt_trichotomy t lo with h | h | h
      · have := h1 t _ h (List.getElem?_eq_getElem ht); simp; omega
      · subst h; rw [List.getElem?_eq_getElem ht] at hx; rw [Option.some.inj hx]; simpa using hq
      · have hlo : lo < L.length := by omega
        have e2 := (List.pairwise_iff_getElem.1 hg.2) lo t hlo ht h
        rw [List.getElem?_eq_getElem hlo] at hx
        rw [Option.some.inj hx] at e2
        simp; omega

set_option maxRecDepth 100000 in
set_option maxHeartbeats 1000000 in
theorem search_any (w : World) (A : Option Addr) (cap : Nat) (L : List PairV) (i : Int) (n : Nat) (b : Bool) (h : Pairs w A L) (hl : L.length ≤ 100000) (hg : GoodP L) (hi : I64 i) (hn : (lowP L i).length = n) (hb : isP L i = b) :
    Calls Try.prog 56 #[.slice A L.length cap, .int .i64 i, .func (.func 57) #[] #[]] w fun e w' => e = .returned (.tuple #[.int .i64 n, .bool b]) ∧ Below w.heap.size w w' := by
  have HI := Lib.hid h
  have HN := Lib.hid hn
  have HB := Lib.hid hb
  have HG := Lib.hid hg
  have HS : Hid (∀ (a b : Nat) (p q : PairV), a ≤ b → L[a]? = some p → L[b]? = some q → p.1 ≤ q.1) := Lib.hid (by
    intro a b p q hab ha hb
    rcases Nat.lt_or_eq_of_le hab with h1 | h1
    · have hbl : b < L.length := by
        rcases Nat.lt_or_ge b L.length with h2 | h2
        · exact h2
        · rw [List.getElem?_eq_none h2] at hb; cases hb
      have e2 := (List.pairwise_iff_getElem.1 hg.2) a b (by omega) hbl h1
      rw [List.getElem?_eq_getElem (by omega)] at ha
      rw [List.getElem?_eq_getElem hbl] at hb
      rw [Option.some.inj ha, Option.some.inj hb] at e2
      omega
    · subst h1; rw [ha] at hb; rw [Option.some.inj hb]; exact Int.le_refl _)
  clear h hg hn hb
  have HF := Lib.hid find_cmp
  go_enter Try.func56, Try.ntmps56
  go_wp2_with fail
  go_loopw [9, 10] (fun a c wr => ∃ lo hi : Nat, a = .int .i64 lo ∧ c = .int .i64 hi ∧ lo ≤ hi ∧ hi ≤ L.length ∧ (∀ t p, t < lo → L[t]? = some p → p.1 < i) ∧ (∀ t p, hi ≤ t → L[t]? = some p → i ≤ p.1) ∧ Below w.heap.size w wr) (fun a c _ => (intOf c).toNat - (intOf a).toNat)
  case atStart => exact ⟨0, L.length, rfl, rfl, Nat.zero_le _, Nat.le_refl _, fun t p ht => absurd ht (Nat.not_lt_zero _), fun t p ht hp => (by rw [List.getElem?_eq_none ht] at hp; cases hp), Below.refl _ _⟩
  case round =>
    obtain ⟨lo, hi', rfl, rfl, hlh, hhi, h1, h2, hb2⟩ := hrel
    have H1 := Lib.hid h1
    have H2 := Lib.hid h2
    have hbs := hb2.size
    clear h1 h2
    by_cases hlt : (lo : Int) < (hi' : Int)
    · obtain ⟨m, hm⟩ : ∃ m : Nat, m = (lo + hi') / 2 := ⟨_, rfl⟩
      have hm1 : lo ≤ m := by omega
      have hm2 : m < hi' := by omega
      have hmi : ((lo : Int) + (hi' : Int)) / 2 = (m : Int) := by omega
      have mm : (m : Int) < L.length := by omega
      have mm' : m < L.length := by omega
      have hxm : L[m]? = some L[m] := List.getElem?_eq_getElem mm'
      generalize hit : L[m] = p at *
      obtain ⟨px, pc⟩ := p
      obtain ⟨b0, off, rfl, hbl, c0, c1⟩ := (HI.out.call hb2).at_ m _ hxm
      simp only at c0 c1
      have HXM := Lib.hid hxm
      clear hm hxm hit
      obtain ⟨r, hr⟩ : ∃ r, cmpI px i = r := ⟨_, rfl⟩
      have HR := Lib.hid hr
      by_cases hc : px < i
      · have hr0 : r < 0 := by rw [← hr]; exact cmpI_neg.2 hc
        clear hr
        go_wp2_with fail
        refine (HF.out px pc i r HR.out _).mono ?_
        rintro e w1 ⟨rfl, hb3⟩
        have hb4 := hb2.trans (hb3.mono hbs)
        clear hb3 c0 c1
        go_wp2_with fail
        go_roundw
        case rel => exact ⟨m + 1, hi', by go_num, rfl, by omega, hhi, fun t p ht hp => (by have h5 := HS.out t m p _ (by omega) hp HXM.out; simp only at h5; omega), H2.out, hb4⟩
        case measure => simp [intOf]; omega
      · have hr0 : ¬ r < 0 := by rw [← hr]; exact fun h => hc (cmpI_neg.1 h)
        clear hr
        go_wp2_with fail
        refine (HF.out px pc i r HR.out _).mono ?_
        rintro e w1 ⟨rfl, hb3⟩
        have hb4 := hb2.trans (hb3.mono hbs)
        clear hb3 c0 c1
        go_wp2_with fail
        go_roundw
        case rel => exact ⟨lo, m, rfl, by go_num, by omega, by omega, H1.out, fun t p ht hp => (by have h5 := HS.out m t _ p ht HXM.out hp; simp only at h5; omega), hb4⟩
        case measure => simp [intOf]; omega
    · obtain rfl : hi' = lo := by omega
      have HLO : Hid (hi' = n) := Lib.hid (by
        rw [← HN.out, low_at hhi H1.out H2.out, List.length_take]; omega)
      have HIS := Lib.hid (is_at HG.out H1.out H2.out)
      by_cases hl2 : hi' < L.length
      · have kk : (hi' : Int) < L.length := by omega
        have hxm : L[hi']? = some L[hi'] := List.getElem?_eq_getElem hl2
        generalize hit : L[hi'] = p at *
        obtain ⟨px, pc⟩ := p
        obtain ⟨b0, off, rfl, hbl, c0, c1⟩ := (HI.out.call hb2).at_ hi' _ hxm
        simp only at c0 c1
        have HE : Hid ((px == i) = b) := Lib.hid (by rw [← HB.out, HIS.out, hxm]; rfl)
        clear hxm hit
        obtain ⟨r, hr⟩ : ∃ r, cmpI px i = r := ⟨_, rfl⟩
        have HR := Lib.hid hr
        by_cases hc : px = i
        · have hr0 : r = 0 := by rw [← hr]; exact cmpI_zero.2 hc
          have HB1 : Hid (true = b) := Lib.hid (by rw [← HE.out]; simp [hc])
          have HC := Lib.hid hc
          subst hr0
          clear hr hc
          go_wp2_with fail
          refine (HF.out px pc i 0 HR.out _).mono ?_
          rintro e w1 ⟨rfl, hb3⟩
          have hb4 := hb2.trans (hb3.mono hbs)
          go_wp2_with fail
          go_ret2
          exact ⟨ret_pair (by rw [HLO.out]) HB1.out, hb4⟩
        · have hr0 : (r == 0) = false := by
            have : r ≠ 0 := by rw [← hr]; exact fun h => hc (cmpI_zero.1 h)
            simpa using this
          have HB1 : Hid (false = b) := Lib.hid (by rw [← HE.out]; simp [hc])
          clear hr hc
          go_wp2_with fail
          refine (HF.out px pc i r HR.out _).mono ?_
          rintro e w1 ⟨rfl, hb3⟩
          have hb4 := hb2.trans (hb3.mono hbs)
          go_wp2_with fail
          go_ret2
          exact ⟨ret_pair (by rw [HLO.out]) HB1.out, hb4⟩
      · have kk : ¬ (hi' : Int) < L.length := by omega
        have HB1 : Hid (false = b) := Lib.hid (by rw [← HB.out, HIS.out, List.getElem?_eq_none (by omega)]; rfl)
        go_wp2_with fail
        go_ret2
        exact ⟨ret_pair (by rw [HLO.out]) HB1.out, hb2⟩

set_option maxHeartbeats 400000 in
theorem find_big (w : World) (A : Option Addr) (cap : Nat) (L : List PairV) (i : Int) (n : Nat) (b : Bool) (h : Pairs w A L) (hl : L.length ≤ 100000) (hg : GoodP L) (hi : I64 i) (hn : (lowP L i).length = n) (hb : isP L i = b) :
    Calls Try.prog 49 #[.slice A L.length cap, .int .i64 i] w fun e w' => e = .returned (.tuple #[.int .i64 n, .bool b]) ∧ Below w.heap.size w w' := by
  have H := Lib.hid (search_any w A cap L i n b h hl hg hi hn hb)
  clear h hg hn hb
  go_enter Try.func49, Try.ntmps49
  go_wp2_with fail
  refine H.out.mono ?_
  rintro e w' ⟨rfl, hb⟩
  go_wp2_with fail
  go_ret2
  exact ⟨rfl, hb⟩
theorem find_does : FindDoes := fun w A cap L i n b h hl hg hi hn hb => find_big w A cap L i n b h (by omega) hg hi hn hb
end Go.Proofs.Ytdblicfcfmfneaa

namespace Go.Proofs.Ytdblicfcfmfneaa
set_option linter.unusedVariables false
set_option linter.unusedSimpArgs false
open Go.RowKit

theorem grown_alloc {a b : World} {r : Option Nat} (h : a.grownBy b r) (o : Obj) : a.grownBy (b.alloc o) r :=
  ⟨h.os, h.tape, h.output, Nat.le_trans h.size (by simp), fun i hi hr => (heap_alloc_old _ _ (Nat.lt_of_lt_of_le hi h.size)).trans (h.block i hi hr)⟩
theorem grown_own {a b c : World} {r r' : Option Nat} (h : a.grownBy b r) (k : b.grownBy c r') (hr : ∀ g, r' = some g → a.heap.size ≤ g) : a.grownBy c r :=
  ⟨k.os.trans h.os, k.tape.trans h.tape, k.output.trans h.output, Nat.le_trans h.size k.size, fun i hi hne => (k.block i (Nat.lt_of_lt_of_le hi h.size) (fun e => by have := hr i e.symm; omega)).trans (h.block i hi hne)⟩
theorem grown_call {a b c : World} {r : Option Nat} (h : a.grownBy b r) (k : Below b.heap.size b c) : a.grownBy c r :=
  ⟨k.os.trans h.os, k.tape.trans h.tape, k.output.trans h.output, Nat.le_trans h.size k.size, fun i hi hne => (k.block i (Nat.lt_of_lt_of_le hi h.size)).trans (h.block i hi hne)⟩
theorem grown_cell {a b : World} {B g o : Nat} {v : Value} (h : a.grownBy b (some B)) (hne : g ≠ B) (hc : a.cell? ⟨g, o, none⟩ = some v) : b.cell? ⟨g, o, none⟩ = some v := by
  have hlt := World.block_lt_of_cell? (a := ⟨g, o, none⟩) a hc
  exact (World.cell?_of_block (a := ⟨g, o, none⟩) (h.block g hlt (fun e => hne (Option.some.inj e)))).trans hc
theorem Eye.grown {w w' : World} {B : Nat} {s : ByteArray} {bad : Bool} {r : Option Nat} (h : Eye w B s bad) (hg : w.grownBy w' r) (hne : r ≠ some B) : Eye w' B s bad := by
  have hlt := h.two.lt
  have hb := hg.block B hlt (fun e => hne e.symm)
  exact ⟨⟨(World.cell?_of_block (a := ⟨B, 0, none⟩) hb).trans h.two.c0, (World.cell?_of_block (a := ⟨B, 1, none⟩) hb).trans h.two.c1, (World.frozen?_of_block (a := ⟨B, 0, none⟩) hb).trans h.two.f0, (World.frozen?_of_block (a := ⟨B, 1, none⟩) hb).trans h.two.f1⟩, h.non⟩
theorem Eye.lt {w : World} {B : Nat} {s : ByteArray} {bad : Bool} (h : Eye w B s bad) : B < w.heap.size := h.two.lt
theorem Eye.alloc {w : World} {B : Nat} {s : ByteArray} {bad : Bool} (h : Eye w B s bad) (o : Obj) : Eye (w.alloc o) B s bad := h.call ((Below.refl _ _).alloc (Nat.le_refl _) _)
theorem nS_le (s : ByteArray) (bad : Bool) (m : Nat) (n : Nat) (h : s.size ≤ n) : (nS s bad m).size ≤ n := Nat.le_trans (nS_size s bad m) h

/-- A result that lies in a cell of two. -/
theorem ret_agg {a b c d : Int} (h : a = c) (h' : b = d) : Ending.returned (.agg #[.int .i64 a, .int .u64 b]) = .returned (.agg #[.int .i64 c, .int .u64 d]) := by rw [h, h']

/-- The index so far behind one. -/
def nextI (q v : Int) : Int := (q + 1 + v + 9223372036854775808) % 18446744073709551616 - 9223372036854775808

end Go.Proofs.Ytdblicfcfmfneaa

namespace Go.Proofs.Ytdblicfcfmfneaa
set_option linter.unusedVariables false
set_option linter.unusedSimpArgs false
open Go.RowKit

theorem isP_app (A B : List PairV) (i : Int) : isP (A ++ B) i = (isP A i || isP B i) := by unfold isP; rw [List.any_append]
theorem isP_no {L : List PairV} {i : Int} (h : ∀ p, p ∈ L → p.1 ≠ i) : isP L i = false := by
  unfold isP; rw [List.any_eq_false]; intro p hp; simpa using h p hp
theorem is_part {L : List PairV} {i : Int} (h : isP (lowP L i) i = false ∧ isP (highP L i) i = false := ⟨isP_no fun p hp => by have := (lowP_mem hp).2; omega, isP_no fun p hp => by have := (highP_mem hp).2; omega⟩) : isP (lowP L i ++ highP L i) i = false ∧ ∀ m, isP (lowP L i ++ ((i, m) :: highP L i)) i = true := by
  refine ⟨by rw [isP_app, h.1, h.2]; rfl, fun m => ?_⟩
  rw [isP_app]; unfold isP; simp
theorem cellsQ_set (A B : List PairV) (i m m' : Int) : (cellsQ (A ++ (i, m) :: B)).set (A.length * 2 + 1) (.int .u64 m') = cellsQ (A ++ (i, m') :: B) := by
  rw [cellsQ_app, cellsQ_app, cellsQ_cons, cellsQ_cons, List.set_append_right _ _ (by rw [cellsQ_len]; omega), cellsQ_len]
  rw [show A.length * 2 + 1 - A.length * 2 = 1 by omega]
  rfl

theorem pairs_low {w : World} {A : Option Addr} {lo hi : List PairV} (h : Pairs w A (lo ++ hi)) : Pairs w A lo :=
  ⟨fun p hp => h.ok p (List.mem_append_left _ hp), fun j p hj => h.at_ j p (by
    have hl : j < lo.length := by
      rcases Nat.lt_or_ge j lo.length with h1 | h1
      · exact h1
      · rw [List.getElem?_eq_none h1] at hj; cases hj
    rw [List.getElem?_append_left hl]; exact hj)⟩
theorem pairs_high {w : World} {g : Nat} {lo hi : List PairV} (h : Pairs w (some ⟨g, 0, none⟩) (lo ++ hi)) (n : Nat) (hn : lo.length = n) : Pairs w (some ⟨g, n * 2, none⟩) hi :=
  ⟨fun p hp => h.ok p (List.mem_append_right _ hp), fun j p hj => by
    obtain ⟨b, off, e, hb, c0, c1⟩ := h.at_ (n + j) p (by rw [List.getElem?_append_right (by omega), hn, Nat.add_sub_cancel_left]; exact hj)
    obtain ⟨rfl, rfl⟩ : g = b ∧ 0 = off := by
      have := Option.some.inj e
      exact ⟨(Addr.mk.inj this).1, (Addr.mk.inj this).2.1⟩
    refine ⟨g, n * 2, rfl, hb, ?_, ?_⟩
    · rw [← c0]; congr 2; omega
    · rw [← c1]; congr 2; omega⟩

end Go.Proofs.Ytdblicfcfmfneaa

/-
  Walks: the reference's Add of rows of pairs, of any count (sums wrap around).
-/
namespace Go.Proofs.Ytdblicfcfmfneaa
set_option linter.unusedVariables false
set_option linter.unusedSimpArgs false
open Go.RowKit

set_option maxRecDepth 100000 in
set_option maxHeartbeats 2000000 in
theorem radd_wrap (w : World) (A : Option Addr) (cap : Nat) (L : List PairV) (i c n : Int) (h : Pairs w A L) (hl : L.length ≤ 1000) (hi : I64 i) (hc : Word c) (hn : IntKind.u64.wrap (countP L i + c) = n) (hcl : countP L i < 18446744073709551616) :
    Calls Try.prog 12 #[.slice A L.length cap, .int .i64 i, .int .u64 c] w fun e w' => ∃ v, e = .returned v ∧ OwnP w' w.heap.size v (lowP L i ++ (midP i n ++ highP L i)) ∧ Below w.heap.size w w' := by
  have HI := Lib.hid h
  have HIX := Lib.hid hi
  obtain ⟨i0, i1⟩ := hi
  obtain ⟨c0', c1'⟩ := hc
  obtain ⟨m, hm⟩ : ∃ m, countP L i = m := ⟨_, rfl⟩
  have hm0 := (countP_take (L := L) L.length i (ok_pos h.ok)).1
  rw [List.take_length, hm] at hm0
  rw [hm] at hn
  have HM := Lib.hid hm
  have HN := Lib.hid hn
  have hmt : m < 18446744073709551616 := hm ▸ hcl
  have hnr : 0 ≤ n ∧ n < 18446744073709551616 := by rw [← hn, IntKind.wrap_u64]; omega
  obtain ⟨n0, n1⟩ := hnr
  clear h hm
  go_enter Try.func12, Try.ntmps12
  go_wp2_with fail
  go_loopw [7, 15] (fun s j wr => ∃ (k : Nat), k ≤ L.length ∧ j = .int .i64 k ∧ OwnP wr w.heap.size s (lowP (L.take k) i) ∧ Below w.heap.size w wr) (fun _ j _ => L.length - (intOf j).toNat)
  case atStart => exact ⟨0, Nat.zero_le _, rfl, OwnP.nil _ _, Below.refl _ _⟩
  case round =>
    obtain ⟨k, hk, rfl, hown, hb2⟩ := hrel
    have hbs := hb2.size
    by_cases hlt : k < L.length
    · have kk : (k : Int) < L.length := by omega
      have hxk : L[k]? = some L[k] := List.getElem?_eq_getElem hlt
      generalize hit : L[k] = p at *
      obtain ⟨px, pc⟩ := p
      obtain ⟨b0, off, rfl, hbl, c0, c1⟩ := (HI.out.call hb2).at_ k _ hxk
      simp only at c0 c1
      have HS := Lib.hid (low_step hxk i)
      have HLL := Lib.hid (low_len L i k)
      have hok := HI.out.ok _ (List.mem_of_getElem? hxk)
      obtain ⟨⟨o1, o2⟩, o3, o4⟩ := hok
      simp only at HS
      clear hxk hit
      by_cases hc : px < i
      · rw [if_pos hc] at HS
        obtain ⟨vA, vk, rfl⟩ := hown.form
        have HO := Lib.hid hown
        clear hown
        go_wp2_with (at_builtin; refine wpList_append_pair rfl _ _ rfl w.heap.size _ _ (wr.heap.size + 1) (px, pc) rfl ((HO.out.alloc _).alloc _) rfl ?c1 ?c2 ?c3 ?c4 ?_)
        case c3 => have := HLL.out; omega
        case c4 => first | omega | (simp; omega)
        intro v' w1 hown' hgrow
        have hb3 := OwnP.below ((HO.out.alloc _).alloc _) ((hb2.alloc hbs _).alloc (by simp; omega) _) hgrow (by simp; omega)
        rw [← HS.out] at hown'
        clear hgrow
        go_wp2_with fail
        go_roundw
        case rel => exact ⟨k + 1, by omega, by go_num, hown', hb3⟩
        case measure => simp [intOf]; omega
      · rw [if_neg hc, List.append_nil] at HS
        rw [← HS.out] at hown
        go_wp2_with fail
        go_roundw
        case rel => exact ⟨k + 1, by omega, by go_num, hown.alloc _, hb2.alloc hbs _⟩
        case measure => simp [intOf]; omega
    · obtain rfl : k = L.length := by omega
      rw [List.take_length] at hown
      have kk : ¬ (L.length : Int) < L.length := by omega
      have HLL := Lib.hid (low_len L i L.length)
      rw [List.take_length] at HLL
      have HO := Lib.hid hown
      clear hown
      go_wp2_with fail
      refine (rcount_any _ A cap L i m (HI.out.call hb2) hl HIX.out HM.out (by omega)).mono ?_
      rintro e w3 ⟨rfl, hb3'⟩
      have hb3 := hb2.trans (hb3'.mono hbs)
      have hbs3 := hb3.size
      have HO3 := Lib.hid (HO.out.call hb3')
      have HML : Hid ((lowP L i ++ midP i n).length ≤ 1001) := Lib.hid (by
        rw [List.length_append]; have := HLL.out
        have : (midP i n).length ≤ 1 := by unfold midP; split <;> simp
        omega)
      clear hb3' hb2 hbs HO
      by_cases h0 : 0 < n
      · have HMID : Hid (lowP L i ++ [(i, n)] = lowP L i ++ midP i n) := Lib.hid (by unfold midP; rw [if_pos h0])
        obtain ⟨vA, vk, rfl⟩ := HO3.out.form
        go_wp2_with (at_builtin; refine wpList_append_pair rfl _ _ rfl w.heap.size _ _ w3.heap.size (i, n) rfl (HO3.out.alloc _) rfl ?d1 ?d2 ?d3 ?d4 ?_)
        case d3 => have := HLL.out; omega
        case d4 => first | omega | (simp; omega)
        intro v5 w5 hown5 hgrow
        have hb5 := OwnP.below (HO3.out.alloc _) (hb3.alloc hbs3 _) hgrow (by simp; omega)
        rw [HMID.out] at hown5
        have hbs5 := hb5.size
        clear hgrow hb3 hbs3 HO3 HLL
        go_wp2_with fail
        go_loopw [7, 43] (fun s j wr => ∃ (k : Nat), k ≤ L.length ∧ j = .int .i64 k ∧ OwnP wr w.heap.size s (lowP L i ++ midP i n ++ highP (L.take k) i) ∧ Below w.heap.size w wr) (fun _ j _ => L.length - (intOf j).toNat)
        case atStart => exact ⟨0, Nat.zero_le _, rfl, by rw [List.take_zero, show highP [] i = [] from rfl, List.append_nil]; exact hown5, hb5⟩
        case round =>
          clear hown5 hb5 hbs5
          obtain ⟨k, hk, rfl, hown, hb2⟩ := hrel
          have hbs := hb2.size
          by_cases hlt : k < L.length
          · have kk : (k : Int) < L.length := by omega
            have hxk : L[k]? = some L[k] := List.getElem?_eq_getElem hlt
            generalize hit : L[k] = p at *
            obtain ⟨px, pc⟩ := p
            obtain ⟨b0, off, rfl, hbl, c0, c1⟩ := (HI.out.call hb2).at_ k _ hxk
            simp only at c0 c1
            have HS := Lib.hid (high_step hxk i)
            have HHL := Lib.hid (high_len L i k)
            have hok := HI.out.ok _ (List.mem_of_getElem? hxk)
            obtain ⟨⟨o1, o2⟩, o3, o4⟩ := hok
            simp only at HS
            clear hxk hit
            by_cases hc : i < px
            · rw [if_pos hc] at HS
              obtain ⟨R, hR⟩ : ∃ R, lowP L i ++ midP i n ++ highP (L.take k) i = R := ⟨_, rfl⟩
              have HRL : Hid (R.length ≤ 3000) := Lib.hid (by rw [← hR, List.length_append]; have := HML.out; have := HHL.out; omega)
              have HSR : Hid (R ++ [(px, pc)] = lowP L i ++ midP i n ++ highP (L.take (k + 1)) i) := Lib.hid (by rw [HS.out, ← List.append_assoc, hR])
              rw [hR] at hown
              clear hR
              obtain ⟨vA, vk, rfl⟩ := hown.form
              have HO := Lib.hid hown
              clear hown
              go_wp2_with (at_builtin; refine wpList_append_pair rfl _ _ rfl w.heap.size _ _ (wr.heap.size + 1) (px, pc) rfl ((HO.out.alloc _).alloc _) rfl ?e1 ?e2 ?e3 ?e4 ?_)
              case e3 => have := HRL.out; omega
              case e4 => first | omega | (simp; omega)
              intro v' w1 hown' hgrow
              have hb3 := OwnP.below ((HO.out.alloc _).alloc _) ((hb2.alloc hbs _).alloc (by simp; omega) _) hgrow (by simp; omega)
              rw [HSR.out] at hown'
              clear hgrow
              go_wp2_with fail
              go_roundw
              case rel => exact ⟨k + 1, by omega, by go_num, hown', hb3⟩
              case measure => simp [intOf]; omega
            · rw [if_neg hc, List.append_nil] at HS
              rw [← HS.out] at hown
              go_wp2_with fail
              go_roundw
              case rel => exact ⟨k + 1, by omega, by go_num, hown.alloc _, hb2.alloc hbs _⟩
              case measure => simp [intOf]; omega
          · obtain rfl : k = L.length := by omega
            rw [List.take_length, List.append_assoc] at hown
            have kk : ¬ (L.length : Int) < L.length := by omega
            have HO := Lib.hid hown
            clear hown
            go_wp2_with fail
            go_ret
            exact ⟨_, rfl, HO.out, hb2⟩
      · have HMID : Hid (lowP L i = lowP L i ++ midP i n) := Lib.hid (by unfold midP; rw [if_neg h0, List.append_nil])
        have hown5 := HO3.out
        rw [HMID.out] at hown5
        have hb5 := hb3
        have hbs5 := hbs3
        clear hb3 hbs3 HO3 HLL
        go_wp2_with fail
        go_loopw [7, 43] (fun s j wr => ∃ (k : Nat), k ≤ L.length ∧ j = .int .i64 k ∧ OwnP wr w.heap.size s (lowP L i ++ midP i n ++ highP (L.take k) i) ∧ Below w.heap.size w wr) (fun _ j _ => L.length - (intOf j).toNat)
        case atStart => exact ⟨0, Nat.zero_le _, rfl, by rw [List.take_zero, show highP [] i = [] from rfl, List.append_nil]; exact hown5, hb5⟩
        case round =>
          clear hown5 hb5 hbs5
          obtain ⟨k, hk, rfl, hown, hb2⟩ := hrel
          have hbs := hb2.size
          by_cases hlt : k < L.length
          · have kk : (k : Int) < L.length := by omega
            have hxk : L[k]? = some L[k] := List.getElem?_eq_getElem hlt
            generalize hit : L[k] = p at *
            obtain ⟨px, pc⟩ := p
            obtain ⟨b0, off, rfl, hbl, c0, c1⟩ := (HI.out.call hb2).at_ k _ hxk
            simp only at c0 c1
            have HS := Lib.hid (high_step hxk i)
            have HHL := Lib.hid (high_len L i k)
            have hok := HI.out.ok _ (List.mem_of_getElem? hxk)
            obtain ⟨⟨o1, o2⟩, o3, o4⟩ := hok
            simp only at HS
            clear hxk hit
            by_cases hc : i < px
            · rw [if_pos hc] at HS
              obtain ⟨R, hR⟩ : ∃ R, lowP L i ++ midP i n ++ highP (L.take k) i = R := ⟨_, rfl⟩
              have HRL : Hid (R.length ≤ 3000) := Lib.hid (by rw [← hR, List.length_append]; have := HML.out; have := HHL.out; omega)
              have HSR : Hid (R ++ [(px, pc)] = lowP L i ++ midP i n ++ highP (L.take (k + 1)) i) := Lib.hid (by rw [HS.out, ← List.append_assoc, hR])
              rw [hR] at hown
              clear hR
              obtain ⟨vA, vk, rfl⟩ := hown.form
              have HO := Lib.hid hown
              clear hown
              go_wp2_with (at_builtin; refine wpList_append_pair rfl _ _ rfl w.heap.size _ _ (wr.heap.size + 1) (px, pc) rfl ((HO.out.alloc _).alloc _) rfl ?f1 ?f2 ?f3 ?f4 ?_)
              case f3 => have := HRL.out; omega
              case f4 => first | omega | (simp; omega)
              intro v' w1 hown' hgrow
              have hb3 := OwnP.below ((HO.out.alloc _).alloc _) ((hb2.alloc hbs _).alloc (by simp; omega) _) hgrow (by simp; omega)
              rw [HSR.out] at hown'
              clear hgrow
              go_wp2_with fail
              go_roundw
              case rel => exact ⟨k + 1, by omega, by go_num, hown', hb3⟩
              case measure => simp [intOf]; omega
            · rw [if_neg hc, List.append_nil] at HS
              rw [← HS.out] at hown
              go_wp2_with fail
              go_roundw
              case rel => exact ⟨k + 1, by omega, by go_num, hown.alloc _, hb2.alloc hbs _⟩
              case measure => simp [intOf]; omega
          · obtain rfl : k = L.length := by omega
            rw [List.take_length, List.append_assoc] at hown
            have kk : ¬ (L.length : Int) < L.length := by omega
            have HO := Lib.hid hown
            clear hown
            go_wp2_with fail
            go_ret
            exact ⟨_, rfl, HO.out, hb2⟩
end Go.Proofs.Ytdblicfcfmfneaa

/-
  Walks: layer 8's reference: a strip's Add, First, Last.
-/
namespace Go.Proofs.Ytdblicfcfmfneaa
set_option linter.unusedVariables false
set_option linter.unusedSimpArgs false
open Go.RowKit

theorem Two.block {w w' : World} {B : Nat} {x y : Value} (h : Two w B x y) (hb : w'.heap[B]? = w.heap[B]?) : Two w' B x y :=
  ⟨(World.cell?_of_block (a := ⟨B, 0, none⟩) hb).trans h.c0, (World.cell?_of_block (a := ⟨B, 1, none⟩) hb).trans h.c1, (World.frozen?_of_block (a := ⟨B, 0, none⟩) hb).trans h.f0, (World.frozen?_of_block (a := ⟨B, 1, none⟩) hb).trans h.f1⟩
theorem Two.put1 {w : World} {B : Nat} {x y : Value} (h : Two w B x y) (y' : Value) : Two (w.setCell ⟨B, 1, none⟩ y') B x y' := by
  refine ⟨?_, World.cell?_setCell_same _ _ _ h.c1, ?_, ?_⟩
  · rw [World.cell?_setCell_other _ _ _ _ (two_off (by omega))]; exact h.c0
  · rw [World.frozen?_setCell]; exact h.f0
  · rw [World.frozen?_setCell]; exact h.f1
/-- The reference's strip at block M, its row v. -/
def RefS (w : World) (M : Nat) (m : Int) (v : Value) (L : List PairV) : Prop := Two w M (.int .i64 m) v ∧ OwnP w (M + 1) v L
theorem RefS.lt {w : World} {M : Nat} {m : Int} {v : Value} {L : List PairV} (h : RefS w M m v L) : M < w.heap.size := h.1.lt
theorem RefS.call {w w' : World} {M : Nat} {m : Int} {v : Value} {L : List PairV} (h : RefS w M m v L) (hb : Below w.heap.size w w') : RefS w' M m v L := ⟨h.1.call hb, h.2.call hb⟩
theorem RefS.past {w w' : World} {M : Nat} {m : Int} {v : Value} {L : List PairV} {S : Nat → Prop} (h : RefS w M m v L) (hk : Keeps S w w') (h1 : ¬ S M) (h2 : ∀ g, v.ownBlock = some g → ¬ S g) : RefS w' M m v L :=
  ⟨h.1.block (hk.block M h.lt h1), hk.own h.2 h2⟩
theorem RefS.mk_new (w : World) (m : Int) (t : TypeId) : RefS (w.alloc (.cells #[.int .i64 m, .slice none 0 0] t)) w.heap.size m (.slice none 0 0) [] := ⟨Two.new _ _ _ _, OwnP.nil _ _⟩
theorem two_new9 (w : World) (x y : Value) (t : TypeId) : (w.alloc (.cells #[x, y] t)).cell? ⟨w.heap.size, 0, none⟩ = some x ∧ (w.alloc (.cells #[x, y] t)).cell? ⟨w.heap.size, 1, none⟩ = some y := ⟨(Two.new w x y t).c0, (Two.new w x y t).c1⟩
theorem RefS.row {w : World} {M : Nat} {m : Int} {v : Value} {A : List PairV} (h : RefS w M m v A) (ho : ∀ p, p ∈ A → okP p) : ∃ g cap, v = .slice g A.length cap ∧ Pairs w g A ∧ w.cell? ⟨M, 0, none⟩ = some (.int .i64 m) ∧ w.cell? ⟨M, 1, none⟩ = some (.slice g A.length cap) := by
  obtain ⟨g, cap, rfl, hp⟩ := h.2.pairs ho
  exact ⟨g, cap, rfl, hp, h.1.c0, h.1.c1⟩
theorem own_mono8 {w : World} {base base' : Nat} {v : Value} {L : List PairV} (h : OwnP w base v L) (hb : base' ≤ base) : OwnP w base' v L := World.ownsRow.mono h hb
theorem own_set8 {w : World} {base : Nat} {v : Value} {L : List PairV} (h : OwnP w base v L) {M o : Nat} (hM : M < base) (u : Value) : OwnP (w.setCell ⟨M, o, none⟩ u) base v L :=
  OwnP.other h (grown_setCell w M o u) (by
    cases hb : v.ownBlock with
    | none => exact Or.inl rfl
    | some g => exact Or.inr fun e => by have h1 := (h.lt g hb).1; have h2 := Option.some.inj e; omega)
theorem grown_of_below8 {w w' : World} {r : Option Nat} (h : Below w.heap.size w w') : w.grownBy w' r := ⟨h.os, h.tape, h.output, h.size, fun k hk _ => h.block k hk⟩
/-- What has become of the reference's strip. -/
def Done8 (w : World) (M : Nat) (m : Int) (v : Value) (L' : List PairV) (w' : World) : Prop :=
  (∃ v', RefS w' M m v' L' ∧ (v' = v ∨ ∀ g, v'.ownBlock = some g → w.heap.size ≤ g)) ∧ w.grownBy w' (some M)
theorem Done8.same {w w' : World} {M : Nat} {m : Int} {v : Value} {L : List PairV} (h : RefS w M m v L) (hb : Below w.heap.size w w') : Done8 w M m v L w' := ⟨⟨v, h.call hb, Or.inl rfl⟩, grown_of_below8 hb⟩
theorem Done8.put {w w1 : World} {M : Nat} {m : Int} {v v' : Value} {L' : List PairV} {L : List PairV} (h : RefS w M m v L) (hb : Below w.heap.size w w1) (ho : OwnP w1 w.heap.size v' L') : Done8 w M m v L' (w1.setCell ⟨M, 1, none⟩ v') :=
  ⟨⟨v', ⟨(h.1.call hb).put1 v', own_set8 (own_mono8 ho (by have := h.lt; omega)) (by omega) _⟩, Or.inr fun g hg => (ho.lt g hg).1⟩, grown_trans (grown_of_below8 hb) (grown_setCell _ _ _ _)⟩
theorem grown_own8 {a b c : World} {r r' : Option Nat} (h : a.grownBy b r) (k : b.grownBy c r') (hr : ∀ g, r' = some g → a.heap.size ≤ g) : a.grownBy c r :=
  ⟨k.os.trans h.os, k.tape.trans h.tape, k.output.trans h.output, Nat.le_trans h.size k.size, fun i hi hne => (k.block i (Nat.lt_of_lt_of_le hi h.size) (fun e => by have := hr i e.symm; omega)).trans (h.block i hi hne)⟩
theorem Done8.put2 {w w1 : World} {M : Nat} {m : Int} {v v' : Value} {L' : List PairV} {L : List PairV} (h : RefS w M m v L) (hb : Below w.heap.size w w1) (ho : OwnP w1 (w.heap.size + 1) v' L') (x y : Value) :
    Done8 w M m v L' (((w1.setCell ⟨M, 1, none⟩ v').setCell ⟨w.heap.size, 0, none⟩ x).setCell ⟨w.heap.size, 1, none⟩ y) := by
  have hM := h.lt
  refine ⟨⟨v', ⟨((h.1.call hb).put1 v').past (by omega) x y, own_mono8 (own_set8 (own_set8 (own_set8 ho (by omega) _) (by omega) _) (by omega) _) (by omega)⟩, Or.inr fun g hg => by have := (ho.lt g hg).1; omega⟩, ?_⟩
  exact grown_own8 (grown_own8 (grown_trans (grown_of_below8 hb) (grown_setCell _ _ _ _)) (grown_setCell _ w.heap.size 0 _) (fun g e => by have := Option.some.inj e; omega)) (grown_setCell _ w.heap.size 1 _) (fun g e => by have := Option.some.inj e; omega)

theorem Pairs.shift {w : World} {b off : Nat} {L : List PairV} (h : Pairs w (some ⟨b, off, none⟩) L) (k : Nat) : Pairs w (some ⟨b, off + k * 2, none⟩) (L.drop k) :=
  ⟨fun p hp => h.ok p (List.mem_of_mem_drop hp), fun i p hi => by
    rw [List.getElem?_drop] at hi
    obtain ⟨b', off', e, hlt, c0, c1⟩ := h.at_ (k + i) p hi
    have := Addr.mk.inj (Option.some.inj e)
    obtain ⟨rfl, rfl, _⟩ := this
    refine ⟨b, off + k * 2, rfl, hlt, ?_, ?_⟩
    · rw [show off + k * 2 + i * 2 = off + (k + i) * 2 by omega]; exact c0
    · rw [show off + k * 2 + i * 2 + 1 = off + (k + i) * 2 + 1 by omega]; exact c1⟩

end Go.Proofs.Ytdblicfcfmfneaa
/-
  How package strip's row lies in memory (anywhere in its block); walk: runs.Add of such a row.
-/
namespace Go.Proofs.Ytdblicfcfmfneaa
set_option linter.unusedVariables false
set_option linter.unusedSimpArgs false
open Go.RowKit

theorem set_cells8 {w : World} {b : Nat} {cs : Array Value} {t : TypeId} (h : w.heap[b]? = some (.cells cs t (0, 0))) (o : Nat) (u : Value) : (w.setCell ⟨b, o, none⟩ u).heap[b]? = some (.cells (cs.setIfInBounds o u) t (0, 0)) := by
  have hlt := lt_of_block h
  have h' : w.heap[b] = .cells cs t (0, 0) := by simpa [Array.getElem?_eq_getElem hlt] using h
  show (w.heap.modify b _)[b]? = _
  rw [Array.getElem?_eq_getElem (by simpa using hlt), Array.getElem_modify_self, h']
  rfl
theorem free8 {w : World} {b : Nat} {cs : Array Value} {t : TypeId} (h : w.heap[b]? = some (.cells cs t (0, 0))) (o : Nat) : w.frozen? ⟨b, o, none⟩ = false := by simp [World.frozen?, h]

/-- A row of pairs that may be written; its first pair may lie anywhere in its block. -/
structure Slab (w : World) (A : Option Addr) (cap : Nat) (L : List PairV) : Prop where
  pairs : Pairs w A L
  fit : L.length ≤ cap
  blk : (A = none ∧ cap = 0) ∨ ∃ g off cs, A = some ⟨g, off, none⟩ ∧ w.heap[g]? = some (.cells cs 34 (0, 0))
  room : ∀ g off cs, A = some ⟨g, off, none⟩ → w.heap[g]? = some (.cells cs 34 (0, 0)) → off + cap * 2 ≤ cs.size
  capm : cap ≤ 9223372036854775807
/-- The block of such a row. -/
def blkA (A : Option Addr) : Option Nat := A.map fun a => a.block
theorem blk_slice (A : Option Addr) (n cap : Nat) : (Value.slice A n cap).ownBlock = blkA A := by cases A <;> rfl
theorem Slab.nil (w : World) : Slab w none 0 [] := ⟨Pairs.nil w, by simp, Or.inl ⟨rfl, rfl⟩, fun g off cs e => (by cases e), by omega⟩
theorem Slab.form {w : World} {A : Option Addr} {cap : Nat} {L : List PairV} (h : Slab w A cap L) : (A = none ∧ L = [] ∧ cap = 0) ∨ ∃ g off, A = some ⟨g, off, none⟩ := by
  rcases h.blk with ⟨rfl, rfl⟩ | ⟨g, off, cs, rfl, _⟩
  · exact Or.inl ⟨rfl, List.eq_nil_of_length_eq_zero (by have := h.fit; omega), rfl⟩
  · exact Or.inr ⟨g, off, rfl⟩
theorem Slab.lt {w : World} {A : Option Addr} {cap : Nat} {L : List PairV} (h : Slab w A cap L) {k : Nat} (hk : blkA A = some k) : k < w.heap.size := by
  rcases h.blk with ⟨rfl, _⟩ | ⟨g, off, cs, rfl, hb⟩
  · cases hk
  · cases hk; exact lt_of_block hb
theorem Slab.keep {w w' : World} {A : Option Addr} {cap : Nat} {L : List PairV} (h : Slab w A cap L) (hk : ∀ k, blkA A = some k → w'.heap[k]? = w.heap[k]?) : Slab w' A cap L := by
  refine ⟨⟨h.pairs.ok, fun i p hi => ?_⟩, h.fit, ?_, fun g off cs e hb => h.room g off cs e (by rw [← hk g (by rw [e]; rfl)]; exact hb), h.capm⟩
  · obtain ⟨b, off, rfl, hlt, c0, c1⟩ := h.pairs.at_ i p hi
    have hb := hk b rfl
    refine ⟨b, off, rfl, ?_, (World.cell?_of_block (a := ⟨b, off + i * 2, none⟩) hb).trans c0, (World.cell?_of_block (a := ⟨b, off + i * 2 + 1, none⟩) hb).trans c1⟩
    exact World.block_lt_of_cell? (a := ⟨b, off + i * 2, none⟩) _ ((World.cell?_of_block (a := ⟨b, off + i * 2, none⟩) hb).trans c0)
  · rcases h.blk with h0 | ⟨g, off, cs, rfl, hb⟩
    · exact Or.inl h0
    · exact Or.inr ⟨g, off, cs, rfl, (hk g rfl).trans hb⟩
theorem Slab.call {w w' : World} {A : Option Addr} {cap : Nat} {L : List PairV} (h : Slab w A cap L) (hb : Below w.heap.size w w') : Slab w' A cap L := h.keep fun k hk => hb.block k (h.lt hk)
theorem Slab.of_own {w : World} {base : Nat} {v : Value} {L : List PairV} (h : OwnP w base v L) (ok : ∀ p, p ∈ L → okP p) : ∃ A cap, v = .slice A L.length cap ∧ Slab w A cap L ∧ ∀ k, blkA A = some k → base ≤ k := by
  obtain ⟨A, cap, rfl, hP⟩ := h.pairs ok
  refine ⟨A, cap, rfl, ?_, fun k hk => (h.lt k (by rw [blk_slice]; exact hk)).1⟩
  rcases h.2 with ⟨e, e0⟩ | ⟨g, cap', cur, e, _, hg, hnc, hcm, hcz, _⟩
  · injection e with e1 e2 e3
    exact ⟨hP, by omega, Or.inl ⟨e1, e3⟩, fun g off cs e => (by rw [e1] at e; cases e), by omega⟩
  · injection e with e1 _ e3
    subst e1
    exact ⟨hP, by omega, Or.inr ⟨g, 0, cur, rfl, hg⟩, (fun g' off' cs' e hg' => by
      obtain ⟨rfl, rfl, _⟩ := Addr.mk.inj (Option.some.inj e)
      rw [hg] at hg'
      obtain ⟨rfl, _⟩ := Obj.cells.inj (Option.some.inj hg')
      omega), by unfold maxLen at hcm; omega⟩
/-- A count is written. -/
theorem Slab.put {w : World} {g off cap n : Nat} {L lo hi : List PairV} {i m m' : Int} (h : Slab w (some ⟨g, off, none⟩) cap L) (hp : lo ++ ((i, m) :: hi) = L) (hn : lo.length = n) (hi' : I64 i) (hm : Word m') :
    Slab (w.setCell ⟨g, off + n * 2 + 1, none⟩ (.int .u64 m')) (some ⟨g, off, none⟩) cap (lo ++ ((i, m') :: hi)) := by
  subst hn hp
  have hsz : (lo ++ ((i, m') :: hi)).length = (lo ++ ((i, m) :: hi)).length := by simp
  refine ⟨⟨fun p hp' => ?_, fun j p hj => ?_⟩, by rw [hsz]; exact h.fit, ?_, ?_, h.capm⟩
  · rcases List.mem_append.1 hp' with h1 | h1
    · exact h.pairs.ok p (List.mem_append_left _ h1)
    · rcases List.mem_cons.1 h1 with rfl | h2
      · exact ⟨hi', hm⟩
      · exact h.pairs.ok p (List.mem_append_right _ (List.mem_cons_of_mem _ h2))
  · obtain ⟨b0, o0, e0, hlt, x0, x1⟩ := h.pairs.at_ lo.length (i, m) (by rw [List.getElem?_append_right (Nat.le_refl _), Nat.sub_self]; rfl)
    obtain ⟨rfl, rfl, _⟩ := Addr.mk.inj (Option.some.inj e0)
    by_cases hjn : j = lo.length
    · subst hjn
      rw [List.getElem?_append_right (Nat.le_refl _), Nat.sub_self] at hj
      obtain rfl := Option.some.inj hj
      refine ⟨g, off, rfl, by simpa [World.setCell] using hlt, ?_, World.cell?_setCell_same _ _ _ x1⟩
      rw [World.cell?_setCell_other _ _ _ _ (two_off (by omega))]; exact x0
    · have hj' : (lo ++ ((i, m) :: hi))[j]? = some p := by
        rcases Nat.lt_or_ge j lo.length with h1 | h1
        · rw [List.getElem?_append_left h1] at hj ⊢; exact hj
        · rw [List.getElem?_append_right h1] at hj ⊢
          obtain ⟨t, ht⟩ : ∃ t, j - lo.length = t + 1 := ⟨j - lo.length - 1, by omega⟩
          rw [ht] at hj ⊢
          exact hj
      obtain ⟨b0, o0, e0, hlt', c0, c1⟩ := h.pairs.at_ j p hj'
      obtain ⟨rfl, rfl, _⟩ := Addr.mk.inj (Option.some.inj e0)
      refine ⟨g, off, rfl, by simpa [World.setCell] using hlt, ?_, ?_⟩
      · rw [World.cell?_setCell_other _ _ _ _ (two_off (by omega))]; exact c0
      · rw [World.cell?_setCell_other _ _ _ _ (two_off (by omega))]; exact c1
  · rcases h.blk with ⟨e, _⟩ | ⟨g', off', cs, e, hb⟩
    · cases e
    · obtain ⟨rfl, rfl, _⟩ := Addr.mk.inj (Option.some.inj e)
      exact Or.inr ⟨g, off, _, rfl, set_cells8 hb _ _⟩
  · intro g2 off2 cs2 e2 hb2
    obtain ⟨rfl, rfl, _⟩ := Addr.mk.inj (Option.some.inj e2)
    rcases h.blk with ⟨e, _⟩ | ⟨g', off', cs, e, hb⟩
    · cases e
    · obtain ⟨rfl, rfl, _⟩ := Addr.mk.inj (Option.some.inj e)
      have hr := h.room _ _ cs rfl hb
      rw [set_cells8 hb] at hb2
      obtain ⟨rfl, _⟩ := Obj.cells.inj (Option.some.inj hb2)
      simpa using hr

/-- What has become of a row. -/
def AddedV (w : World) (A : Option Addr) (L : List PairV) (e : Ending) (w' : World) : Prop :=
  ∃ A' cap', e = .returned (.slice A' L.length cap') ∧ Slab w' A' cap' L ∧ w.grownBy w' (blkA A) ∧ (A' = A ∨ ∀ k, blkA A' = some k → w.heap.size ≤ k)

theorem pairs_from {w : World} {g off : Nat} {lo hi : List PairV} (h : Pairs w (some ⟨g, off, none⟩) (lo ++ hi)) (n : Nat) (hn : lo.length = n) : Pairs w (some ⟨g, off + n * 2, none⟩) hi := by
  have h1 := h.shift n
  rw [List.drop_append_of_le_length (by omega), List.drop_of_length_le (by omega), List.nil_append] at h1
  exact h1

end Go.Proofs.Ytdblicfcfmfneaa
/-
  Walk: the library's slices.Insert of one pair into a row of pairs that may be written: in its own room, or in a new block.
-/
namespace Go.Proofs.Ytdblicfcfmfneaa
set_option linter.unusedVariables false
set_option linter.unusedSimpArgs false
open Go.RowKit

/-- Putting v between A and H, where there is room behind. -/
theorem shift_in {A H R v : List Value} {a h : Nat} (hA : A.length = a) (hH : H.length = h) (hv : v.length = 2) :
    (((A ++ H ++ R).take (a + 2) ++ H ++ (A ++ H ++ R).drop (a + 2 + h)).take a) ++ v ++ (((A ++ H ++ R).take (a + 2) ++ H ++ (A ++ H ++ R).drop (a + 2 + h)).drop (a + 2)) = A ++ v ++ H ++ R.drop 2 ∨ (A ++ H ++ R).length < a + 2 := by
  by_cases hl : (A ++ H ++ R).length < a + 2
  · exact Or.inr hl
  left
  subst hA hH
  have h1 : ((A ++ H ++ R).take (A.length + 2)).length = A.length + 2 := by rw [List.length_take]; omega
  have h2 : (A ++ H ++ R).drop (A.length + 2 + H.length) = R.drop 2 := by
    rw [List.drop_append, List.drop_of_length_le (by rw [List.length_append]; omega), List.nil_append, List.length_append]
    congr 1; omega
  have hT : List.take A.length ((A ++ H ++ R).take (A.length + 2)) = A := by
    rw [List.take_take, Nat.min_eq_left (by omega), List.append_assoc, List.take_left' rfl]
  rw [h2]
  generalize (A ++ H ++ R).take (A.length + 2) = T at *
  rw [List.append_assoc T, List.take_append_of_le_length (by omega), hT, List.drop_left' h1]
  simp
theorem shift_new {A H W v : List Value} {a h : Nat} (hA : A.length = a) (hH : H.length = h) (hv : v.length = 2) :
    ((((A ++ W).take a ++ v ++ (A ++ W).drop (a + 2)).take (a + 2)) ++ H ++ (((A ++ W).take a ++ v ++ (A ++ W).drop (a + 2)).drop (a + 2 + h))) = A ++ v ++ H ++ W.drop (2 + h) := by
  subst hA hH
  have h1 : (A ++ W).take A.length = A := by rw [List.take_append, List.take_length, Nat.sub_self, List.take_zero, List.append_nil]
  have h2 : (A ++ W).drop (A.length + 2) = W.drop 2 := by
    rw [List.drop_append, List.drop_of_length_le (by omega), List.nil_append]; congr 1; omega
  have h3 : (A ++ v).length = A.length + 2 := by rw [List.length_append]; omega
  rw [h1, h2, List.take_append, List.drop_append, List.take_of_length_le (by omega), h3, Nat.sub_self, List.take_zero, List.append_nil, List.drop_of_length_le (by omega), List.nil_append, List.drop_drop]
  congr 2; omega

/-- What a block's cells say of a row in it, and back. -/
theorem pairs_cells {w : World} {g off : Nat} {cs : Array Value} {L : List PairV} (h : Pairs w (some ⟨g, off, none⟩) L) (hg : w.heap[g]? = some (.cells cs 34 (0, 0))) (hl : off + L.length * 2 ≤ cs.size) :
    cs.toList = cs.toList.take off ++ cellsQ L ++ cs.toList.drop (off + L.length * 2) := by
  have hQ := cellsQ_len L
  have key : (cs.toList.drop off).take (L.length * 2) = cellsQ L := by
    apply List.ext_getElem?
    intro j
    by_cases hj : j < L.length * 2
    · rw [List.getElem?_take_of_lt hj, List.getElem?_drop]
      have hq := List.getElem?_eq_getElem (l := L) (i := j / 2) (by omega)
      obtain ⟨b', off', e, _, c0, c1⟩ := h.at_ (j / 2) _ hq
      obtain ⟨rfl, rfl, _⟩ := Addr.mk.inj (Option.some.inj e)
      obtain ⟨q0, q1⟩ := cellsQ_at L (j / 2) _ hq
      rw [Joins.cell_of_block hg] at c0 c1
      rcases Nat.mod_two_eq_zero_or_one j with h2 | h2
      · have e1 : j / 2 * 2 = j := by omega
        rw [e1] at q0 c0; rw [q0, ← c0]; simp
      · have e1 : j / 2 * 2 + 1 = j := by omega
        rw [Nat.add_assoc, e1] at c1; rw [e1] at q1; rw [q1, ← c1]; simp
    · rw [List.getElem?_eq_none (by rw [List.length_take]; omega), List.getElem?_eq_none (by omega)]
  rw [List.append_assoc, ← key]
  have h2 : (cs.toList.drop off).drop (L.length * 2) = cs.toList.drop (off + L.length * 2) := by rw [List.drop_drop]
  rw [← h2, List.take_append_drop, List.take_append_drop]
theorem cells_pairs {w : World} {g off : Nat} {cs : Array Value} {L : List PairV} (ok : ∀ p, p ∈ L → okP p) (hg : w.heap[g]? = some (.cells cs 34 (0, 0))) {P R : List Value} (hP : P.length = off) (hc : cs.toList = P ++ cellsQ L ++ R) :
    Pairs w (some ⟨g, off, none⟩) L := by
  refine ⟨ok, fun i p hi => ⟨g, off, rfl, lt_of_block hg, ?_, ?_⟩⟩
  all_goals
    obtain ⟨q0, q1⟩ := cellsQ_at L i p hi
    have hlt : i < L.length := by
      rcases Nat.lt_or_ge i L.length with h1 | h1
      · exact h1
      · rw [List.getElem?_eq_none h1] at hi; cases hi
    have hQ := cellsQ_len L
    rw [Joins.cell_of_block hg]
    have e : ∀ o, cs[o]? = cs.toList[o]? := fun o => Array.getElem?_toList.symm
    rw [e, hc, List.append_assoc, List.getElem?_append_right (by omega), List.getElem?_append_left (by omega)]
  · rw [show off + i * 2 - P.length = i * 2 by omega]; exact q0
  · rw [show off + i * 2 + 1 - P.length = i * 2 + 1 by omega]; exact q1

/-- copy at rows of pairs: all is read before anything is written. -/
theorem run_copy_pairs (w : World) (ty : TypeId) (g o dLen dCap : Nat) (a : Addr) (sLen sCap : Nat) (cur : Array Value) (t : TypeId) (k : Nat) (cs : List Value)
    (hg : w.heap[g]? = some (.cells cur t (0, 0))) (hk : k = Nat.min sLen dLen) (hn : cs.length = k * 2)
    (hsrc : ∀ j v, cs[j]? = some v → w.cell? (a.add j) = some v) (hfit : o + cs.length ≤ cur.size) (h1 : ∀ v ∈ cs, v.oneCell' = true) :
    (Builtin.copy_ #[22, 22] ty #[.slice (some ⟨g, o, none⟩) dLen dCap, .slice (some a) sLen sCap]).run Try.prog w =
      .ok (goInt k) (w.setRow g (cur.toList.take o ++ cs ++ cur.toList.drop (o + cs.length)).toArray) := by
  have hl := run_loadCells_list (P := Try.prog) w a cs hsrc
  have hst := run_storeCells_at Try.prog g o t cs 0 cur w hg (by simpa using hfit) h1
  obtain ⟨i0, hi, hz0, hz1, hz2⟩ := info_parts Try.infoPair
  simp [Builtin.copy_, run_underlying Try.underlying22, Builtin.lenOf, Builtin.firstCells, sizeOf, typeInfo, hi, hz1, ← hk, ← hn, hl, hst]
theorem run_copy_pairs0 (w : World) (ty : TypeId) (d a : Addr) (dLen dCap sLen sCap : Nat) (hk : Nat.min sLen dLen = 0) :
    (Builtin.copy_ #[22, 22] ty #[.slice (some d) dLen dCap, .slice (some a) sLen sCap]).run Try.prog w = .ok (goInt 0) w := by
  obtain ⟨i0, hi, hz0, hz1, hz2⟩ := info_parts Try.infoPair
  have hl : (loadCells a 0).run Try.prog w = .ok #[] w := run_loadCells_list (P := Try.prog) w a [] (fun j v hj => by simp at hj)
  simp [Builtin.copy_, run_underlying Try.underlying22, Builtin.lenOf, Builtin.firstCells, sizeOf, typeInfo, hi, hz1, hk, hl, storeCells]
end Go.Proofs.Ytdblicfcfmfneaa

namespace Go.Proofs.Ytdblicfcfmfneaa
set_option linter.unusedVariables false
set_option linter.unusedSimpArgs false
open Go.RowKit

theorem setCells_row {w : World} {g o : Nat} {cur : Array Value} {t : TypeId} {vs : List Value} (hg : w.heap[g]? = some (.cells cur t (0, 0))) (hl : o + vs.length ≤ cur.size) (h1 : ∀ v ∈ vs, v.oneCell' = true) :
    w.setCells g o vs = w.setRow g (cur.toList.take o ++ vs ++ cur.toList.drop (o + vs.length)).toArray := by
  have a := run_storeCells_at Try.prog g o t vs 0 cur w hg (by simpa using hl) h1
  have b := run_storeCells_cells (P := Try.prog) g o vs 0 w (fun j hj => by rw [Joins.cell_of_block hg, Array.getElem?_eq_getElem (by omega)]; rfl) (fun j hj => free8 hg _) h1
  rw [a] at b
  simp only [Nat.add_zero] at b
  injection b with _ b2
  exact b2.symm
theorem grown_setRow (w : World) (g : Nat) (cs : Array Value) : w.grownBy (w.setRow g cs) (some g) :=
  ⟨rfl, rfl, rfl, by simp [World.setRow], fun k hk hr => setRow_other w g k cs (fun e => hr (by rw [e]))⟩
theorem slab_of_cells {w : World} {g off cap : Nat} {X : Array Value} {L : List PairV} {P R : List Value} (ok : ∀ p, p ∈ L → okP p) (hg : w.heap[g]? = some (.cells X 34 (0, 0))) (hP : P.length = off) (hc : X.toList = P ++ cellsQ L ++ R)
    (hfit : L.length ≤ cap) (hr : off + cap * 2 ≤ X.size) (hcap : cap ≤ 9223372036854775807) : Slab w (some ⟨g, off, none⟩) cap L :=
  ⟨cells_pairs ok hg hP hc, hfit, Or.inr ⟨g, off, X, rfl, hg⟩, (fun g' off' cs' e hg' => by
    obtain ⟨rfl, rfl, _⟩ := Addr.mk.inj (Option.some.inj e)
    rw [hg] at hg'
    obtain ⟨rfl, _⟩ := Obj.cells.inj (Option.some.inj hg')
    exact hr), hcap⟩

/-- The pair that is put in, as its call lays it: in a block of its own. -/
structure OneP (w : World) (vb : Nat) (i c : Int) : Prop where
  blk : w.heap[vb]? = some (.cells #[.int .i64 i, .int .u64 c] 34 (0, 0))
theorem OneP.at_ {w : World} {vb : Nat} {i c : Int} (h : OneP w vb i c) : ∀ (j : Nat) (u : Value), [Value.int .i64 i, .int .u64 c][j]? = some u → w.cell? ((⟨vb, 0, none⟩ : Addr).add j) = some u := by
  intro j u hj
  rw [Addr.add_lit, Nat.zero_add, Joins.cell_of_block h.blk]
  rw [← hj]; simp

theorem cells_mid (lo hi : List PairV) (i c : Int) : cellsQ (lo ++ ((i, c) :: hi)) = cellsQ lo ++ [.int .i64 i, .int .u64 c] ++ cellsQ hi := by
  rw [cellsQ_app, cellsQ_cons]; simp [cellsP]

set_option maxRecDepth 100000 in
set_option maxHeartbeats 4000000 in
/-- At the end, where there is room. -/
theorem ins_end_room (w : World) (g off cap n vb : Nat) (L : List PairV) (i c : Int) (h : Slab w (some ⟨g, off, none⟩) cap L) (hn : L.length = n) (hlt : n < cap) (hv : OneP w vb i c) (hi : I64 i) (hc : Word c) :
    Calls Try.prog 55 #[.slice (some ⟨g, off, none⟩) n cap, .int .i64 n, .slice (some ⟨vb, 0, none⟩) 1 1] w (AddedV w (some ⟨g, off, none⟩) (L ++ [(i, c)])) := by
  obtain ⟨i0, hi0, hz0, hz1, hz2⟩ := info_parts Try.infoPair
  obtain ⟨cs, hg⟩ : ∃ cs, w.heap[g]? = some (.cells cs 34 (0, 0)) := by
    rcases h.blk with ⟨e, _⟩ | ⟨g', off', cs, e, hb⟩
    · cases e
    · obtain ⟨rfl, rfl, _⟩ := Addr.mk.inj (Option.some.inj e)
      exact ⟨cs, hb⟩
  have hr := h.room _ _ _ rfl hg
  have hcm := h.capm
  have hsrc : Src Try.prog i0.size 22 (.slice (some ⟨vb, 0, none⟩) 1 1) 1 [.int .i64 i, .int .u64 c] w := Src.ofSlice w Try.underlying22 ⟨vb, 0, none⟩ 1 1 _ (by rw [hz1]; rfl) hv.at_ (by intro u hu; simp at hu; rcases hu with rfl | rfl <;> rfl)
  have hE := setCells_row (o := off + n * i0.size) (vs := [.int .i64 i, .int .u64 c]) hg (by rw [hz1]; simp; omega) (by intro u hu; simp at hu; rcases hu with rfl | rfl <;> rfl)
  have hroom1 : ∀ j, j < [Value.int .i64 i, .int .u64 c].length → (w.cell? ⟨g, off + n * i0.size + j, none⟩).isSome = true := fun j hj => by
    rw [hz1, Joins.cell_of_block hg, Array.getElem?_eq_getElem (by simp at hj; omega)]; rfl
  have hfin : AddedV w (some ⟨g, off, none⟩) (L ++ [(i, c)]) (.returned (.slice (some ⟨g, off, none⟩) (n + 1) cap)) (w.setCells g (off + n * i0.size) [.int .i64 i, .int .u64 c]) := by
    rw [hE]
    have hc1 := pairs_cells h.pairs hg (by omega)
    have hT : (cs.toList.take off).length = off := by rw [List.length_take]; simp; omega
    have hQ := cellsQ_len L
    refine ⟨some ⟨g, off, none⟩, cap, by simp [hn], ?_, grown_setRow w g _, Or.inl rfl⟩
    refine slab_of_cells (P := cs.toList.take off) (R := (cs.toList.drop (off + L.length * 2)).drop 2) (by intro p hp; rcases List.mem_append.1 hp with h1 | h1; exact h.pairs.ok p h1; simp at h1; subst h1; exact ⟨hi, hc⟩) (setRow_heap w g _ _ _ _ hg) hT ?_ (by simp; omega) ?_ hcm
    · have e1 : cs.toList.take (off + n * i0.size) = cs.toList.take off ++ cellsQ L := by
        rw [hz1, ← hn, List.take_add]
        congr 1
        have : cs.toList.drop off = cellsQ L ++ cs.toList.drop (off + L.length * 2) := by
          conv => lhs; rw [hc1, List.append_assoc, List.drop_append, List.drop_of_length_le (by omega), hT, Nat.sub_self, List.drop_zero, List.nil_append]
        rw [this, List.take_append, ← hQ, List.take_length, Nat.sub_self, List.take_zero, List.append_nil]
      rw [e1, cellsQ_app, cellsQ_one', hz1, ← hn]
      simp [List.drop_drop]
    · rw [hz1]; simp; omega
  rw [hz1] at hfin
  have HF := Lib.hid hfin
  clear hfin hE hr
  go_enter Try.func55, Try.ntmps55
  go_wp2_with (at_builtin; refine wpList_append_room_src _ rfl (.tmp 23) (.tmp 24) 22 22 rfl 34 i0 Try.underlying22 hi0 g off n cap rfl _ rfl 1 _ hsrc hlt hroom1 (fun j hj => free8 hg _) ?_)
  go_ret
  exact HF.out

theorem zero_len (z : Array Value) (n : Nat) : (Builtin.zeroCells z n).size = n * z.size := by simp [Builtin.zeroCells]
theorem old_cells {w : World} {A : Option Addr} {cap : Nat} {L : List PairV} (h : Slab w A cap L) (sz k c2 : Nat) (hz : sz = 2) (hk : k ≤ L.length) : (Builtin.firstCells sz k (.slice A k c2)).run Try.prog w = .ok (cellsQ (L.take k)).toArray w := by
  subst hz
  have hlen : (L.take k).length = k := by rw [List.length_take]; omega
  rcases h.form with ⟨rfl, rfl, rfl⟩ | ⟨g, off, rfl⟩
  · have : k = 0 := by simpa using hk
    subst this
    exact run_firstCells_none w 2 0 0 c2
  · refine run_firstCells_some w 2 k ⟨g, off, none⟩ k c2 (cellsQ (L.take k)) (by rw [cellsQ_len, hlen]) fun j u hj => ?_
    have hjl : j < k * 2 := by
      rcases Nat.lt_or_ge j (k * 2) with h1 | h1
      · exact h1
      · rw [List.getElem?_eq_none (by rw [cellsQ_len, hlen]; omega)] at hj; cases hj
    have hq := List.getElem?_eq_getElem (l := L.take k) (i := j / 2) (by omega)
    have hq2 : L[j / 2]? = some ((L.take k)[j / 2]'(by omega)) := by rw [← hq, List.getElem?_take_of_lt (by omega)]
    obtain ⟨b', off', e, _, c0, c1⟩ := h.pairs.at_ (j / 2) _ hq2
    obtain ⟨rfl, rfl, _⟩ := Addr.mk.inj (Option.some.inj e)
    obtain ⟨q0, q1⟩ := cellsQ_at (L.take k) (j / 2) _ hq
    rw [Addr.add_lit]
    rcases Nat.mod_two_eq_zero_or_one j with h2 | h2
    · have e1 : j / 2 * 2 = j := by omega
      rw [e1] at q0 c0; rw [c0, ← hj, q0]
    · have e1 : j / 2 * 2 + 1 = j := by omega
      rw [Nat.add_assoc, e1] at c1; rw [e1] at q1; rw [c1, ← hj, q1]

set_option maxRecDepth 100000 in
set_option maxHeartbeats 4000000 in
/-- At the end, where there is no room: a new block. -/
theorem ins_end_grow (w : World) (A : Option Addr) (n vb : Nat) (L : List PairV) (i c : Int) (h : Slab w A n L) (hn : L.length = n) (hl : n ≤ 100000) (hv : OneP w vb i c) (hi : I64 i) (hc : Word c) :
    Calls Try.prog 55 #[.slice A n n, .int .i64 n, .slice (some ⟨vb, 0, none⟩) 1 1] w (AddedV w A (L ++ [(i, c)])) := by
  obtain ⟨i0, hi0, hz0, hz1, hz2⟩ := info_parts Try.infoPair
  have hsrc : Src Try.prog i0.size 22 (.slice (some ⟨vb, 0, none⟩) 1 1) 1 [.int .i64 i, .int .u64 c] w := Src.ofSlice w Try.underlying22 ⟨vb, 0, none⟩ 1 1 _ (by rw [hz1]; rfl) hv.at_ (by intro u hu; simp at hu; rcases hu with rfl | rfl <;> rfl)
  have hdr : Slab w.drew A n L := h.keep fun k hk => rfl
  have hold := old_cells hdr i0.size n n hz1 (by omega)
  rw [List.take_of_length_le (by omega)] at hold
  have hrun : ∀ ty, (Builtin.append_ #[22, 22] ty #[.slice A n n, .slice (some ⟨vb, 0, none⟩) 1 1]).run Try.prog w = _ := fun ty =>
    run_append_grow_src w 22 22 ty 34 i0 _ Try.underlying22 hi0 hz0 A n n (cellsQ L) hold _ 1 _ hsrc (by omega) (by omega) (by rw [hz2]; exact growslice_fits (by omega) (by omega))
  obtain ⟨G, hG⟩ : ∃ G, G = grownCap w (n + 1) n 34 := ⟨_, rfl⟩
  have hGn : n + 1 ≤ G := by rw [hG]; exact grownCap_ge w _ _ _
  have hGm := grownCap_le_maxLen w (n + 1) n 34 (by unfold maxLen; omega)
  rw [← hG] at hrun hGm
  have hG63 : G ≤ 9223372036854775807 := by unfold maxLen at hGm; omega
  obtain ⟨X, hX⟩ : ∃ X : Array Value, X = (cellsQ L ++ [Value.int .i64 i, Value.int .u64 c]).toArray ++ Builtin.zeroCells (Value.agg #[.int .i64 0, .int .u64 0]).cells (G - (n + 1)) := ⟨_, rfl⟩
  rw [← hX] at hrun
  have hfin : AddedV w A (L ++ [(i, c)]) (.returned (.slice (some ⟨w.heap.size, 0, none⟩) (n + 1) G)) (w.drew.alloc (.cells X 34)) := by
    refine ⟨some ⟨w.heap.size, 0, none⟩, G, by simp [hn], ?_, grown_call (grown_refl w _) ((Below.refl _ _).drew.alloc (Nat.le_refl _) _), Or.inr fun k hk => by cases hk; exact Nat.le_refl _⟩
    refine slab_of_cells (P := []) (R := (Builtin.zeroCells (Value.agg #[.int .i64 0, .int .u64 0]).cells (G - (n + 1))).toList) (by intro p hp; rcases List.mem_append.1 hp with h1 | h1; exact h.pairs.ok p h1; simp at h1; subst h1; exact ⟨hi, hc⟩) (heap_alloc_new w.drew _) rfl ?_ (by simp; omega) ?_ hG63
    · rw [hX, cellsQ_app, cellsQ_one']; simp
    · have hQ := cellsQ_len L
      rw [hX]; simp [zero_len, Value.cells, hQ]; omega
  have HF := Lib.hid hfin
  have hform := h.form
  have HR := Lib.hid hrun
  clear hfin hold hdr hG hGm hX hrun hz0 hz1 hz2 hsrc h
  rcases hform with ⟨rfl, rfl, rfl⟩ | ⟨g, off, rfl⟩
  · go_enter Try.func55, Try.ntmps55
    go_wp2_with (at_builtin; refine Lib.wpList_append_run _ rfl _ _ _ _ rfl _ _ rfl rfl _ _ (HR.out _) ?_)
    go_ret
    exact HF.out
  · go_enter Try.func55, Try.ntmps55
    go_wp2_with (at_builtin; refine Lib.wpList_append_run _ rfl _ _ _ _ rfl _ _ rfl rfl _ _ (HR.out _) ?_)
    all_goals (go_ret; exact HF.out)
end Go.Proofs.Ytdblicfcfmfneaa

/-
  Walk: the library's slices.Insert of one pair into a row of pairs, not at its end: all behind it moves up.
-/
namespace Go.Proofs.Ytdblicfcfmfneaa
set_option linter.unusedVariables false
set_option linter.unusedSimpArgs false
open Go.RowKit

theorem ok_mid {lo hi : List PairV} {i c : Int} (h : ∀ p, p ∈ lo ++ hi → okP p) (hi' : I64 i) (hc : Word c) : ∀ p, p ∈ lo ++ ((i, c) :: hi) → okP p := by
  intro p hp
  rcases List.mem_append.1 hp with h1 | h1
  · exact h p (List.mem_append_left _ h1)
  · rcases List.mem_cons.1 h1 with rfl | h2
    · exact ⟨hi', hc⟩
    · exact h p (List.mem_append_right _ h2)
/-- A block of pairs, split at an index. -/
theorem split_cells {w : World} {g off n N : Nat} {cs : Array Value} {lo hi : List PairV} (h : Pairs w (some ⟨g, off, none⟩) (lo ++ hi)) (hg : w.heap[g]? = some (.cells cs 34 (0, 0))) (hn : lo.length = n) (hN : (lo ++ hi).length = N) (hl : off + N * 2 ≤ cs.size) :
    ∃ A R : List Value, cs.toList = A ++ cellsQ hi ++ R ∧ A.length = off + n * 2 ∧ (cellsQ hi).length = (N - n) * 2 ∧ (∃ P : List Value, P.length = off ∧ A = P ++ cellsQ lo) ∧ R.length = cs.size - (off + N * 2) := by
  have hc := pairs_cells h hg (by omega)
  have hQ1 := cellsQ_len lo
  have hQ2 := cellsQ_len hi
  have hNN : lo.length + hi.length = N := by rw [← hN, List.length_append]
  refine ⟨cs.toList.take off ++ cellsQ lo, cs.toList.drop (off + (lo ++ hi).length * 2), ?_, ?_, ?_, ⟨_, ?_, rfl⟩, ?_⟩
  · rw [List.append_assoc (cs.toList.take off), ← cellsQ_app]; exact hc
  · rw [List.length_append, List.length_take]; simp; omega
  · omega
  · rw [List.length_take]; simp; omega
  · rw [hN, List.length_drop]; simp

set_option maxRecDepth 100000 in
set_option maxHeartbeats 4000000 in
/-- There is room: in its own block. -/
theorem ins_shift (w : World) (g off cap n N vb : Nat) (lo hi : List PairV) (i c : Int) (h : Slab w (some ⟨g, off, none⟩) cap (lo ++ hi)) (hn : lo.length = n) (hN : (lo ++ hi).length = N) (hlt : n < N) (hroom : N < cap) (hv : OneP w vb i c) (hvg : vb ≠ g) (hi' : I64 i) (hc : Word c) :
    Calls Try.prog 55 #[.slice (some ⟨g, off, none⟩) N cap, .int .i64 n, .slice (some ⟨vb, 0, none⟩) 1 1] w (AddedV w (some ⟨g, off, none⟩) (lo ++ ((i, c) :: hi))) := by
  obtain ⟨cs, hg⟩ : ∃ cs, w.heap[g]? = some (.cells cs 34 (0, 0)) := by
    rcases h.blk with ⟨e, _⟩ | ⟨g', off', cs, e, hb⟩
    · cases e
    · obtain ⟨rfl, rfl, _⟩ := Addr.mk.inj (Option.some.inj e)
      exact ⟨cs, hb⟩
  have hr := h.room _ _ _ rfl hg
  have hcm := h.capm
  obtain ⟨CA, CR, hcs, hA, hH, ⟨CP, hP, hAP⟩, hR⟩ := split_cells h.pairs hg hn hN (by omega)
  have hgd : w.drew.heap[g]? = some (.cells cs 34 (0, 0)) := hg
  obtain ⟨H, hHe⟩ : ∃ H, cellsQ hi = H := ⟨_, rfl⟩
  have hH1 : ∀ v ∈ H, v.oneCell' = true := by rw [← hHe]; exact cellsQ_one hi
  have hv1 : ∀ u ∈ [Value.int .i64 i, .int .u64 c], u.oneCell' = true := by intro u hu; simp at hu; rcases hu with rfl | rfl <;> rfl
  rw [hHe] at hcs hH
  have hsrc : ∀ j v, H[j]? = some v → w.drew.cell? ((⟨g, off + n * 2, none⟩ : Addr).add j) = some v := fun j v hj => by
    rw [Addr.add_lit, Joins.cell_of_block hgd, ← Array.getElem?_toList, hcs, List.append_assoc, List.getElem?_append_right (by omega), show off + n * 2 + j - CA.length = j by omega]
    have hjl : j < H.length := by
      rcases Nat.lt_or_ge j H.length with h1 | h1
      · exact h1
      · rw [List.getElem?_eq_none h1] at hj; cases hj
    rw [List.getElem?_append_left hjl]; exact hj
  obtain ⟨Y, hY⟩ : ∃ Y : Array Value, (cs.toList.take (off + (n + 1) * 2) ++ H ++ cs.toList.drop (off + (n + 1) * 2 + H.length)).toArray = Y := ⟨_, rfl⟩
  have hYs : Y.size = cs.size := by
    have e1 : cs.toList.length = cs.size := by simp
    rw [← hY]; simp; omega
  have hcp1 : ∀ ty dc sc, (Builtin.copy_ #[22, 22] ty #[.slice (some ⟨g, off + (n + 1) * 2, none⟩) (N - n) dc, .slice (some ⟨g, off + n * 2, none⟩) (N + 1 - n) sc]).run Try.prog w.drew = .ok (goInt ((N - n : Nat) : Int)) (w.drew.setRow g Y) := fun ty dc sc => by
    rw [← hY]
    exact run_copy_pairs w.drew ty g (off + (n + 1) * 2) _ dc ⟨g, off + n * 2, none⟩ _ sc cs 34 (N - n) H hgd (by simp only [Nat.min_def]; split <;> omega) hH hsrc (by omega) hH1
  obtain ⟨W1, hW1⟩ : ∃ W1, w.drew.setRow g Y = W1 := ⟨_, rfl⟩
  have hg1 : W1.heap[g]? = some (.cells Y 34 (0, 0)) := by rw [← hW1]; exact setRow_heap w.drew g _ _ _ _ hgd
  have hv2 : OneP W1 vb i c := ⟨by rw [← hW1, setRow_other _ _ _ _ hvg]; exact hv.blk⟩
  obtain ⟨Z, hZ⟩ : ∃ Z : Array Value, (Y.toList.take (off + n * 2) ++ [Value.int .i64 i, .int .u64 c] ++ Y.toList.drop (off + n * 2 + [Value.int .i64 i, .int .u64 c].length)).toArray = Z := ⟨_, rfl⟩
  have hcp2 : ∀ (W : World), W.heap = W1.heap → ∀ ty dc, (Builtin.copy_ #[22, 22] ty #[.slice (some ⟨g, off + n * 2, none⟩) (N + 1 - n) dc, .slice (some ⟨vb, 0, none⟩) 1 1]).run Try.prog W = .ok (goInt ((1 : Nat) : Int)) (W.setRow g Z) := fun W hW ty dc => by
    rw [← hZ]
    exact run_copy_pairs W ty g (off + n * 2) _ dc ⟨vb, 0, none⟩ 1 1 Y 34 1 _ (by rw [hW]; exact hg1) (by simp only [Nat.min_def]; split <;> omega) rfl (fun j v hj => by
      have := hv2.at_ j v hj
      rwa [World.cell?_of_block (w := W1) (w' := W) (by rw [hW])]) (by simp; omega) hv1
  have hshape : w.shape? g = some (34, cs.size) := by simp [World.shape?, hg]
  have hshape2 : w.shape? vb = some (34, 2) := by simp [World.shape?, hv.blk]
  have hov : ∀ lb cb, (callFunc 61 #[.slice (some ⟨vb, 0, none⟩) 1 1, .slice (some ⟨g, off + (n + 1) * 2, none⟩) lb cb]).run Try.prog w = .ok (.value (.bool false)) w := fun lb cb => by
    obtain ⟨i0, hi0, hz0, hz1, hz2⟩ := info_parts Try.infoPair
    rw [run_callFunc_extern Try.func61 (by kernel_rfl) (by kernel_rfl) (by kernel_rfl) (e := Extern.SlicesOverlaps.overlaps #[22, 22] #[4]) (by kernel_rfl),
      Lib.run_overlaps_apart w 22 4 34 Try.underlying22 2 (fun w => by simp [sizeOf, typeInfo, hi0, hz1]) ⟨vb, 0, none⟩ ⟨g, off + (n + 1) * 2, none⟩ 1 1 lb cb hvg 34 34 2 cs.size hshape2 hshape (by omega) (free8 hv.blk _) (free8 hv.blk _)]
    rfl
  have hfin : ∀ W : World, W.heap = W1.heap → W.os = w.os → W.tape = w.tape → W.output = w.output → AddedV w (some ⟨g, off, none⟩) (lo ++ ((i, c) :: hi)) (.returned (.slice (some ⟨g, off, none⟩) (N + 1) cap)) (W.setRow g Z) := fun W hW ho ht hu => by
    have hl3 : (lo ++ ((i, c) :: hi)).length = N + 1 := by rw [← hN]; simp; omega
    have hsh := shift_in (A := CA) (H := H) (R := CR) (v := [Value.int .i64 i, .int .u64 c]) hA hH rfl
    have hlen : (CA ++ H ++ CR).length = cs.size := by rw [← hcs]; simp
    rcases hsh with hsh | hbad
    · have hg2 : (W.setRow g Z).heap[g]? = some (.cells Z 34 (0, 0)) := setRow_heap W g _ _ _ _ (by rw [hW]; exact hg1)
      have hZL : Z.toList = CP ++ cellsQ (lo ++ ((i, c) :: hi)) ++ CR.drop 2 := by
        rw [← hZ, ← hY, cells_mid, ← List.append_assoc CP, ← List.append_assoc CP, ← hAP, hHe, ← hsh, ← hcs]
        simp only [List.length_cons, List.length_nil]
        rw [show off + (n + 1) * 2 = off + n * 2 + 2 by omega, hH]
      refine ⟨some ⟨g, off, none⟩, cap, by rw [hl3], slab_of_cells (P := CP) (R := CR.drop 2) (ok_mid h.pairs.ok hi' hc) hg2 hP hZL (by omega) ?_ hcm, ?_, Or.inl rfl⟩
      · have : Z.size = cs.size := by
          have e1 : Z.size = Z.toList.length := by simp
          have hQ := cellsQ_len lo
          rw [e1, hZL, cells_mid, hHe]; simp only [List.length_append, List.length_drop, hH, hR, hP, hQ, List.length_cons, List.length_nil]
          rw [hAP, List.length_append, hP, hQ] at hA
          omega
        omega
      · have hk : W1.heap = (w.drew.setRow g Y).heap := by rw [hW1]
        exact grown_trans ⟨ho, ht, hu, by rw [hW, hk]; simp [World.setRow], fun k hk' hr' => by rw [hW, hk]; exact (setRow_other w.drew g k Y (fun e => hr' (by rw [e]; rfl)))⟩ (grown_setRow W g Z)
    · omega
  have ho1 : W1.os = w.os ∧ W1.tape = w.tape ∧ W1.output = w.output := by rw [← hW1]; exact ⟨rfl, rfl, rfl⟩
  have HF := Lib.hid (hfin W1 rfl ho1.1 ho1.2.1 ho1.2.2)
  rw [hW1] at hcp1
  have HC1 := Lib.hid hcp1
  have hA2 := hcp2 W1 rfl
  generalize W1.setRow g Z = W2 at *
  have hw1 : IntKind.i64.wrap ((n : Int) + 1) = (n : Int) + 1 := by rw [IntKind.wrap_i64]; omega
  have hw2 : IntKind.i64.wrap ((N : Int) + 1) = (N : Int) + 1 := by rw [IntKind.wrap_i64]; omega
  have hb1 : (0 : Int) ≤ (n : Int) + 1 := by omega
  have hb0 : (0 : Int) ≤ (N : Int) + 1 := by omega
  have htn : ((n : Int) + 1).toNat = n + 1 := by omega
  have htN : ((N : Int) + 1).toNat = N + 1 := by omega
  have hb2 : ¬ (cap = n + 1) := by omega
  have hb4 : ¬ (cap = n) := by omega
  have hz2 : ¬ ((n : Int) = (N : Int)) := by omega
  have hin : n ≤ N := by omega
  have hin2 : n ≤ cap := by omega
  have hb3 : (n : Int) ≤ (N : Int) + 1 := by omega
  have hb5 : (n : Int) + 1 ≤ (N : Int) + 1 := by omega
  have hb6 : ¬ ((cap : Int) < (N : Int) + 1) := by omega
  have hb7 : (N : Int) + 1 ≤ (cap : Int) := by omega
  clear hfin hcp1 hcp2 hg1 ho1 hW1 hZ hY hYs hsrc hcs hA hH hP hAP hR hHe hH1 hv1 hgd hr h hv2 hn hN hshape hshape2 hg
  go_enter Try.func55, Try.ntmps55
  go_wp2_with (simp only [hov])
  go_region_law (refine step_copy_runI rfl _ _ 22 22 rfl (.slice (some ⟨g, off + (n + 1) * 2, none⟩) (N - n) (cap - (n + 1))) (.slice (some ⟨g, off + n * 2, none⟩) (N + 1 - n) (cap - n)) (by simp [Act.eval, Act.put]) (by simp [Act.eval, Act.put]) (HC1.out _ _ _) ?_)
  go_wp2_with fail
  go_ret
  exact HF.out

set_option maxRecDepth 100000 in
set_option maxHeartbeats 4000000 in
/-- There is no room: a new block. -/
theorem ins_grow (w : World) (g off n N vb : Nat) (lo hi : List PairV) (i c : Int) (h : Slab w (some ⟨g, off, none⟩) N (lo ++ hi)) (hn : lo.length = n) (hN : (lo ++ hi).length = N) (hlt : n < N) (hl : N ≤ 100000) (hv : OneP w vb i c) (hi' : I64 i) (hc : Word c) :
    Calls Try.prog 55 #[.slice (some ⟨g, off, none⟩) N N, .int .i64 n, .slice (some ⟨vb, 0, none⟩) 1 1] w (AddedV w (some ⟨g, off, none⟩) (lo ++ ((i, c) :: hi))) := by
  obtain ⟨i0, hi0, hz0, hz1, hz2⟩ := info_parts Try.infoPair
  obtain ⟨cs, hg⟩ : ∃ cs, w.heap[g]? = some (.cells cs 34 (0, 0)) := by
    rcases h.blk with ⟨e, _⟩ | ⟨g', off', cs, e, hb⟩
    · cases e
    · obtain ⟨rfl, rfl, _⟩ := Addr.mk.inj (Option.some.inj e)
      exact ⟨cs, hb⟩
  have hgw : g < w.heap.size := lt_of_block hg
  have hvw : vb < w.heap.size := lt_of_block hv.blk
  have hr := h.room _ _ _ rfl hg
  have hQ := cellsQ_len lo
  have hQh := cellsQ_len hi
  have hNN : lo.length + hi.length = N := by rw [← hN, List.length_append]
  have hdr : Slab w.drew (some ⟨g, off, none⟩) N (lo ++ hi) := h.keep fun k hk => rfl
  have hold := old_cells hdr i0.size n N hz1 (by omega)
  rw [List.take_append_of_le_length (by omega), List.take_of_length_le (by omega)] at hold
  have hik : n + (N + 1 - n) = N + 1 := by omega
  have hkk : (N : Int) + 1 - (n : Int) = ((N + 1 - n : Nat) : Int) := by omega
  obtain ⟨G, hG⟩ : ∃ G, G = grownCap w (N + 1) N 34 := ⟨_, rfl⟩
  have hGn : N + 1 ≤ G := by rw [hG]; exact grownCap_ge w _ _ _
  have hGm := grownCap_le_maxLen w (N + 1) N 34 (by unfold maxLen; omega)
  rw [← hG] at hGm
  have hG63 : G ≤ 9223372036854775807 := by unfold maxLen at hGm; omega
  obtain ⟨V, hV⟩ : ∃ V : List Value, V = (Builtin.zeroCells (Value.agg #[.int .i64 0, .int .u64 0]).cells (N + 1 - n)).toList ++ (Builtin.zeroCells (Value.agg #[.int .i64 0, .int .u64 0]).cells (G - (N + 1))).toList := ⟨_, rfl⟩
  have hVl : V.length = (G - n) * 2 := by
    rw [hV, List.length_append]; simp [zero_len, Value.cells]; omega
  obtain ⟨X, hX⟩ : ∃ X : Array Value, X = (cellsQ lo).toArray ++ Builtin.zeroCells (Value.agg #[.int .i64 0, .int .u64 0]).cells (N + 1 - n) ++ Builtin.zeroCells (Value.agg #[.int .i64 0, .int .u64 0]).cells (G - (N + 1)) := ⟨_, rfl⟩
  have hXL : X.toList = cellsQ lo ++ V := by rw [hX, hV]; simp
  have hXs : X.size = G * 2 := by
    have : X.size = X.toList.length := by simp
    rw [this, hXL, List.length_append]; omega
  have hrz : ∀ ty, (Builtin.append_ #[22, 3] ty #[.slice (some ⟨g, off, none⟩) n N, .int .i64 ((N : Int) + 1 - (n : Int))]).run Try.prog w =
      .ok (.slice (some ⟨w.heap.size, 0, none⟩) (N + 1) G) (w.drew.alloc (.cells X 34)) := fun ty => by
    have h1 := Lib.run_append_grow_zeros w 22 3 ty 34 i0 _ .i64 .i64 Try.underlying22 Try.underlying3 hi0 hz0 (some ⟨g, off, none⟩) n N (cellsQ lo) hold (N + 1 - n) (by omega) (by omega) (by omega) (by omega) (by rw [hz2]; omega) (by rw [hz2, hik]; exact growslice_fits (by omega) (by omega))
    rw [hik, ← hG, ← hX] at h1
    rw [hkk]
    exact h1
  obtain ⟨W1, hW1⟩ : ∃ W1, w.drew.alloc (.cells X 34) = W1 := ⟨_, rfl⟩
  have hb1' : Below w.heap.size w W1 := by rw [← hW1]; exact (Below.refl _ _).drew.alloc (Nat.le_refl _) _
  have hg1 : W1.heap[w.heap.size]? = some (.cells X 34 (0, 0)) := by rw [← hW1]; exact heap_alloc_new w.drew _
  have hv1 : ∀ u ∈ [Value.int .i64 i, .int .u64 c], u.oneCell' = true := by intro u hu; simp at hu; rcases hu with rfl | rfl <;> rfl
  have hvW : OneP W1 vb i c := ⟨(hb1'.block _ hvw).trans hv.blk⟩
  obtain ⟨Y, hY⟩ : ∃ Y : Array Value, (X.toList.take (n * 2) ++ [Value.int .i64 i, .int .u64 c] ++ X.toList.drop (n * 2 + [Value.int .i64 i, .int .u64 c].length)).toArray = Y := ⟨_, rfl⟩
  have hYs : Y.size = X.size := by
    have e1 : X.toList.length = X.size := by simp
    rw [← hY]; simp; omega
  have hcpA : ∀ (W : World), W.heap = W1.heap → ∀ ty dc, (Builtin.copy_ #[22, 22] ty #[.slice (some ⟨w.heap.size, n * 2, none⟩) (N + 1 - n) dc, .slice (some ⟨vb, 0, none⟩) 1 1]).run Try.prog W = .ok (goInt ((1 : Nat) : Int)) (W.setRow w.heap.size Y) := fun W hW ty dc => by
    rw [← hY]
    exact run_copy_pairs W ty w.heap.size (n * 2) _ dc ⟨vb, 0, none⟩ 1 1 X 34 1 _ (by rw [hW]; exact hg1) (by simp only [Nat.min_def]; split <;> omega) rfl (fun j v hj => by
      have := hvW.at_ j v hj
      rwa [World.cell?_of_block (w := W1) (w' := W) (by rw [hW])]) (by simp; omega) hv1
  obtain ⟨H, hHe⟩ : ∃ H, cellsQ hi = H := ⟨_, rfl⟩
  have hH1 : ∀ v ∈ H, v.oneCell' = true := by rw [← hHe]; exact cellsQ_one hi
  have hHl : H.length = (N - n) * 2 := by rw [← hHe]; omega
  obtain ⟨CA, CR, hcs, hA, hH, _, _⟩ := split_cells h.pairs hg hn hN (by omega)
  rw [hHe] at hcs
  have hsrc : ∀ (W : World), W.heap[g]? = w.heap[g]? → ∀ j v, H[j]? = some v → W.cell? ((⟨g, off + n * 2, none⟩ : Addr).add j) = some v := fun W hW j v hj => by
    rw [Addr.add_lit, Joins.cell_of_block (hW.trans hg), ← Array.getElem?_toList, hcs, List.append_assoc, List.getElem?_append_right (by omega), show off + n * 2 + j - CA.length = j by omega]
    have hjl : j < H.length := by
      rcases Nat.lt_or_ge j H.length with h1 | h1
      · exact h1
      · rw [List.getElem?_eq_none h1] at hj; cases hj
    rw [List.getElem?_append_left hjl]; exact hj
  obtain ⟨Z, hZ⟩ : ∃ Z : Array Value, (Y.toList.take ((n + 1) * 2) ++ H ++ Y.toList.drop ((n + 1) * 2 + H.length)).toArray = Z := ⟨_, rfl⟩
  have hcpB : ∀ (W : World), W.heap[w.heap.size]? = some (.cells Y 34 (0, 0)) → W.heap[g]? = w.heap[g]? → ∀ ty dc sc, (Builtin.copy_ #[22, 22] ty #[.slice (some ⟨w.heap.size, (n + 1) * 2, none⟩) (N + 1 - (n + 1)) dc, .slice (some ⟨g, off + n * 2, none⟩) (N - n) sc]).run Try.prog W = .ok (goInt ((N - n : Nat) : Int)) (W.setRow w.heap.size Z) := fun W hW hWg ty dc sc => by
    rw [← hZ]
    exact run_copy_pairs W ty w.heap.size ((n + 1) * 2) _ dc ⟨g, off + n * 2, none⟩ _ sc Y 34 (N - n) H hW (by simp only [Nat.min_def]; split <;> omega) hHl (hsrc W hWg) (by omega) hH1
  have hW2 : ∀ W : World, W.heap = W1.heap → (W.setRow w.heap.size Y).heap[w.heap.size]? = some (.cells Y 34 (0, 0)) ∧ (W.setRow w.heap.size Y).heap[g]? = w.heap[g]? := fun W hW =>
    ⟨setRow_heap W _ _ _ _ _ (by rw [hW]; exact hg1), by rw [setRow_other _ _ _ _ (by omega), hW]; exact hb1'.block _ hgw⟩
  have hfin : ∀ W : World, W.heap = W1.heap → W.os = w.os → W.tape = w.tape → W.output = w.output → AddedV w (some ⟨g, off, none⟩) (lo ++ ((i, c) :: hi)) (.returned (.slice (some ⟨w.heap.size, 0, none⟩) (N + 1) G)) (((W.setRow w.heap.size Y).drew).setRow w.heap.size Z) := fun W hW ho ht hu => by
    have hl3 : (lo ++ ((i, c) :: hi)).length = N + 1 := by rw [← hN]; simp; omega
    have hsh := shift_new (A := cellsQ lo) (H := H) (W := V) (v := [Value.int .i64 i, .int .u64 c]) (a := n * 2) (h := (N - n) * 2) (by omega) hHl rfl
    have hg2 : (((W.setRow w.heap.size Y).drew).setRow w.heap.size Z).heap[w.heap.size]? = some (.cells Z 34 (0, 0)) := setRow_heap _ _ _ _ _ _ (hW2 W hW).1
    have hZL : Z.toList = [] ++ cellsQ (lo ++ ((i, c) :: hi)) ++ V.drop (2 + (N - n) * 2) := by
      rw [← hZ, ← hY, hXL, cells_mid, hHe, List.nil_append, ← hsh]
      simp only [List.length_cons, List.length_nil]
      rw [show (n + 1) * 2 = n * 2 + 2 by omega, hHl]
    refine ⟨some ⟨w.heap.size, 0, none⟩, G, by rw [hl3], slab_of_cells (P := []) (R := V.drop (2 + (N - n) * 2)) (ok_mid h.pairs.ok hi' hc) hg2 rfl hZL (by omega) ?_ hG63, ?_, Or.inr fun k hk => by cases hk; exact Nat.le_refl _⟩
    · have : Z.size = Z.toList.length := by simp
      rw [this, hZL, cells_mid, hHe]; simp only [List.length_append, List.length_drop, List.length_cons, List.length_nil]
      omega
    · refine grown_call (grown_refl w _) ⟨ho, ht, hu, ?_, fun k hk => ?_⟩
      · have := hb1'.size
        simp only [World.setRow, Array.size_modify]
        show w.heap.size ≤ (W.heap.modify _ _).size
        rw [Array.size_modify, hW]; exact this
      · rw [setRow_other _ _ _ _ (by omega)]
        show (W.setRow w.heap.size Y).heap[k]? = _
        rw [setRow_other _ _ _ _ (by omega), hW]; exact hb1'.block k hk
  rw [hW1] at hrz
  have HR := Lib.hid hrz
  have ho1 : W1.os = w.os ∧ W1.tape = w.tape ∧ W1.output = w.output := by rw [← hW1]; exact ⟨rfl, rfl, rfl⟩
  have HF := Lib.hid (hfin W1 rfl ho1.1 ho1.2.1 ho1.2.2)
  have hA1 := hcpA W1 rfl
  have HB := Lib.hid (fun ty dc sc => hcpB (W1.setRow w.heap.size Y).drew (hW2 W1 rfl).1 (hW2 W1 rfl).2 ty dc sc)
  have HG2 : Hid ((W1.setRow w.heap.size Y).heap.size = (W1.setRow w.heap.size Y).heap.size) := Lib.hid rfl
  generalize W1.setRow w.heap.size Y = W2 at *
  have hw1 : IntKind.i64.wrap ((n : Int) + 1) = (n : Int) + 1 := by rw [IntKind.wrap_i64]; omega
  have hw2 : IntKind.i64.wrap ((N : Int) + 1) = (N : Int) + 1 := by rw [IntKind.wrap_i64]; omega
  have hw3 : IntKind.i64.wrap ((N : Int) + 1 - n) = (N : Int) + 1 - n := by rw [IntKind.wrap_i64]; omega
  have hb1 : (0 : Int) ≤ (n : Int) + 1 := by omega
  have htn : ((n : Int) + 1).toNat = n + 1 := by omega
  have hz2' : ¬ ((n : Int) = (N : Int)) := by omega
  have hz3 : (N : Int) < (N : Int) + 1 := by omega
  have hin : n ≤ N := by omega
  have hb3 : (n : Int) ≤ (N : Int) := by omega
  have hb5 : (n : Int) + 1 ≤ (N : Int) + 1 := by omega
  have hb8 : (n : Int) ≤ (N : Int) + 1 := by omega
  have hci : ¬ (N = n) := by omega
  have hGi : ¬ (G = n) := by omega
  have hGim : ¬ (G = n + 1) := by omega
  have hNG : (N : Int) + 1 ≤ (G : Int) := by omega
  clear HG2 hfin hrz hcpA hcpB hW2 hW1 ho1 hZ hY hYs hsrc hcs hA hH hHe hH1 hHl hv1 hvW hg1 hb1' hXs hXL hX hVl hV hG hGm hGn hik hkk hold hdr hQ hQh hNN hr hn hN h hz0 hz1 hz2 hgw hvw hg hv
  go_enter Try.func55, Try.ntmps55
  go_wp2_with (at_builtin; refine Lib.wpList_append_run _ rfl _ _ _ _ rfl _ _ rfl rfl _ _ (HR.out _) ?_)
  go_region_law (refine step_copy_runI rfl _ _ 22 22 rfl (.slice (some ⟨w.heap.size, (n + 1) * 2, none⟩) (N + 1 - (n + 1)) (G - (n + 1))) (.slice (some ⟨g, off + n * 2, none⟩) (N - n) (N - n)) (by simp [Act.eval, Act.put]) (by simp [Act.eval, Act.put]) (HB.out _ _ _) ?_)
  go_wp2_with fail
  go_ret
  exact HF.out

theorem ins_any (w : World) (A : Option Addr) (cap n N vb : Nat) (lo hi : List PairV) (i c : Int) (h : Slab w A cap (lo ++ hi)) (hn : lo.length = n) (hN : (lo ++ hi).length = N) (hl : N ≤ 100000) (hv : OneP w vb i c) (hvg : blkA A ≠ some vb) (hi' : I64 i) (hc : Word c) :
    Calls Try.prog 55 #[.slice A N cap, .int .i64 n, .slice (some ⟨vb, 0, none⟩) 1 1] w (AddedV w A (lo ++ ((i, c) :: hi))) := by
  have hfit := h.fit
  have hNN : lo.length + hi.length = N := by rw [← hN, List.length_append]
  by_cases he : n = N
  · have hh : hi = [] := List.eq_nil_of_length_eq_zero (by omega)
    subst hh he
    rw [List.append_nil] at h hfit
    by_cases hr : n < cap
    · rcases h.form with ⟨rfl, rfl, rfl⟩ | ⟨g, off, rfl⟩
      · omega
      · exact ins_end_room w g off cap n vb lo i c h hn hr hv hi' hc
    · obtain rfl : cap = n := by omega
      exact ins_end_grow w A cap vb lo i c h hn hl hv hi' hc
  · rcases h.form with ⟨rfl, e, rfl⟩ | ⟨g, off, rfl⟩
    · rw [e] at hN; simp at hN; omega
    · by_cases hr : N < cap
      · exact ins_shift w g off cap n N vb lo hi i c h hn hN (by omega) hr hv (fun e => hvg (by rw [e]; rfl)) hi' hc
      · obtain rfl : cap = N := by omega
        exact ins_grow w g off n cap vb lo hi i c h hn hN (by omega) hl hv hi' hc
end Go.Proofs.Ytdblicfcfmfneaa

/-
  Walk: wide.Plus of two numbers, that lie in a block of their own.
-/
namespace Go.Proofs.Ytdblicfcfmfneaa
set_option linter.unusedVariables false
set_option linter.unusedSimpArgs false
open Go.RowKit

def plus2B (a b : Int) : Bool := decide (a + b ≤ 9223372036854775807)
def plus2Q (a b : Int) : Int := if plus2B a b then a + b else 0

set_option maxRecDepth 100000 in
set_option maxHeartbeats 1000000 in
theorem plus_two (x y q : Int) (ok : Bool) (g cap : Nat) (w : World) (hx : Word x) (hy : Word y) (h0 : w.cell? ⟨g, 0, none⟩ = some (.int .u64 x)) (h1 : w.cell? ⟨g, 1, none⟩ = some (.int .u64 y)) (hq : plus2Q x y = q) (hb : plus2B x y = ok) :
    Calls Try.prog 33 #[.slice (some ⟨g, 0, none⟩) 2 cap] w fun e w' =>
      e = .returned (.tuple #[.int .u64 q, .bool ok]) ∧ w = w' := by
  obtain ⟨x0, x1⟩ := hx
  obtain ⟨y0, y1⟩ := hy
  have HQ := Lib.hid hq
  have HB := Lib.hid hb
  clear hq hb
  by_cases a1 : 9223372036854775807 < x
  · have E1 : Hid (ok = false) := Lib.hid (by rw [← HB.out]; unfold plus2B; apply decide_eq_false; omega)
    have E2 : Hid (q = 0) := Lib.hid (by rw [← HQ.out]; unfold plus2Q; rw [HB.out, E1.out]; rfl)
    go_enter Try.func33, Try.ntmps33
    go_wp2_with fail
    go_loop [4, 9] (fun s i => s = .int .u64 0 ∧ i = .int .i64 0) (fun _ _ => 0)
    case atStart => exact ⟨rfl, rfl⟩
    case round =>
      obtain ⟨rfl, rfl⟩ := hrel
      have a2 : 9223372036854775807 - 0 < x := by omega
      go_wp2_with fail
      exact bodyPost_ret (v := .tuple #[.int .u64 0, .bool false]) (by simp [results, Try.results33, go_sem]) rfl ⟨by rw [E1.out, E2.out], rfl⟩
  · by_cases a2 : 9223372036854775807 - x < y
    · have E1 : Hid (ok = false) := Lib.hid (by rw [← HB.out]; unfold plus2B; apply decide_eq_false; omega)
      have E2 : Hid (q = 0) := Lib.hid (by rw [← HQ.out]; unfold plus2Q; rw [HB.out, E1.out]; rfl)
      go_enter Try.func33, Try.ntmps33
      go_wp2_with fail
      go_loop [4, 9] (fun s i => (s = .int .u64 0 ∧ i = .int .i64 0) ∨ (s = .int .u64 x ∧ i = .int .i64 1)) (fun _ i => 2 - (intOf i).toNat)
      case atStart => exact Or.inl ⟨rfl, rfl⟩
      case round =>
        rcases hrel with ⟨rfl, rfl⟩ | ⟨rfl, rfl⟩
        · go_wp2_with fail
          go_round
          case rel => exact Or.inr ⟨by go_num, by go_num⟩
          case measure => simp [intOf]
        · go_wp2_with fail
          exact bodyPost_ret (v := .tuple #[.int .u64 0, .bool false]) (by simp [results, Try.results33, go_sem]) rfl ⟨by rw [E1.out, E2.out], rfl⟩
    · have E1 : Hid (ok = true) := Lib.hid (by rw [← HB.out]; unfold plus2B; apply decide_eq_true; omega)
      have E2 : Hid (q = x + y) := Lib.hid (by rw [← HQ.out]; unfold plus2Q; rw [HB.out, E1.out]; rfl)
      go_enter Try.func33, Try.ntmps33
      go_wp2_with fail
      go_loop [4, 9] (fun s i => (s = .int .u64 0 ∧ i = .int .i64 0) ∨ (s = .int .u64 x ∧ i = .int .i64 1) ∨ (s = .int .u64 (x + y) ∧ i = .int .i64 2)) (fun _ i => 2 - (intOf i).toNat)
      case atStart => exact Or.inl ⟨rfl, rfl⟩
      case round =>
        rcases hrel with ⟨rfl, rfl⟩ | ⟨rfl, rfl⟩ | ⟨rfl, rfl⟩
        · go_wp2_with fail
          go_round
          case rel => exact Or.inr (Or.inl ⟨by go_num, by go_num⟩)
          case measure => simp [intOf]
        · go_wp2_with fail
          go_round
          case rel => exact Or.inr (Or.inr ⟨by go_num, by go_num⟩)
          case measure => simp [intOf]
        · go_wp2_with fail
          exact bodyPost_ret (v := .tuple #[.int .u64 (x + y), .bool true]) (by simp [results, Try.results33, go_sem]) rfl ⟨by rw [E1.out, E2.out], rfl⟩
end Go.Proofs.Ytdblicfcfmfneaa

/-
  How package strip lays a strip in memory; walks: New, own, Len, Total, At, Ends, of a strip and of a nil one.
  Walk: package strip: Add, of a strip and of a nil one.
-/
namespace Go.Proofs.Ytdblicfcfmfneaa
set_option linter.unusedVariables false
set_option linter.unusedSimpArgs false
open Go.RowKit

/-- At block B lies a strip: how many pairs at most, its row, their sum. -/
structure LayS (w : World) (B : Nat) (A : Option Addr) (n cap : Nat) (m t : Int) (L : List PairV) : Prop where
  b : w.heap[B]? = some (.cells #[.int .i64 m, .slice A n cap, .int .u64 t] 71 (0, 0))
  row : Slab w A cap L
theorem LayS.c0 {w : World} {B : Nat} {A : Option Addr} {n cap : Nat} {m t : Int} {L : List PairV} (h : LayS w B A n cap m t L) : w.cell? ⟨B, 0, none⟩ = some (.int .i64 m) := by rw [Joins.cell_of_block h.b]; rfl
theorem LayS.c1 {w : World} {B : Nat} {A : Option Addr} {n cap : Nat} {m t : Int} {L : List PairV} (h : LayS w B A n cap m t L) : w.cell? ⟨B, 1, none⟩ = some (.slice A n cap) := by rw [Joins.cell_of_block h.b]; rfl
theorem LayS.c2 {w : World} {B : Nat} {A : Option Addr} {n cap : Nat} {m t : Int} {L : List PairV} (h : LayS w B A n cap m t L) : w.cell? ⟨B, 2, none⟩ = some (.int .u64 t) := by rw [Joins.cell_of_block h.b]; rfl
theorem LayS.f {w : World} {B : Nat} {A : Option Addr} {n cap : Nat} {m t : Int} {L : List PairV} (h : LayS w B A n cap m t L) (o : Nat) : w.frozen? ⟨B, o, none⟩ = false := free8 h.b o
theorem LayS.lt {w : World} {B : Nat} {A : Option Addr} {n cap : Nat} {m t : Int} {L : List PairV} (h : LayS w B A n cap m t L) : B < w.heap.size := lt_of_block h.b
theorem LayS.ne {w : World} {B : Nat} {A : Option Addr} {n cap : Nat} {m t : Int} {L : List PairV} (h : LayS w B A n cap m t L) {k : Nat} (hk : blkA A = some k) : k ≠ B := by
  rintro rfl
  rcases h.row.blk with ⟨rfl, _⟩ | ⟨g, off, cs, rfl, hb⟩
  · cases hk
  · cases hk
    have h1 := h.b
    rw [hb] at h1
    injection h1 with h2
    injection h2 with _ h3
    revert h3
    decide
theorem LayS.keep {w w' : World} {B : Nat} {A : Option Addr} {n cap : Nat} {m t : Int} {L : List PairV} (h : LayS w B A n cap m t L) (h1 : w'.heap[B]? = w.heap[B]?) (h2 : ∀ k, blkA A = some k → w'.heap[k]? = w.heap[k]?) : LayS w' B A n cap m t L := ⟨h1.trans h.b, h.row.keep h2⟩
theorem LayS.call {w w' : World} {B : Nat} {A : Option Addr} {n cap : Nat} {m t : Int} {L : List PairV} (h : LayS w B A n cap m t L) (hb : Below w.heap.size w w') : LayS w' B A n cap m t L := ⟨(hb.block _ h.lt).trans h.b, h.row.call hb⟩

/-- A strip at block B, of m pairs at most, whose row is L; S are its blocks. -/
def StX (w : World) (B : Nat) (S : Nat → Prop) (m : Int) (L : List PairV) : Prop :=
  Stp m L ∧ I64 m ∧ ∃ A cap, LayS w B A L.length cap m (sumP L) L ∧ ∀ k, S k ↔ k = B ∨ blkA A = some k
theorem stx_keep (w w' : World) (B : Nat) (S : Nat → Prop) (m : Int) (L : List PairV) (h : StX w B S m L) (hk : ∀ k, S k → w'.heap[k]? = w.heap[k]?) : StX w' B S m L := by
  obtain ⟨h1, h2, A, cap, h3, h4⟩ := h
  exact ⟨h1, h2, A, cap, h3.keep (hk B ((h4 B).2 (Or.inl rfl))) (fun k hA => hk k ((h4 k).2 (Or.inr hA))), h4⟩
theorem stx_lt (w : World) (B : Nat) (S : Nat → Prop) (m : Int) (L : List PairV) (h : StX w B S m L) : ∀ k, S k → k < w.heap.size := by
  obtain ⟨h1, h2, A, cap, h3, h4⟩ := h
  intro k hk
  rcases (h4 k).1 hk with rfl | hA
  · exact h3.lt
  · exact h3.row.lt hA
theorem stx_cells (w : World) (B : Nat) (S : Nat → Prop) (m : Int) (L : List PairV) (h : StX w B S m L) : ∀ k, S k → ∃ cs t z, w.heap[k]? = some (.cells cs t z) := by
  obtain ⟨h1, h2, A, cap, h3, h4⟩ := h
  intro k hk
  rcases (h4 k).1 hk with rfl | hA
  · exact ⟨_, _, _, h3.b⟩
  · rcases h3.row.blk with ⟨rfl, _⟩ | ⟨g, off, cs, rfl, hb⟩
    · cases hA
    · cases hA; exact ⟨_, _, _, hb⟩

set_option maxHeartbeats 400000 in
theorem snew_any (w : World) (m : Int) (h1 : 1 ≤ m) (h2 : m ≤ 4096) :
    Calls Try.prog 32 #[.int .i64 m] w fun e w' => ∃ B S, e = .returned (.tuple #[.pointer (some ⟨B, 0, none⟩), .int .i64 0]) ∧ StX w' B S m [] ∧ (∀ k, S k → w.heap.size ≤ k) ∧ Below w.heap.size w w' := by
  have q1 : ¬ m < 1 := by omega
  have q2 : ¬ 4096 < m := by omega
  go_enter Try.func32, Try.ntmps32
  go_wp2_with fail
  refine bodyPost_ret (v := .tuple #[.pointer (some ⟨w.heap.size, 0, none⟩), .int .i64 0]) (by simp [results, Try.results32, go_sem]) rfl ?_
  refine ⟨w.heap.size, rfl, fun k => k = w.heap.size, ⟨Stp.nil (by omega), ⟨by omega, by omega⟩, none, 0, ⟨heap_alloc_new _ _, Slab.nil _⟩, fun k => ⟨Or.inl, fun h => by rcases h with h | h; exact h; cases h⟩⟩, fun k hk => by subst hk; exact Nat.le_refl _, (Below.refl _ _).alloc (Nat.le_refl _) _⟩
set_option maxHeartbeats 400000 in
theorem sbad_any (w : World) (m : Int) (hm : I64 m) (hb : m < 1 ∨ 4096 < m) :
    Calls Try.prog 32 #[.int .i64 m] w fun e w' => e = .returned (.tuple #[.pointer none, .int .i64 1]) ∧ Below w.heap.size w w' := by
  by_cases q2 : m < 1
  · go_enter Try.func32, Try.ntmps32
    go_wp2_with fail
    go_ret2
    exact ⟨rfl, Below.refl _ _⟩
  · have q3 : 4096 < m := by omega
    go_enter Try.func32, Try.ntmps32
    go_wp2_with fail
    go_ret2
    exact ⟨rfl, Below.refl _ _⟩

set_option maxHeartbeats 400000 in
theorem sown_at (w : World) (B : Nat) (v : Value) (h : w.cell? ⟨B, 1, none⟩ = some v) :
    Calls Try.prog 48 #[.pointer (some ⟨B, 0, none⟩)] w fun e w' => e = .returned v ∧ w = w' := by
  go_enter Try.func48, Try.ntmps48
  go_wp2_with fail
  go_ret
  exact ⟨rfl, rfl⟩
set_option maxHeartbeats 400000 in
theorem sown_none (w : World) :
    Calls Try.prog 48 #[.pointer none] w fun e w' => e = .returned (.slice none 0 0) ∧ w = w' := by
  go_enter Try.func48, Try.ntmps48
  go_wp2_with fail
  go_ret
  exact ⟨rfl, rfl⟩
/-- A strip, or none: what its own row is. -/
def OwnsV (w : World) (p : Option Addr) (A : Option Addr) (n cap : Nat) : Prop := ∀ w', Below w.heap.size w w' → Calls Try.prog 48 #[.pointer p] w' fun e w'' => e = .returned (.slice A n cap) ∧ w' = w''
theorem owns_at {w : World} {B : Nat} {A : Option Addr} {n cap : Nat} (h : w.cell? ⟨B, 1, none⟩ = some (.slice A n cap)) : OwnsV w (some ⟨B, 0, none⟩) A n cap := fun w' hb => sown_at w' B _ (cell_later hb h)
theorem owns_none (w : World) : OwnsV w none none 0 0 := fun w' _ => sown_none w'
theorem OwnsV.now {w : World} {p A : Option Addr} {n cap : Nat} (h : OwnsV w p A n cap) : Calls Try.prog 48 #[.pointer p] w fun e w' => e = .returned (.slice A n cap) ∧ w = w' := h w (Below.refl _ _)

set_option maxHeartbeats 400000 in
theorem slen_of (w : World) (p A : Option Addr) (n cap : Nat) (h : OwnsV w p A n cap) :
    Calls Try.prog 60 #[.pointer p] w fun e w' => e = .returned (.int .i64 n) ∧ w = w' := by
  have H := Lib.hid h
  clear h
  go_enter Try.func60, Try.ntmps60
  go_wp2_with fail
  refine H.out.now.mono ?_
  rintro e w2 ⟨rfl, rfl⟩
  go_wp2_with fail
  go_ret
  exact ⟨rfl, rfl⟩
set_option maxHeartbeats 400000 in
theorem stotal_at (w : World) (B : Nat) (t : Int) (h : w.cell? ⟨B, 2, none⟩ = some (.int .u64 t)) :
    Calls Try.prog 38 #[.pointer (some ⟨B, 0, none⟩)] w fun e w' => e = .returned (.int .u64 t) ∧ w = w' := by
  go_enter Try.func38, Try.ntmps38
  go_wp2_with fail
  go_ret
  exact ⟨rfl, rfl⟩
set_option maxHeartbeats 400000 in
theorem stotal_none (w : World) :
    Calls Try.prog 38 #[.pointer none] w fun e w' => e = .returned (.int .u64 0) ∧ w = w' := by
  go_enter Try.func38, Try.ntmps38
  go_wp2_with fail
  go_ret
  exact ⟨rfl, rfl⟩

/-- Where an index stands in a good row, and how many of it there are. -/
theorem good_where {L : List PairV} (i : Int) (hg : GoodP L) : ∃ n, (lowP L i).length = n ∧ n ≤ L.length ∧
    ((isP L i = true ∧ n < L.length ∧ L[n]? = some (i, countP L i) ∧ belowP L i = sumP (L.take (n + 1)) ∧ (∀ c, 0 < c → 0 ≤ countP L i → (addP L i c).length = L.length)) ∨
     (isP L i = false ∧ countP L i = 0 ∧ belowP L i = sumP (L.take n) ∧ (∀ c, 0 < c → (addP L i c).length = L.length + 1))) := by
  have hlo : ∀ A : List PairV, (∀ p, p ∈ A → p.1 < i) → A.filter (fun p => decide (p.1 ≤ i)) = A := fun A h => List.filter_eq_self.2 fun p hp => by have := h p hp; simp; omega
  have hhi : ∀ A : List PairV, (∀ p, p ∈ A → i < p.1) → A.filter (fun p => decide (p.1 ≤ i)) = [] := fun A h => List.filter_eq_nil_iff.2 fun p hp => by have := h p hp; simp; omega
  have h1 := hlo (lowP L i) fun p hp => (lowP_mem hp).2
  have h2 := hhi (highP L i) fun p hp => (highP_mem hp).2
  refine ⟨_, rfl, List.length_filter_le _ _, ?_⟩
  rcases good_part i hg with ⟨m, e1, e2, e3⟩ | ⟨e1, e2⟩
  · refine Or.inl ⟨by rw [← e1]; exact (is_part (L := L)).2 m, ?_, ?_, ?_, fun c hc _ => ?_⟩
    · have := congrArg List.length e1; simp only [List.length_append, List.length_cons] at this; omega
    · rw [e2]
      have : (lowP L i ++ ((i, m) :: highP L i))[(lowP L i).length]? = some (i, m) := by rw [List.getElem?_append_right (Nat.le_refl _), Nat.sub_self]; rfl
      rwa [e1] at this
    · have h3 : belowP (lowP L i ++ ((i, m) :: highP L i)) i = sumP ((lowP L i ++ ((i, m) :: highP L i)).take ((lowP L i).length + 1)) := by
        unfold belowP
        rw [List.filter_append, h1, List.filter_cons_of_pos (by simp), h2, List.take_append, List.take_of_length_le (Nat.le_succ _), Nat.add_sub_cancel_left]
        rfl
      rwa [e1] at h3
    · have h4 := congrArg List.length e1
      unfold addP
      rw [e2]
      unfold midP
      rw [if_pos (by omega)]
      simp only [List.length_append, List.length_cons, List.length_nil] at h4 ⊢
      omega
  · refine Or.inr ⟨by rw [← e1]; exact (is_part (L := L)).1, e2, ?_, fun c hc => ?_⟩
    · have h3 : belowP (lowP L i ++ highP L i) i = sumP ((lowP L i ++ highP L i).take (lowP L i).length) := by
        unfold belowP
        rw [List.filter_append, h1, h2, List.take_append_of_le_length (Nat.le_refl _), List.take_length, List.append_nil]
      rwa [e1] at h3
    · have h4 := congrArg List.length e1
      unfold addP
      rw [e2]
      unfold midP
      rw [if_pos (by omega)]
      simp only [List.length_append, List.length_cons, List.length_nil] at h4 ⊢
      omega

set_option maxRecDepth 100000 in
set_option maxHeartbeats 1000000 in
theorem sat_of (w : World) (p A : Option Addr) (cap : Nat) (L : List PairV) (i : Int) (h : OwnsV w p A L.length cap) (hP : Pairs w A L) (hg : GoodP L) (hl : L.length ≤ 1000) (hi : I64 i) :
    Calls Try.prog 39 #[.pointer p, .int .i64 i] w fun e w' => e = .returned (.int .u64 (countP L i)) ∧ Below w.heap.size w w' := by
  obtain ⟨n, hn, hnl, ⟨hb, hlt, hx, _⟩ | ⟨hb, hx, _⟩⟩ := good_where i hg
  · have hF := find_big w A cap L i n true hP (by omega) hg hi hn hb
    obtain ⟨g, off, rfl, hbl, d0, d1⟩ := hP.at_ n _ hx
    simp only at d0 d1
    obtain ⟨x, hxx⟩ : ∃ x, countP L i = x := ⟨_, rfl⟩
    rw [hxx] at d1 ⊢
    have H := Lib.hid h
    have HF := Lib.hid hF
    have nn : (n : Int) < L.length := by omega
    clear h hF hP hg hn hx hxx hb d0
    go_enter Try.func39, Try.ntmps39
    go_wp2_with fail
    refine H.out.now.mono ?_
    rintro e w2 ⟨rfl, rfl⟩
    go_wp2_with fail
    refine HF.out.mono ?_
    rintro e w3 ⟨rfl, b3⟩
    have d3 := cell_later b3 d1
    go_wp2_with fail
    go_ret
    exact ⟨rfl, b3⟩
  · have hF := find_big w A cap L i n false hP (by omega) hg hi hn hb
    rw [hx]
    have H := Lib.hid h
    have HF := Lib.hid hF
    clear h hF hP hg hn hx hb
    go_enter Try.func39, Try.ntmps39
    go_wp2_with fail
    refine H.out.now.mono ?_
    rintro e w2 ⟨rfl, rfl⟩
    go_wp2_with fail
    refine HF.out.mono ?_
    rintro e w3 ⟨rfl, b3⟩
    go_wp2_with fail
    go_ret
    exact ⟨rfl, b3⟩

set_option maxRecDepth 100000 in
set_option maxHeartbeats 1000000 in
theorem sends_none (w : World) (p A : Option Addr) (cap : Nat) (h : OwnsV w p A 0 cap) :
    Calls Try.prog 51 #[.pointer p] w fun e w' => e = .returned (.tuple #[.int .i64 0, .int .i64 0, .bool false]) ∧ Below w.heap.size w w' := by
  have H := Lib.hid h
  clear h
  go_enter Try.func51, Try.ntmps51
  go_wp2_with fail
  refine H.out.now.mono ?_
  rintro e w2 ⟨rfl, rfl⟩
  go_wp2_with fail
  exact bodyPost_ret (v := .tuple #[.int .i64 0, .int .i64 0, .bool false]) (by simp [results, Try.results51, go_sem]) rfl ⟨rfl, Below.refl _ _⟩

set_option maxRecDepth 100000 in
set_option maxHeartbeats 1000000 in
theorem sends_of (w : World) (p A : Option Addr) (cap N : Nat) (px pc qx qc : Int) (L : List PairV) (h : OwnsV w p A N cap) (hP : Pairs w A L) (hN : L.length = N) (hpos : 0 < N) (hl : N ≤ 1000) (h0 : L[0]? = some (px, pc)) (h1 : L[N - 1]? = some (qx, qc)) :
    Calls Try.prog 51 #[.pointer p] w fun e w' => e = .returned (.tuple #[.int .i64 px, .int .i64 qx, .bool true]) ∧ Below w.heap.size w w' := by
  have H := Lib.hid h
  obtain ⟨nn, hnn⟩ : ∃ nn, N - 1 = nn := ⟨_, rfl⟩
  rw [hnn] at h1
  obtain ⟨g, off, rfl, hbl, d0, _⟩ := hP.at_ 0 _ h0
  obtain ⟨g', off', e', _, g0, _⟩ := hP.at_ nn _ h1
  obtain ⟨rfl, rfl, _⟩ := Addr.mk.inj (Option.some.inj e')
  simp only [Nat.zero_mul, Nat.add_zero] at d0
  simp only at g0
  have k0 : ((N : Int) == 0) = false := by simp; omega
  have kN : (0 : Int) < (N : Int) := by omega
  have u1 : IntKind.i64.wrap ((N : Int) - 1) = (nn : Int) := by rw [IntKind.wrap_i64]; omega
  have u2 : (N : Int) - 1 = (nn : Int) := by omega
  have u3 : (nn : Int) < (N : Int) := by omega
  have u4 : (0 : Int) ≤ (nn : Int) := by omega
  have u5 : IntKind.i64.wrap (nn : Int) = (nn : Int) := by rw [IntKind.wrap_i64]; omega
  clear h hP hN h0 h1 hnn e'
  go_enter Try.func51, Try.ntmps51
  go_wp2_with fail
  refine H.out.now.mono ?_
  rintro e w2 ⟨rfl, rfl⟩
  go_wp2_with fail
  go_quiet (fail)
  go_wp2_with fail
  exact bodyPost_ret (v := .tuple #[.int .i64 px, .int .i64 qx, .bool true]) (by simp [results, Try.results51, go_sem]) rfl ⟨rfl, below_drewN (Below.refl _ _) _⟩
end Go.Proofs.Ytdblicfcfmfneaa

namespace Go.Proofs.Ytdblicfcfmfneaa
set_option linter.unusedVariables false
set_option linter.unusedSimpArgs false
open Go.RowKit

theorem Keeps.set {S : Nat → Prop} {w w1 : World} (k : Keeps S w w1) {b : Nat} (o : Nat) (u : Value) (h : S b ∨ w.heap.size ≤ b) : Keeps S w (w1.setCell ⟨b, o, none⟩ u) :=
  ⟨k.os, k.tape, k.output, by simpa [World.setCell] using k.size, fun j hj hn => by
    rw [Below.heap_setCell _ _ _ _ (by show j ≠ b; rintro rfl; rcases h with h | h; exact hn h; omega)]; exact k.block j hj hn⟩
theorem Keeps.new {S : Nat → Prop} {w w1 : World} (k : Keeps S w w1) (o : Obj) : Keeps S w (w1.alloc o) :=
  ⟨k.os, k.tape, k.output, Nat.le_trans k.size (by simp), fun j hj hn => (heap_alloc_old _ _ (Nat.lt_of_lt_of_le hj k.size)).trans (k.block j hj hn)⟩
theorem Keeps.draws {S : Nat → Prop} {w w1 : World} (k : Keeps S w w1) (m : Nat) : Keeps S w (w1.drewN m) := by
  have h := below_drewN (Below.refl w1.heap.size w1) m
  exact ⟨h.os.trans k.os, h.tape.trans k.tape, h.output.trans k.output, Nat.le_trans k.size h.size, fun j hj hn => (h.block j (Nat.lt_of_lt_of_le hj k.size)).trans (k.block j hj hn)⟩
theorem keeps_grown {S : Nat → Prop} {w w1 : World} {r : Option Nat} (h : w.grownBy w1 r) (hS : ∀ k, r = some k → S k) : Keeps S w w1 :=
  ⟨h.os, h.tape, h.output, h.size, fun j hj hn => h.block j hj (fun e => hn (hS j e.symm))⟩
theorem two_new8 (w : World) (x y : Value) (t : TypeId) : (w.alloc (.cells #[x, y] t)).cell? ⟨w.heap.size, 0, none⟩ = some x ∧ (w.alloc (.cells #[x, y] t)).cell? ⟨w.heap.size, 1, none⟩ = some y := by
  have h : (w.alloc (.cells #[x, y] t)).heap[w.heap.size]? = some (.cells #[x, y] t (0, 0)) := heap_alloc_new w _
  exact ⟨by rw [Joins.cell_of_block h]; rfl, by rw [Joins.cell_of_block h]; rfl⟩

set_option maxHeartbeats 400000 in
theorem sadd_none (w : World) (i c : Int) (hi : I64 i) (hc : Word c) :
    Calls Try.prog 45 #[.pointer none, .int .i64 i, .int .u64 c] w fun e w' => e = .returned (.int .i64 2) ∧ Below w.heap.size w w' := by
  go_enter Try.func45, Try.ntmps45
  go_wp2_with fail
  go_ret
  exact ⟨rfl, Below.refl _ _⟩

/-- What Add comes to. -/
def AddsS (w : World) (B : Nat) (S : Nat → Prop) (m : Int) (L : List PairV) (i c : Int) (e : Ending) (w' : World) : Prop :=
  ∃ S', e = .returned (.int .i64 (stErr m L i c)) ∧ StX w' B S' m (stRow m L i c) ∧ Keeps S w w' ∧ (∀ k, S' k → S k ∨ w.heap.size ≤ k)
theorem adds_same {w w' : World} {B : Nat} {S : Nat → Prop} {m : Int} {L : List PairV} {i c x : Int} (h : StX w B S m L) (he : stErr m L i c = x) (hx : x ≠ 0) (hb : Below w.heap.size w w') : AddsS w B S m L i c (.returned (.int .i64 x)) w' :=
  ⟨S, by rw [he], by unfold stRow; rw [if_neg (by omega)]; exact stx_keep _ _ _ _ _ _ h (fun k hk => hb.block k (stx_lt _ _ _ _ _ h k hk)), Keeps.of_below hb, fun k hk => Or.inl hk⟩

set_option maxRecDepth 100000 in
set_option maxHeartbeats 2000000 in
theorem sadd_no (w : World) (B : Nat) (S : Nat → Prop) (m : Int) (L : List PairV) (i c : Int) (h : StX w B S m L) (hl : L.length ≤ 900) (hi : I64 i) (hc : Word c) (hcase : c = 0 ∧ stErr m L i c = 1 ∨ (0 < c ∧ 9223372036854775807 - sumP L < c ∧ stErr m L i c = 6)) :
    Calls Try.prog 45 #[.pointer (some ⟨B, 0, none⟩), .int .i64 i, .int .u64 c] w (AddsS w B S m L i c) := by
  have HX := Lib.hid h
  obtain ⟨hst, hm, A, cap, hL, hS⟩ := h
  rcases hcase with ⟨rfl, e⟩ | ⟨hc0, hbig, e⟩
  · have E := Lib.hid e
    clear e hst hL hS
    go_enter Try.func45, Try.ntmps45
    go_wp2_with fail
    go_ret
    exact adds_same HX.out E.out (by decide) (Below.refl _ _)
  · have E := Lib.hid e
    have c1 := hL.c1
    have c2 := hL.c2
    have hs0 := sumP_pos (ok_pos hst.ok)
    have hs1 := hst.sum
    obtain ⟨t, ht⟩ : ∃ t, sumP L = t := ⟨_, rfl⟩
    rw [ht] at c2 hs0 hs1 hbig
    have P1 : Hid (plus2B t c = false) := Lib.hid (by unfold plus2B; apply decide_eq_false; omega)
    have P2 : Hid (plus2Q t c = 0) := Lib.hid (by unfold plus2Q; rw [P1.out]; rfl)
    have c00 : (c == 0) = false := by simp; omega
    obtain ⟨n, b, hF⟩ : ∃ (n : Nat) (b : Bool), ∀ w', Below w.heap.size w w' → Calls Try.prog 49 #[.slice A L.length cap, .int .i64 i] w' fun e w'' => e = .returned (.tuple #[.int .i64 n, .bool b]) ∧ Below w'.heap.size w' w'' :=
      ⟨_, _, fun w' hb => find_big w' A cap L i _ _ (hL.row.pairs.call hb) (by omega) hst.good hi rfl rfl⟩
    have HF := Lib.hid hF
    obtain ⟨hc1, hc2⟩ := hc
    clear e hst hL hS ht hF
    go_enter Try.func45, Try.ntmps45
    go_wp2_with fail
    refine (plus_two t c 0 false _ _ _ ⟨by omega, by omega⟩ ⟨by omega, by omega⟩ (two_new8 w _ _ _).1 (two_new8 w _ _ _).2 P2.out P1.out).mono ?_
    rintro e w3 ⟨rfl, rfl⟩
    have hb3 : Below w.heap.size w (w.alloc (.cells #[.int .u64 t, .int .u64 c] 32)) := (Below.refl _ _).alloc (Nat.le_refl _) _
    have d1 := cell_later hb3 c1
    have HB3 := Lib.hid hb3
    clear hb3
    go_wp2_with fail
    refine (HF.out _ HB3.out).mono ?_
    rintro e w4 ⟨rfl, hb4⟩
    have HB4 := Lib.hid (HB3.out.trans (hb4.mono HB3.out.size))
    clear hb4 d1
    go_wp2_with fail
    go_quiet (fail)
    go_wp2_with fail
    go_ret
    exact adds_same HX.out E.out (by decide) (below_drewN HB4.out _)

set_option maxRecDepth 100000 in
set_option maxHeartbeats 2000000 in
theorem sadd_full (w : World) (B : Nat) (S : Nat → Prop) (m : Int) (L : List PairV) (i c : Int) (h : StX w B S m L) (hl : L.length ≤ 900) (hi : I64 i) (hc : Word c) (hc0 : 0 < c) (hfit : c ≤ 9223372036854775807 - sumP L) (hf : m < ((addP L i c).length : Int)) (e : stErr m L i c = 6) :
    Calls Try.prog 45 #[.pointer (some ⟨B, 0, none⟩), .int .i64 i, .int .u64 c] w (AddsS w B S m L i c) := by
  have HX := Lib.hid h
  obtain ⟨hst, hm, A, cap, hL, hS⟩ := h
  have E := Lib.hid e
  have c0 := hL.c0
  have c1 := hL.c1
  have c2 := hL.c2
  have hs0 := sumP_pos (ok_pos hst.ok)
  have hs1 := hst.sum
  obtain ⟨n, hn, hnl, ⟨hb, _, _, _, hlen⟩ | ⟨hb, _, _, hlen⟩⟩ := good_where i hst.good
  · have h1 := hlen c hc0 (hst.cnt i).1
    have h2 := hst.most
    omega
  have h1 := hlen c hc0
  have k7 : m ≤ (L.length : Int) := by omega
  have k8 : decide (m ≤ (L.length : Int)) = true := decide_eq_true k7
  obtain ⟨t, ht⟩ : ∃ t, sumP L = t := ⟨_, rfl⟩
  rw [ht] at c2 hs0 hs1 hfit
  have P1 : Hid (plus2B t c = true) := Lib.hid (by unfold plus2B; apply decide_eq_true; omega)
  have P2 : Hid (plus2Q t c = t + c) := Lib.hid (by unfold plus2Q; rw [P1.out]; rfl)
  have c00 : (c == 0) = false := by simp; omega
  have hF : ∀ w', Below w.heap.size w w' → Calls Try.prog 49 #[.slice A L.length cap, .int .i64 i] w' fun e w'' => e = .returned (.tuple #[.int .i64 n, .bool false]) ∧ Below w'.heap.size w' w'' :=
    fun w' hb' => find_big w' A cap L i _ _ (hL.row.pairs.call hb') (by omega) hst.good hi hn hb
  have HF := Lib.hid hF
  obtain ⟨hc1, hc2⟩ := hc
  obtain ⟨m0, m1⟩ := hm
  clear e hst hL hS ht hF hn hb hlen h1
  go_enter Try.func45, Try.ntmps45
  go_wp2_with fail
  refine (plus_two t c (t + c) true _ _ _ ⟨by omega, by omega⟩ ⟨by omega, by omega⟩ (two_new8 w _ _ _).1 (two_new8 w _ _ _).2 P2.out P1.out).mono ?_
  rintro e w3 ⟨rfl, rfl⟩
  have hb3 : Below w.heap.size w (w.alloc (.cells #[.int .u64 t, .int .u64 c] 32)) := (Below.refl _ _).alloc (Nat.le_refl _) _
  have d1 := cell_later hb3 c1
  have d0 := cell_later hb3 c0
  have HB3 := Lib.hid hb3
  clear hb3
  go_wp2_with fail
  refine (HF.out _ HB3.out).mono ?_
  rintro e w4 ⟨rfl, hb4⟩
  have g1 := cell_later hb4 d1
  have g0 := cell_later hb4 d0
  have HB4 := Lib.hid (HB3.out.trans (hb4.mono HB3.out.size))
  clear hb4 d1 d0 c0 c1 c2
  go_wp2_with fail
  go_quiet (fail)
  go_wp2_with fail
  go_ret
  exact adds_same HX.out E.out (by decide) (below_drewN HB4.out _)

set_option maxRecDepth 100000 in
set_option maxHeartbeats 2000000 in
theorem sadd_in (w : World) (B : Nat) (S : Nat → Prop) (m : Int) (L : List PairV) (i c mm : Int) (h : StX w B S m L) (hl : L.length ≤ 900) (hi : I64 i) (hc : Word c) (hc0 : 0 < c) (hfit : c ≤ 9223372036854775807 - sumP L) (e : stErr m L i c = 0)
    (hp : lowP L i ++ ((i, mm) :: highP L i) = L) (hm2 : countP L i = mm) (hm1 : 1 ≤ mm) :
    Calls Try.prog 45 #[.pointer (some ⟨B, 0, none⟩), .int .i64 i, .int .u64 c] w (AddsS w B S m L i c) := by
  have HST := Lib.hid (stp_add h.1 hi hc)
  have HRW : Hid (stRow m L i c = addP L i c) := Lib.hid (by unfold stRow; rw [if_pos e])
  have HM := Lib.hid h.2.1
  obtain ⟨hst, hm, A, cap, hL, hS⟩ := h
  have E := Lib.hid e
  have hs0 := sumP_pos (ok_pos hst.ok)
  have hs1 := hst.sum
  have hcn := hst.cnt i
  have HSM : Hid (sumP (addP L i c) = sumP L + c) := Lib.hid (add_sum (by omega))
  have HS := Lib.hid hS
  obtain ⟨n, hn⟩ : ∃ n, (lowP L i).length = n := ⟨_, rfl⟩
  have his : isP L i = true := by rw [← hp]; exact (is_part (L := L)).2 mm
  have hxn : L[n]? = some (i, mm) := by
    have : (lowP L i ++ ((i, mm) :: highP L i))[n]? = some (i, mm) := by rw [List.getElem?_append_right (by omega), hn, Nat.sub_self]; rfl
    rwa [hp] at this
  have hnl : n < L.length := by
    rcases Nat.lt_or_ge n L.length with h1 | h1
    · exact h1
    · rw [List.getElem?_eq_none h1] at hxn; cases hxn
  obtain ⟨g, off, rfl, hbl, d0, d1⟩ := hL.row.pairs.at_ n _ hxn
  have hadd : addP L i c = lowP L i ++ ((i, mm + c) :: highP L i) := by unfold addP; rw [hm2]; unfold midP; rw [if_pos (by omega)]; rfl
  have hlen : (addP L i c).length = L.length := by rw [hadd]; have := congrArg List.length hp; simp only [List.length_append, List.length_cons] at this ⊢; exact this
  obtain ⟨t, ht⟩ : ∃ t, sumP L = t := ⟨_, rfl⟩
  rw [ht] at hs0 hs1 hfit hL HSM hcn
  have HL := Lib.hid hL
  have P1 : Hid (plus2B t c = true) := Lib.hid (by unfold plus2B; apply decide_eq_true; omega)
  have P2 : Hid (plus2Q t c = t + c) := Lib.hid (by unfold plus2Q; rw [P1.out]; rfl)
  have c00 : (c == 0) = false := by simp; omega
  have hF : ∀ w', Below w.heap.size w w' → Calls Try.prog 49 #[.slice (some ⟨g, off, none⟩) L.length cap, .int .i64 i] w' fun e w'' => e = .returned (.tuple #[.int .i64 n, .bool true]) ∧ Below w'.heap.size w' w'' :=
    fun w' hb' => find_big w' _ cap L i _ _ (hL.row.pairs.call hb') (by omega) hst.good hi hn his
  have HF := Lib.hid hF
  have hBw := hL.lt
  have hBg : g ≠ B := hL.ne rfl
  have hBg' : ¬ B = g := fun e => hBg e.symm
  have fin : ∀ w5, Below w.heap.size w w5 → w5.cell? ⟨B, 1, none⟩ = some (.slice (some ⟨g, off, none⟩) L.length cap) ∧ w5.cell? ⟨B, 2, none⟩ = some (.int .u64 t) ∧ w5.frozen? ⟨B, 2, none⟩ = false ∧ w5.cell? ⟨g, off + n * 2 + 1, none⟩ = some (.int .u64 mm) ∧ w5.frozen? ⟨g, off + n * 2 + 1, none⟩ = false ∧
      AddsS w B S m L i c (.returned (.int .i64 0)) ((w5.setCell ⟨g, off + n * 2 + 1, none⟩ (.int .u64 (mm + c))).setCell ⟨B, 2, none⟩ (.int .u64 (t + c))) := by
    intro w5 hb5
    have hL5 := HL.out.call hb5
    have hr := hL5.row.put hp hn hi (m' := mm + c) ⟨by omega, by omega⟩
    rw [← hadd] at hr
    have hb6 : (w5.setCell ⟨g, off + n * 2 + 1, none⟩ (.int .u64 (mm + c))).heap[B]? = some (.cells #[.int .i64 m, .slice (some ⟨g, off, none⟩) L.length cap, .int .u64 t] 71 (0, 0)) := by
      rw [Below.heap_setCell _ _ _ _ hBg.symm]; exact hL5.b
    have hfz : w5.frozen? ⟨g, off + n * 2 + 1, none⟩ = false := by
      rcases hL5.row.blk with ⟨e, _⟩ | ⟨g', off', cs, e, hb⟩
      · cases e
      · obtain ⟨rfl, rfl, _⟩ := Addr.mk.inj (Option.some.inj e)
        exact free8 hb _
    refine ⟨hL5.c1, hL5.c2, hL5.f 2, cell_later hb5 d1, hfz, S, by rw [E.out], ?_, ?_, fun k hk => Or.inl hk⟩
    · rw [HRW.out]
      have hst2 := HST.out
      rw [HRW.out] at hst2
      refine ⟨hst2, HM.out, some ⟨g, off, none⟩, cap, ⟨?_, hr.keep fun k hk => ?_⟩, HS.out⟩
      · rw [HSM.out, hlen]
        exact set_cells8 hb6 2 _
      · rw [Below.heap_setCell _ _ _ _ (by show k ≠ B; cases hk; exact hBg)]
    · have hk1 : Keeps S w (w5.setCell ⟨g, off + n * 2 + 1, none⟩ (.int .u64 (mm + c))) := (Keeps.of_below hb5).set _ _ (Or.inl ((HS.out g).2 (Or.inr rfl)))
      exact hk1.set 2 _ (Or.inl ((HS.out B).2 (Or.inl rfl)))
  have FIN := Lib.hid fin
  have hc1' := hL.c1
  have hc2' := hL.c2
  have hc0' := hL.c0
  have hm64 : mm < 18446744073709551616 := by omega
  have hmc2 : IntKind.u64.wrap (mm + c) = mm + c := by rw [IntKind.wrap_u64]; omega
  obtain ⟨hc1, hc2⟩ := hc
  obtain ⟨m0, m1⟩ := hm
  obtain ⟨i0, i1⟩ := hi
  have nn : (n : Int) < L.length := by omega
  clear fin e hst hL hS ht hF hn his hxn hadd hlen hp hm2 d0 d1 hbl
  go_enter Try.func45, Try.ntmps45
  go_wp2_with fail
  refine (plus_two t c (t + c) true _ _ _ ⟨by omega, by omega⟩ ⟨by omega, by omega⟩ (two_new8 w _ _ _).1 (two_new8 w _ _ _).2 P2.out P1.out).mono ?_
  rintro e w3 ⟨rfl, rfl⟩
  have hb3 : Below w.heap.size w (w.alloc (.cells #[.int .u64 t, .int .u64 c] 32)) := (Below.refl _ _).alloc (Nat.le_refl _) _
  have d1 := cell_later hb3 hc1'
  have d0 := cell_later hb3 hc0'
  have HB3 := Lib.hid hb3
  clear hb3
  go_wp2_with fail
  refine (HF.out _ HB3.out).mono ?_
  rintro e w4 ⟨rfl, hb4⟩
  have g1 := cell_later hb4 d1
  have g0 := cell_later hb4 d0
  have HB4 := Lib.hid (HB3.out.trans (hb4.mono HB3.out.size))
  clear hb4 d1 d0 hc0' hc1' hc2'
  go_wp2_with fail
  go_quiet (fail)
  obtain ⟨x1, x2, x3, x4, x5, hfin⟩ := FIN.out _ (below_drewN HB4.out nq)
  have HFI := Lib.hid hfin
  clear hfin g0 g1
  generalize w4.drewN nq = w5 at *
  go_wp2_with fail
  go_ret
  exact HFI.out

set_option maxRecDepth 100000 in
set_option maxHeartbeats 2000000 in
theorem sadd_new (w : World) (B : Nat) (S : Nat → Prop) (m : Int) (L : List PairV) (i c : Int) (h : StX w B S m L) (hl : L.length ≤ 900) (hi : I64 i) (hc : Word c) (hc0 : 0 < c) (hfit : c ≤ 9223372036854775807 - sumP L) (hf : ((addP L i c).length : Int) ≤ m) (e : stErr m L i c = 0)
    (hp : lowP L i ++ highP L i = L) (hm2 : countP L i = 0) :
    Calls Try.prog 45 #[.pointer (some ⟨B, 0, none⟩), .int .i64 i, .int .u64 c] w (AddsS w B S m L i c) := by
  have HST := Lib.hid (stp_add h.1 hi hc)
  have HRW : Hid (stRow m L i c = addP L i c) := Lib.hid (by unfold stRow; rw [if_pos e])
  have HM := Lib.hid h.2.1
  obtain ⟨hst, hm, A, cap, hL, hS⟩ := h
  have E := Lib.hid e
  have hs0 := sumP_pos (ok_pos hst.ok)
  have hs1 := hst.sum
  have hcn := hst.cnt i
  have HSM : Hid (sumP (addP L i c) = sumP L + c) := Lib.hid (add_sum (by omega))
  have HS := Lib.hid hS
  obtain ⟨n, hn⟩ : ∃ n, (lowP L i).length = n := ⟨_, rfl⟩
  have his : isP L i = false := by rw [← hp]; exact (is_part (L := L)).1
  have hadd : addP L i c = lowP L i ++ ((i, c) :: highP L i) := by unfold addP; rw [hm2, Int.zero_add]; unfold midP; rw [if_pos hc0]; rfl
  have hlen : (addP L i c).length = L.length + 1 := by rw [hadd]; have := congrArg List.length hp; simp only [List.length_append, List.length_cons] at this ⊢; omega
  have k7 : ¬ m ≤ (L.length : Int) := by omega
  obtain ⟨t, ht⟩ : ∃ t, sumP L = t := ⟨_, rfl⟩
  rw [ht] at hs0 hs1 hfit hL HSM hcn
  have HL := Lib.hid hL
  obtain ⟨N, hN⟩ : ∃ N : Nat, L.length = N := ⟨_, rfl⟩
  have HIN : Hid (∀ w', Below w.heap.size w w' → ∀ vb, OneP w' vb i c → w.heap.size ≤ vb → Calls Try.prog 55 #[.slice A N cap, .int .i64 n, .slice (some ⟨vb, 0, none⟩) 1 1] w' (AddedV w' A (addP L i c))) := Lib.hid fun w' hb' vb hv hvb => by
    rw [hadd]
    refine ins_any w' A cap n N vb _ _ i c (by rw [hp]; exact hL.row.call hb') hn (by rw [hp]; exact hN) (by omega) hv (fun e => ?_) hi hc
    have := hL.row.lt e
    omega
  have P1 : Hid (plus2B t c = true) := Lib.hid (by unfold plus2B; apply decide_eq_true; omega)
  have P2 : Hid (plus2Q t c = t + c) := Lib.hid (by unfold plus2Q; rw [P1.out]; rfl)
  have c00 : (c == 0) = false := by simp; omega
  have hF : ∀ w', Below w.heap.size w w' → Calls Try.prog 49 #[.slice A N cap, .int .i64 i] w' fun e w'' => e = .returned (.tuple #[.int .i64 n, .bool false]) ∧ Below w'.heap.size w' w'' :=
    fun w' hb' => hN ▸ find_big w' A cap L i _ _ (hL.row.pairs.call hb') (by omega) hst.good hi hn his
  have HF := Lib.hid hF
  have hBw := hL.lt
  have fin : ∀ w5 w6 A' cap', Below w.heap.size w w5 → Slab w6 A' cap' (addP L i c) → w5.grownBy w6 (blkA A) → (A' = A ∨ ∀ k, blkA A' = some k → w5.heap.size ≤ k) →
      w6.cell? ⟨B, 1, none⟩ = some (.slice A N cap) ∧ w6.cell? ⟨B, 2, none⟩ = some (.int .u64 t) ∧ w6.frozen? ⟨B, 1, none⟩ = false ∧ w6.frozen? ⟨B, 2, none⟩ = false ∧
      AddsS w B S m L i c (.returned (.int .i64 0)) ((w6.setCell ⟨B, 1, none⟩ (.slice A' (addP L i c).length cap')).setCell ⟨B, 2, none⟩ (.int .u64 (t + c))) := by
    intro w5 w6 A' cap' hb5 hr hg hor3
    have hL5 := HL.out.call hb5
    have hB6 : w6.heap[B]? = w5.heap[B]? := hg.block B (Nat.lt_of_lt_of_le hBw hb5.size) (fun e => HL.out.ne e.symm rfl)
    have hb6 := hB6.trans hL5.b
    have hne : ∀ k, blkA A' = some k → k ≠ B := fun k hk => by
      rcases hor3 with rfl | hf'
      · exact HL.out.ne hk
      · have := hf' k hk; have := hb5.size; omega
    refine ⟨by rw [Joins.cell_of_block hb6, ← hN]; rfl, by rw [Joins.cell_of_block hb6]; rfl, free8 hb6 _, free8 hb6 _, fun k => k = B ∨ blkA A' = some k, by rw [E.out], ?_, ?_, ?_⟩
    · rw [HRW.out]
      have hst2 := HST.out
      rw [HRW.out] at hst2
      refine ⟨hst2, HM.out, A', cap', ⟨?_, hr.keep fun k hk => ?_⟩, fun k => Iff.rfl⟩
      · rw [HSM.out]
        exact set_cells8 (set_cells8 hb6 1 _) 2 _
      · rw [Below.heap_setCell _ _ _ _ (hne k hk), Below.heap_setCell _ _ _ _ (hne k hk)]
    · have hk1 : Keeps S w w6 := keeps_grown (grown_trans (grown_of_below8 hb5) hg) fun k hk => (HS.out k).2 (Or.inr hk)
      exact (hk1.set 1 _ (Or.inl ((HS.out B).2 (Or.inl rfl)))).set 2 _ (Or.inl ((HS.out B).2 (Or.inl rfl)))
    · rintro k (rfl | hk)
      · exact Or.inl ((HS.out k).2 (Or.inl rfl))
      · rcases hor3 with rfl | hf'
        · exact Or.inl ((HS.out k).2 (Or.inr hk))
        · exact Or.inr (Nat.le_trans hb5.size (hf' k hk))
  have FIN := Lib.hid fin
  have hc1' := hL.c1
  have hc2' := hL.c2
  have hc0' := hL.c0
  rw [hN] at hc1' k7
  have k8 : decide (m ≤ (N : Int)) = false := decide_eq_false k7
  obtain ⟨hc1, hc2⟩ := hc
  obtain ⟨m0, m1⟩ := hm
  obtain ⟨i0, i1⟩ := hi
  clear fin e hst hL hS ht hF hn his hadd hlen hp hm2 hcn hf
  go_enter Try.func45, Try.ntmps45
  go_wp2_with fail
  refine (plus_two t c (t + c) true _ _ _ ⟨by omega, by omega⟩ ⟨by omega, by omega⟩ (two_new8 w _ _ _).1 (two_new8 w _ _ _).2 P2.out P1.out).mono ?_
  rintro e w3 ⟨rfl, rfl⟩
  have hb3 : Below w.heap.size w (w.alloc (.cells #[.int .u64 t, .int .u64 c] 32)) := (Below.refl _ _).alloc (Nat.le_refl _) _
  have d1 := cell_later hb3 hc1'
  have d0 := cell_later hb3 hc0'
  have HB3 := Lib.hid hb3
  clear hb3
  go_wp2_with fail
  refine (HF.out _ HB3.out).mono ?_
  rintro e w4 ⟨rfl, hb4⟩
  have g1 := cell_later hb4 d1
  have g0 := cell_later hb4 d0
  have HB4 := Lib.hid (HB3.out.trans (hb4.mono HB3.out.size))
  clear hb4 d1 d0 hc0' hc1' hc2'
  go_wp2_with fail
  go_quiet (fail)
  have hb5 := below_drewN HB4.out nq
  have g1 := cell_later (below_drewN (Below.refl w4.heap.size w4) nq) g1
  generalize w4.drewN nq = w5 at *
  have HB5 := Lib.hid hb5
  have hb6 : Below w.heap.size w (w5.alloc (.cells #[.int .i64 i, .int .u64 c] 34)) := hb5.alloc hb5.size _
  have HB6 := Lib.hid hb6
  have HI6 := Lib.hid (HIN.out _ hb6 w5.heap.size ⟨heap_alloc_new _ _⟩ hb5.size)
  clear hb5 hb6 g0
  go_wp2_with fail
  refine HI6.out.mono ?_
  rintro e w6 ⟨A', cap', rfl, hr, hg, hor3⟩
  obtain ⟨x1, x2, x3, x4, hfin⟩ := FIN.out _ w6 A' cap' HB6.out hr hg hor3
  have HFI := Lib.hid hfin
  clear hfin hr hg hor3
  go_wp2_with fail
  go_ret
  exact HFI.out

theorem sadd_any (w : World) (B : Nat) (S : Nat → Prop) (m : Int) (L : List PairV) (i c : Int) (h : StX w B S m L) (hl : L.length ≤ 900) (hi : I64 i) (hc : Word c) :
    Calls Try.prog 45 #[.pointer (some ⟨B, 0, none⟩), .int .i64 i, .int .u64 c] w (AddsS w B S m L i c) := by
  rcases stErr_cases (m := m) (L := L) (i := i) hc with hz | hbig | ⟨h1, h2, h3, e⟩ | ⟨h1, h2, h3, e⟩
  · exact sadd_no w B S m L i c h hl hi hc (Or.inl hz)
  · exact sadd_no w B S m L i c h hl hi hc (Or.inr hbig)
  · exact sadd_full w B S m L i c h hl hi hc h1 h2 h3 e
  · rcases good_part i h.1.good with ⟨mm, e1, e2, e3⟩ | ⟨e1, e2⟩
    · exact sadd_in w B S m L i c mm h hl hi hc h1 h2 e e1 e2 e3
    · exact sadd_new w B S m L i c h hl hi hc h1 h2 h3 e e1 e2
end Go.Proofs.Ytdblicfcfmfneaa

/-
  Regions that draw their order, whose operations only read, and whose calls leave all that lay there as it was: one walk, in the order of the text. Worlds that have grown from one.
-/
namespace Go.Proofs.Ytdblicfcfmfneaa
set_option linter.unusedVariables false
set_option linter.unusedSimpArgs false
open Go.RowKit Go.Sort

/-- How a world has grown: so many draws, these blocks. -/
structure GrewP where
  d : Nat
  os : Array Obj
instance : Inhabited GrewP := ⟨⟨0, #[]⟩⟩
def grewTo (w : World) (d : Nat) (os : Array Obj) : World := grow { w with drawn := d } os
theorem below_grewTo (w : World) (d : Nat) (os : Array Obj) : Below w.heap.size w (grewTo w d os) :=
  ⟨rfl, rfl, rfl, by show w.heap.size ≤ (grow _ os).heap.size; rw [size_grow]; show w.heap.size ≤ w.heap.size + _; omega, fun k hk => heap_grow_old { w with drawn := d } os hk⟩
theorem grewTo_of_below {w w' : World} (h : Below w.heap.size w w') : ∃ p : GrewP, w' = grewTo w p.d p.os := by
  refine ⟨⟨w'.drawn, w'.heap.extract w.heap.size w'.heap.size⟩, ?_⟩
  have hs := h.size
  have hh : w'.heap = w.heap ++ w'.heap.extract w.heap.size w'.heap.size := by
    apply Array.ext_getElem?
    intro i
    by_cases hi : i < w.heap.size
    · rw [Array.getElem?_append_left hi]; exact h.block i hi
    · rw [Array.getElem?_append_right (by omega), Array.getElem?_extract]
      by_cases h2 : i < w'.heap.size
      · rw [if_pos (by omega)]; congr 1; omega
      · rw [if_neg (by omega), Array.getElem?_eq_none (by omega)]
  obtain ⟨h1, t1, d1, o1, u1⟩ := w'
  have e1 : t1 = w.tape := h.tape
  have e2 : o1 = w.os := h.os
  have e3 : u1 = w.output := h.output
  subst e1 e2 e3
  simp only at hh
  show (⟨h1, w.tape, d1, w.os, w.output⟩ : World) = ⟨w.heap ++ h1.extract w.heap.size h1.size, w.tape, d1, w.os, w.output⟩
  rw [← hh]
theorem cell_grewTo {w : World} {a : Addr} {v : Value} (h : w.cell? a = some v) (d : Nat) (os : Array Obj) : (grewTo w d os).cell? a = some v := by
  have hlt := World.block_lt_of_cell? (a := a) w h
  exact (World.cell?_of_block ((below_grewTo w d os).block _ hlt)).trans h
/-- A callee that leaves all as it was, in a world that has grown. -/
theorem calls_grew {P : Program} {f : FuncId} {args : Array Value} {w : World} {d : Nat} {os : Array Obj} {v : Value}
    (h : Calls P f args (grewTo w d os) fun e w' => e = .returned v ∧ Below (grewTo w d os).heap.size (grewTo w d os) w') : Calls P f args (grewTo w d os) fun e w'' => e = .returned v ∧ ∃ p : GrewP, w'' = grewTo w p.d p.os :=
  h.mono fun e w' ⟨he, hb⟩ => ⟨he, grewTo_of_below ((below_grewTo w d os).trans (hb.mono (below_grewTo w d os).size))⟩
/-- .. one that leaves the very world. -/
theorem calls_grew_same {P : Program} {f : FuncId} {args : Array Value} {w : World} {d : Nat} {os : Array Obj} {v : Value}
    (h : Calls P f args (grewTo w d os) fun e w' => e = .returned v ∧ grewTo w d os = w') : Calls P f args (grewTo w d os) fun e w'' => e = .returned v ∧ ∃ p : GrewP, w'' = grewTo w p.d p.os :=
  h.mono fun e w' ⟨he, hb⟩ => ⟨he, ⟨d, os⟩, hb.symm⟩

theorem wp_region_grew {P : Program} {id : Nat} {Q : Exit → Act → World → Prop} {a : Act} {w : World} {l : List Oper} (hm : P.follows .mixedOrders = true) (hB : Region.lexB .any l.toArray = true)
    (h : wpQuiet P l.toArray (fun w' => ∃ p : GrewP, w' = grewTo w p.d p.os) (fun a' => ∀ w', (∃ p : GrewP, w' = grewTo w p.d p.os) → Q .normal a' w') l a) : (Code.region id l.toArray true).wp P Q a w :=
  wp_region_quiet (C := fun w' => ∃ p : GrewP, w' = grewTo w p.d p.os) hm hB ⟨⟨w.drawn + 1, #[]⟩, by unfold grewTo; rw [grow_empty]⟩ (by simpa using h)

section
variable {P : Program} {ops : Array Oper} {md : Region.Mode} {C S : World → Prop}
/-- What holds with much held holds with less. -/
theorem wpAnyH_weaken {S' : World → Prop} {Q : Exit → Act → World → Prop} (hS : ∀ w, S' w → S w) : ∀ (fuel : Nat) (listed : Array Bool) (a : Act) (w : World), wpAnyH P md ops Q S' fuel listed a w → wpAnyH P md ops Q S fuel listed a w
  | 0, _, _, _, h => h
  | fuel + 1, _, _, _, h => ⟨h.1, fun i hi => wpOp_mono (fun a' w' h' => ⟨hS _ h'.1, wpAnyH_weaken hS fuel _ a' w' h'.2⟩) (h.2 i hi)⟩
theorem wpAnyH_of_quiet {Q : Act → Prop} {Q' : Exit → Act → World → Prop} (hS : ∀ w, C w → S w) (hQ : ∀ a w, C w → Q a → Q' .normal a w) : ∀ (fuel : Nat) (listed : Array Bool) (a : Act) (w : World), C w →
    wpAnyQ P md ops C Q fuel listed a → wpAnyH P md ops Q' S fuel listed a w
  | 0, _, _, _, hw, h => ⟨h.1, hQ _ _ hw h.2⟩
  | fuel + 1, _, _, _, hw, h => ⟨fun h0 => hQ _ _ hw (h.1 h0), fun i hi => wpOp_of_qOp hw (fun a' w' hw' hh => ⟨hS _ hw', wpAnyH_of_quiet hS hQ fuel _ a' w' hw' hh⟩) (h.2 i hi)⟩
/-- From the midst of a region on: what is left of it, in the order of the text. -/
theorem held_grew {Q : Exit → Act → World → Prop} {l : List Oper} {fuel k : Nat} {listed : Array Bool} {a : Act} {w : World} (hf : l.length = fuel) (hs : Region.noSelect ops = true) (hl : ops.toList.drop k = l) (hB : Region.lexFrom md ops l.length k listed = true)
    (hS : ∀ d os, S (grewTo w d os))
    (h : wpQuiet P ops (fun w' => ∃ p : GrewP, w' = grewTo w p.d p.os) (fun a' => ∀ w', (∃ p : GrewP, w' = grewTo w p.d p.os) → Q .normal a' w') l a) : wpAnyH P md ops Q S fuel listed a w := by
  subst hf
  refine wpAnyH_of_quiet (C := fun w' => ∃ p : GrewP, w' = grewTo w p.d p.os) (fun w' ⟨p, e⟩ => e ▸ hS p.d p.os) (Q := fun a' => ∀ w', (∃ p : GrewP, w' = grewTo w p.d p.os) → Q .normal a' w') (fun _ w' hw' hh => hh w' hw') _ _ _ _ ⟨⟨w.drawn, #[]⟩, by unfold grewTo; rw [grow_empty]⟩ ?_
  refine wpAnyQ_lex hs l k listed a (fun j => ?_) hB h
  rw [← hl, List.getElem?_drop, ← Array.getElem?_toList]
end
end Go.Proofs.Ytdblicfcfmfneaa

/-
  What the walks of lowcap and of highcap share: cells of a block of three, numbers that go round, boxes, Plus of two, rows that are loaded.
-/
namespace Go.Proofs.Ytdblicfcfmfneaa
set_option linter.unusedVariables false
set_option linter.unusedSimpArgs false
open Go.RowKit

theorem three_cells {w : World} {B : Nat} {x y z : Value} {t : TypeId} (h : w.heap[B]? = some (.cells #[x, y, z] t (0, 0))) : w.cell? ⟨B, 0, none⟩ = some x ∧ w.cell? ⟨B, 1, none⟩ = some y ∧ w.cell? ⟨B, 2, none⟩ = some z := by
  refine ⟨?_, ?_, ?_⟩ <;> (rw [Joins.cell_of_block h]; rfl)
/-- A number that goes round. -/
def wrU (x : Int) : Int := x % 18446744073709551616
theorem wrU_word (x : Int) : Word (wrU x) := by unfold wrU Word; omega
theorem wrU_id {x : Int} (h : 0 ≤ x) (h2 : x < 18446744073709551616) : wrU x = x := by unfold wrU; omega
theorem wrU_add (x y : Int) : IntKind.u64.wrap (wrU x + y) = wrU (x + y) := by rw [IntKind.wrap_u64]; unfold wrU; omega
theorem fir_drop {K : List PairV} {k : Nat} {p : PairV} (h : K[k]? = some p) : firP (K.drop k) = p := by
  unfold firP
  rw [List.head?_drop, h]; rfl
theorem Keeps.trans {S S1 : Nat → Prop} {w w1 w2 : World} (h : Keeps S w w1) (h1 : Keeps S1 w1 w2) (hS : ∀ k, S1 k → S k ∨ w.heap.size ≤ k) : Keeps S w w2 :=
  ⟨h1.os.trans h.os, h1.tape.trans h.tape, h1.output.trans h.output, Nat.le_trans h.size h1.size, fun k hk hn => (h1.block k (Nat.lt_of_lt_of_le hk h.size) (fun h2 => by rcases hS k h2 with h3 | h3; exact hn h3; omega)).trans (h.block k hk hn)⟩
/-- A pair is laid in a box of its own. -/
theorem box_facts (w4 : World) {B : Nat} {cs : Array Value} {T : TypeId} {v : Value} (hb : w4.heap[B]? = some (.cells cs T (0, 0))) (h2 : w4.cell? ⟨B, 2, none⟩ = some v) (x y : Value) (t : TypeId) :
    ∃ X, w4.alloc (.cells #[x, y] t) = X ∧ Below w4.heap.size w4 X ∧ X.cell? ⟨B, 2, none⟩ = some v ∧ X.frozen? ⟨B, 2, none⟩ = false ∧ X.cell? ⟨w4.heap.size, 0, none⟩ = some x ∧ X.cell? ⟨w4.heap.size, 1, none⟩ = some y := by
  have b : Below w4.heap.size w4 (w4.alloc (.cells #[x, y] t)) := (Below.refl _ _).alloc (Nat.le_refl _) _
  exact ⟨_, rfl, b, cell_later b h2, free8 ((b.block B (lt_of_block hb)).trans hb) 2, (two_new8 w4 x y t).1, (two_new8 w4 x y t).2⟩
/-- Two numbers in a block of their own. -/
theorem two_words (w : World) (x y : Value) (t : TypeId) : (w.alloc (.cells #[x, y] t)).cell? ⟨w.heap.size, 0, none⟩ = some x ∧ (w.alloc (.cells #[x, y] t)).cell? ⟨w.heap.size, 1, none⟩ = some y := two_new8 w x y t
theorem plus2_yes {x y : Int} (h : x + y ≤ 9223372036854775807) : plus2B x y = true ∧ plus2Q x y = x + y := by
  have : plus2B x y = true := by unfold plus2B; apply decide_eq_true; exact h
  exact ⟨this, by unfold plus2Q; rw [this]; rfl⟩
theorem plus2_no {x y : Int} (h : 9223372036854775807 < x + y) : plus2B x y = false ∧ plus2Q x y = 0 := by
  have : plus2B x y = false := by unfold plus2B; apply decide_eq_false; omega
  exact ⟨this, by unfold plus2Q; rw [this]; rfl⟩
theorem good_fir_end {L : List PairV} (hg : GoodP L) : ∀ p, p ∈ L → (firP L).1 ≤ p.1 := by
  intro p hp
  cases L with
  | nil => cases hp
  | cons q r =>
    rcases List.mem_cons.1 hp with rfl | h
    · exact Int.le_refl _
    · have := (List.pairwise_cons.1 hg.2).1 p h; show q.1 ≤ p.1; omega
theorem load_true {m : Int} {L : List PairV} {l : Int} (h : loadB m L l = true) : GoodP L ∧ (L.length : Int) ≤ m ∧ (L = [] → l = 0) ∧ sumP L + l ≤ 9223372036854775807 ∧ (L ≠ [] → endP L - (firP L).1 < m) := by
  unfold loadB at h
  simp only [Bool.and_eq_true, decide_eq_true_eq] at h
  obtain ⟨⟨⟨⟨h1, h2⟩, h3⟩, h4⟩, h5⟩ := h
  exact ⟨goodB_true.1 h1, h2, h3, h4, h5⟩
/-- A pointer laid in a box of its own. -/
theorem ptr_box (w : World) (v : Value) (t : TypeId) : ∃ X, w.alloc (.cells #[v] t) = X ∧ Below w.heap.size w X ∧ X.heap.size = w.heap.size + 1 ∧ X.heap[w.heap.size]? = some (.cells #[v] t (0, 0)) :=
  ⟨_, rfl, (Below.refl _ _).alloc (Nat.le_refl _) _, by simp, heap_alloc_new _ _⟩
theorem one_cell {w : World} {B : Nat} {x : Value} {t : TypeId} (h : w.heap[B]? = some (.cells #[x] t (0, 0))) : w.cell? ⟨B, 0, none⟩ = some x := by
  rw [Joins.cell_of_block h]; rfl
end Go.Proofs.Ytdblicfcfmfneaa
