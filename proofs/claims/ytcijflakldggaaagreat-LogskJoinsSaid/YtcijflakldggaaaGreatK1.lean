/-
  Texts joined, in build order: HighC, PairW, QuillR, QuillU, QuillI, PairJ, RunsK, Ref8, Ref9, LowB, CellM, SpanM, BinM, BinS, Ref10, CellI, Shelf, Carry, WideA.
-/
import Derived.Test.YtcijflakldggaaaGreatK0
import Derived.Test.YtcijflakldggaaaGreatRows
import Derived.WalkKit
import Derived.WalkSpells
import Derived.WalkLawsBesides
import Derived.WalkMore
import Derived.LoopTactic
import Derived.OneCell
import Derived.Lib.Strings
import Derived.Laws.BytesArg
import Derived.Laws.Concat
import Derived.Outline
import Derived.Deep.RegionHeld3
import Derived.Deep.Slices
import Derived.Deep.Fields
import Derived.SizedLaws
import Derived.Carry
import Derived.Deep.Onto
import Derived.Lib.AppendZerosOnto
import Derived.Lib.SliceRun
import Derived.Lib.Walk
import Derived.Laws.OwnMore
import Derived.Deep.QuietTactic
import Derived.BigQuiet
import Derived.Deep.RegionWith
import Derived.Deep.LoopGhost
import Derived.Lib.BitFns
import Derived.Lib.ItoaNum
import Derived.OwnWalk
import Derived.Laws.AppendOwnNone
import Derived.Deep.RegionLaw
import Derived.Deep.AppendLies
import Derived.Lib.SmallJoins
import Derived.Shelf.Small.Bits
import Derived.Shelf.Small.Wraps
import Derived.Shelf.Strconv.Itoa0
import Derived.Shelf.Bits.Mul64
import Derived.Ground.Names2Prog
import Derived.Shelf.Slices.SearchI
import Derived.Test.YtcijflakldggaaaGreatProg
import Derived.Shelf.Spec.BitsCarry
/-
  Plain mathematics of layer 10 (highcap): what is kept of a row, where so many indexes side by side are kept, the least ones.
  What package highcap is to do, said once (proved elsewhere of the code); a nil one.
-/
namespace Go.Proofs.YtcijflakldggaaaGreat
set_option linter.unusedVariables false
set_option linter.unusedSimpArgs false
open Go.RowKit

/-- The least index of a row. -/
def begP (L : List PairV) : Int := (firP L).1
/-- What is kept of a row. -/
def keepH (m : Int) (L : List PairV) : List PairV := lowP L (begP L + m)
theorem beg_cons (p : PairV) (r : List PairV) : begP (p :: r) = p.1 := rfl
theorem beg_mem {L : List PairV} (h : L ≠ []) : ∃ p, p ∈ L ∧ p.1 = begP L := by
  cases L with
  | nil => exact absurd rfl h
  | cons p r => exact ⟨p, by simp, rfl⟩
theorem beg_le {L : List PairV} (hg : GoodP L) : ∀ p, p ∈ L → begP L ≤ p.1 := by
  intro p hp
  cases L with
  | nil => cases hp
  | cons q r =>
    rcases List.mem_cons.1 hp with rfl | h
    · exact Int.le_refl _
    · have := (List.pairwise_cons.1 hg.2).1 p h; show q.1 ≤ p.1; omega
theorem beg_i64 {L : List PairV} (h : ∀ p, p ∈ L → okP p) : I64 (begP L) := fir_i64 h
theorem count_beg {L : List PairV} (hg : GoodP L) (h : L ≠ []) : 1 ≤ countP L (begP L) := by
  obtain ⟨p, hp, e⟩ := beg_mem h
  rw [← e]; exact mem_count hg hp
theorem count_ahead {L : List PairV} (hg : GoodP L) {j : Int} (h : j < begP L) : countP L j = 0 := by
  by_cases hc : countP L j = 0
  · exact hc
  · obtain ⟨p, hp, e⟩ := count_mem hc
    have := beg_le hg p hp; omega
/-- The beginning is told by the counts. -/
theorem beg_uniq {L : List PairV} (hg : GoodP L) {e : Int} (h1 : 1 ≤ countP L e) (h2 : ∀ j, j < e → countP L j = 0) : begP L = e := by
  obtain ⟨p, hp, he⟩ := count_mem (L := L) (j := e) (by omega)
  have hne : L ≠ [] := by rintro rfl; cases hp
  have h3 := beg_le hg p hp
  have h4 := count_beg hg hne
  rcases lt_or_geI (begP L) e with h | h
  · have := h2 _ h; omega
  · omega

theorem keeph_nil (m : Int) : keepH m [] = [] := rfl
theorem keeph_count (m : Int) (L : List PairV) (j : Int) : countP (keepH m L) j = if j < begP L + m then countP L j else 0 := count_low _ _ _
theorem keeph_mem {m : Int} {L : List PairV} {p : PairV} (h : p ∈ keepH m L) : p ∈ L ∧ p.1 < begP L + m := lowP_mem h
theorem keeph_good {m : Int} {L : List PairV} (h : GoodP L) : GoodP (keepH m L) := good_filter _ h
theorem keeph_ok {m : Int} {L : List PairV} (h : ∀ p, p ∈ L → okP p) : ∀ p, p ∈ keepH m L → okP p := fun p hp => h p (keeph_mem hp).1
theorem keeph_le (m : Int) (L : List PairV) : (keepH m L).length ≤ L.length := List.length_filter_le _ _
theorem keeph_ne {m : Int} {L : List PairV} (hm : 0 < m) (h : L ≠ []) : keepH m L ≠ [] := by
  obtain ⟨p, hp, e⟩ := beg_mem h
  have : p ∈ keepH m L := List.mem_filter.2 ⟨hp, by simp; omega⟩
  intro h0; rw [h0] at this; cases this
theorem keeph_beg {m : Int} {L : List PairV} (hm : 0 < m) (hg : GoodP L) (h : L ≠ []) : begP (keepH m L) = begP L := by
  refine beg_uniq (keeph_good hg) ?_ fun j hj => ?_
  · rw [keeph_count, if_pos (by omega)]; exact count_beg hg h
  · rw [keeph_count, if_pos (by omega)]; exact count_ahead hg hj
theorem keeph_idem {m : Int} {L : List PairV} (hm : 0 < m) (hg : GoodP L) : keepH m (keepH m L) = keepH m L := by
  by_cases h : L = []
  · subst h; rfl
  · refine good_ext (keeph_good (keeph_good hg)) (keeph_good hg) fun j => ?_
    rw [keeph_count, keeph_beg hm hg h, keeph_count]
    split <;> rfl
/-- Rows with the same beginning, and the same counts near it, keep the same. -/
theorem keeph_ext {m : Int} {L M : List PairV} (hL : GoodP L) (hM : GoodP M) (he : begP L = begP M) (hc : ∀ j, j < begP L + m → countP L j = countP M j) : keepH m L = keepH m M := by
  refine good_ext (keeph_good hL) (keeph_good hM) fun j => ?_
  rw [keeph_count, keeph_count, ← he]
  by_cases h : j < begP L + m
  · rw [if_pos h, if_pos h, hc j h]
  · rw [if_neg h, if_neg h]
theorem keeph_sum (m : Int) {L : List PairV} (h : ∀ p, p ∈ L → 0 ≤ p.2) : 0 ≤ sumP (keepH m L) ∧ sumP (keepH m L) ≤ sumP L := sumP_filter _ h
theorem keeph_len {m : Int} {L : List PairV} (hm : 0 ≤ m) (hg : GoodP L) : ((keepH m L).length : Int) ≤ m := by
  have := spread_len (keepH m L) (begP L - 1) (begP L + m - 1) (keeph_good hg) (by omega) fun p hp => ⟨by have := beg_le hg p (keeph_mem hp).1; omega, by have := (keeph_mem hp).2; omega⟩
  omega

/-- The beginning behind an addition. -/
theorem beg_add {L : List PairV} {i c : Int} (hg : GoodP L) (hn : countP L i + c ≤ 9223372036854775807) (hc : 0 < c) (h0 : 0 ≤ countP L i) : begP (addP L i c) = if L = [] then i else min (begP L) i := by
  have hC := count_add (L := L) (i := i) (c := c) (by omega)
  refine beg_uniq (add_good hg hn) ?_ fun j hj => ?_
  · rw [hC]
    by_cases h : L = []
    · subst h; rw [if_pos rfl, if_pos rfl]; have : countP [] i = 0 := rfl; omega
    · rw [if_neg h]
      rcases lt_or_geI i (begP L) with h1 | h1
      · rw [Int.min_eq_right (by omega), if_pos rfl]; omega
      · rw [Int.min_eq_left h1]; have := count_beg hg h; split <;> omega
  · rw [hC]
    by_cases h : L = []
    · subst h; rw [if_pos rfl] at hj; rw [if_neg (by omega)]; rfl
    · rw [if_neg h] at hj
      rw [count_ahead hg (by omega), if_neg (by omega)]; rfl
theorem keeph_cnt_le {m : Int} {L : List PairV} (hg : GoodP L) (i : Int) : countP (keepH m L) i ≤ countP L i := by
  rw [keeph_count]; have := cnt_pos hg i; split <;> omega
/-- What is added to what is kept is kept as it is of all. -/
theorem keeph_add {m : Int} {A : List PairV} {i c : Int} (hm : 0 < m) (hg : GoodP A) (hn : countP A i + c ≤ 9223372036854775807) (hc : 0 < c) : keepH m (addP (keepH m A) i c) = keepH m (addP A i c) := by
  by_cases h : A = []
  · subst h; rfl
  · have hk := keeph_cnt_le (m := m) hg i
    have h0 := cnt_pos hg i
    have h1 := cnt_pos (keeph_good (m := m) hg) i
    have e1 := beg_add (keeph_good (m := m) hg) (by omega) hc h1
    have e2 := beg_add hg hn hc h0
    rw [if_neg (keeph_ne hm h), keeph_beg hm hg h] at e1
    rw [if_neg h] at e2
    refine keeph_ext (add_good (keeph_good hg) (by omega)) (add_good hg hn) (e1.trans e2.symm) fun j hj => ?_
    rw [e1] at hj
    rw [count_add (by omega), count_add (by omega), keeph_count, if_pos (by omega)]
/-- Too far above the beginning: all stays as it was. -/
theorem keeph_far {m : Int} {K : List PairV} {i c : Int} (hm : 0 < m) (hg : GoodP K) (hk : keepH m K = K) (hn : countP K i + c ≤ 9223372036854775807) (hc : 0 < c) (hne : K ≠ []) (hf : begP K + m ≤ i) : keepH m (addP K i c) = K := by
  have h0 := cnt_pos hg i
  have e2 := beg_add hg hn hc h0
  rw [if_neg hne, Int.min_eq_left (by omega)] at e2
  refine Eq.trans (keeph_ext (add_good hg hn) hg e2 fun j hj => ?_) hk
  rw [e2] at hj
  rw [count_add (by omega), if_neg (by omega), Int.add_zero]
/-- Else what lies too far above goes, and the rest is added to. -/
theorem keeph_near {m : Int} {K : List PairV} {i c : Int} (hm : 0 < m) (hg : GoodP K) (hk : keepH m K = K) (hn : countP K i + c ≤ 9223372036854775807) (hc : 0 < c) (hf : K = [] ∨ i < begP K + m) : keepH m (addP K i c) = addP (lowP K (i + m)) i c := by
  have h0 := cnt_pos hg i
  have e2 := beg_add hg hn hc h0
  have hh : countP (lowP K (i + m)) i = countP K i := by rw [count_low, if_pos (by omega)]
  refine good_ext (keeph_good (add_good hg hn)) (add_good (good_filter _ hg) (by rw [hh]; exact hn)) fun j => ?_
  rw [keeph_count, e2, count_add (by omega), count_add (by rw [hh]; omega), count_low]
  by_cases h : K = []
  · subst h
    rw [if_pos rfl]
    have hz : countP [] j = 0 := rfl
    rw [hz]
    by_cases hj : j = i
    · subst hj; by_cases hx : j < j + m <;> simp [hx]; omega
    · by_cases hx : j < i + m <;> simp [hx, hj]
  · rw [if_neg h]
    have hf' : i < begP K + m := by rcases hf with h1 | h1; exact absurd h1 h; exact h1
    have hz : begP K + m ≤ j → countP K j = 0 := fun hj => by rw [← hk, keeph_count, if_neg (by omega)]
    rcases lt_or_geI i (begP K) with h1 | h1
    · rw [Int.min_eq_right (by omega)]
      by_cases hj : j < i + m
      · rw [if_pos hj, if_pos hj]
      · rw [if_neg hj, if_neg hj, if_neg (by omega)]; rfl
    · rw [Int.min_eq_left h1]
      by_cases hj : j < begP K + m
      · rw [if_pos hj, if_pos (show j < i + m by omega)]
      · have hz' := hz (by omega)
        rw [if_neg hj, hz', if_neg (show ¬ j = i by omega)]
        split <;> rfl
/-- Where the back of a good row goes. -/
theorem low_take {K : List PairV} {x : Int} {k : Nat} (hg : GoodP K) (h1 : ∀ p, p ∈ K.drop k → x ≤ p.1) (h2 : K.take k = [] ∨ (lasP (K.take k)).1 < x) : lowP K x = K.take k := by
  have e : lowP K x = lowP (K.take k ++ K.drop k) x := by rw [List.take_append_drop]
  rw [e]
  unfold lowP
  have hd : (K.drop k).filter (fun p => decide (p.1 < x)) = [] := List.filter_eq_nil_iff.2 (fun p hp => by have := h1 p hp; simp; omega)
  rw [List.filter_append, hd, List.append_nil, List.filter_eq_self]
  intro p hp
  rcases h2 with h | h
  · rw [h] at hp; cases hp
  · have := end_ge (good_take k hg) p hp
    have h' : endP (K.take k) < x := h
    simp; omega
theorem sum_low_take {K : List PairV} {k : Nat} : sumP K - sumP (K.take k) = sumP (K.drop k) := by
  have e := sumP_app (K.take k) (K.drop k)
  rw [List.take_append_drop] at e
  omega
/-- Merging what is kept is what is kept of all. -/
theorem keeph_join {m : Int} {A B : List PairV} (hm : 0 < m) (hA : GoodP A) (oA : ∀ p, p ∈ A → okP p) (hB : GoodP B) (oB : ∀ p, p ∈ B → okP p) (hs : sumP A + sumP B ≤ 9223372036854775807) : keepH m (joinP (keepH m A) (keepH m B)) = keepH m (joinP A B) := by
  have sA := keeph_sum m (ok_pos oA)
  have sB := keeph_sum m (ok_pos oB)
  have J1 := join_facts (keepH m B) (keepH m A) (keeph_good hA) (keeph_ok oA) (good_each (keeph_good hB) (keeph_ok oB)) (by omega)
  have J2 := join_facts B A hA oA (good_each hB oB) hs
  have hc0 : ∀ j, countP [] j = 0 := fun j => rfl
  by_cases eA : A = []
  · subst eA
    have e1 : joinP (keepH m []) (keepH m B) = keepH m B := good_ext J1.good (keeph_good hB) fun j => by rw [J1.cnt, keeph_nil, hc0, Int.zero_add]
    have e2 : joinP [] B = B := good_ext J2.good hB fun j => by rw [J2.cnt, hc0, Int.zero_add]
    rw [e1, e2, keeph_idem hm hB]
  · by_cases eB : B = []
    · subst eB
      rw [keeph_nil, join_nil, join_nil, keeph_idem hm hA]
    · have cA := count_beg hA eA
      have cB := count_beg hB eB
      have f1 : begP (joinP (keepH m A) (keepH m B)) = min (begP A) (begP B) := by
        refine beg_uniq J1.good ?_ fun j hj => ?_
        · rw [J1.cnt, keeph_count, keeph_count]
          rcases lt_or_geI (begP B) (begP A) with h | h
          · rw [Int.min_eq_right (by omega), if_pos (show begP B < begP B + m by omega)]
            have := cnt_pos hA (begP B); split <;> omega
          · rw [Int.min_eq_left h, if_pos (show begP A < begP A + m by omega)]
            have := cnt_pos hB (begP A); split <;> omega
        · rw [J1.cnt, keeph_count, keeph_count, count_ahead hA (by omega), count_ahead hB (by omega)]
          split <;> split <;> rfl
      have f2 : begP (joinP A B) = min (begP A) (begP B) := by
        refine beg_uniq J2.good ?_ fun j hj => ?_
        · rw [J2.cnt]
          rcases lt_or_geI (begP B) (begP A) with h | h
          · rw [Int.min_eq_right (by omega)]; have := cnt_pos hA (begP B); omega
          · rw [Int.min_eq_left h]; have := cnt_pos hB (begP A); omega
        · rw [J2.cnt, count_ahead hA (by omega), count_ahead hB (by omega)]; rfl
      refine keeph_ext J1.good J2.good (f1.trans f2.symm) fun j hj => ?_
      rw [f1] at hj
      rw [J1.cnt, J2.cnt, keeph_count, keeph_count, if_pos (by omega), if_pos (by omega)]

/-- The lost ones stand behind those that are kept. -/
theorem part_low {L : List PairV} (x : Int) (hg : GoodP L) : lowP L x ++ (L.filter fun p => decide (x ≤ p.1)) = L := by
  have hC : ∀ j, countP (L.filter fun p => decide (x ≤ p.1)) j = if x ≤ j then countP L j else 0 := by
    intro j
    unfold countP
    rw [List.filter_filter]
    by_cases h : x ≤ j
    · rw [if_pos h]; congr 1
      refine List.filter_congr fun p _ => ?_
      by_cases e : p.1 = j
      · subst e; simp [h]
      · simp [e]
    · rw [if_neg h, List.filter_eq_nil_iff.2]; rfl
      intro p _
      simp only [Bool.and_eq_true, decide_eq_true_eq, beq_iff_eq, not_and]
      intro e; omega
  refine good_ext (good_mk (good_filter _ hg) (good_filter _ hg) fun p hp q hq => ?_) hg fun j => ?_
  · have h1 := (List.mem_filter.1 hq).2
    have h2 := (lowP_mem hp).2
    simp at h1; omega
  · rw [countP_app, hC, count_low]
    by_cases h : x ≤ j
    · rw [if_pos h, if_neg (by omega), Int.zero_add]
    · rw [if_neg h, if_pos (by omega), Int.add_zero]
theorem seek_mem (t : Int) : ∀ (L : List PairV) (s x : Int), seekP t s L = some x → ∃ p, p ∈ L ∧ p.1 = x := by
  intro L
  induction L with
  | nil => intro s x h; cases h
  | cons p r ih =>
    intro s x h
    rw [seek_cons] at h
    split at h
    · exact ⟨p, by simp, Option.some.inj h⟩
    · obtain ⟨q, hq, e⟩ := ih _ x h
      exact ⟨q, List.mem_cons_of_mem _ hq, e⟩
/-- What Find of a highcap tells: of those that are kept alone. -/
def findH (K : List PairV) (l t : Int) : Option Int := findP K t
/-- .. is what is asked for of all, unless it is lost. -/
theorem find_keeph {m : Int} {A : List PairV} (hm : 0 < m) (hg : GoodP A) (t : Int) :
    findH (keepH m A) (sumP A - sumP (keepH m A)) t = match findP A t with | none => none | some x => if x - begP A < m then some x else none := by
  have hp := part_low (begP A + m) hg
  obtain ⟨D, hD⟩ : ∃ D, (A.filter fun p => decide (begP A + m ≤ p.1)) = D := ⟨_, rfl⟩
  have hDm : ∀ p, p ∈ D → begP A + m ≤ p.1 := fun p h => by rw [← hD] at h; have := (List.mem_filter.1 h).2; simpa using this
  rw [hD] at hp
  obtain ⟨K, hK⟩ : ∃ K, keepH m A = K := ⟨_, rfl⟩
  have hp' : K ++ D = A := by rw [← hK]; exact hp
  have hKm : ∀ p, p ∈ K → p.1 - begP A < m := fun p h => by rw [← hK] at h; have := (keeph_mem h).2; omega
  rw [hK]
  unfold findH findP
  by_cases h0 : 0 < t
  · rw [if_pos h0, if_pos h0]
    have e : seekP t 0 A = match seekP t 0 K with | some x => some x | none => seekP t (0 + sumP K) D := by rw [← hp']; exact seek_app t K D 0
    rw [e]
    cases hf : seekP t 0 K with
    | some x =>
      obtain ⟨p, hpm, e⟩ := seek_mem t K 0 x hf
      have := hKm p hpm
      show some x = if x - begP A < m then some x else none
      rw [if_pos (by omega)]
    | none =>
      show none = match seekP t (0 + sumP K) D with | none => none | some x => if x - begP A < m then some x else none
      cases hf2 : seekP t (0 + sumP K) D with
      | none => rfl
      | some x =>
        obtain ⟨p, hpm, e⟩ := seek_mem t D _ x hf2
        have := hDm p hpm
        show none = if x - begP A < m then some x else none
        rw [if_neg (by omega)]
  · rw [if_neg h0, if_neg h0]
/-- How many there are up to an index: at least, and at most. -/
def lowBH (m : Int) (K : List PairV) (l i : Int) : Int := belowP K i
def highBH (m : Int) (K : List PairV) (l i : Int) : Int := if K ≠ [] ∧ m ≤ i - begP K then belowP K i + l else belowP K i
theorem below_keeph {m : Int} {A : List PairV} (hm : 0 < m) (hg : GoodP A) (i : Int) :
    lowBH m (keepH m A) (sumP A - sumP (keepH m A)) i ≤ belowP A i ∧ belowP A i ≤ highBH m (keepH m A) (sumP A - sumP (keepH m A)) i ∧
    (lowBH m (keepH m A) (sumP A - sumP (keepH m A)) i = highBH m (keepH m A) (sumP A - sumP (keepH m A)) i ∨ (A ≠ [] ∧ 0 < sumP A - sumP (keepH m A))) := by
  have hp := part_low (begP A + m) hg
  obtain ⟨D, hD⟩ : ∃ D, (A.filter fun p => decide (begP A + m ≤ p.1)) = D := ⟨_, rfl⟩
  have hDm : ∀ p, p ∈ D → begP A + m ≤ p.1 := fun p h => by rw [← hD] at h; have := (List.mem_filter.1 h).2; simpa using this
  have hDq : ∀ p, p ∈ D → 0 ≤ p.2 := fun p h => by rw [← hD] at h; have := hg.1 p (List.mem_filter.1 h).1; omega
  have hDp : 0 ≤ sumP D := sumP_pos hDq
  rw [hD] at hp
  by_cases h : A = []
  · subst h
    have e : (keepH m [] : List PairV) = [] := rfl
    rw [e]
    unfold lowBH highBH
    simp [belowP, sumP]
  have hen := keeph_beg hm hg h
  have hkn := keeph_ne hm h
  obtain ⟨K, hK⟩ : ∃ K, keepH m A = K := ⟨_, rfl⟩
  have hp' : K ++ D = A := by rw [← hK]; exact hp
  have hs : sumP A - sumP K = sumP D := by have := sumP_app K D; rw [hp'] at this; omega
  have hb : belowP A i = belowP K i + belowP D i := by rw [← hp']; exact below_app K D i
  rw [hK] at hen hkn ⊢
  rw [hs]
  have hb1 := below_le (L := D) i hDq
  have hb0 : 0 ≤ belowP D i := (sumP_filter _ hDq).1
  unfold lowBH highBH
  by_cases hc : m ≤ i - begP K
  · rw [if_pos ⟨hkn, hc⟩]
    refine ⟨by omega, by omega, ?_⟩
    by_cases hz' : sumP D = 0
    · exact Or.inl (by omega)
    · exact Or.inr ⟨h, by omega⟩
  · rw [if_neg (fun h => hc h.2)]
    have hz : belowP D i = 0 := by
      unfold belowP
      rw [List.filter_eq_nil_iff.2 (fun p hp => by have := hDm p hp; simp; omega)]; rfl
    exact ⟨by omega, by omega, Or.inl rfl⟩

/-- What a highcap of m indexes can keep, T being all that was added. -/
structure Hgp (m : Int) (K : List PairV) (T : Int) : Prop where
  good : GoodP K
  ok : ∀ p, p ∈ K → okP p
  kept : keepH m K = K
  sum : sumP K ≤ T
  top : T ≤ 9223372036854775807
  m1 : 1 ≤ m
  m2 : m ≤ 4096
theorem Hgp.pos {m : Int} {K : List PairV} {T : Int} (h : Hgp m K T) : 0 ≤ sumP K := sumP_pos (ok_pos h.ok)
theorem Hgp.nil {m : Int} (h1 : 1 ≤ m) (h2 : m ≤ 4096) : Hgp m [] 0 := ⟨good_nil, fun p h => (by cases h), rfl, Int.le_refl _, by decide, h1, h2⟩
theorem Hgp.cnt {m : Int} {K : List PairV} {T : Int} (h : Hgp m K T) (i : Int) : 0 ≤ countP K i ∧ countP K i ≤ sumP K := count_le_sum i (ok_pos h.ok)
theorem Hgp.stp {m : Int} {K : List PairV} {T : Int} (h : Hgp m K T) : Stp m K :=
  ⟨h.good, h.ok, Int.le_trans h.sum h.top, by have := keeph_len (m := m) (by have := h.m1; omega) h.good; rw [h.kept] at this; exact this⟩
theorem Hgp.add {m : Int} {K : List PairV} {T i c : Int} (h : Hgp m K T) (hi : I64 i) (hc : 0 < c) (hs : T + c ≤ 9223372036854775807) : Hgp m (keepH m (addP K i c)) (T + c) := by
  have h1 := h.cnt i
  have h2 := h.sum
  have h3 : 0 < m := by have := h.m1; omega
  have h4 := add_good h.good (i := i) (c := c) (by omega)
  have h5 := add_ok h.ok hi (c := c) (by omega)
  have h6 := add_sum (L := K) (i := i) (c := c) (by omega)
  have h7 := keeph_sum m (ok_pos h5)
  exact ⟨keeph_good h4, keeph_ok h5, keeph_idem h3 h4, by omega, hs, h.m1, h.m2⟩
theorem Hgp.join {m : Int} {K K' : List PairV} {T T' : Int} (h : Hgp m K T) (h' : Hgp m K' T') (hs : T + T' ≤ 9223372036854775807) : Hgp m (keepH m (joinP K K')) (T + T') := by
  have h2 := h.sum
  have h2' := h'.sum
  have h3 : 0 < m := by have := h.m1; omega
  have J := join_facts K' K h.good h.ok (good_each h'.good h'.ok) (by omega)
  have h7 := keeph_sum m (ok_pos J.ok)
  exact ⟨keeph_good J.good, keeph_ok J.ok, keeph_idem h3 J.good, by have := J.sum; omega, hs, h.m1, h.m2⟩
/-- Of all that was added. -/
theorem Hgp.of {m : Int} {A : List PairV} (hg : GoodP A) (ho : ∀ p, p ∈ A → okP p) (hs : sumP A ≤ 9223372036854775807) (h1 : 1 ≤ m) (h2 : m ≤ 4096) : Hgp m (keepH m A) (sumP A) :=
  ⟨keeph_good hg, keeph_ok ho, keeph_idem (by omega) hg, (keeph_sum m (ok_pos ho)).2, hs, h1, h2⟩

/-- What adding tells; what is kept then, and how many there are in all. -/
def hgRow (m : Int) (K : List PairV) (T i c : Int) : List PairV := if lwErr T c = 0 then keepH m (addP K i c) else K

/-- Hw w B S m K T: at block B lies a highcap of m indexes that keeps K, of T in all; S are its blocks. -/
structure HighDoes (Hw : World → Nat → (Nat → Prop) → Int → List PairV → Int → Prop) : Prop where
  keep : ∀ (w w' : World) (B : Nat) (S : Nat → Prop) (m : Int) (K : List PairV) (T : Int), Hw w B S m K T → (∀ k, S k → w'.heap[k]? = w.heap[k]?) → Hw w' B S m K T
  lt : ∀ (w : World) (B : Nat) (S : Nat → Prop) (m : Int) (K : List PairV) (T : Int), Hw w B S m K T → ∀ k, S k → k < w.heap.size
  lwp : ∀ (w : World) (B : Nat) (S : Nat → Prop) (m : Int) (K : List PairV) (T : Int), Hw w B S m K T → Hgp m K T
  new : ∀ (w : World) (m : Int), 1 ≤ m → m ≤ 4096 → Calls Tryz.prog 107 #[.int .i64 m] w fun e w' => ∃ B S, e = .returned (.tuple #[.pointer (some ⟨B, 0, none⟩), .int .i64 0]) ∧ Hw w' B S m [] 0 ∧ (∀ k, S k → w.heap.size ≤ k) ∧ Below w.heap.size w w'
  bad : ∀ (w : World) (m : Int), I64 m → (m < 1 ∨ 4096 < m) → Calls Tryz.prog 107 #[.int .i64 m] w fun e w' => e = .returned (.tuple #[.pointer none, .int .i64 1]) ∧ Below w.heap.size w w'
  add : ∀ (w : World) (B : Nat) (S : Nat → Prop) (m : Int) (K : List PairV) (T i c : Int), Hw w B S m K T → K.length ≤ 700 → I64 i → Word c →
    Calls Tryz.prog 174 #[.pointer (some ⟨B, 0, none⟩), .int .i64 i, .int .u64 c] w fun e w' => ∃ S', e = .returned (.int .i64 (lwErr T c)) ∧ Hw w' B S' m (hgRow m K T i c) (lwSum T c) ∧ Keeps S w w' ∧ (∀ k, S' k → S k ∨ w.heap.size ≤ k)
  merge : ∀ (w : World) (B : Nat) (S : Nat → Prop) (m : Int) (K : List PairV) (T : Int) (B' : Nat) (S' : Nat → Prop) (K' : List PairV) (T' : Int), Hw w B S m K T → Hw w B' S' m K' T' → (B' = B ∨ ∀ k, S k → ¬ S' k) → K.length ≤ 300 → K'.length ≤ 300 → T + T' ≤ 9223372036854775807 →
    Calls Tryz.prog 90 #[.pointer (some ⟨B, 0, none⟩), .pointer (some ⟨B', 0, none⟩)] w fun e w' => ∃ S2, e = .returned (.int .i64 0) ∧ Hw w' B S2 m (keepH m (joinP K K')) (T + T') ∧ Keeps S w w' ∧ (∀ k, S2 k → S k ∨ w.heap.size ≤ k)
  other : ∀ (w : World) (B : Nat) (S : Nat → Prop) (m : Int) (K : List PairV) (T : Int) (B' : Nat) (S' : Nat → Prop) (m' : Int) (K' : List PairV) (T' : Int), Hw w B S m K T → Hw w B' S' m' K' T' → m ≠ m' →
    Calls Tryz.prog 90 #[.pointer (some ⟨B, 0, none⟩), .pointer (some ⟨B', 0, none⟩)] w fun e w' => e = .returned (.int .i64 8) ∧ Below w.heap.size w w'
  mnil : ∀ (w : World) (B : Nat) (S : Nat → Prop) (m : Int) (K : List PairV) (T : Int), Hw w B S m K T → Calls Tryz.prog 90 #[.pointer (some ⟨B, 0, none⟩), .pointer none] w fun e w' => e = .returned (.int .i64 2) ∧ Below w.heap.size w w'
  total : ∀ (w : World) (B : Nat) (S : Nat → Prop) (m : Int) (K : List PairV) (T : Int), Hw w B S m K T → K.length ≤ 700 →
    Calls Tryz.prog 102 #[.pointer (some ⟨B, 0, none⟩)] w fun e w' => e = .returned (.int .u64 T) ∧ Below w.heap.size w w'
  lost : ∀ (w : World) (B : Nat) (S : Nat → Prop) (m : Int) (K : List PairV) (T : Int), Hw w B S m K T →
    Calls Tryz.prog 118 #[.pointer (some ⟨B, 0, none⟩)] w fun e w' => e = .returned (.int .u64 (T - sumP K)) ∧ Below w.heap.size w w'
  pairs : ∀ (w : World) (B : Nat) (S : Nat → Prop) (m : Int) (K : List PairV) (T : Int), Hw w B S m K T → K.length ≤ 700 →
    Calls Tryz.prog 103 #[.pointer (some ⟨B, 0, none⟩)] w fun e w' => ∃ v, e = .returned v ∧ OwnP w' w.heap.size v K ∧ Below w.heap.size w w'
  most : ∀ (w : World) (B : Nat) (S : Nat → Prop) (m : Int) (K : List PairV) (T : Int), Hw w B S m K T →
    Calls Tryz.prog 177 #[.pointer (some ⟨B, 0, none⟩)] w fun e w' => e = .returned (.int .i64 m) ∧ Below w.heap.size w w'
  find : ∀ (w : World) (B : Nat) (S : Nat → Prop) (m : Int) (K : List PairV) (T t : Int), Hw w B S m K T → K.length ≤ 700 → Word t →
    Calls Tryz.prog 176 #[.pointer (some ⟨B, 0, none⟩), .int .u64 t] w fun e w' => e = .returned (.tuple #[.int .i64 ((findH K (T - sumP K) t).getD 0), .bool (findH K (T - sumP K) t).isSome]) ∧ Below w.heap.size w w'
  load : ∀ (w : World) (m : Int) (A : Option Addr) (cap : Nat) (L : List PairV) (l : Int), 1 ≤ m → m ≤ 4096 → Pairs w A L → L.length ≤ 300 → Word l → loadB m L l = true →
    Calls Tryz.prog 93 #[.int .i64 m, .slice A L.length cap, .int .u64 l] w fun e w' => ∃ B S, e = .returned (.tuple #[.pointer (some ⟨B, 0, none⟩), .int .i64 0]) ∧ Hw w' B S m L (sumP L + l) ∧ (∀ k, S k → w.heap.size ≤ k) ∧ Below w.heap.size w w'
  unfit : ∀ (w : World) (m : Int) (A : Option Addr) (cap : Nat) (L : List PairV) (l : Int), 1 ≤ m → m ≤ 4096 → Pairs w A L → L.length ≤ 300 → Word l → loadB m L l = false →
    Calls Tryz.prog 93 #[.int .i64 m, .slice A L.length cap, .int .u64 l] w fun e w' => e = .returned (.tuple #[.pointer none, .int .i64 1]) ∧ Below w.heap.size w w'
theorem HighDoes.call {Hw : World → Nat → (Nat → Prop) → Int → List PairV → Int → Prop} (D : HighDoes Hw) {w w' : World} {B : Nat} {S : Nat → Prop} {m : Int} {K : List PairV} {T : Int} (h : Hw w B S m K T) (hb : Below w.heap.size w w') : Hw w' B S m K T :=
  D.keep w w' B S m K T h fun k hk => hb.block k (D.lt _ _ _ _ _ _ h k hk)
theorem HighDoes.past {Hw : World → Nat → (Nat → Prop) → Int → List PairV → Int → Prop} (D : HighDoes Hw) {w w' : World} {B : Nat} {S S0 : Nat → Prop} {m : Int} {K : List PairV} {T : Int} (h : Hw w B S m K T) (hk : Keeps S0 w w') (hS : ∀ k, S k → ¬ S0 k) : Hw w' B S m K T :=
  D.keep w w' B S m K T h fun k hk' => hk.block k (D.lt _ _ _ _ _ _ h k hk') (hS k hk')

/-- A nil one. -/
structure HighNil : Prop where
  add : ∀ (w : World) (i c : Int), I64 i → Word c → Calls Tryz.prog 174 #[.pointer none, .int .i64 i, .int .u64 c] w fun e w' => e = .returned (.int .i64 2) ∧ Below w.heap.size w w'
  merge : ∀ (w : World), Calls Tryz.prog 90 #[.pointer none, .pointer none] w fun e w' => e = .returned (.int .i64 2) ∧ Below w.heap.size w w'
  total : ∀ (w : World), Calls Tryz.prog 102 #[.pointer none] w fun e w' => e = .returned (.int .u64 0) ∧ Below w.heap.size w w'
  lost : ∀ (w : World), Calls Tryz.prog 118 #[.pointer none] w fun e w' => e = .returned (.int .u64 0) ∧ Below w.heap.size w w'
  pairs : ∀ (w : World), Calls Tryz.prog 103 #[.pointer none] w fun e w' => ∃ A cap, e = .returned (.slice A 0 cap) ∧ Below w.heap.size w w'
  most : ∀ (w : World), Calls Tryz.prog 177 #[.pointer none] w fun e w' => e = .returned (.int .i64 0) ∧ Below w.heap.size w w'
  find : ∀ (w : World) (t : Int), Word t → Calls Tryz.prog 176 #[.pointer none, .int .u64 t] w fun e w' => e = .returned (.tuple #[.int .i64 0, .bool false]) ∧ Below w.heap.size w w'
end Go.Proofs.YtcijflakldggaaaGreat

/-
  Walks: the reference's Add of rows of pairs, of any count (sums wrap around).
-/
namespace Go.Proofs.YtcijflakldggaaaGreat
set_option linter.unusedVariables false
set_option linter.unusedSimpArgs false
open Go.RowKit

set_option maxRecDepth 100000 in
set_option maxHeartbeats 2000000 in
theorem radd_wrap (w : World) (A : Option Addr) (cap : Nat) (L : List PairV) (i c n : Int) (h : Pairs w A L) (hl : L.length ≤ 1000) (hi : I64 i) (hc : Word c) (hn : IntKind.u64.wrap (countP L i + c) = n) (hcl : countP L i < 18446744073709551616) :
    Calls Tryz.prog 82 #[.slice A L.length cap, .int .i64 i, .int .u64 c] w fun e w' => ∃ v, e = .returned v ∧ OwnP w' w.heap.size v (lowP L i ++ (midP i n ++ highP L i)) ∧ Below w.heap.size w w' := by
  have HI := Lib.hid h
  have HIX := Lib.hid hi
  obtain ⟨i0, i1⟩ := hi
  obtain ⟨c0', c1'⟩ := hc
  obtain ⟨m, hm⟩ : ∃ m, countP L i = m := ⟨_, rfl⟩
  have hm0 := (countP_take (L := L) L.length i (ok_pos h.ok)).1
  rw [List.take_length, hm] at hm0
  rw [hm] at hn
  have HM := Lib.hid hm
  have HN := Lib.hid hn
  have hmt : m < 18446744073709551616 := hm ▸ hcl
  have hnr : 0 ≤ n ∧ n < 18446744073709551616 := by rw [← hn, IntKind.wrap_u64]; omega
  obtain ⟨n0, n1⟩ := hnr
  clear h hm
  go_enter Tryz.func82, Tryz.ntmps82
  go_wp2_with fail
  go_loopw [7, 15] (fun s j wr => ∃ (k : Nat), k ≤ L.length ∧ j = .int .i64 k ∧ OwnP wr w.heap.size s (lowP (L.take k) i) ∧ Below w.heap.size w wr) (fun _ j _ => L.length - (intOf j).toNat)
  case atStart => exact ⟨0, Nat.zero_le _, rfl, OwnP.nil _ _, Below.refl _ _⟩
  case round =>
    obtain ⟨k, hk, rfl, hown, hb2⟩ := hrel
    have hbs := hb2.size
    by_cases hlt : k < L.length
    · have kk : (k : Int) < L.length := by omega
      have hxk : L[k]? = some L[k] := List.getElem?_eq_getElem hlt
      generalize hit : L[k] = p at *
      obtain ⟨px, pc⟩ := p
      obtain ⟨b0, off, rfl, hbl, c0, c1⟩ := (HI.out.call hb2).at_ k _ hxk
      simp only at c0 c1
      have HS := Lib.hid (low_step hxk i)
      have HLL := Lib.hid (low_len L i k)
      have hok := HI.out.ok _ (List.mem_of_getElem? hxk)
      obtain ⟨⟨o1, o2⟩, o3, o4⟩ := hok
      simp only at HS
      clear hxk hit
      by_cases hc : px < i
      · rw [if_pos hc] at HS
        obtain ⟨vA, vk, rfl⟩ := hown.form
        have HO := Lib.hid hown
        clear hown
        go_wp2_with (at_builtin; refine wpList_append_pair rfl _ _ rfl w.heap.size _ _ (wr.heap.size + 1) (px, pc) rfl ((HO.out.alloc _).alloc _) rfl ?c1 ?c2 ?c3 ?c4 ?_)
        case c3 => have := HLL.out; omega
        case c4 => first | omega | (simp; omega)
        intro v' w1 hown' hgrow
        have hb3 := OwnP.below ((HO.out.alloc _).alloc _) ((hb2.alloc hbs _).alloc (by simp; omega) _) hgrow (by simp; omega)
        rw [← HS.out] at hown'
        clear hgrow
        go_wp2_with fail
        go_roundw
        case rel => exact ⟨k + 1, by omega, by go_num, hown', hb3⟩
        case measure => simp [intOf]; omega
      · rw [if_neg hc, List.append_nil] at HS
        rw [← HS.out] at hown
        go_wp2_with fail
        go_roundw
        case rel => exact ⟨k + 1, by omega, by go_num, hown.alloc _, hb2.alloc hbs _⟩
        case measure => simp [intOf]; omega
    · obtain rfl : k = L.length := by omega
      rw [List.take_length] at hown
      have kk : ¬ (L.length : Int) < L.length := by omega
      have HLL := Lib.hid (low_len L i L.length)
      rw [List.take_length] at HLL
      have HO := Lib.hid hown
      clear hown
      go_wp2_with fail
      refine (rcount_any _ A cap L i m (HI.out.call hb2) hl HIX.out HM.out (by omega)).mono ?_
      rintro e w3 ⟨rfl, hb3'⟩
      have hb3 := hb2.trans (hb3'.mono hbs)
      have hbs3 := hb3.size
      have HO3 := Lib.hid (HO.out.call hb3')
      have HML : Hid ((lowP L i ++ midP i n).length ≤ 1001) := Lib.hid (by
        rw [List.length_append]; have := HLL.out
        have : (midP i n).length ≤ 1 := by unfold midP; split <;> simp
        omega)
      clear hb3' hb2 hbs HO
      by_cases h0 : 0 < n
      · have HMID : Hid (lowP L i ++ [(i, n)] = lowP L i ++ midP i n) := Lib.hid (by unfold midP; rw [if_pos h0])
        obtain ⟨vA, vk, rfl⟩ := HO3.out.form
        go_wp2_with (at_builtin; refine wpList_append_pair rfl _ _ rfl w.heap.size _ _ w3.heap.size (i, n) rfl (HO3.out.alloc _) rfl ?d1 ?d2 ?d3 ?d4 ?_)
        case d3 => have := HLL.out; omega
        case d4 => first | omega | (simp; omega)
        intro v5 w5 hown5 hgrow
        have hb5 := OwnP.below (HO3.out.alloc _) (hb3.alloc hbs3 _) hgrow (by simp; omega)
        rw [HMID.out] at hown5
        have hbs5 := hb5.size
        clear hgrow hb3 hbs3 HO3 HLL
        go_wp2_with fail
        go_loopw [7, 43] (fun s j wr => ∃ (k : Nat), k ≤ L.length ∧ j = .int .i64 k ∧ OwnP wr w.heap.size s (lowP L i ++ midP i n ++ highP (L.take k) i) ∧ Below w.heap.size w wr) (fun _ j _ => L.length - (intOf j).toNat)
        case atStart => exact ⟨0, Nat.zero_le _, rfl, by rw [List.take_zero, show highP [] i = [] from rfl, List.append_nil]; exact hown5, hb5⟩
        case round =>
          clear hown5 hb5 hbs5
          obtain ⟨k, hk, rfl, hown, hb2⟩ := hrel
          have hbs := hb2.size
          by_cases hlt : k < L.length
          · have kk : (k : Int) < L.length := by omega
            have hxk : L[k]? = some L[k] := List.getElem?_eq_getElem hlt
            generalize hit : L[k] = p at *
            obtain ⟨px, pc⟩ := p
            obtain ⟨b0, off, rfl, hbl, c0, c1⟩ := (HI.out.call hb2).at_ k _ hxk
            simp only at c0 c1
            have HS := Lib.hid (high_step hxk i)
            have HHL := Lib.hid (high_len L i k)
            have hok := HI.out.ok _ (List.mem_of_getElem? hxk)
            obtain ⟨⟨o1, o2⟩, o3, o4⟩ := hok
            simp only at HS
            clear hxk hit
            by_cases hc : i < px
            · rw [if_pos hc] at HS
              obtain ⟨R, hR⟩ : ∃ R, lowP L i ++ midP i n ++ highP (L.take k) i = R := ⟨_, rfl⟩
              have HRL : Hid (R.length ≤ 3000) := Lib.hid (by rw [← hR, List.length_append]; have := HML.out; have := HHL.out; omega)
              have HSR : Hid (R ++ [(px, pc)] = lowP L i ++ midP i n ++ highP (L.take (k + 1)) i) := Lib.hid (by rw [HS.out, ← List.append_assoc, hR])
              rw [hR] at hown
              clear hR
              obtain ⟨vA, vk, rfl⟩ := hown.form
              have HO := Lib.hid hown
              clear hown
              go_wp2_with (at_builtin; refine wpList_append_pair rfl _ _ rfl w.heap.size _ _ (wr.heap.size + 1) (px, pc) rfl ((HO.out.alloc _).alloc _) rfl ?e1 ?e2 ?e3 ?e4 ?_)
              case e3 => have := HRL.out; omega
              case e4 => first | omega | (simp; omega)
              intro v' w1 hown' hgrow
              have hb3 := OwnP.below ((HO.out.alloc _).alloc _) ((hb2.alloc hbs _).alloc (by simp; omega) _) hgrow (by simp; omega)
              rw [HSR.out] at hown'
              clear hgrow
              go_wp2_with fail
              go_roundw
              case rel => exact ⟨k + 1, by omega, by go_num, hown', hb3⟩
              case measure => simp [intOf]; omega
            · rw [if_neg hc, List.append_nil] at HS
              rw [← HS.out] at hown
              go_wp2_with fail
              go_roundw
              case rel => exact ⟨k + 1, by omega, by go_num, hown.alloc _, hb2.alloc hbs _⟩
              case measure => simp [intOf]; omega
          · obtain rfl : k = L.length := by omega
            rw [List.take_length, List.append_assoc] at hown
            have kk : ¬ (L.length : Int) < L.length := by omega
            have HO := Lib.hid hown
            clear hown
            go_wp2_with fail
            go_ret
            exact ⟨_, rfl, HO.out, hb2⟩
      · have HMID : Hid (lowP L i = lowP L i ++ midP i n) := Lib.hid (by unfold midP; rw [if_neg h0, List.append_nil])
        have hown5 := HO3.out
        rw [HMID.out] at hown5
        have hb5 := hb3
        have hbs5 := hbs3
        clear hb3 hbs3 HO3 HLL
        go_wp2_with fail
        go_loopw [7, 43] (fun s j wr => ∃ (k : Nat), k ≤ L.length ∧ j = .int .i64 k ∧ OwnP wr w.heap.size s (lowP L i ++ midP i n ++ highP (L.take k) i) ∧ Below w.heap.size w wr) (fun _ j _ => L.length - (intOf j).toNat)
        case atStart => exact ⟨0, Nat.zero_le _, rfl, by rw [List.take_zero, show highP [] i = [] from rfl, List.append_nil]; exact hown5, hb5⟩
        case round =>
          clear hown5 hb5 hbs5
          obtain ⟨k, hk, rfl, hown, hb2⟩ := hrel
          have hbs := hb2.size
          by_cases hlt : k < L.length
          · have kk : (k : Int) < L.length := by omega
            have hxk : L[k]? = some L[k] := List.getElem?_eq_getElem hlt
            generalize hit : L[k] = p at *
            obtain ⟨px, pc⟩ := p
            obtain ⟨b0, off, rfl, hbl, c0, c1⟩ := (HI.out.call hb2).at_ k _ hxk
            simp only at c0 c1
            have HS := Lib.hid (high_step hxk i)
            have HHL := Lib.hid (high_len L i k)
            have hok := HI.out.ok _ (List.mem_of_getElem? hxk)
            obtain ⟨⟨o1, o2⟩, o3, o4⟩ := hok
            simp only at HS
            clear hxk hit
            by_cases hc : i < px
            · rw [if_pos hc] at HS
              obtain ⟨R, hR⟩ : ∃ R, lowP L i ++ midP i n ++ highP (L.take k) i = R := ⟨_, rfl⟩
              have HRL : Hid (R.length ≤ 3000) := Lib.hid (by rw [← hR, List.length_append]; have := HML.out; have := HHL.out; omega)
              have HSR : Hid (R ++ [(px, pc)] = lowP L i ++ midP i n ++ highP (L.take (k + 1)) i) := Lib.hid (by rw [HS.out, ← List.append_assoc, hR])
              rw [hR] at hown
              clear hR
              obtain ⟨vA, vk, rfl⟩ := hown.form
              have HO := Lib.hid hown
              clear hown
              go_wp2_with (at_builtin; refine wpList_append_pair rfl _ _ rfl w.heap.size _ _ (wr.heap.size + 1) (px, pc) rfl ((HO.out.alloc _).alloc _) rfl ?f1 ?f2 ?f3 ?f4 ?_)
              case f3 => have := HRL.out; omega
              case f4 => first | omega | (simp; omega)
              intro v' w1 hown' hgrow
              have hb3 := OwnP.below ((HO.out.alloc _).alloc _) ((hb2.alloc hbs _).alloc (by simp; omega) _) hgrow (by simp; omega)
              rw [HSR.out] at hown'
              clear hgrow
              go_wp2_with fail
              go_roundw
              case rel => exact ⟨k + 1, by omega, by go_num, hown', hb3⟩
              case measure => simp [intOf]; omega
            · rw [if_neg hc, List.append_nil] at HS
              rw [← HS.out] at hown
              go_wp2_with fail
              go_roundw
              case rel => exact ⟨k + 1, by omega, by go_num, hown.alloc _, hb2.alloc hbs _⟩
              case measure => simp [intOf]; omega
          · obtain rfl : k = L.length := by omega
            rw [List.take_length, List.append_assoc] at hown
            have kk : ¬ (L.length : Int) < L.length := by omega
            have HO := Lib.hid hown
            clear hown
            go_wp2_with fail
            go_ret
            exact ⟨_, rfl, HO.out, hb2⟩
end Go.Proofs.YtcijflakldggaaaGreat

/-
  Plain mathematics of the reference's way to read a number: no program in sight.
  Walks: the reference's bytes of numbers and of values.
-/
namespace Go.Proofs.YtcijflakldggaaaGreat
set_option linter.unusedVariables false
set_option linter.unusedSimpArgs false

/-- The reference's way: from the last byte to the first one. -/
def hor (l : List UInt8) (j t : Nat) : Nat := valL ((l.take (j + 1)).drop t) % 18446744073709551616
theorem hor_start {l : List UInt8} {j : Nat} (h : j < l.length) : hor l j (j + 1) = 0 := by
  unfold hor; rw [List.drop_of_length_le (by rw [List.length_take]; omega)]; rfl
theorem hor_step {l : List UInt8} {j t : Nat} {b : UInt8} (ht : t ≤ j) (h : l[t]? = some b) : hor l j t = (hor l j (t + 1) * 128 + b.toNat % 128) % 18446744073709551616 := by
  have ht' := lt_of_some h
  have e : (l.take (j + 1)).drop t = b :: (l.take (j + 1)).drop (t + 1) := by
    rw [List.drop_eq_getElem_cons (by rw [List.length_take]; omega)]
    congr 1
    rw [List.getElem_take]
    rw [List.getElem?_eq_getElem ht'] at h
    exact Option.some.inj h
  unfold hor
  rw [e]
  show (b.toNat % 128 + 128 * valL ((l.take (j + 1)).drop (t + 1))) % 18446744073709551616 = _
  omega
theorem hor_end (l : List UInt8) (j : Nat) : hor l j 0 = valL (l.take (j + 1)) % 18446744073709551616 := by unfold hor; rw [List.drop_zero]
theorem hor_lt (l : List UInt8) (j t : Nat) : hor l j t < 18446744073709551616 := Nat.mod_lt _ (by decide)
/-- What the reference tells at the first byte that ends. -/
theorem tak_at {l : List UInt8} {j : Nat} {b : UInt8} {most : Nat} (hj : j < 10) (h1 : (l.take j).all hiB = true) (h2 : l[j]? = some b) (h3 : hiB b = false) :
    takS l most = if natB (hor l j 0) = l.take (j + 1) ∧ hor l j 0 ≤ most then (hor l j 0, j + 1) else (0, 0) := by
  have e := take_some h2
  have hlen : (l.take j).length = j := by rw [List.length_take]; have := lt_of_some h2; omega
  have hi := natB_iff h1 h3
  have hF := firstS_at h1 h2 h3
  rw [← e, hlen] at hi
  rw [hor_end]
  by_cases hc : natB (valL (l.take (j + 1)) % 18446744073709551616) = l.take (j + 1)
  · have hv := hi.1 hc
    have hm : valL (l.take (j + 1)) % 18446744073709551616 = valL (l.take (j + 1)) := Nat.mod_eq_of_lt hv.1
    rw [if_pos ⟨hj, hv.1, hv.2⟩] at hF
    rw [hm] at hc ⊢
    unfold takS
    rw [hF]
    by_cases hle : valL (l.take (j + 1)) ≤ most
    · rw [if_neg (by simp only []; omega), if_pos ⟨hc, hle⟩]
    · rw [if_pos (Or.inr (by simp only []; omega)), if_neg (fun h => hle h.2)]
  · have hn : ¬ (j < 10 ∧ valL (l.take (j + 1)) < 18446744073709551616 ∧ (j = 0 ∨ b.toNat ≠ 0)) := fun h => hc (hi.2 h.2)
    rw [if_neg hn] at hF
    unfold takS
    rw [hF, if_pos (Or.inl rfl), if_neg (fun h => hc h.1)]
theorem tak_none {l : List UInt8} {most : Nat} (h : firstS l = (0, 0)) : takS l most = (0, 0) := by
  unfold takS; rw [h, if_pos (Or.inl rfl)]
end Go.Proofs.YtcijflakldggaaaGreat

namespace Go.Proofs.YtcijflakldggaaaGreat
set_option linter.unusedVariables false
set_option linter.unusedSimpArgs false
open Go.RowKit

theorem byte_atA' (s : ByteArray) (k : Nat) (h : k < s.size) : s.data.toList[k]? = some (s[k]'h) := by
  obtain ⟨⟨l⟩⟩ := s
  exact List.getElem?_eq_getElem h

end Go.Proofs.YtcijflakldggaaaGreat
/-
  Walks: what the laws of quill ask first; small numbers.
  The law QuillSmall, walked.
  The law QuillNumbers, walked.
-/
namespace Go.Proofs.YtcijflakldggaaaGreat
set_option linter.unusedVariables false
set_option linter.unusedSimpArgs false
open Go.RowKit

theorem eye_sz {w w' : World} {B : Nat} (h : w.grownBy w' (some B)) : w.heap.size ≤ w'.heap.size := h.size
theorem grown_below' {n B : Nat} {a w w' : World} (h : Below n a w) (hg : w.grownBy w' (some B)) (hn : n ≤ B) (hs : n ≤ w.heap.size) : Below n a w' := h.trans (grown_below hg hn hs)

end Go.Proofs.YtcijflakldggaaaGreat

namespace Go.Proofs.YtcijflakldggaaaGreat
set_option linter.unusedVariables false
set_option linter.unusedSimpArgs false
open Go.RowKit

theorem mk_toList (l : List UInt8) : (⟨l.toArray⟩ : ByteArray).data.toList = l := rfl
theorem mk_size (l : List UInt8) : (⟨l.toArray⟩ : ByteArray).size = l.length := by rw [Lib.size_eq]
theorem ext_size (s : ByteArray) (a : Nat) : (s.extract a s.size).size = s.size - a := by
  rw [Lib.size_eq, ← Lib.toList_data, Lib.extract_toList, Lib.size_eq, List.length_take, List.length_drop]; omega
theorem below_eye {n : Nat} {a w w' : World} {B : Nat} (h : Below n a w) (hg : w.grownBy w' (some B)) (hB : n ≤ B) (hs : n ≤ w.heap.size) : Below n a w' := h.trans (grown_below hg hB hs)

end Go.Proofs.YtcijflakldggaaaGreat

namespace Go.Proofs.YtcijflakldggaaaGreat
set_option linter.unusedVariables false
set_option linter.unusedSimpArgs false
open Go.RowKit

theorem ext_list (s : ByteArray) (a : Nat) : (s.extract a s.size).data.toList = s.data.toList.drop a := by
  rw [← Lib.toList_data, Lib.extract_toList, Lib.size_eq, List.take_of_length_le (by rw [List.length_drop]; omega)]
/-- An eye on a number's bytes, and more. -/
theorem eye_got {t : ByteArray} {n m : Nat} {r : List UInt8} (hn : n < 18446744073709551616) (hm : n ≤ m) (ht : t.data.toList = natB n ++ r) :
    gone t false m = false ∧ nV t false m = n ∧ (nS t false m).data.toList = r := by
  have K := takS_nat hn hm r
  rw [← ht] at K
  have hp := natB_pos n
  have G : gone t false m = false := by unfold gone; rw [K]; show (false || decide ((natB n).length = 0)) = false; rw [decide_eq_false (by omega)]; rfl
  refine ⟨G, by unfold nV; rw [G, K]; rfl, ?_⟩
  unfold nS; rw [G, K]
  show (t.extract (natB n).length t.size).data.toList = r
  rw [ext_list, ht, List.drop_left]
/-- What the reference tells, and what an eye tells. -/
theorem eye_tak (t : ByteArray) (m a k : Nat) (h : takS t.data.toList m = (a, k)) : nV t false m = a ∧ gone t false m = ((k : Int) == 0) := by
  have G : gone t false m = decide (k = 0) := by unfold gone; rw [h]; rfl
  refine ⟨?_, ?_⟩
  · unfold nV; rw [G, h]
    by_cases hk : k = 0
    · have := takS_zero (l := t.data.toList) (m := m) (by rw [h]; exact hk)
      rw [h] at this
      have ha : a = 0 := this
      simp [hk, ha]
    · simp [hk]
  · rw [G]; by_cases hk : k = 0 <;> simp [hk]

end Go.Proofs.YtcijflakldggaaaGreat
/-
  Rows of things that are written: in memory, as an argument; walks: whether they are more than is played.
-/
namespace Go.Proofs.YtcijflakldggaaaGreat
set_option linter.unusedVariables false
set_option linter.unusedSimpArgs false
open Go.RowKit

/-- A thing that is written. -/
structure ItemV where
  kind : Int
  u : Int
  x : Int
  s : ByteArray
structure ItemV.ok (it : ItemV) : Prop where
  kind : I64 it.kind
  u : Word it.u
  x : I64 it.x
  s : it.s.size ≤ 140737488351232
/-- A row of them in memory. -/
structure Items (w : World) (A : Option Addr) (L : List ItemV) : Prop where
  ok : ∀ it, it ∈ L → it.ok
  at_ : ∀ (i : Nat) (it : ItemV), L[i]? = some it → ∃ b off, A = some ⟨b, off, none⟩ ∧ b < w.heap.size ∧ w.cell? ⟨b, off + i * 4, none⟩ = some (.int .i64 it.kind) ∧
    w.cell? ⟨b, off + i * 4 + 1, none⟩ = some (.int .u64 it.u) ∧ w.cell? ⟨b, off + i * 4 + 2, none⟩ = some (.int .i64 it.x) ∧ w.cell? ⟨b, off + i * 4 + 3, none⟩ = some (.string it.s)
theorem Items.call {w w' : World} {A : Option Addr} {L : List ItemV} (h : Items w A L) (hb : Below w.heap.size w w') : Items w' A L :=
  ⟨h.ok, fun i it hi => by
    obtain ⟨b, off, hA, hlt, c0, c1, c2, c3⟩ := h.at_ i it hi
    exact ⟨b, off, hA, Nat.lt_of_lt_of_le hlt hb.size, cell_later hb c0, cell_later hb c1, cell_later hb c2, cell_later hb c3⟩⟩
/-- How many bytes their texts have; whether that is too many. -/
def tot (L : List ItemV) : Nat := (L.map fun it => it.s.size).sum
def greatB (L : List ItemV) : Bool := decide (4096 < tot L) || decide (60 < L.length)
theorem tot_snoc {L : List ItemV} {k : Nat} {it : ItemV} (h : L[k]? = some it) : tot (L.take (k + 1)) = tot (L.take k) + it.s.size := by
  have hk : k < L.length := by
    rcases Nat.lt_or_ge k L.length with h' | h'
    · exact h'
    · rw [List.getElem?_eq_none h'] at h; cases h
  rw [List.take_succ_eq_append_getElem hk]
  rw [List.getElem?_eq_getElem hk] at h
  rw [Option.some.inj h]
  unfold tot
  rw [List.map_append, List.sum_append]; simp
theorem tot_le (L : List ItemV) (k : Nat) : tot (L.take k) ≤ tot L := by
  have : tot L = tot (L.take k) + tot (L.drop k) := by
    unfold tot
    rw [← List.sum_append, ← List.map_append, List.take_append_drop]
  omega

theorem two_blocks (w : World) (o o' : Obj) : ((w.alloc o).alloc o').heap[w.heap.size]? = some o ∧ ((w.alloc o).alloc o').heap[w.heap.size + 1]? = some o' := by
  constructor
  · rw [heap_alloc_old _ _ (by simp)]; exact heap_alloc_new _ _
  · have := heap_alloc_new (w.alloc o) o'
    simpa using this

end Go.Proofs.YtcijflakldggaaaGreat
/-
  Walks: the reference's Bytes of rows of pairs.
  What package runs is to do, said once (each is proved elsewhere of the code); what the laws of runs ask first.
  Rows of rows of pairs: plain, in memory, appended to.
-/
namespace Go.Proofs.YtcijflakldggaaaGreat
set_option linter.unusedVariables false
set_option linter.unusedSimpArgs false
open Go.RowKit

end Go.Proofs.YtcijflakldggaaaGreat

namespace Go.Proofs.YtcijflakldggaaaGreat
set_option linter.unusedVariables false
set_option linter.unusedSimpArgs false
open Go.RowKit

def GoodDoes : Prop := ∀ (w : World) (A : Option Addr) (cap : Nat) (L : List PairV) (most : Int) (b : Bool), Pairs w A L → L.length ≤ 1000 → I64 most → (goodB L && decide ((L.length : Int) ≤ most)) = b →
  Calls Tryz.prog 123 #[.slice A L.length cap, .int .i64 most] w fun e w' => e = .returned (.bool b) ∧ Below w.heap.size w w'

def TotalDoes : Prop := ∀ (w : World) (A : Option Addr) (cap : Nat) (L : List PairV) (n : Int) (b : Bool), Pairs w A L → L.length ≤ 1000 → totalP L = n → fitsB L = b →
  Calls Tryz.prog 124 #[.slice A L.length cap] w fun e w' => e = .returned (.tuple #[.int .u64 n, .bool b]) ∧ Below w.heap.size w w'

/-- Where an index stands, or would; whether it does. -/
def isP (L : List PairV) (i : Int) : Bool := L.any fun p => p.1 == i

def FindDoes : Prop := ∀ (w : World) (A : Option Addr) (cap : Nat) (L : List PairV) (i : Int) (n : Nat) (b : Bool), Pairs w A L → L.length ≤ 1000 → GoodP L → I64 i → (lowP L i).length = n → isP L i = b →
  Calls Tryz.prog 132 #[.slice A L.length cap, .int .i64 i] w fun e w' => e = .returned (.tuple #[.int .i64 n, .bool b]) ∧ Below w.heap.size w w'

/-- What adding to a row of one's own comes to. -/
def Added (w : World) (base : Nat) (v : Value) (L : List PairV) (i c : Int) (e : Ending) (w' : World) : Prop :=
  ∃ v', e = .returned v' ∧ OwnP w' base v' (addP L i c) ∧ w.grownBy w' v.ownBlock ∧ (v'.ownBlock = v.ownBlock ∨ ∀ g, v'.ownBlock = some g → w.heap.size ≤ g)

/-- A text that begins with a row's bytes. -/
def RowOf (s : List UInt8) (most : Int) (L : List PairV) (rest : List UInt8) : Prop := GoodP L ∧ (∀ p, p ∈ L → okP p) ∧ (L.length : Int) ≤ most ∧ s = rowB L ++ rest
/-- What getting a row comes to. -/
def Gets (w : World) (B : Nat) (s : ByteArray) (bad : Bool) (most : Int) (e : Ending) (w' : World) : Prop :=
  w.grownBy w' (some B) ∧
  ((∃ (v : Value) (L : List PairV) (t : ByteArray), e = .returned v ∧ bad = false ∧ RowOf s.data.toList (max most 0) L t.data.toList ∧ OwnP w' w.heap.size v L ∧ Eye w' B t false) ∨
   (∃ (A : Option Addr) (cap : Nat), e = .returned (.slice A 0 cap) ∧ (bad = true ∨ ∀ L t, ¬ RowOf s.data.toList most L t) ∧ Eye w' B ⟨#[]⟩ true))

theorem row_alive : rowB [(-1, 5), (3, 1)] = [2, 1, 5, 3, 1] := by
  have e : ∀ n, n < 128 → natB n = [UInt8.ofNat n] := fun n h => natB_lt h
  show natB 2 ++ (natB (zig (-1)).toNat ++ (natB (5 : Int).toNat ++ (natB (farP (-1) 3) ++ (natB (1 : Int).toNat ++ [])))) = _
  rw [show (zig (-1)).toNat = 1 from rfl, show farP (-1) 3 = 3 from rfl, show (5 : Int).toNat = 5 from rfl, show (1 : Int).toNat = 1 from rfl]
  rw [e 2 (by omega), e 1 (by omega), e 5 (by omega), e 3 (by omega)]
  rfl

/-- A block of pairs, known whole. -/
theorem pairs_of_block {w : World} {g : Nat} {cs : Array Value} {L : List PairV} (h : w.heap[g]? = some (.cells cs 114 (0, 0))) (hc : cs = (cellsQ L).toArray) (hok : ∀ p, p ∈ L → okP p) : Pairs w (some ⟨g, 0, none⟩) L := by
  subst hc
  refine ⟨hok, fun i p hi => ⟨g, 0, rfl, lt_of_block h, ?_, ?_⟩⟩
  · have := (cellsQ_at L i p hi).1
    simp [World.cell?, h, this]
  · have := (cellsQ_at L i p hi).2
    simp [World.cell?, h, this]
theorem two_ok : ∀ p, p ∈ [((-1 : Int), (5 : Int)), (3, 1)] → okP p := by
  intro p hp
  simp only [List.mem_cons, List.not_mem_nil, or_false] at hp
  rcases hp with rfl | rfl <;> exact ⟨⟨by decide, by decide⟩, by decide, by decide⟩
theorem one_ok : ∀ p, p ∈ [((1 : Int), (1 : Int))] → okP p := by
  intro p hp
  simp only [List.mem_cons, List.not_mem_nil, or_false] at hp
  subst hp; exact ⟨⟨by decide, by decide⟩, by decide, by decide⟩
theorem two_good : GoodP [((-1 : Int), (5 : Int)), (3, 1)] := by decide
theorem one_good : (goodB [((1 : Int), (1 : Int))] && decide ((([((1 : Int), (1 : Int))].length : Nat) : Int) ≤ 1)) = true := by decide

end Go.Proofs.YtcijflakldggaaaGreat

namespace Go.Proofs.YtcijflakldggaaaGreat
set_option linter.unusedVariables false
set_option linter.unusedSimpArgs false
open Go.RowKit

/-- A row among others: where it lies, its room, its pairs. -/
structure RowV where
  a : Option Addr
  cap : Nat
  l : List PairV
def allP (R : List RowV) : List PairV := R.flatMap fun r => r.l
theorem allP_app (A B : List RowV) : allP (A ++ B) = allP A ++ allP B := by unfold allP; rw [List.flatMap_append]
theorem allP_one (r : RowV) : allP [r] = r.l := by unfold allP; simp
theorem count_all_rev : ∀ (R : List RowV) (j : Int), countP (allP R.reverse) j = countP (allP R) j := by
  intro R
  induction R with
  | nil => intro j; rfl
  | cons r t ih =>
    intro j
    rw [List.reverse_cons, allP_app, countP_app, ih, allP_one]
    show _ = countP (allP ([r] ++ t)) j
    rw [allP_app, countP_app, allP_one]; omega
theorem all_mem {R : List RowV} {p : PairV} (h : p ∈ allP R) : ∃ r, r ∈ R ∧ p ∈ r.l := by unfold allP at h; exact List.mem_flatMap.1 h
theorem all_len : ∀ (R : List RowV) (n : Nat), (∀ r, r ∈ R → r.l.length ≤ n) → (allP R).length ≤ n * R.length := by
  intro R n
  induction R with
  | nil => intro _; exact Nat.zero_le _
  | cons r t ih =>
    intro h
    have h1 := h r (by simp)
    have h2 := ih fun x hx => h x (List.mem_cons_of_mem _ hx)
    unfold allP at *
    rw [List.flatMap_cons, List.length_append, List.length_cons, Nat.mul_succ]; omega
/-- Whatever the rows' order, what comes of them is the same. -/
theorem fold_rev {R : List RowV} (h : ∀ p, p ∈ allP R → okP p ∧ p.2 ≤ 1099511627776) (hl : (allP R).length ≤ 1000) : foldP (allP R.reverse) = foldP (allP R) := by
  have h' : ∀ p, p ∈ allP R.reverse → okP p ∧ p.2 ≤ 1099511627776 := fun p hp => by
    obtain ⟨r, hr, hq⟩ := all_mem hp
    exact h p (by unfold allP; exact List.mem_flatMap.2 ⟨r, List.mem_reverse.1 hr, hq⟩)
  have hl' : (allP R.reverse).length ≤ 1000 := by
    have : (allP R.reverse).length = (allP R).length := by
      unfold allP
      rw [List.length_flatMap, List.length_flatMap, List.map_reverse, List.sum_reverse]
    omega
  obtain ⟨s1, c1⟩ := fold_sums _ h hl
  obtain ⟨s2, c2⟩ := fold_sums _ h' hl'
  exact good_ext s2.good s1.good fun j => by rw [c2, c1, count_all_rev]

end Go.Proofs.YtcijflakldggaaaGreat
/-
  Walks: the library's slices.Grow of nothing, and slices.Concat, at rows of pairs.
-/
namespace Go.Proofs.YtcijflakldggaaaGreat
set_option linter.unusedVariables false
set_option linter.unusedSimpArgs false
open Go.RowKit

/-- Appending a whole row of pairs, a nil one too, to one of the call's own. -/
theorem wpList_append_pairs {w : World} {ops : Array Oper} {rest : List Oper} {o : Oper} {a : Act} {Q : Exit → Act → World → Prop} (hgd : o.guard = none) (s x : Operand)
    (ho : o.op = .call { callee := .builtin .append, args := #[s, x], argTypes := #[72, 72] })
    (base : Nat) (v : Value) (M : List PairV) (A : Option Addr) (cap : Nat) (L : List PairV) (hs : a.eval s = v) (hown : OwnP w base v M)
    (hx : a.eval x = .slice A L.length cap) (hsrc : Pairs w A L) (hn : M.length + L.length ≤ 100000) (hbase : base ≤ w.heap.size)
    (h : ∀ v' w', OwnP w' base v' (M ++ L) → w.grownBy w' v.ownBlock → wpList Tryz.prog ops Q rest (a.put o.dst v') w') : wpList Tryz.prog ops Q (o :: rest) a w := by
  obtain ⟨i0, hi, hz0, hz1, hz2⟩ := info_parts Tryz.infoPair
  by_cases hL : L = []
  · subst hL
    have hx' : a.eval x = .slice A 0 cap := hx
    have hrun : (Builtin.append_ #[72, 72] o.type #[v, .slice A 0 cap]).run Tryz.prog w = .ok v w := by
      have hl : ∀ (b : Option Addr) (n c : Nat), (Builtin.firstCells 2 0 (.slice A 0 cap)).run Tryz.prog w = .ok #[] w := by
        intro b n c
        cases A with
        | none => exact run_firstCells_none w 2 0 0 cap
        | some ad => exact run_firstCells_some w 2 0 ad 0 cap [] rfl (fun j v hj => by simp at hj)
      rcases hown.2 with ⟨rfl, h0⟩ | ⟨g, c2, cur, rfl, _, _, hnc, _⟩
      · rw [show (0 : Nat) = 0 from rfl] at *
        simp [Builtin.append_, run_underlying Tryz.underlying72, sizeOf, typeInfo, hi, hz1, Builtin.lenOf, hl none 0 0]
      · simp [Builtin.append_, run_underlying Tryz.underlying72, sizeOf, typeInfo, hi, hz1, Builtin.lenOf, hnc, storeCells, hl none 0 0]
    refine wpList_plain hgd fun K hK => ?_
    unfold Oper.wp
    simp [execOp, ho, resolve, invoke, builtin, hs, hx', hrun, Result.andThen]
    exact hK _ _ (h v w (by rw [List.append_nil]; exact hown) (World.grownBy.refl _ _))
  · obtain ⟨p, hp⟩ : ∃ p, L[0]? = some p := by
      cases L with
      | nil => exact absurd rfl hL
      | cons p r => exact ⟨p, rfl⟩
    obtain ⟨b, off, rfl, _, _, _⟩ := hsrc.at_ 0 p hp
    refine wpList_append_own w hgd s x _ ho base _ i0 _ 2 16 Tryz.underlying72 hi hz0 hz1 hz2 rfl (by decide) v M.length (cellsQ M) hs hown ⟨b, off, none⟩ L.length cap (cellsQ L) hx (cellsQ_len L) ?_ (cellsQ_one L)
      (by unfold maxLen; omega) (by omega) hbase (fun v' w' h1 h2 _ => h v' w' ?_ h2)
    · intro j u hu
      rw [add_flat]
      have hj : j < L.length * 2 := by
        rcases Nat.lt_or_ge j (L.length * 2) with h1 | h1
        · exact h1
        · rw [List.getElem?_eq_none (by rw [cellsQ_len]; exact h1)] at hu; cases hu
      have hq := List.getElem?_eq_getElem (l := L) (i := j / 2) (by omega)
      obtain ⟨b', off', e, _, c0, c1⟩ := hsrc.at_ (j / 2) _ hq
      obtain ⟨rfl, rfl⟩ : b = b' ∧ off = off' := by
        have := Option.some.inj e
        exact ⟨(Addr.mk.inj this).1, (Addr.mk.inj this).2.1⟩
      obtain ⟨q0, q1⟩ := cellsQ_at L (j / 2) _ hq
      rcases Nat.mod_two_eq_zero_or_one j with h2 | h2
      · have e1 : j / 2 * 2 = j := by omega
        rw [e1] at q0 c0; rw [q0] at hu; rw [c0, ← Option.some.inj hu]
      · have e1 : j / 2 * 2 + 1 = j := by omega
        rw [Nat.add_assoc, e1] at c1; rw [e1] at q1; rw [q1] at hu; rw [c1, ← Option.some.inj hu]
    · unfold OwnP
      rw [cellsQ_app, List.length_append]
      exact h1

end Go.Proofs.YtcijflakldggaaaGreat
/-
  Walks: layer 8's reference: a strip's Add, First, Last.
-/
namespace Go.Proofs.YtcijflakldggaaaGreat
set_option linter.unusedVariables false
set_option linter.unusedSimpArgs false
open Go.RowKit

theorem Two.block {w w' : World} {B : Nat} {x y : Value} (h : Two w B x y) (hb : w'.heap[B]? = w.heap[B]?) : Two w' B x y :=
  ⟨(World.cell?_of_block (a := ⟨B, 0, none⟩) hb).trans h.c0, (World.cell?_of_block (a := ⟨B, 1, none⟩) hb).trans h.c1, (World.frozen?_of_block (a := ⟨B, 0, none⟩) hb).trans h.f0, (World.frozen?_of_block (a := ⟨B, 1, none⟩) hb).trans h.f1⟩
theorem Two.put1 {w : World} {B : Nat} {x y : Value} (h : Two w B x y) (y' : Value) : Two (w.setCell ⟨B, 1, none⟩ y') B x y' := by
  refine ⟨?_, World.cell?_setCell_same _ _ _ h.c1, ?_, ?_⟩
  · rw [World.cell?_setCell_other _ _ _ _ (two_off (by omega))]; exact h.c0
  · rw [World.frozen?_setCell]; exact h.f0
  · rw [World.frozen?_setCell]; exact h.f1
/-- The reference's strip at block M, its row v. -/
def RefS (w : World) (M : Nat) (m : Int) (v : Value) (L : List PairV) : Prop := Two w M (.int .i64 m) v ∧ OwnP w (M + 1) v L
theorem RefS.lt {w : World} {M : Nat} {m : Int} {v : Value} {L : List PairV} (h : RefS w M m v L) : M < w.heap.size := h.1.lt
theorem RefS.call {w w' : World} {M : Nat} {m : Int} {v : Value} {L : List PairV} (h : RefS w M m v L) (hb : Below w.heap.size w w') : RefS w' M m v L := ⟨h.1.call hb, h.2.call hb⟩
theorem RefS.past {w w' : World} {M : Nat} {m : Int} {v : Value} {L : List PairV} {S : Nat → Prop} (h : RefS w M m v L) (hk : Keeps S w w') (h1 : ¬ S M) (h2 : ∀ g, v.ownBlock = some g → ¬ S g) : RefS w' M m v L :=
  ⟨h.1.block (hk.block M h.lt h1), hk.own h.2 h2⟩
theorem RefS.mk_new (w : World) (m : Int) (t : TypeId) : RefS (w.alloc (.cells #[.int .i64 m, .slice none 0 0] t)) w.heap.size m (.slice none 0 0) [] := ⟨Two.new _ _ _ _, OwnP.nil _ _⟩
theorem two_new9 (w : World) (x y : Value) (t : TypeId) : (w.alloc (.cells #[x, y] t)).cell? ⟨w.heap.size, 0, none⟩ = some x ∧ (w.alloc (.cells #[x, y] t)).cell? ⟨w.heap.size, 1, none⟩ = some y := ⟨(Two.new w x y t).c0, (Two.new w x y t).c1⟩
theorem RefS.row {w : World} {M : Nat} {m : Int} {v : Value} {A : List PairV} (h : RefS w M m v A) (ho : ∀ p, p ∈ A → okP p) : ∃ g cap, v = .slice g A.length cap ∧ Pairs w g A ∧ w.cell? ⟨M, 0, none⟩ = some (.int .i64 m) ∧ w.cell? ⟨M, 1, none⟩ = some (.slice g A.length cap) := by
  obtain ⟨g, cap, rfl, hp⟩ := h.2.pairs ho
  exact ⟨g, cap, rfl, hp, h.1.c0, h.1.c1⟩
theorem own_mono8 {w : World} {base base' : Nat} {v : Value} {L : List PairV} (h : OwnP w base v L) (hb : base' ≤ base) : OwnP w base' v L := World.ownsRow.mono h hb
theorem own_set8 {w : World} {base : Nat} {v : Value} {L : List PairV} (h : OwnP w base v L) {M o : Nat} (hM : M < base) (u : Value) : OwnP (w.setCell ⟨M, o, none⟩ u) base v L :=
  OwnP.other h (grown_setCell w M o u) (by
    cases hb : v.ownBlock with
    | none => exact Or.inl rfl
    | some g => exact Or.inr fun e => by have h1 := (h.lt g hb).1; have h2 := Option.some.inj e; omega)
theorem grown_of_below8 {w w' : World} {r : Option Nat} (h : Below w.heap.size w w') : w.grownBy w' r := ⟨h.os, h.tape, h.output, h.size, fun k hk _ => h.block k hk⟩
/-- What has become of the reference's strip. -/
def Done8 (w : World) (M : Nat) (m : Int) (v : Value) (L' : List PairV) (w' : World) : Prop :=
  (∃ v', RefS w' M m v' L' ∧ (v' = v ∨ ∀ g, v'.ownBlock = some g → w.heap.size ≤ g)) ∧ w.grownBy w' (some M)
theorem Done8.same {w w' : World} {M : Nat} {m : Int} {v : Value} {L : List PairV} (h : RefS w M m v L) (hb : Below w.heap.size w w') : Done8 w M m v L w' := ⟨⟨v, h.call hb, Or.inl rfl⟩, grown_of_below8 hb⟩
theorem Done8.put {w w1 : World} {M : Nat} {m : Int} {v v' : Value} {L' : List PairV} {L : List PairV} (h : RefS w M m v L) (hb : Below w.heap.size w w1) (ho : OwnP w1 w.heap.size v' L') : Done8 w M m v L' (w1.setCell ⟨M, 1, none⟩ v') :=
  ⟨⟨v', ⟨(h.1.call hb).put1 v', own_set8 (own_mono8 ho (by have := h.lt; omega)) (by omega) _⟩, Or.inr fun g hg => (ho.lt g hg).1⟩, grown_trans (grown_of_below8 hb) (grown_setCell _ _ _ _)⟩
theorem grown_own8 {a b c : World} {r r' : Option Nat} (h : a.grownBy b r) (k : b.grownBy c r') (hr : ∀ g, r' = some g → a.heap.size ≤ g) : a.grownBy c r :=
  ⟨k.os.trans h.os, k.tape.trans h.tape, k.output.trans h.output, Nat.le_trans h.size k.size, fun i hi hne => (k.block i (Nat.lt_of_lt_of_le hi h.size) (fun e => by have := hr i e.symm; omega)).trans (h.block i hi hne)⟩
theorem Done8.put2 {w w1 : World} {M : Nat} {m : Int} {v v' : Value} {L' : List PairV} {L : List PairV} (h : RefS w M m v L) (hb : Below w.heap.size w w1) (ho : OwnP w1 (w.heap.size + 1) v' L') (x y : Value) :
    Done8 w M m v L' (((w1.setCell ⟨M, 1, none⟩ v').setCell ⟨w.heap.size, 0, none⟩ x).setCell ⟨w.heap.size, 1, none⟩ y) := by
  have hM := h.lt
  refine ⟨⟨v', ⟨((h.1.call hb).put1 v').past (by omega) x y, own_mono8 (own_set8 (own_set8 (own_set8 ho (by omega) _) (by omega) _) (by omega) _) (by omega)⟩, Or.inr fun g hg => by have := (ho.lt g hg).1; omega⟩, ?_⟩
  exact grown_own8 (grown_own8 (grown_trans (grown_of_below8 hb) (grown_setCell _ _ _ _)) (grown_setCell _ w.heap.size 0 _) (fun g e => by have := Option.some.inj e; omega)) (grown_setCell _ w.heap.size 1 _) (fun g e => by have := Option.some.inj e; omega)

theorem Pairs.shift {w : World} {b off : Nat} {L : List PairV} (h : Pairs w (some ⟨b, off, none⟩) L) (k : Nat) : Pairs w (some ⟨b, off + k * 2, none⟩) (L.drop k) :=
  ⟨fun p hp => h.ok p (List.mem_of_mem_drop hp), fun i p hi => by
    rw [List.getElem?_drop] at hi
    obtain ⟨b', off', e, hlt, c0, c1⟩ := h.at_ (k + i) p hi
    have := Addr.mk.inj (Option.some.inj e)
    obtain ⟨rfl, rfl, _⟩ := this
    refine ⟨b, off + k * 2, rfl, hlt, ?_, ?_⟩
    · rw [show off + k * 2 + i * 2 = off + (k + i) * 2 by omega]; exact c0
    · rw [show off + k * 2 + i * 2 + 1 = off + (k + i) * 2 + 1 by omega]; exact c1⟩

end Go.Proofs.YtcijflakldggaaaGreat
/-
  Walks: layer 9's reference: end, keeps, Kept, Lost, Find.
-/
namespace Go.Proofs.YtcijflakldggaaaGreat
set_option linter.unusedVariables false
set_option linter.unusedSimpArgs false
open Go.RowKit

set_option maxRecDepth 100000 in
set_option maxHeartbeats 1000000 in
theorem rend_any (w : World) (M cap : Nat) (A : List PairV) (a : Option Addr) (e : Int) (hc : w.cell? ⟨M, 1, none⟩ = some (.slice a A.length cap)) (hP : Pairs w a A) (hne : A ≠ []) (hl : A.length ≤ 1000) (he : endP A = e) :
    Calls Tryz.prog 97 #[.pointer (some ⟨M, 0, none⟩)] w fun e' w' => e' = .returned (.int .i64 e) ∧ ∃ n, w' = w.drewN n := by
  have hpos : 0 < A.length := by cases A with
    | nil => exact absurd rfl hne
    | cons p r => simp
  obtain ⟨N, hN⟩ : ∃ N, A.length = N := ⟨_, rfl⟩
  obtain ⟨nn, hnn⟩ : ∃ nn, N - 1 = nn := ⟨_, rfl⟩
  obtain ⟨qx, qc, hx1⟩ : ∃ qx qc, A[nn]? = some (qx, qc) := ⟨A[nn].1, A[nn].2, List.getElem?_eq_getElem (by omega)⟩
  have h2 : qx = e := by rw [← he]; unfold endP lasP; rw [List.getLast?_eq_getElem?, hN, hnn, hx1]; rfl
  subst h2
  obtain ⟨g, off, rfl, hbl, d0, _⟩ := hP.at_ nn _ hx1
  simp only at d0
  rw [hN] at hc hpos hl
  have u1 : IntKind.i64.wrap ((N : Int) - 1) = (nn : Int) := by rw [IntKind.wrap_i64]; omega
  have u2 : (N : Int) - 1 = (nn : Int) := by omega
  have u3 : (nn : Int) < (N : Int) := by omega
  have u4 : (0 : Int) ≤ (nn : Int) := by omega
  have u5 : IntKind.i64.wrap (nn : Int) = (nn : Int) := by rw [IntKind.wrap_i64]; omega
  clear hP hne hN hnn hx1 hbl he hl
  go_enter Tryz.func97, Tryz.ntmps97
  go_wp2_with fail
  go_quiet (fail)
  go_wp2_with fail
  go_ret
  exact ⟨rfl, nq, rfl⟩

set_option maxRecDepth 100000 in
set_option maxHeartbeats 1000000 in
theorem rkeeps_any (w : World) (M cap : Nat) (m : Int) (A : List PairV) (a : Option Addr) (i : Int) (b : Bool) (h0 : w.cell? ⟨M, 0, none⟩ = some (.int .i64 m)) (hc : w.cell? ⟨M, 1, none⟩ = some (.slice a A.length cap)) (hP : Pairs w a A) (hne : A ≠ []) (hl : A.length ≤ 1000) (m0 : 0 ≤ m) (m1 : m ≤ 4096) (hi : I64 i) (hle : i ≤ endP A) (hb : decide (endP A - i < m) = b) :
    Calls Tryz.prog 84 #[.pointer (some ⟨M, 0, none⟩), .int .i64 i] w fun e' w' => e' = .returned (.bool b) ∧ ∃ n, w' = w.drewN n := by
  have he := end_i64 hP.ok
  have HE : Hid (∀ n, Calls Tryz.prog 97 #[.pointer (some ⟨M, 0, none⟩)] (w.drewN n) fun e' w' => e' = .returned (.int .i64 (endP A)) ∧ ∃ k, w' = (w.drewN n).drewN k) := Lib.hid (fun n => by
    have hb := below_drewN (Below.refl w.heap.size w) n
    exact rend_any _ M cap A a _ (cell_later hb hc) (hP.call hb) hne hl rfl)
  obtain ⟨e, hee⟩ : ∃ e, endP A = e := ⟨_, rfl⟩
  rw [hee] at he hle hb HE
  obtain ⟨e0, e1⟩ := he
  obtain ⟨i0, i1⟩ := hi
  obtain ⟨ue, hue⟩ : ∃ u, IntKind.u64.wrap e = u := ⟨_, rfl⟩
  obtain ⟨ui, hui⟩ : ∃ u, IntKind.u64.wrap i = u := ⟨_, rfl⟩
  have hsub : IntKind.u64.wrap (ue - ui) = e - i := by rw [← hue, ← hui, IntKind.wrap_u64, IntKind.wrap_u64, IntKind.wrap_u64]; omega
  have hm : IntKind.u64.wrap m = m := by rw [IntKind.wrap_u64]; omega
  have HB := Lib.hid hb
  clear hc hP hne hl hee hb
  go_enter Tryz.func84, Tryz.ntmps84
  go_wp2_with fail
  go_quiet ((go_at_call 97; exact Calls.quiet_of (HE.out _)))
  go_wp2_with fail
  go_ret
  exact ⟨by rw [← HB.out]; rfl, nq, rfl⟩

set_option maxRecDepth 100000 in
set_option maxHeartbeats 2000000 in
theorem rkept_of (w : World) (M : Nat) (m : Int) (a : Option Addr) (cap : Nat) (A : List PairV) (hP : Pairs w a A) (c0 : w.cell? ⟨M, 0, none⟩ = some (.int .i64 m)) (c1 : w.cell? ⟨M, 1, none⟩ = some (.slice a A.length cap)) (hg : GoodP A) (hl : A.length ≤ 1000) (m0 : 0 ≤ m) (m1 : m ≤ 4096) :
    Calls Tryz.prog 64 #[.pointer (some ⟨M, 0, none⟩)] w fun e' w' => ∃ u, e' = .returned u ∧ OwnP w' w.heap.size u (keepP m A) ∧ Below w.heap.size w w' := by
  have ho := hP.ok
  have HI := Lib.hid hP
  have HG := Lib.hid hg
  have HC0 := Lib.hid c0
  have HC1 := Lib.hid c1
  have HL := Lib.hid hl
  obtain ⟨x, hx⟩ : ∃ x, endP A - m = x := ⟨_, rfl⟩
  have HX := Lib.hid hx
  have HKP : Hid (keepP m A = highP A x) := Lib.hid (by unfold keepP; rw [hx])
  rw [HKP.out]
  clear hP hg ho c0 hx
  go_enter Tryz.func64, Tryz.ntmps64
  go_wp2_with fail
  go_loopw [3, 11] (fun s j wr => ∃ (k : Nat), k ≤ A.length ∧ j = .int .i64 k ∧ OwnP wr w.heap.size s (highP (A.take k) x) ∧ Below w.heap.size w wr) (fun _ j _ => A.length - (intOf j).toNat)
  case atStart => exact ⟨0, Nat.zero_le _, rfl, OwnP.nil _ _, Below.refl _ _⟩
  case round =>
    clear c1
    obtain ⟨k, hk, rfl, hown, hb2⟩ := hrel
    have hbs := hb2.size
    by_cases hlt : k < A.length
    · have kk : (k : Int) < A.length := by omega
      have hxk : A[k]? = some A[k] := List.getElem?_eq_getElem hlt
      generalize hit : A[k] = p at *
      obtain ⟨px, pc⟩ := p
      obtain ⟨b0, off, rfl, hbl, c0, c1⟩ := (HI.out.call hb2).at_ k _ hxk
      simp only at c0 c1
      have HS := Lib.hid (high_step hxk x)
      have HLL := Lib.hid (high_len A x k)
      have hok := HI.out.ok _ (List.mem_of_getElem? hxk)
      have hle := end_ge HG.out _ (List.mem_of_getElem? hxk)
      have hne : A ≠ [] := by intro h; rw [h] at hlt; exact absurd hlt (Nat.not_lt_zero _)
      simp only at HS hle
      have hba : Below w.heap.size w (wr.alloc (.cells #[.int .i64 px, .int .u64 pc] 114)) := hb2.alloc hbs _
      have HKS : Hid (∀ b, decide (x < px) = b → Calls Tryz.prog 84 #[.pointer (some ⟨M, 0, none⟩), .int .i64 px] (wr.alloc (.cells #[.int .i64 px, .int .u64 pc] 114)) fun e' w' => e' = .returned (.bool b) ∧ ∃ n, w' = (wr.alloc (.cells #[.int .i64 px, .int .u64 pc] 114)).drewN n) := Lib.hid (fun b hb =>
        rkeeps_any _ M cap m A _ px b (cell_later hba HC0.out) (cell_later hba HC1.out) (HI.out.call hba) hne HL.out m0 m1 hok.1 hle (by
          rw [← hb]; have := HX.out
          by_cases h : x < px
          · rw [decide_eq_true h, decide_eq_true (by omega)]
          · rw [decide_eq_false h, decide_eq_false (by omega)]))
      obtain ⟨⟨o1, o2⟩, o3, o4⟩ := hok
      have HBA := Lib.hid hba
      clear hxk hit hba hle hne
      by_cases hc : x < px
      · rw [if_pos hc] at HS
        have HK2 := Lib.hid (HKS.out true (decide_eq_true hc))
        obtain ⟨vA, vk, rfl⟩ := hown.form
        have HO := Lib.hid hown
        clear hown HKS
        go_wp2_with fail
        refine HK2.out.mono ?_
        rintro e' w2 ⟨rfl, n, rfl⟩
        have hb3 : Below w.heap.size w ((wr.alloc (.cells #[.int .i64 px, .int .u64 pc] 114)).drewN n) := below_drewN HBA.out n
        have hO3 : OwnP ((wr.alloc (.cells #[.int .i64 px, .int .u64 pc] 114)).drewN n) w.heap.size (.slice vA (highP (A.take k) x).length vk) (highP (A.take k) x) := (HO.out.alloc _).call (below_drewN (Below.refl _ _) n)
        obtain ⟨q0, q1⟩ : ((wr.alloc (.cells #[.int .i64 px, .int .u64 pc] 114)).drewN n).cell? ⟨wr.heap.size, 0, none⟩ = some (.int .i64 px) ∧ ((wr.alloc (.cells #[.int .i64 px, .int .u64 pc] 114)).drewN n).cell? ⟨wr.heap.size, 1, none⟩ = some (.int .u64 pc) := by
          have h := two_new9 wr (.int .i64 px) (.int .u64 pc) 114
          exact ⟨cell_later (below_drewN (Below.refl _ _) n) h.1, cell_later (below_drewN (Below.refl _ _) n) h.2⟩
        have hsz : ((wr.alloc (.cells #[.int .i64 px, .int .u64 pc] 114)).drewN n).heap.size = wr.heap.size + 1 := by
          show (wr.alloc _).heap.size = _; simp
        generalize (wr.alloc (.cells #[.int .i64 px, .int .u64 pc] 114)).drewN n = wY at *
        have HO3 := Lib.hid hO3
        have HB3 := Lib.hid hb3
        have HSZ := Lib.hid hsz
        clear hO3 hb3 hsz
        go_wp2_with (at_builtin; refine wpList_append_pair rfl _ _ rfl w.heap.size _ _ wY.heap.size (px, pc) rfl (HO3.out.alloc _) rfl ?c1 ?c2 ?c3 ?c4 ?_)
        case c3 => have := HLL.out; omega
        case c4 => have := HB3.out.size; simp; omega
        intro v' w1 hown' hgrow
        have hb4 := OwnP.below (HO3.out.alloc _) (HB3.out.alloc HB3.out.size _) hgrow (by have := HB3.out.size; simp; omega)
        rw [← HS.out] at hown'
        clear hgrow
        go_wp2_with fail
        go_roundw
        case rel => exact ⟨k + 1, by omega, by go_num, hown', hb4⟩
        case measure => simp [intOf]; omega
      · rw [if_neg hc, List.append_nil] at HS
        have HK2 := Lib.hid (HKS.out false (decide_eq_false hc))
        rw [← HS.out] at hown
        have HO := Lib.hid hown
        clear hown HKS
        go_wp2_with fail
        refine HK2.out.mono ?_
        rintro e' w2 ⟨rfl, n, rfl⟩
        go_wp2_with fail
        go_roundw
        case rel => exact ⟨k + 1, by omega, by go_num, (HO.out.alloc _).call (below_drewN (Below.refl _ _) n), below_drewN HBA.out n⟩
        case measure => simp [intOf]; omega
    · obtain rfl : k = A.length := by omega
      rw [List.take_length] at hown
      have kk : ¬ (A.length : Int) < A.length := by omega
      obtain ⟨vA, vk, rfl⟩ := hown.form
      have HO := Lib.hid hown
      clear hown
      go_wp2_with fail
      go_ret
      exact ⟨_, rfl, HO.out, hb2⟩

set_option maxRecDepth 100000 in
set_option maxHeartbeats 2000000 in
theorem rlost_of (w : World) (M : Nat) (m : Int) (a : Option Addr) (cap : Nat) (A : List PairV) (t : Int) (hP : Pairs w a A) (c0 : w.cell? ⟨M, 0, none⟩ = some (.int .i64 m)) (c1 : w.cell? ⟨M, 1, none⟩ = some (.slice a A.length cap)) (hg : GoodP A) (hl : A.length ≤ 1000) (m0 : 0 ≤ m) (m1 : m ≤ 4096) (hs : sumP A ≤ 9223372036854775807) (ht : sumP A - sumP (keepP m A) = t) :
    Calls Tryz.prog 65 #[.pointer (some ⟨M, 0, none⟩)] w fun e' w' => e' = .returned (.int .u64 t) ∧ Below w.heap.size w w' := by
  have ho := hP.ok
  have HI := Lib.hid hP
  have HG := Lib.hid hg
  have HC0 := Lib.hid c0
  have HC1 := Lib.hid c1
  have HL := Lib.hid hl
  obtain ⟨x, hx⟩ : ∃ x, endP A - m = x := ⟨_, rfl⟩
  have HX := Lib.hid hx
  have HKP : Hid (sumP A - sumP (highP A x) = t) := Lib.hid (by rw [← ht]; unfold keepP; rw [hx])
  have HTK : Hid (∀ k, 0 ≤ sumP (A.take k) - sumP (highP (A.take k) x) ∧ sumP (A.take k) - sumP (highP (A.take k) x) ≤ 9223372036854775807) := Lib.hid (fun k => by
    have h1 := sumP_take (L := A) k (ok_pos ho)
    have h2 := sumP_filter (fun p : PairV => decide (x < p.1)) (L := A.take k) (fun p hp => ok_pos ho p (List.mem_of_mem_take hp))
    have h3 : sumP (highP (A.take k) x) = sumP ((A.take k).filter fun p : PairV => decide (x < p.1)) := rfl
    omega)
  clear hP hg ho c0 hx ht
  go_enter Tryz.func65, Tryz.ntmps65
  go_wp2_with fail
  go_loopw [3, 11] (fun s j wr => ∃ (k : Nat) (n : Int), k ≤ A.length ∧ j = .int .i64 k ∧ s = .int .u64 n ∧ n = sumP (A.take k) - sumP (highP (A.take k) x) ∧ Below w.heap.size w wr) (fun _ j _ => A.length - (intOf j).toNat)
  case atStart => exact ⟨0, 0, Nat.zero_le _, rfl, rfl, rfl, Below.refl _ _⟩
  case round =>
    clear c1
    obtain ⟨k, n, hk, rfl, rfl, hn, hb2⟩ := hrel
    have hbs := hb2.size
    have HN := Lib.hid hn
    by_cases hlt : k < A.length
    · have kk : (k : Int) < A.length := by omega
      have hxk : A[k]? = some A[k] := List.getElem?_eq_getElem hlt
      generalize hit : A[k] = p at *
      obtain ⟨px, pc⟩ := p
      obtain ⟨b0, off, rfl, hbl, c0, c1⟩ := (HI.out.call hb2).at_ k _ hxk
      simp only at c0 c1
      have HS := Lib.hid (high_step hxk x)
      have HSS : Hid (sumP (A.take (k + 1)) = sumP (A.take k) + pc) := Lib.hid (by rw [take_snocP hxk, sumP_app, sumP_one])
      have hok := HI.out.ok _ (List.mem_of_getElem? hxk)
      have hle := end_ge HG.out _ (List.mem_of_getElem? hxk)
      have hne : A ≠ [] := by intro h; rw [h] at hlt; exact absurd hlt (Nat.not_lt_zero _)
      simp only at HS hle
      have hba : Below w.heap.size w (wr.alloc (.cells #[.int .i64 px, .int .u64 pc] 114)) := hb2.alloc hbs _
      have HKS : Hid (∀ b, decide (x < px) = b → Calls Tryz.prog 84 #[.pointer (some ⟨M, 0, none⟩), .int .i64 px] (wr.alloc (.cells #[.int .i64 px, .int .u64 pc] 114)) fun e' w' => e' = .returned (.bool b) ∧ ∃ n, w' = (wr.alloc (.cells #[.int .i64 px, .int .u64 pc] 114)).drewN n) := Lib.hid (fun b hb =>
        rkeeps_any _ M cap m A _ px b (cell_later hba HC0.out) (cell_later hba HC1.out) (HI.out.call hba) hne HL.out m0 m1 hok.1 hle (by
          rw [← hb]; have := HX.out
          by_cases h : x < px
          · rw [decide_eq_true h, decide_eq_true (by omega)]
          · rw [decide_eq_false h, decide_eq_false (by omega)]))
      obtain ⟨⟨o1, o2⟩, o3, o4⟩ := hok
      simp only at o3 o4
      have HBA := Lib.hid hba
      have t0 := HTK.out k
      have t1 := HTK.out (k + 1)
      have hnn : n = sumP (A.take k) - sumP (highP (A.take k) x) := HN.out
      clear hxk hit hba hle hne hn
      by_cases hc : x < px
      · rw [if_pos hc] at HS
        have HK2 := Lib.hid (HKS.out true (decide_eq_true hc))
        have HE : Hid (n = sumP (A.take (k + 1)) - sumP (highP (A.take (k + 1)) x)) := Lib.hid (by rw [HS.out, HSS.out, sumP_app, sumP_one]; omega)
        clear HKS t0 t1 hnn
        go_wp2_with fail
        refine HK2.out.mono ?_
        rintro e' w2 ⟨rfl, d, rfl⟩
        go_wp2_with fail
        go_roundw
        case rel => exact ⟨k + 1, n, by omega, by go_num, rfl, HE.out, below_drewN HBA.out d⟩
        case measure => simp [intOf]; omega
      · rw [if_neg hc, List.append_nil] at HS
        have HK2 := Lib.hid (HKS.out false (decide_eq_false hc))
        rw [HS.out, HSS.out] at t1
        have hw : IntKind.u64.wrap (n + pc) = n + pc := by rw [IntKind.wrap_u64]; omega
        have HE : Hid (n + pc = sumP (A.take (k + 1)) - sumP (highP (A.take (k + 1)) x)) := Lib.hid (by rw [HS.out, HSS.out]; omega)
        have q0 : ((wr.alloc (.cells #[.int .i64 px, .int .u64 pc] 114))).cell? ⟨wr.heap.size, 1, none⟩ = some (.int .u64 pc) := (two_new9 wr _ _ _).2
        clear HKS t0 t1 hnn
        go_wp2_with fail
        refine HK2.out.mono ?_
        rintro e' w2 ⟨rfl, d, rfl⟩
        have q1 := cell_later (below_drewN (Below.refl (wr.alloc (.cells #[.int .i64 px, .int .u64 pc] 114)).heap.size (wr.alloc (.cells #[.int .i64 px, .int .u64 pc] 114))) d) q0
        go_wp2_with fail
        go_roundw
        case rel => exact ⟨k + 1, n + pc, by omega, by go_num, by first | rfl | rw [hw], HE.out, below_drewN HBA.out d⟩
        case measure => simp [intOf]; omega
    · obtain rfl : k = A.length := by omega
      have kk : ¬ (A.length : Int) < A.length := by omega
      have HE : Hid (n = t) := Lib.hid (by rw [HN.out, List.take_length]; exact HKP.out)
      clear hn
      go_wp2_with fail
      go_ret
      exact ⟨ret_int HE.out, hb2⟩

theorem rkept_any (w : World) (M : Nat) (m : Int) (v : Value) (A : List PairV) (h : RefS w M m v A) (hg : GoodP A) (ho : ∀ p, p ∈ A → okP p) (hl : A.length ≤ 1000) (m0 : 0 ≤ m) (m1 : m ≤ 4096) :
    Calls Tryz.prog 64 #[.pointer (some ⟨M, 0, none⟩)] w fun e' w' => ∃ u, e' = .returned u ∧ OwnP w' w.heap.size u (keepP m A) ∧ Below w.heap.size w w' := by
  obtain ⟨a, cap, rfl, hP, c0, c1⟩ := h.row ho
  exact rkept_of w M m a cap A hP c0 c1 hg hl m0 m1
theorem rlost_any (w : World) (M : Nat) (m : Int) (v : Value) (A : List PairV) (t : Int) (h : RefS w M m v A) (hg : GoodP A) (ho : ∀ p, p ∈ A → okP p) (hl : A.length ≤ 1000) (m0 : 0 ≤ m) (m1 : m ≤ 4096) (hs : sumP A ≤ 9223372036854775807) (ht : sumP A - sumP (keepP m A) = t) :
    Calls Tryz.prog 65 #[.pointer (some ⟨M, 0, none⟩)] w fun e' w' => e' = .returned (.int .u64 t) ∧ Below w.heap.size w w' := by
  obtain ⟨a, cap, rfl, hP, c0, c1⟩ := h.row ho
  exact rlost_of w M m a cap A t hP c0 c1 hg hl m0 m1 hs ht

set_option maxRecDepth 100000 in
set_option maxHeartbeats 2000000 in
theorem rlfind_any (w : World) (M : Nat) (m : Int) (v : Value) (A : List PairV) (t x : Int) (fb : Bool) (h : RefS w M m v A) (hg : GoodP A) (ho : ∀ p, p ∈ A → okP p) (hl : A.length ≤ 1000) (m0 : 0 ≤ m) (m1 : m ≤ 4096) (hs : sumP A < 18446744073709551616) (ht : Word t)
    (hx : (match findP A t with | none => none | some x => if endP A - x < m then some x else none).getD 0 = x) (hb : (match findP A t with | none => none | some x => if endP A - x < m then some x else none).isSome = fb) :
    Calls Tryz.prog 168 #[.pointer (some ⟨M, 0, none⟩), .int .u64 t] w fun e' w' => e' = .returned (.tuple #[.int .i64 x, .bool fb]) ∧ Below w.heap.size w w' := by
  obtain ⟨a, cap, rfl, hP, c0, c1⟩ := h.row ho
  have HC0 := Lib.hid c0
  have HC1 := Lib.hid c1
  have HI := Lib.hid hP
  have HL := Lib.hid hl
  have hseek : ∀ (L : List PairV) (s x : Int), seekP t s L = some x → ∃ p, p ∈ L ∧ p.1 = x := by
    intro L
    induction L with
    | nil => intro s x h; cases h
    | cons p r ih =>
      intro s x h
      rw [seek_cons] at h
      split at h
      · exact ⟨p, by simp, Option.some.inj h⟩
      · obtain ⟨q, hq, e⟩ := ih _ x h
        exact ⟨q, List.mem_cons_of_mem _ hq, e⟩
  cases hf : findP A t with
  | none =>
    rw [hf] at hx hb
    have h1 : x = 0 := hx.symm
    have h2 : fb = false := hb.symm
    subst h1 h2
    have HF := Lib.hid (rfind_any w a cap A t 0 false hP hl ht hs (by rw [hf]; rfl) (by rw [hf]; rfl))
    clear h hP hg ho hl hs hx hb hf hseek c0
    go_enter Tryz.func168, Tryz.ntmps168
    go_wp2_with fail
    refine HF.out.mono ?_
    rintro e' w2 ⟨rfl, b2⟩
    go_wp2_with fail
    go_ret2
    exact ⟨rfl, b2⟩
  | some y =>
    rw [hf] at hx hb
    obtain ⟨p, hp, hpy⟩ : ∃ p, p ∈ A ∧ p.1 = y := by
      unfold findP at hf
      split at hf
      · exact hseek A 0 y hf
      · cases hf
    have hne : A ≠ [] := by rintro rfl; cases hp
    have hyi : I64 y := by rw [← hpy]; exact (ho p hp).1
    have hyl : y ≤ endP A := by rw [← hpy]; exact end_ge hg p hp
    have HF := Lib.hid (rfind_any w a cap A t y true hP hl ht hs (by rw [hf]; rfl) (by rw [hf]; rfl))
    have HK : Hid (∀ w', Below w.heap.size w w' → ∀ b, decide (endP A - y < m) = b → Calls Tryz.prog 84 #[.pointer (some ⟨M, 0, none⟩), .int .i64 y] w' fun e' w'' => e' = .returned (.bool b) ∧ ∃ n, w'' = w'.drewN n) := Lib.hid (fun w' hw b hb =>
      rkeeps_any w' M cap m A _ y b (cell_later hw HC0.out) (cell_later hw HC1.out) (HI.out.call hw) hne HL.out m0 m1 hyi hyl hb)
    by_cases hc : endP A - y < m
    · have h1 : x = y := by rw [← hx]; show (if endP A - y < m then some y else none).getD 0 = y; rw [if_pos hc]; rfl
      have h2 : fb = true := by rw [← hb]; show (if endP A - y < m then some y else none).isSome = true; rw [if_pos hc]; rfl
      subst h1 h2
      have HK2 := Lib.hid (fun w' hw => HK.out w' hw true (decide_eq_true hc))
      clear h hP hg ho hl hs hx hb hf hseek c0 hp hpy hne hyi hyl HK hc
      go_enter Tryz.func168, Tryz.ntmps168
      go_wp2_with fail
      refine HF.out.mono ?_
      rintro e' w2 ⟨rfl, b2⟩
      go_wp2_with fail
      refine (HK2.out _ b2).mono ?_
      rintro e' w3 ⟨rfl, n, rfl⟩
      go_wp2_with fail
      go_ret2
      exact ⟨rfl, below_drewN b2 n⟩
    · have h1 : x = 0 := by rw [← hx]; show (if endP A - y < m then some y else none).getD 0 = 0; rw [if_neg hc]; rfl
      have h2 : fb = false := by rw [← hb]; show (if endP A - y < m then some y else none).isSome = false; rw [if_neg hc]; rfl
      subst h1 h2
      have HK2 := Lib.hid (fun w' hw => HK.out w' hw false (decide_eq_false hc))
      clear h hP hg ho hl hs hx hb hf hseek c0 hp hpy hne hyi hyl HK hc
      go_enter Tryz.func168, Tryz.ntmps168
      go_wp2_with fail
      refine HF.out.mono ?_
      rintro e' w2 ⟨rfl, b2⟩
      go_wp2_with fail
      refine (HK2.out _ b2).mono ?_
      rintro e' w3 ⟨rfl, n, rfl⟩
      go_wp2_with fail
      go_ret2
      exact ⟨rfl, below_drewN b2 n⟩
end Go.Proofs.YtcijflakldggaaaGreat

/-
  The laws of lowcap: alive, great, build.
-/
namespace Go.Proofs.YtcijflakldggaaaGreat
set_option linter.unusedVariables false
set_option linter.unusedSimpArgs false
open Go.RowKit

theorem lw_alive : lwErr 0 1 = 0 ∧ lwRow 2 [] 0 5 1 = [(5, 1)] ∧ lwSum 0 1 = 1 ∧ lwErr 1 1 = 0 ∧ lwRow 2 [(5, 1)] 1 3 1 = [(5, 1)] ∧ lwSum 1 1 = 2 ∧ (2 : Int) - sumP [(5, 1)] = 1 ∧ countP [(5, 1)] 5 = 1 := by decide

/-- More than is played. -/
def fineP (p : PairV) : Bool := decide (0 < p.2) && decide (p.2 ≤ 1125899906842624)
def grtB (m : Int) (L : List PairV) : Bool := !(L.all fineP) || decide (60 < L.length) || decide (m < 1) || decide (4096 < m)
def FineTo (L : List PairV) (k : Nat) : Prop := (L.take k).all fineP = true
theorem fine_step {L : List PairV} {k : Nat} {p : PairV} (h : FineTo L k) (hk : L[k]? = some p) (hp : fineP p = true) : FineTo L (k + 1) := by
  unfold FineTo at *
  rw [take_snocP hk, List.all_append, h]
  simp [hp]
theorem fine_not {L : List PairV} {k : Nat} {p : PairV} (hk : L[k]? = some p) (hp : fineP p = false) : L.all fineP = false := by
  cases h : L.all fineP with
  | false => rfl
  | true => have := List.all_eq_true.1 h p (List.mem_of_getElem? hk); rw [hp] at this; cases this
structure Played (m : Int) (L : List PairV) : Prop where
  each : ∀ p, p ∈ L → 0 < p.2 ∧ p.2 ≤ 1125899906842624
  len : L.length ≤ 60
  m1 : 1 ≤ m
  m2 : m ≤ 4096
theorem grt_false {m : Int} {L : List PairV} : grtB m L = false ↔ Played m L := by
  unfold grtB
  simp only [Bool.or_eq_false_iff, Bool.not_eq_false', decide_eq_false_iff_not, List.all_eq_true]
  constructor
  · rintro ⟨⟨⟨h1, h2⟩, h3⟩, h4⟩
    refine ⟨fun p hp => ?_, by omega, by omega, by omega⟩
    have := h1 p hp
    unfold fineP at this
    simp only [Bool.and_eq_true, decide_eq_true_eq] at this
    exact this
  · rintro ⟨h1, h2, h3, h4⟩
    refine ⟨⟨⟨fun p hp => ?_, by omega⟩, by omega⟩, by omega⟩
    unfold fineP
    simp only [Bool.and_eq_true, decide_eq_true_eq]
    exact h1 p hp

/-- All that was added so far. -/
structure Sum50 (A : List PairV) (k : Nat) : Prop where
  good : GoodP A
  ok : ∀ p, p ∈ A → okP p
  len : A.length ≤ k
  sum : sumP A ≤ k * 1125899906842624
theorem Sum50.nil : Sum50 [] 0 := ⟨good_nil, fun p h => (by cases h), Nat.le_refl _, Int.le_refl _⟩
theorem Sum50.add {A : List PairV} {k : Nat} (h : Sum50 A k) {p : PairV} (hp : okP p) (h0 : 0 < p.2) (hc : p.2 ≤ 1125899906842624) (hk : k ≤ 1000) : Sum50 (addP A p.1 p.2) (k + 1) ∧ sumP (addP A p.1 p.2) = sumP A + p.2 := by
  have h1 := count_le_sum p.1 (ok_pos h.ok)
  have h2 := h.sum
  have hs := add_sum (L := A) (i := p.1) (c := p.2) (by omega)
  exact ⟨⟨add_good h.good (by omega), add_ok h.ok hp.1 (by omega), Nat.le_trans (add_len _ _ _) (by have := h.len; omega), by rw [hs]; push_cast; omega⟩, hs⟩
/-- A lowcap and all that was added to it, side by side. -/
structure SideL (Lw : World → Nat → (Nat → Prop) → Int → List PairV → Int → Prop) (base : Nat) (w : World) (B : Nat) (S : Nat → Prop) (m : Int) (A : List PairV) (M : Nat) (v : Value) : Prop where
  st : Lw w B S m (keepP m A) (sumP A)
  rf : RefS w M m v A
  above : ∀ x, S x → base ≤ x
  apart : ∀ x, S x → x ≠ M ∧ v.ownBlock ≠ some x
  mab : base ≤ M
theorem SideL.call {Lw : World → Nat → (Nat → Prop) → Int → List PairV → Int → Prop} (D : LowDoes Lw) {base : Nat} {w w' : World} {B : Nat} {S : Nat → Prop} {m : Int} {A : List PairV} {M : Nat} {v : Value} (h : SideL Lw base w B S m A M v) (hb : Below w.heap.size w w') : SideL Lw base w' B S m A M v :=
  ⟨D.call h.st hb, h.rf.call hb, h.above, h.apart, h.mab⟩
theorem SideL.past {Lw : World → Nat → (Nat → Prop) → Int → List PairV → Int → Prop} {base : Nat} {w w3 : World} {B : Nat} {S : Nat → Prop} {m : Int} {A : List PairV} {M : Nat} {v : Value} (h : SideL Lw base w B S m A M v) (k3 : Keeps S w w3) : RefS w3 M m v A :=
  h.rf.past k3 (fun hx => (h.apart _ hx).1 rfl) (fun g hg hx => (h.apart g hx).2 hg)
/-- .. behind an addition to both. -/
theorem SideL.step {Lw : World → Nat → (Nat → Prop) → Int → List PairV → Int → Prop} (D : LowDoes Lw) {base : Nat} {w w3 wm : World} {B : Nat} {S S3 : Nat → Prop} {m : Int} {A A' : List PairV} {M : Nat} {v v4 : Value} (h : SideL Lw base w B S m A M v)
    (h3 : Lw w3 B S3 m (keepP m A') (sumP A')) (k3 : Keeps S w w3) (hs3 : ∀ k, S3 k → S k ∨ w.heap.size ≤ k) (hbase : base ≤ w.heap.size) (hm : Below w3.heap.size w3 wm) (ho : OwnP wm w3.heap.size v4 A') : SideL Lw base (wm.setCell ⟨M, 1, none⟩ v4) B S3 m A' M v4 := by
  have hM := h.rf.lt
  have z3 := k3.size
  have hlt3 := D.lt _ _ _ _ _ _ h3
  have hr := h.past k3
  have hS3 : ∀ x, S3 x → base ≤ x ∧ x ≠ M := fun x hx => by
    rcases hs3 x hx with a | a
    · exact ⟨h.above x a, (h.apart x a).1⟩
    · exact ⟨by omega, by omega⟩
  obtain ⟨⟨v', hr', hv'⟩, _⟩ := Done8.put hr hm ho
  have hg := grown_setCell wm M 1 v4
  have hc : RefS (wm.setCell ⟨M, 1, none⟩ v4) M m v4 A' := ⟨(hr.1.call hm).put1 v4, own_set8 (own_mono8 ho (by omega)) (by omega) _⟩
  refine ⟨D.keep _ _ _ _ _ _ _ (D.call h3 hm) fun x hx => hg.block x (by have := hlt3 x hx; have := hm.size; omega) (fun e => (hS3 x hx).2 (Option.some.inj e)), hc, fun x hx => (hS3 x hx).1, fun x hx => ⟨(hS3 x hx).2, fun e => ?_⟩, h.mab⟩
  have := (ho.lt x e).1
  have := hlt3 x hx
  omega

end Go.Proofs.YtcijflakldggaaaGreat
/-
  Plain mathematics of cells, each of which one number stands for closely: no program in sight.
-/
namespace Go.Proofs.YtcijflakldggaaaGreat
set_option linter.unusedVariables false
set_option linter.unusedSimpArgs false

/-- A closeness that can be. -/
def GoodC (u v : Int) : Prop := 0 < u ∧ u < v ∧ v ≤ 2147483648
def goodC (u v : Int) : Bool := decide (0 < u) && decide (u < v) && decide (v ≤ 2147483648)
theorem goodC_iff {u v : Int} : goodC u v = true ↔ GoodC u v := by
  unfold goodC GoodC; simp [and_assoc]
/-- What stands for the cell that begins somewhere, not cut; where it ends; what stands for it. -/
def rawC (u v lo : Int) : Int := lo * (v + u) / v
def wayC (u v r : Int) : Int := r * v / (v - u)
def endC (u v lo : Int) : Int := min (wayC u v (rawC u v lo)) 9223372036854775808
def repC (u v lo : Int) : Int := min (rawC u v lo) 9223372036854775807
/-- Where each cell begins; behind the last one: above 2^63. -/
def lowC (u v : Int) : Nat → Int
  | 0 => 1
  | k + 1 => endC u v (lowC u v k) + 1
/-- There are just n cells. -/
def TabN (u v : Int) (n : Nat) : Prop := (∀ k, k < n → lowC u v k ≤ 9223372036854775808) ∧ lowC u v n = 9223372036854775809

theorem raw_ge {u v lo : Int} (g : GoodC u v) (h : 1 ≤ lo) : lo ≤ rawC u v lo := by
  obtain ⟨g0, g1, g2⟩ := g
  unfold rawC
  rw [Int.le_ediv_iff_mul_le (by omega)]
  exact Int.mul_le_mul_of_nonneg_left (by omega) (by omega)
theorem craw_lt {u v lo : Int} (g : GoodC u v) (h : 1 ≤ lo) : rawC u v lo < 2 * lo := by
  obtain ⟨g0, g1, g2⟩ := g
  unfold rawC
  rw [Int.ediv_lt_iff_lt_mul (by omega)]
  have : lo * (v + u) < lo * (2 * v) := Int.mul_lt_mul_of_pos_left (by omega) (by omega)
  rw [Int.mul_comm 2 lo, Int.mul_assoc]; exact this
theorem way_ge {u v r : Int} (g : GoodC u v) (h : 0 ≤ r) : r ≤ wayC u v r := by
  obtain ⟨g0, g1, g2⟩ := g
  unfold wayC
  rw [Int.le_ediv_iff_mul_le (by omega)]
  exact Int.mul_le_mul_of_nonneg_left (by omega) (by omega)
theorem cend_ge {u v lo : Int} (g : GoodC u v) (h : 1 ≤ lo) (h2 : lo ≤ 9223372036854775808) : lo ≤ endC u v lo := by
  have a := raw_ge g h
  have b := way_ge g (show 0 ≤ rawC u v lo by omega)
  unfold endC; omega
theorem end_le (u v lo : Int) : endC u v lo ≤ 9223372036854775808 := by unfold endC; omega
theorem end_full {u v lo : Int} (g : GoodC u v) (h : 9223372036854775808 ≤ lo) : endC u v lo = 9223372036854775808 := by
  have a := raw_ge g (show 1 ≤ lo by omega)
  have b := way_ge g (show 0 ≤ rawC u v lo by omega)
  unfold endC; omega
theorem low_le (u v : Int) (k : Nat) : lowC u v k ≤ 9223372036854775809 := by
  cases k with
  | zero => simp [lowC]
  | succ k => have := end_le u v (lowC u v k); simp only [lowC]; omega
theorem low_pos {u v : Int} (g : GoodC u v) (k : Nat) : 1 ≤ lowC u v k := by
  induction k with
  | zero => simp [lowC]
  | succ k ih =>
    simp only [lowC]
    have hl := low_le u v k
    by_cases h : lowC u v k ≤ 9223372036854775808
    · have := cend_ge g ih h; omega
    · have := end_full g (lo := lowC u v k) (by omega); omega
theorem low_succ (u v : Int) (k : Nat) : lowC u v (k + 1) = endC u v (lowC u v k) + 1 := rfl
theorem clow_step {u v : Int} (g : GoodC u v) {k : Nat} (h : lowC u v k ≤ 9223372036854775808) : lowC u v k < lowC u v (k + 1) := by
  have := cend_ge g (low_pos g k) h
  rw [low_succ]; omega
theorem low_stop {u v : Int} (g : GoodC u v) {k : Nat} (h : 9223372036854775808 < lowC u v k) : lowC u v (k + 1) = 9223372036854775809 := by
  have := end_full g (lo := lowC u v k) (by omega)
  rw [low_succ]; omega
theorem low_rise {u v : Int} (g : GoodC u v) (k : Nat) : lowC u v k ≤ lowC u v (k + 1) := by
  by_cases h : lowC u v k ≤ 9223372036854775808
  · have := clow_step g h; omega
  · have := low_stop g (k := k) (by omega); have := low_le u v k; omega
theorem low_mono {u v : Int} (g : GoodC u v) {j k : Nat} (h : j ≤ k) : lowC u v j ≤ lowC u v k := by
  induction k with
  | zero => obtain rfl : j = 0 := by omega
            exact Int.le_refl _
  | succ k ih =>
    by_cases e : j = k + 1
    · subst e; exact Int.le_refl _
    · have := ih (by omega); have := low_rise g k; omega
theorem tab_or {u v : Int} (g : GoodC u v) (m : Nat) : (∃ n, 1 ≤ n ∧ n ≤ m ∧ TabN u v n) ∨ lowC u v m ≤ 9223372036854775808 := by
  induction m with
  | zero => right; simp [lowC]
  | succ m ih =>
    rcases ih with ⟨n, h1, h2, h3⟩ | h
    · exact .inl ⟨n, h1, by omega, h3⟩
    · by_cases e : lowC u v (m + 1) ≤ 9223372036854775808
      · exact .inr e
      · refine .inl ⟨m + 1, by omega, Nat.le_refl _, fun k hk => ?_, ?_⟩
        · have := low_mono g (show k ≤ m by omega); omega
        · have := low_le u v (m + 1); omega
theorem tab_one {u v : Int} (g : GoodC u v) {n m : Nat} (h : TabN u v n) (k : TabN u v m) : n = m := by
  rcases Nat.lt_trichotomy n m with e | e | e
  · have := k.1 n e; have := h.2; omega
  · exact e
  · have := h.1 m e; have := k.2; omega
theorem tab_pos {u v : Int} {n : Nat} (h : TabN u v n) : 1 ≤ n := by
  cases n with
  | zero => have := h.2; simp [lowC] at this
  | succ n => omega
/-- The n cells of a closeness: where each ends, and what stands for it. -/
theorem tab_end {u v : Int} (g : GoodC u v) {n k : Nat} (h : TabN u v n) (hk : k < n) : lowC u v k ≤ endC u v (lowC u v k) ∧ endC u v (lowC u v k) ≤ 9223372036854775808 := by
  have := cend_ge g (low_pos g k) (h.1 k hk)
  have := end_le u v (lowC u v k)
  omega
theorem tab_last {u v : Int} {n : Nat} (h : TabN u v (n + 1)) : endC u v (lowC u v n) = 9223372036854775808 := by
  have := h.2; rw [low_succ] at this; omega
/-- A place in a row whose question is answered no up to i, and yes from there on. -/
theorem count_bound (p : Nat → Bool) (n i : Nat) (hi : i ≤ n) (h1 : ∀ k, k < i → p k = true) (h2 : ∀ k, i ≤ k → k < n → p k = false) : (List.range n).countP p = i := by
  induction n with
  | zero => simp; omega
  | succ n ih =>
    rw [List.range_succ, List.countP_append]
    by_cases e : i = n + 1
    · have : (List.range n).countP p = n := by
        have hl := List.countP_eq_length (p := p) (l := List.range n)
        rw [List.length_range] at hl
        exact hl.2 (fun a ha => h1 a (by have := List.mem_range.1 ha; omega))
      rw [this, e]
      simp [h1 n (by omega)]
    · rw [ih (by omega) (fun k hk hn => h2 k hk (by omega))]
      simp [h2 n (by omega) (by omega)]
/-- In which cell a magnitude lies. -/
def idxC (u v : Int) (n : Nat) (m : Int) : Nat := (List.range n).countP (fun k => !decide (m ≤ endC u v (lowC u v k)))
theorem idx_none {u v : Int} {n : Nat} {m : Int} (h : 9223372036854775808 < m) : idxC u v n m = n := by
  unfold idxC
  refine count_bound _ n n (Nat.le_refl _) (fun k hk => ?_) (fun k h1 h2 => by omega)
  have := end_le u v (lowC u v k)
  simp; omega
theorem idx_is {u v : Int} (g : GoodC u v) {n i : Nat} {m : Int} (h : TabN u v n) (hi : i < n) (h1 : lowC u v i ≤ m) (h2 : m ≤ endC u v (lowC u v i)) : idxC u v n m = i := by
  unfold idxC
  refine count_bound _ n i (by omega) (fun k hk => ?_) (fun k h3 h4 => ?_)
  · have := low_mono g (show k + 1 ≤ i by omega)
    rw [low_succ] at this
    simp; omega
  · have := low_mono g (show i + 1 ≤ k + 1 by omega)
    rw [low_succ, low_succ] at this
    simp; omega
theorem idx_at {u v : Int} (g : GoodC u v) {n : Nat} {m : Int} (h : TabN u v n) (h1 : 1 ≤ m) (h2 : m ≤ 9223372036854775808) : ∃ i, i < n ∧ idxC u v n m = i ∧ lowC u v i ≤ m ∧ m ≤ endC u v (lowC u v i) := by
  have key : ∀ k, m < lowC u v k → ∃ i, i < k ∧ lowC u v i ≤ m ∧ m ≤ endC u v (lowC u v i) := by
    intro k
    induction k with
    | zero => intro hk; simp only [lowC] at hk; omega
    | succ k ih =>
      intro hk
      by_cases e : m < lowC u v k
      · obtain ⟨i, a, b⟩ := ih e
        exact ⟨i, by omega, b⟩
      · rw [low_succ] at hk
        exact ⟨k, by omega, by omega, by omega⟩
  obtain ⟨i, hi, a, b⟩ := key n (by rw [h.2]; omega)
  exact ⟨i, hi, idx_is g h hi a b, a, b⟩
theorem idx_zero {u v : Int} (g : GoodC u v) {n : Nat} (h : TabN u v n) : idxC u v n 0 = 0 := by
  unfold idxC
  refine count_bound _ n 0 (by omega) (fun k hk => by omega) (fun k h3 h4 => ?_)
  have := tab_end g h h4
  have := low_pos g k
  simp; omega
/-- How far two magnitudes are from one another. -/
def gapC (a b : Int) : Int := max a b - min a b
theorem rep_close {u v lo m : Int} (g : GoodC u v) (h : 1 ≤ lo) (h0 : lo ≤ m) (h1 : m ≤ endC u v lo) : gapC (repC u v lo) m * v ≤ m * u := by
  have hlo : lo ≤ 9223372036854775808 := by have := end_le u v lo; omega
  have hm := end_le u v lo
  have hr := raw_ge g h
  obtain ⟨g0, g1, g2⟩ := id g
  have up : rawC u v lo * v ≤ m * (v + u) := by
    have a : rawC u v lo * v ≤ lo * (v + u) := Int.ediv_mul_le _ (by omega)
    have b : lo * (v + u) ≤ m * (v + u) := Int.mul_le_mul_of_nonneg_right h0 (by omega)
    omega
  have dn : m * (v - u) ≤ rawC u v lo * v := by
    have a : m ≤ wayC u v (rawC u v lo) := by unfold endC at h1; omega
    have b : wayC u v (rawC u v lo) * (v - u) ≤ rawC u v lo * v := Int.ediv_mul_le _ (by omega)
    have c : m * (v - u) ≤ wayC u v (rawC u v lo) * (v - u) := Int.mul_le_mul_of_nonneg_right a (by omega)
    omega
  rw [Int.mul_add] at up
  rw [Int.mul_sub] at dn
  have lift : ∀ x y : Int, x ≤ y → x * v ≤ y * v := fun x y hxy => Int.mul_le_mul_of_nonneg_right hxy (by omega)
  by_cases hc : rawC u v lo ≤ 9223372036854775807
  · have e : repC u v lo = rawC u v lo := by unfold repC; omega
    rw [e]
    by_cases hx : rawC u v lo ≤ m
    · have e2 : gapC (rawC u v lo) m = m - rawC u v lo := by unfold gapC; omega
      rw [e2, Int.sub_mul]; omega
    · have e2 : gapC (rawC u v lo) m = rawC u v lo - m := by unfold gapC; omega
      rw [e2, Int.sub_mul]; omega
  · have e : repC u v lo = 9223372036854775807 := by unfold repC; omega
    rw [e]
    by_cases hx : m ≤ 9223372036854775807
    · have e2 : gapC 9223372036854775807 m = 9223372036854775807 - m := by unfold gapC; omega
      have e3 := lift (9223372036854775807 - m) (rawC u v lo - m) (by omega)
      rw [Int.sub_mul (rawC u v lo)] at e3
      rw [e2]; omega
    · have e4 : m = 9223372036854775808 := by omega
      have e2 : gapC 9223372036854775807 m = 1 := by unfold gapC; omega
      have e3 : m * 1 ≤ m * u := Int.mul_le_mul_of_nonneg_left (by omega) (by omega)
      rw [e2]; omega
theorem rep_in {u v lo : Int} (g : GoodC u v) (h : 1 ≤ lo) (h2 : endC u v lo < 9223372036854775808) : lo ≤ repC u v lo ∧ repC u v lo ≤ endC u v lo := by
  have a := raw_ge g h
  have b := way_ge g (show 0 ≤ rawC u v lo by omega)
  unfold endC at *; unfold repC; omega
theorem rep_word {u v lo : Int} (g : GoodC u v) (h : 1 ≤ lo) : 0 ≤ repC u v lo ∧ repC u v lo ≤ 9223372036854775807 := by
  have a := raw_ge g h
  unfold repC; omega
theorem raw_mono {u w v lo lo' : Int} (g : GoodC u v) (h : u ≤ w) (h1 : 1 ≤ lo) (h2 : lo ≤ lo') : rawC u v lo ≤ rawC w v lo' := by
  obtain ⟨g0, g1, g2⟩ := g
  unfold rawC
  refine Int.ediv_le_ediv (by omega) ?_
  have a : lo * (v + u) ≤ lo * (v + w) := Int.mul_le_mul_of_nonneg_left (by omega) (by omega)
  have b : lo * (v + w) ≤ lo' * (v + w) := Int.mul_le_mul_of_nonneg_right h2 (by omega)
  omega
theorem way_mono {u w v r r' : Int} (g : GoodC u v) (g' : GoodC w v) (h : u ≤ w) (h1 : 0 ≤ r) (h2 : r ≤ r') : wayC u v r ≤ wayC w v r' := by
  have hq := way_ge g h1
  obtain ⟨g0, g1, g2⟩ := g
  obtain ⟨k0, k1, k2⟩ := g'
  have a : wayC u v r * (v - u) ≤ r * v := Int.ediv_mul_le _ (by omega)
  have b : wayC u v r * (v - w) ≤ wayC u v r * (v - u) := Int.mul_le_mul_of_nonneg_left (by omega) (by omega)
  have c : r * v ≤ r' * v := Int.mul_le_mul_of_nonneg_right h2 (by omega)
  show wayC u v r ≤ r' * v / (v - w)
  rw [Int.le_ediv_iff_mul_le (by omega)]
  omega
theorem low_looser {u w v : Int} (g : GoodC u v) (g' : GoodC w v) (h : u ≤ w) (k : Nat) : lowC u v k ≤ lowC w v k := by
  induction k with
  | zero => simp [lowC]
  | succ k ih =>
    have p := low_pos g k
    have r := raw_mono g h p ih
    have r0 := raw_ge g p
    have y := way_mono g g' h (show 0 ≤ rawC u v (lowC u v k) by omega) r
    simp only [low_succ]; unfold endC; omega
theorem fewer_cells {u w v : Int} (g : GoodC u v) (g' : GoodC w v) (h : u ≤ w) {n m : Nat} (hn : TabN u v n) (hm : TabN w v m) : m ≤ n := by
  rcases Nat.lt_or_ge n m with e | e
  · have a := hm.1 n e
    have b := low_looser g g' h n
    have c := hn.2
    omega
  · exact e
theorem tab_ten : TabN 1 10 215 := by
  have g : GoodC 1 10 := by unfold GoodC; omega
  have a : lowC 1 10 214 ≤ 9223372036854775808 := by decide +kernel
  have b : lowC 1 10 215 = 9223372036854775809 := by decide +kernel
  exact ⟨fun k hk => by have := low_mono g (show k ≤ 214 by omega); omega, b⟩
end Go.Proofs.YtcijflakldggaaaGreat

/-
  Plain mathematics of spans, of magnitudes by their first digits: no program in sight.
-/
namespace Go.Proofs.YtcijflakldggaaaGreat
set_option linter.unusedVariables false
set_option linter.unusedSimpArgs false

/-- So many digits, the log of the least power of two that isn't below so many tens, and these. -/
def SpanP (d : Int) (L : Nat) (T : Int) : Prop := (d = 1 ∧ L = 4 ∧ T = 10) ∨ (d = 2 ∧ L = 7 ∧ T = 100) ∨ (d = 3 ∧ L = 10 ∧ T = 1000) ∨ (d = 4 ∧ L = 14 ∧ T = 10000)
theorem spanp_of {d : Int} (h1 : 1 ≤ d) (h2 : d ≤ 4) : ∃ L T, SpanP d L T := by
  unfold SpanP
  obtain rfl | rfl | rfl | rfl : d = 1 ∨ d = 2 ∨ d = 3 ∨ d = 4 := by omega
  · exact ⟨4, 10, by omega⟩
  · exact ⟨7, 100, by omega⟩
  · exact ⟨10, 1000, by omega⟩
  · exact ⟨14, 10000, by omega⟩
theorem spanp_log {d : Int} {L : Nat} {T : Int} (h : SpanP d L T) : 4 ≤ L ∧ L ≤ 14 := by unfold SpanP at h; omega
theorem spanp_ten {d : Int} {L : Nat} {T : Int} (h : SpanP d L T) : 1 ≤ T ∧ T ≤ 2 ^ L := by
  rcases h with ⟨_, rfl, rfl⟩ | ⟨_, rfl, rfl⟩ | ⟨_, rfl, rfl⟩ | ⟨_, rfl, rfl⟩ <;> decide
theorem spanp_finer {d e : Int} {L M : Nat} {T U : Int} (h : SpanP d L T) (k : SpanP e M U) (hd : d ≤ e) : L ≤ M := by unfold SpanP at *; omega

theorem pow_i (k : Nat) : ((2 ^ k : Nat) : Int) = (2 : Int) ^ k := by rw [Int.natCast_pow]; rfl
theorem pow_pos (k : Nat) : (1 : Int) ≤ 2 ^ k := by have := Int.pow_pos (n := (2 : Int)) (m := k) (by omega); omega
theorem pow_up (k : Nat) : (2 : Int) ^ (k + 1) = 2 * 2 ^ k := by rw [Int.pow_succ]; omega
theorem pow_le {j k : Nat} (h : j ≤ k) : (2 : Int) ^ j ≤ 2 ^ k := by
  rw [← pow_i, ← pow_i]; exact Int.ofNat_le.2 (Nat.pow_le_pow_right (by omega) h)
theorem pow_join (j k : Nat) : (2 : Int) ^ j * 2 ^ k = 2 ^ (j + k) := by rw [Int.pow_add]

/-- By how many bits a magnitude is cut, what is left of it, its span's index; the least and the greatest one of its span; what stands for it. -/
def cutS (L : Nat) (m : Int) : Nat := Lib.bitLen m.toNat - 1 - L
def leftS (L : Nat) (m : Int) : Int := m / 2 ^ cutS L m
def idxS (L : Nat) (m : Int) : Int := cutS L m * 2 ^ L + leftS L m
def loS (L : Nat) (m : Int) : Int := leftS L m * 2 ^ cutS L m
def hiS (L : Nat) (m : Int) : Int := min (loS L m + (2 ^ cutS L m - 1)) 9223372036854775808
def midS (lo hi : Int) : Int := lo + (hi - lo) / 2
def repS (L : Nat) (m : Int) : Int := midS (loS L m) (hiS L m)
/-- By how many bits what lies in a span is cut; the least and the greatest one there. -/
def cutI (L : Nat) (i : Int) : Nat := (i / 2 ^ L - 1).toNat
def lowI (L : Nat) (i : Int) : Int := (i - cutI L i * 2 ^ L) * 2 ^ cutI L i
def highI (L : Nat) (i : Int) : Int := min (lowI L i + (2 ^ cutI L i - 1)) 9223372036854775808
/-- How many spans there are. -/
def lastS (L : Nat) : Int := (64 - L) * 2 ^ L

theorem len_bd {m : Int} (h1 : 1 ≤ m) (h2 : m ≤ 9223372036854775808) : 1 ≤ Lib.bitLen m.toNat ∧ Lib.bitLen m.toNat ≤ 64 ∧ 2 ^ (Lib.bitLen m.toNat - 1) ≤ m ∧ m < 2 ^ Lib.bitLen m.toNat := by
  obtain ⟨a, b, c⟩ := Lib.bitLenAux_bounds 64 m.toNat (by omega) (by omega)
  have e : Lib.bitLen m.toNat = Lib.bitLenAux 64 m.toNat := rfl
  have l := Lib.bitLen_le m.toNat 64 (Nat.le_refl _) (by omega)
  rw [← e] at a b c
  generalize Lib.bitLen m.toNat = n at *
  refine ⟨a, l, ?_, ?_⟩
  · have := Int.ofNat_le.2 b; rw [pow_i] at this; omega
  · have := Int.ofNat_lt.2 c; rw [pow_i] at this; omega
theorem len_of {m : Int} {n : Nat} (h1 : 1 ≤ m) (h2 : m ≤ 9223372036854775808) (a : 2 ^ n ≤ m) (b : m < 2 ^ (n + 1)) : Lib.bitLen m.toNat = n + 1 := by
  obtain ⟨c, _, d, e⟩ := len_bd h1 h2
  generalize Lib.bitLen m.toNat = l at *
  rcases Nat.lt_trichotomy l (n + 1) with h | h | h
  · have := pow_le (show l ≤ n by omega); omega
  · exact h
  · have := pow_le (show n + 1 ≤ l - 1 by omega); omega

/-- What the cut says of a magnitude. -/
theorem cut_facts (L : Nat) {m : Int} (h1 : 1 ≤ m) (h2 : m ≤ 9223372036854775808) (hL : L ≤ 14) :
    cutS L m ≤ 63 - L ∧ 1 ≤ leftS L m ∧ leftS L m < 2 ^ (L + 1) ∧ (cutS L m = 0 ∨ 2 ^ L ≤ leftS L m) ∧ loS L m ≤ m ∧ m ≤ loS L m + (2 ^ cutS L m - 1) ∧ m < 2 ^ (L + 1 + cutS L m) := by
  obtain ⟨a, b, c, d⟩ := len_bd h1 h2
  have hk : cutS L m = Lib.bitLen m.toNat - 1 - L := rfl
  generalize Lib.bitLen m.toNat = n at *
  have hq : leftS L m = m / 2 ^ cutS L m := rfl
  have hl : loS L m = leftS L m * 2 ^ cutS L m := rfl
  have hp := pow_pos (cutS L m)
  have e := Int.mul_ediv_add_emod m (2 ^ cutS L m)
  have e1 := Int.emod_lt_of_pos m (show 0 < (2 : Int) ^ cutS L m by omega)
  have e2 := Int.emod_nonneg m (show (2 : Int) ^ cutS L m ≠ 0 by omega)
  have hu : m < 2 ^ (L + 1 + cutS L m) := by
    have := pow_le (show n ≤ L + 1 + cutS L m by omega); omega
  have hq1 : leftS L m < 2 ^ (L + 1) := by
    rw [hq, Int.ediv_lt_iff_lt_mul (by omega), pow_join]; exact hu
  have hq2 : cutS L m = 0 ∨ 2 ^ L ≤ leftS L m := by
    by_cases h : cutS L m = 0
    · exact .inl h
    · refine .inr ?_
      rw [hq, Int.le_ediv_iff_mul_le (by omega), pow_join]
      have : L + cutS L m = n - 1 := by omega
      rw [this]; exact c
  refine ⟨by omega, ?_, hq1, hq2, ?_, ?_, hu⟩
  · rcases hq2 with h | h
    · rw [hq, h]; simp; omega
    · have := pow_pos L; omega
  · rw [hl, hq, Int.mul_comm]; omega
  · rw [hl, hq, Int.mul_comm]; omega

/-- Whoever is so much, cut by so many bits, has that cut. -/
theorem cut_is (L k : Nat) {m q : Int} (hL : L ≤ 14) (h2 : m ≤ 9223372036854775808) (a : k = 0 ∨ 2 ^ L ≤ q) (q1 : 1 ≤ q) (b : q < 2 ^ (L + 1)) (c : q * 2 ^ k ≤ m) (d : m < (q + 1) * 2 ^ k) : cutS L m = k ∧ leftS L m = q := by
  have hp := pow_pos k
  have hqp : 1 * 2 ^ k ≤ q * 2 ^ k := Int.mul_le_mul_of_nonneg_right q1 (by omega)
  have h1 : 1 ≤ m := by omega
  obtain ⟨x, y, z, t⟩ := len_bd h1 h2
  have hk : cutS L m = Lib.bitLen m.toNat - 1 - L := rfl
  have hq : leftS L m = m / 2 ^ cutS L m := rfl
  generalize Lib.bitLen m.toNat = n at *
  have hu : m < 2 ^ (L + 1 + k) := by
    have : (q + 1) * 2 ^ k ≤ 2 ^ (L + 1) * 2 ^ k := Int.mul_le_mul_of_nonneg_right (by omega) (by omega)
    rw [pow_join] at this; omega
  have hc : cutS L m = k := by
    rcases a with rfl | a
    · have : ¬ L + 1 + 0 ≤ n - 1 := fun h => by have := pow_le h; omega
      omega
    · have hw : 2 ^ (L + k) ≤ m := by
        have : 2 ^ L * 2 ^ k ≤ q * 2 ^ k := Int.mul_le_mul_of_nonneg_right a (by omega)
        rw [pow_join] at this; omega
      have h3 : ¬ L + 1 + k ≤ n - 1 := fun h => by have := pow_le h; omega
      have h4 : ¬ n ≤ L + k := fun h => by have := pow_le h; omega
      omega
  refine ⟨hc, ?_⟩
  rw [hq, hc]
  have u1 : m / 2 ^ k < q + 1 := (Int.ediv_lt_iff_lt_mul (by omega)).2 d
  have u2 : q ≤ m / 2 ^ k := (Int.le_ediv_iff_mul_le (by omega)).2 c
  omega

theorem half_pow (L : Nat) {q : Int} (h0 : 0 ≤ q) (h : q < 2 ^ (L + 1)) : q / 2 ^ L = if 2 ^ L ≤ q then 1 else 0 := by
  have hp := pow_pos L
  rw [pow_up] at h
  split
  · have u1 : q / 2 ^ L < 2 := (Int.ediv_lt_iff_lt_mul (by omega)).2 (by omega)
    have u2 : 1 ≤ q / 2 ^ L := (Int.le_ediv_iff_mul_le (by omega)).2 (by omega)
    omega
  · have u1 : q / 2 ^ L < 1 := (Int.ediv_lt_iff_lt_mul (by omega)).2 (by omega)
    have u2 : 0 ≤ q / 2 ^ L := (Int.le_ediv_iff_mul_le (by omega)).2 (by omega)
    omega
theorem cuti_of (L k : Nat) {q : Int} (a : k = 0 ∨ 2 ^ L ≤ q) (q0 : 0 ≤ q) (b : q < 2 ^ (L + 1)) : cutI L (k * 2 ^ L + q) = k ∧ (k * 2 ^ L + q : Int) / 2 ^ L - 1 = (k : Int) - (if 2 ^ L ≤ q then 0 else 1) := by
  have hp := pow_pos L
  have e : (k * 2 ^ L + q : Int) / 2 ^ L = k + (if 2 ^ L ≤ q then 1 else 0) := by
    rw [Int.add_comm, Int.add_mul_ediv_right _ _ (by omega), half_pow L q0 b]; omega
  refine ⟨?_, by rw [e]; split <;> omega⟩
  unfold cutI
  rw [e]
  rcases a with rfl | a
  · split <;> simp
  · rw [if_pos a]; omega
theorem cuti_idx (L : Nat) {m : Int} (h1 : 1 ≤ m) (h2 : m ≤ 9223372036854775808) (hL : L ≤ 14) : cutI L (idxS L m) = cutS L m := by
  obtain ⟨_, a, b, c, _⟩ := cut_facts L h1 h2 hL
  exact (cuti_of L _ c (by omega) b).1
theorem low_idx (L : Nat) {m : Int} (h1 : 1 ≤ m) (h2 : m ≤ 9223372036854775808) (hL : L ≤ 14) : lowI L (idxS L m) = loS L m := by
  unfold lowI; rw [cuti_idx L h1 h2 hL]; unfold idxS loS
  rw [show (cutS L m * 2 ^ L + leftS L m - cutS L m * 2 ^ L : Int) = leftS L m by omega]
theorem high_idx (L : Nat) {m : Int} (h1 : 1 ≤ m) (h2 : m ≤ 9223372036854775808) (hL : L ≤ 14) : highI L (idxS L m) = hiS L m := by
  unfold highI hiS; rw [low_idx L h1 h2 hL, cuti_idx L h1 h2 hL]
theorem idx_bd (L : Nat) {m : Int} (h1 : 1 ≤ m) (h2 : m ≤ 9223372036854775808) (hL : L ≤ 14) : 1 ≤ idxS L m := by
  obtain ⟨_, a, _⟩ := cut_facts L h1 h2 hL
  have := pow_pos L
  have : 0 * 2 ^ L ≤ (cutS L m : Int) * 2 ^ L := Int.mul_le_mul_of_nonneg_right (by omega) (by omega)
  unfold idxS; omega
theorem last_idx (L : Nat) (hL : L ≤ 14) : idxS L 9223372036854775808 = lastS L := by
  have hb : Lib.bitLen (9223372036854775808 : Int).toNat = 64 := by decide
  have hp := pow_pos L
  have e : (2 : Int) ^ L * 2 ^ (63 - L) = 9223372036854775808 := by rw [pow_join, show L + (63 - L) = 63 by omega]; decide
  have := cut_is L (63 - L) (m := 9223372036854775808) (q := 2 ^ L) hL (by omega) (.inr (by omega)) hp (by rw [pow_up]; omega) (by rw [e]; omega) (by rw [Int.add_mul, e]; have := pow_pos (63 - L); omega)
  unfold idxS lastS
  rw [this.1, this.2]
  rw [show ((64 : Int) - L) = ((63 - L : Nat) : Int) + 1 by omega, Int.add_mul]; omega
/-- A greater magnitude has no lesser index. -/
theorem idx_mono (L : Nat) {m n : Int} (h1 : 1 ≤ m) (h : m ≤ n) (h2 : n ≤ 9223372036854775808) (hL : L ≤ 14) : idxS L m ≤ idxS L n := by
  obtain ⟨a0, a1, a2, a3, a4, a5, a6⟩ := cut_facts L h1 (by omega) hL
  obtain ⟨b0, b1, b2, b3, b4, b5, b6⟩ := cut_facts L (show 1 ≤ n by omega) h2 hL
  have hp := pow_pos L
  have u := pow_up L
  have hk : cutS L m ≤ cutS L n := by
    obtain ⟨c1, c2, c3, c4⟩ := len_bd h1 (by omega : m ≤ 9223372036854775808)
    obtain ⟨d1, d2, d3, d4⟩ := len_bd (show 1 ≤ n by omega) h2
    have : ¬ Lib.bitLen n.toNat ≤ Lib.bitLen m.toNat - 1 := fun h => by have := pow_le h; omega
    unfold cutS; omega
  by_cases e : cutS L m = cutS L n
  · have : leftS L m ≤ leftS L n := by
      show m / 2 ^ cutS L m ≤ n / 2 ^ cutS L n
      rw [e]; exact Int.ediv_le_ediv (by have := pow_pos (cutS L n); omega) h
    unfold idxS; rw [e]; omega
  · have hq : 2 ^ L ≤ leftS L n := by rcases b3 with h | h <;> omega
    have : ((cutS L m : Int) + 1) * 2 ^ L ≤ (cutS L n : Int) * 2 ^ L := Int.mul_le_mul_of_nonneg_right (by omega) (by omega)
    rw [Int.add_mul] at this
    unfold idxS; omega
theorem idx_last (L : Nat) {m : Int} (h1 : 1 ≤ m) (h2 : m ≤ 9223372036854775808) (hL : L ≤ 14) : idxS L m ≤ lastS L := by
  rw [← last_idx L hL]; exact idx_mono L h1 h2 (Int.le_refl _) hL
/-- The least one of a span has that span. -/
theorem low_in (L : Nat) {i : Int} (h1 : 1 ≤ i) (h2 : i ≤ lastS L) (hL : L ≤ 14) : 1 ≤ lowI L i ∧ lowI L i ≤ 9223372036854775808 ∧ idxS L (lowI L i) = i := by
  have hp := pow_pos L
  have u := pow_up L
  obtain ⟨k, hk⟩ : ∃ k, cutI L i = k := ⟨_, rfl⟩
  obtain ⟨q, hq⟩ : ∃ q, i - k * 2 ^ L = q := ⟨_, rfl⟩
  have hl : lowI L i = q * 2 ^ k := by unfold lowI; rw [hk, hq]
  have e := Int.mul_ediv_add_emod i (2 ^ L)
  have e1 := Int.emod_lt_of_pos i (show 0 < (2 : Int) ^ L by omega)
  have e2 := Int.emod_nonneg i (show (2 : Int) ^ L ≠ 0 by omega)
  have e3 : 0 ≤ i / 2 ^ L := (Int.le_ediv_iff_mul_le (by omega)).2 (by omega)
  have e4 : i / 2 ^ L ≤ 64 - L := by
    have : i / 2 ^ L < 64 - L + 1 := by
      rw [Int.ediv_lt_iff_lt_mul (by omega), Int.add_mul]; unfold lastS at h2; omega
    omega
  have hk' : (k : Int) = if i / 2 ^ L = 0 then 0 else i / 2 ^ L - 1 := by rw [← hk]; unfold cutI; split <;> omega
  rw [Int.mul_comm] at e
  obtain ⟨t, ht⟩ : ∃ t, i / 2 ^ L = t := ⟨_, rfl⟩
  rw [ht] at e e3 e4 hk'
  have hq3 : (k = 0 ∨ 2 ^ L ≤ q) ∧ 1 ≤ q ∧ q < 2 ^ (L + 1) := by
    by_cases h0 : t = 0
    · rw [if_pos h0] at hk'
      have : k = 0 := by omega
      subst this; subst h0
      simp at hq e
      omega
    · rw [if_neg h0] at hk'
      have : (k : Int) * 2 ^ L = t * 2 ^ L - 2 ^ L := by rw [hk', Int.sub_mul]; omega
      omega
  obtain ⟨a, b, c⟩ := hq3
  have hkp := pow_pos k
  have hqp : 1 * 2 ^ k ≤ q * 2 ^ k := Int.mul_le_mul_of_nonneg_right b (by omega)
  have htop : q * 2 ^ k ≤ 9223372036854775808 := by
    by_cases hm : (k : Int) = 63 - L
    · have hq2 : q = 2 ^ L := by
        have : i = k * 2 ^ L + q := by omega
        have h3 : lastS L = (k : Int) * 2 ^ L + 2 ^ L := by unfold lastS; rw [hm, show ((64 : Int) - L) = (63 - L) + 1 by omega, Int.add_mul]; omega
        by_cases h0 : k = 0
        · omega
        · rcases a with a | a <;> omega
      rw [hq2, pow_join, show L + k = 63 by omega]; decide
    · have h5 : q * 2 ^ k ≤ 2 ^ (L + 1) * 2 ^ k := Int.mul_le_mul_of_nonneg_right (by omega) (by omega)
      rw [pow_join] at h5
      have h6 : k ≤ 62 - L := by split at hk' <;> omega
      have := pow_le (show L + 1 + k ≤ 63 by omega)
      have e63 : (2 : Int) ^ 63 = 9223372036854775808 := by decide
      omega
  have hi := cut_is L k (m := q * 2 ^ k) (q := q) hL htop a b c (Int.le_refl _) (by rw [Int.add_mul]; omega)
  rw [hl]
  refine ⟨by omega, htop, ?_⟩
  unfold idxS; rw [hi.1, hi.2]; omega
/-- Behind the greatest magnitude of a span the next one begins. -/
theorem next_span (L : Nat) {m : Int} (h1 : 1 ≤ m) (h2 : m ≤ 9223372036854775808) (hL : L ≤ 14) (h : hiS L m < 9223372036854775808) : idxS L (hiS L m + 1) = idxS L m + 1 ∧ loS L (hiS L m + 1) = hiS L m + 1 := by
  obtain ⟨a0, a1, a2, a3, a4, a5, a6⟩ := cut_facts L h1 h2 hL
  have hh : hiS L m = min (loS L m + (2 ^ cutS L m - 1)) 9223372036854775808 := rfl
  have hl : loS L m = leftS L m * 2 ^ cutS L m := rfl
  have hx : idxS L m = cutS L m * 2 ^ L + leftS L m := rfl
  generalize cutS L m = k at *
  generalize leftS L m = q at *
  have hp := pow_pos k
  have hpL := pow_pos L
  have u := pow_up L
  have e : hiS L m + 1 = (q + 1) * 2 ^ k := by rw [Int.add_mul]; omega
  by_cases hq : q + 1 < 2 ^ (L + 1)
  · have := cut_is L k (m := hiS L m + 1) (q := q + 1) hL (by omega) (by omega) (by omega) hq (by omega) (by rw [Int.add_mul (q + 1)]; omega)
    refine ⟨?_, ?_⟩
    · rw [hx]; unfold idxS; rw [this.1, this.2]; omega
    · unfold loS; rw [this.1, this.2]; omega
  · have hq' : q + 1 = 2 * 2 ^ L := by omega
    have e2 : hiS L m + 1 = 2 ^ L * 2 ^ (k + 1) := by rw [e, hq', pow_up, Int.mul_assoc, Int.mul_left_comm]
    have := cut_is L (k + 1) (m := hiS L m + 1) (q := 2 ^ L) hL (by omega) (.inr (Int.le_refl _)) hpL (by omega) (by omega) (by rw [Int.add_mul, ← e2]; have := pow_pos (k + 1); omega)
    refine ⟨?_, ?_⟩
    · rw [hx]; unfold idxS; rw [this.1, this.2, show (((k + 1 : Nat) : Int)) = (k : Int) + 1 by omega, Int.add_mul]; omega
    · unfold loS; rw [this.1, this.2]; omega
theorem span_in (L : Nat) {m : Int} (h1 : 1 ≤ m) (h2 : m ≤ 9223372036854775808) (hL : L ≤ 14) : 1 ≤ loS L m ∧ loS L m ≤ m ∧ m ≤ hiS L m ∧ hiS L m ≤ 9223372036854775808 := by
  obtain ⟨a0, a1, a2, a3, a4, a5, a6⟩ := cut_facts L h1 h2 hL
  have hp := pow_pos (cutS L m)
  have : 1 * 2 ^ cutS L m ≤ leftS L m * 2 ^ cutS L m := Int.mul_le_mul_of_nonneg_right a1 (by omega)
  have hl : loS L m = leftS L m * 2 ^ cutS L m := rfl
  unfold hiS; omega
theorem mid_in {lo hi : Int} (h : lo ≤ hi) : lo ≤ midS lo hi ∧ midS lo hi ≤ hi := by unfold midS; omega
/-- What stands for a magnitude's span lies close to it. -/
theorem span_close {d : Int} {L : Nat} {T m : Int} (hs : SpanP d L T) (h1 : 1 ≤ m) (h2 : m ≤ 9223372036854775808) : (max (repS L m) m - min (repS L m) m) * T ≤ m := by
  have hL := (spanp_log hs).2
  have hT := spanp_ten hs
  obtain ⟨a0, a1, a2, a3, a4, a5, a6⟩ := cut_facts L h1 h2 hL
  obtain ⟨b0, b1, b2, b3⟩ := span_in L h1 h2 hL
  obtain ⟨c1, c2⟩ := mid_in (show loS L m ≤ hiS L m by omega)
  have hr : repS L m = midS (loS L m) (hiS L m) := rfl
  have hh : hiS L m ≤ loS L m + (2 ^ cutS L m - 1) := by unfold hiS; omega
  have hp := pow_pos (cutS L m)
  have g : max (repS L m) m - min (repS L m) m ≤ 2 ^ cutS L m - 1 := by omega
  have g0 : 0 ≤ max (repS L m) m - min (repS L m) m := by omega
  generalize max (repS L m) m - min (repS L m) m = x at *
  rcases a3 with a | a
  · rw [a] at g
    have : x = 0 := by simp at g; omega
    subst this; omega
  · have e1 : x * T ≤ 2 ^ cutS L m * T := Int.mul_le_mul_of_nonneg_right (by omega) (by omega)
    have e2 : 2 ^ cutS L m * T ≤ 2 ^ cutS L m * leftS L m := Int.mul_le_mul_of_nonneg_left (by omega) (by omega)
    rw [Int.mul_comm _ (leftS L m)] at e2
    have hl : loS L m = leftS L m * 2 ^ cutS L m := rfl
    omega
/-- More digits: the span lies in the wider one. -/
theorem span_finer {L M : Nat} {m : Int} (hLM : L ≤ M) (hM : M ≤ 14) (h1 : 1 ≤ m) (h2 : m ≤ 9223372036854775808) : loS L m ≤ loS M m ∧ hiS M m ≤ hiS L m := by
  have hk : cutS M m ≤ cutS L m := by unfold cutS; omega
  obtain ⟨j, hj⟩ : ∃ j, cutS L m = cutS M m + j := ⟨cutS L m - cutS M m, by omega⟩
  obtain ⟨a0, a1, a2, a3, a4, a5, a6⟩ := cut_facts L h1 h2 (by omega)
  obtain ⟨b0, b1, b2, b3, b4, b5, b6⟩ := cut_facts M h1 h2 hM
  have hl : loS L m = leftS L m * 2 ^ cutS L m := rfl
  have hn : loS M m = leftS M m * 2 ^ cutS M m := rfl
  have hp := pow_pos (cutS M m)
  have e : loS L m = leftS L m * 2 ^ j * 2 ^ cutS M m := by rw [hl, hj, Int.mul_assoc, pow_join, Nat.add_comm]
  have e2 : (2 : Int) ^ cutS L m = 2 ^ j * 2 ^ cutS M m := by rw [hj, pow_join, Nat.add_comm]
  have x1 : leftS L m * 2 ^ j ≤ leftS M m := by
    have : ¬ (leftS M m + 1) * 2 ^ cutS M m ≤ leftS L m * 2 ^ j * 2 ^ cutS M m := by rw [Int.add_mul]; omega
    have h : ¬ leftS M m + 1 ≤ leftS L m * 2 ^ j := fun h => this (Int.mul_le_mul_of_nonneg_right h (by omega))
    omega
  have x2 : leftS M m + 1 ≤ (leftS L m + 1) * 2 ^ j := by
    have : ¬ (leftS L m + 1) * 2 ^ j * 2 ^ cutS M m ≤ leftS M m * 2 ^ cutS M m := by
      rw [Int.mul_assoc, ← e2, Int.add_mul]; omega
    have h : ¬ (leftS L m + 1) * 2 ^ j ≤ leftS M m := fun h => this (Int.mul_le_mul_of_nonneg_right h (by omega))
    omega
  have y1 : leftS L m * 2 ^ j * 2 ^ cutS M m ≤ leftS M m * 2 ^ cutS M m := Int.mul_le_mul_of_nonneg_right x1 (by omega)
  have y2 : (leftS M m + 1) * 2 ^ cutS M m ≤ (leftS L m + 1) * 2 ^ j * 2 ^ cutS M m := Int.mul_le_mul_of_nonneg_right x2 (by omega)
  rw [Int.mul_assoc, ← e2, Int.add_mul, Int.add_mul] at y2
  refine ⟨by omega, ?_⟩
  unfold hiS; omega
end Go.Proofs.YtcijflakldggaaaGreat

/-
  Plain mathematics of values in bins, by a partition of magnitudes: no program in sight.
-/
namespace Go.Proofs.YtcijflakldggaaaGreat
set_option linter.unusedVariables false
set_option linter.unusedSimpArgs false

/-- A partition of magnitudes: a closeness' n cells, or spans by so many digits. -/
inductive Pt where
  | cells (u v : Int) (n : Nat)
  | spans (d : Int) (L : Nat) (T : Int)
def Pt.ok : Pt → Prop
  | .cells u v n => GoodC u v ∧ TabN u v n ∧ n ≤ 4096
  | .spans d L T => SpanP d L T
/-- The part of a magnitude; what stands for a part (0: there is none such). -/
def Pt.idx : Pt → Int → Int
  | .cells u v n, m => idxC u v n m
  | .spans _ L _, m => idxS L m
def Pt.rep : Pt → Int → Int
  | .cells u v n, i => if 0 ≤ i ∧ i < n then repC u v (lowC u v i.toNat) else 0
  | .spans _ L _, i => if 1 ≤ i ∧ i ≤ lastS L then midS (lowI L i) (highI L i) else 0

theorem lasts_bd (L : Nat) (hL : L ≤ 14) : 1 ≤ lastS L ∧ lastS L ≤ 1048576 := by
  have := pow_le hL
  have e14 : (2 : Int) ^ 14 = 16384 := by decide
  have := pow_pos L
  have a := Int.mul_le_mul (show (64 : Int) - L ≤ 64 by omega) (show (2 : Int) ^ L ≤ 16384 by omega) (by omega) (by omega)
  have b := Int.mul_le_mul_of_nonneg_right (show (1 : Int) ≤ 64 - L by omega) (show (0 : Int) ≤ 2 ^ L by omega)
  unfold lastS; omega
theorem pt_idx {P : Pt} (h : P.ok) {m : Int} (h1 : 1 ≤ m) (h2 : m ≤ 9223372036854775808) : 0 ≤ P.idx m ∧ P.idx m ≤ 1048576 ∧ 1 ≤ P.rep (P.idx m) ∧ P.rep (P.idx m) ≤ 9223372036854775808 := by
  cases P with
  | cells u v n =>
    obtain ⟨g, t, hn⟩ := h
    obtain ⟨i, hi, e, a, b⟩ := idx_at g t h1 h2
    have hlo := low_pos g i
    have hr := rep_word g hlo
    have hx : (Pt.cells u v n).idx m = i := by show ((idxC u v n m : Nat) : Int) = i; rw [e]
    have hrep : (Pt.cells u v n).rep i = repC u v (lowC u v i) := by
      show (if 0 ≤ (i : Int) ∧ (i : Int) < n then repC u v (lowC u v (i : Int).toNat) else 0) = _
      rw [if_pos ⟨by omega, by omega⟩, Int.toNat_natCast]
    have hge : lowC u v i ≤ rawC u v (lowC u v i) := raw_ge g hlo
    have h9 := t.1 i hi
    rw [hx, hrep]
    refine ⟨by omega, by omega, ?_, ?_⟩ <;> unfold repC <;> omega
  | spans d L T =>
    have hL := (spanp_log h).2
    have hx : (Pt.spans d L T).idx m = idxS L m := rfl
    have b1 := idx_bd L h1 h2 hL
    have b2 := idx_last L h1 h2 hL
    have b3 := lasts_bd L hL
    obtain ⟨c1, c2, c3, c4⟩ := span_in L h1 h2 hL
    have hm := mid_in (show loS L m ≤ hiS L m by omega)
    have hrep : (Pt.spans d L T).rep (idxS L m) = midS (loS L m) (hiS L m) := by
      show (if 1 ≤ idxS L m ∧ idxS L m ≤ lastS L then midS (lowI L (idxS L m)) (highI L (idxS L m)) else 0) = _
      rw [if_pos ⟨b1, b2⟩, low_idx L h1 h2 hL, high_idx L h1 h2 hL]
    rw [hx, hrep]
    omega
theorem pt_mono {P : Pt} (h : P.ok) {m n : Int} (h1 : 1 ≤ m) (h2 : m ≤ n) (h3 : n ≤ 9223372036854775808) : P.idx m ≤ P.idx n := by
  cases P with
  | cells u v k =>
    obtain ⟨g, t, hn⟩ := h
    obtain ⟨i, hi, e, a, b⟩ := idx_at g t h1 (by omega : m ≤ 9223372036854775808)
    obtain ⟨j, hj, e2, a2, b2⟩ := idx_at g t (by omega : 1 ≤ n) h3
    show ((idxC u v k m : Nat) : Int) ≤ ((idxC u v k n : Nat) : Int)
    rw [e, e2]
    by_cases hc : i ≤ j
    · omega
    · have := low_mono g (show j + 1 ≤ i by omega)
      rw [low_succ] at this; omega
  | spans d L T => exact idx_mono L h1 h2 h3 (spanp_log h).2
theorem mag_in {x : Int} (h : I64 x) (h0 : x ≠ 0) : 1 ≤ mag x ∧ mag x ≤ 9223372036854775808 := by unfold I64 at h; unfold mag; split <;> omega

/-- How many of all there are whose value is so. -/
def cntV (f : Int → Bool) (A : List PairV) : Int := sumP (A.filter fun v => f v.1)
theorem cnt_nil (f : Int → Bool) : cntV f [] = 0 := rfl
theorem cnt_cons (f : Int → Bool) (v : PairV) (r : List PairV) : cntV f (v :: r) = (if f v.1 = true then v.2 else 0) + cntV f r := by
  unfold cntV; rw [List.filter_cons]; split
  · rw [sumP_cons]
  · omega
theorem cnt_app (f : Int → Bool) (A B : List PairV) : cntV f (A ++ B) = cntV f A + cntV f B := by unfold cntV; rw [List.filter_append, sumP_app]
theorem cnt_one (f : Int → Bool) (v : PairV) : cntV f [v] = if f v.1 = true then v.2 else 0 := by rw [cnt_cons, cnt_nil]; omega
theorem cnt_bd {f : Int → Bool} : ∀ {A : List PairV}, (∀ v, v ∈ A → 0 ≤ v.2) → 0 ≤ cntV f A := by
  intro A
  induction A with
  | nil => intro _; exact Int.le_refl _
  | cons v r ih =>
    intro h
    have h1 := h v (by simp)
    have h2 := ih (fun q hq => h q (by simp [hq]))
    rw [cnt_cons]; split <;> omega
theorem cnt_le {f g : Int → Bool} : ∀ {A : List PairV}, (∀ v, v ∈ A → 0 ≤ v.2) → (∀ v, v ∈ A → f v.1 = true → g v.1 = true) → cntV f A ≤ cntV g A := by
  intro A
  induction A with
  | nil => intro _ _; exact Int.le_refl _
  | cons v r ih =>
    intro h hfg
    have h1 := h v (by simp)
    have h2 := ih (fun q hq => h q (by simp [hq])) (fun q hq => hfg q (by simp [hq]))
    have h3 := hfg v (by simp)
    rw [cnt_cons, cnt_cons]
    by_cases hf : f v.1 = true
    · rw [if_pos hf, if_pos (h3 hf)]; omega
    · rw [if_neg hf]; split <;> omega
theorem cnt_eq {f g : Int → Bool} : ∀ {A : List PairV}, (∀ v, v ∈ A → f v.1 = g v.1) → cntV f A = cntV g A := by
  intro A h
  unfold cntV
  rw [List.filter_congr (fun v hv => h v hv)]
theorem cnt_two {f g k : Int → Bool} : ∀ {A : List PairV}, (∀ v, v ∈ A → (f v.1 = (g v.1 || k v.1)) ∧ (g v.1 && k v.1) = false) → cntV f A = cntV g A + cntV k A := by
  intro A
  induction A with
  | nil => intro _; rfl
  | cons v r ih =>
    intro h
    have h1 := h v (by simp)
    have h2 := ih (fun q hq => h q (by simp [hq]))
    rw [cnt_cons, cnt_cons, cnt_cons, h2]
    obtain ⟨a, b⟩ := h1
    rw [a]
    cases hg : g v.1 <;> cases hk : k v.1 <;> simp_all <;> omega
theorem cnt_all (A : List PairV) : cntV (fun _ => true) A = sumP A := by unfold cntV; rw [List.filter_eq_self.2 (fun _ _ => rfl)]

/-- On which side of 0. -/
def sideV (b : Bool) (x : Int) : Bool := !(x == 0) && (decide (x < 0) == b)
theorem side_true {x : Int} : sideV true x = decide (x < 0) := by
  unfold sideV
  by_cases h : x < 0
  · have : (x == 0) = false := by simp; omega
    simp [h, this]
  · simp [h]
theorem side_false {x : Int} : sideV false x = decide (0 < x) := by
  unfold sideV
  by_cases h : 0 < x
  · have h1 : (x == 0) = false := by simp; omega
    have h2 : ¬ x < 0 := by omega
    simp [h, h1, h2]
  · by_cases h0 : x = 0
    · simp [h0]
    · have h2 : x < 0 := by omega
      simp [h, h2]
/-- The values of one side, by parts; as a row; noughts. -/
def partsV (P : Pt) (b : Bool) (A : List PairV) : List PairV := (A.filter fun v => sideV b v.1).map fun v => (P.idx (mag v.1), v.2)
def rowV (P : Pt) (b : Bool) (A : List PairV) : List PairV := foldP (partsV P b A)
def zeroV (A : List PairV) : Int := cntV (fun x => x == 0) A
theorem parts_snoc (P : Pt) (b : Bool) (A : List PairV) (v : PairV) : partsV P b (A ++ [v]) = partsV P b A ++ (if sideV b v.1 = true then [(P.idx (mag v.1), v.2)] else []) := by
  unfold partsV; rw [List.filter_append, List.map_append]; congr 1
  rw [List.filter_cons]; split <;> simp
theorem row_snoc (P : Pt) (b : Bool) (A : List PairV) (v : PairV) : rowV P b (A ++ [v]) = if sideV b v.1 = true then addP (rowV P b A) (P.idx (mag v.1)) v.2 else rowV P b A := by
  unfold rowV; rw [parts_snoc]; split
  · rw [fold_snoc]
  · rw [List.append_nil]
theorem zero_snoc (A : List PairV) (v : PairV) : zeroV (A ++ [v]) = zeroV A + if v.1 = 0 then v.2 else 0 := by
  unfold zeroV; rw [cnt_app, cnt_one]; simp

/-- Values that can be played. -/
def FineV (A : List PairV) : Prop := ∀ v, v ∈ A → I64 v.1 ∧ 0 < v.2 ∧ v.2 ≤ 1125899906842624
theorem fine_app {A B : List PairV} (h : FineV A) (k : FineV B) : FineV (A ++ B) := fun v hv => by
  rcases List.mem_append.1 hv with h' | h'
  · exact h v h'
  · exact k v h'
theorem fine_take {A : List PairV} (h : FineV A) (k : Nat) : FineV (A.take k) := fun v hv => h v (List.mem_of_mem_take hv)
theorem fine_pos {A : List PairV} (h : FineV A) : ∀ v, v ∈ A → 0 ≤ v.2 := fun v hv => by have := h v hv; omega
theorem fine_sum : ∀ {A : List PairV}, FineV A → 0 ≤ sumP A ∧ sumP A ≤ A.length * 1125899906842624 := by
  intro A
  induction A with
  | nil => intro _; exact ⟨Int.le_refl _, Int.le_refl _⟩
  | cons v r ih =>
    intro h
    have h1 := h v (by simp)
    have h2 := ih (fun q hq => h q (by simp [hq]))
    rw [sumP_cons, List.length_cons]; push_cast; omega
theorem parts_mem {P : Pt} (hP : P.ok) {b : Bool} {A : List PairV} (h : FineV A) : ∀ p, p ∈ partsV P b A → okP p ∧ 0 ≤ p.1 ∧ p.1 ≤ 1048576 ∧ 0 < p.2 ∧ p.2 ≤ 1125899906842624 := by
  intro p hp
  unfold partsV at hp
  obtain ⟨v, hv, rfl⟩ := List.mem_map.1 hp
  obtain ⟨hv1, hv2⟩ := List.mem_filter.1 hv
  have hf := h v hv1
  have h0 : v.1 ≠ 0 := by intro e; unfold sideV at hv2; rw [e] at hv2; simp at hv2
  obtain ⟨m1, m2⟩ := mag_in hf.1 h0
  have := pt_idx hP m1 m2
  refine ⟨⟨?_, ?_⟩, this.1, this.2.1, hf.2⟩
  · show I64 (P.idx (mag v.1)); unfold I64; omega
  · show Word v.2; unfold Word; omega
theorem parts_len (P : Pt) (b : Bool) (A : List PairV) : (partsV P b A).length ≤ A.length := by unfold partsV; rw [List.length_map]; exact List.length_filter_le _ _
theorem parts_cnt (P : Pt) (b : Bool) (f : Int → Bool) : ∀ A : List PairV, cntV f (partsV P b A) = cntV (fun x => sideV b x && f (P.idx (mag x))) A := by
  intro A
  induction A with
  | nil => rfl
  | cons v r ih =>
    rw [cnt_cons, ← ih]
    have e : partsV P b (v :: r) = (if sideV b v.1 = true then [(P.idx (mag v.1), v.2)] else []) ++ partsV P b r := by
      unfold partsV; rw [List.filter_cons]; split <;> simp
    rw [e, cnt_app]
    split
    · rename_i h; rw [cnt_one, h]; simp
    · rename_i h
      have : sideV b v.1 = false := by simpa using h
      rw [this]; simp [cnt_nil]

theorem below_cnt (L : List PairV) (i : Int) : belowP L i = cntV (fun j => decide (j ≤ i)) L := rfl
theorem count_cnt (L : List PairV) (i : Int) : countP L i = cntV (fun j => j == i) L := rfl
theorem below_add {R : List PairV} {i c : Int} (h : GoodP R) (hc : 0 < countP R i + c) (j : Int) : belowP (addP R i c) j = belowP R j + if i ≤ j then c else 0 := by
  have hm : midP i (countP R i + c) = [(i, countP R i + c)] := by unfold midP; rw [if_pos hc]
  unfold addP
  rw [hm, below_app, below_app, below_one]
  rcases good_part i h with ⟨n, e, e2, e3⟩ | ⟨e, e2⟩
  · have : belowP R j = belowP (lowP R i) j + (belowP [(i, n)] j + belowP (highP R i) j) := by
      rw [← below_app, ← below_app]; show _ = belowP (lowP R i ++ ((i, n) :: highP R i)) j; rw [e]
    rw [this, below_one, e2]
    show belowP (lowP R i) j + ((if i ≤ j then n + c else 0) + belowP (highP R i) j) = _ + ((if i ≤ j then n else 0) + _) + _
    split <;> omega
  · have : belowP R j = belowP (lowP R i) j + belowP (highP R i) j := by rw [← below_app, e]
    rw [this, e2]
    show belowP (lowP R i) j + ((if i ≤ j then 0 + c else 0) + belowP (highP R i) j) = _
    split <;> omega
/-- Parts, folded to a row. -/
structure Fold50 (L R : List PairV) : Prop where
  sums : Sum50 R L.length
  cnt : ∀ j, countP R j = countP L j
  below : ∀ j, belowP R j = belowP L j
  sum : sumP R = sumP L
theorem fold50_rev : ∀ (L : List PairV), (∀ p, p ∈ L → okP p ∧ 0 < p.2 ∧ p.2 ≤ 1125899906842624) → L.length ≤ 1000 → Fold50 L.reverse (foldP L.reverse) := by
  intro L
  induction L with
  | nil => intro _ _; exact ⟨Sum50.nil, fun _ => rfl, fun _ => rfl, rfl⟩
  | cons p r ih =>
    intro h hl
    rw [List.length_cons] at hl
    have hp := h p (by simp)
    have I := ih (fun q hq => h q (by simp [hq])) (by omega)
    rw [List.reverse_cons, fold_snoc]
    have hr : r.reverse.length = r.length := List.length_reverse
    obtain ⟨s1, s2⟩ := I.sums.add hp.1 hp.2.1 hp.2.2 (by omega)
    have h0 : 0 ≤ countP (foldP r.reverse) p.1 := (count_le_sum p.1 (ok_pos I.sums.ok)).1
    refine ⟨?_, fun j => ?_, fun j => ?_, ?_⟩
    · rw [List.length_append]; exact s1
    · rw [count_add (by omega), I.cnt, countP_app, countP_one]
      congr 1
      by_cases e : j = p.1
      · rw [if_pos e, if_pos e.symm]
      · rw [if_neg e, if_neg (fun x => e x.symm)]
    · rw [below_add I.sums.good (by omega), I.below, below_app, below_one]
    · rw [s2, I.sum, sumP_app, sumP_one]
theorem fold50 (L : List PairV) (h : ∀ p, p ∈ L → okP p ∧ 0 < p.2 ∧ p.2 ≤ 1125899906842624) (hl : L.length ≤ 1000) : Fold50 L (foldP L) := by
  have := fold50_rev L.reverse (fun p hp => h p (List.mem_reverse.1 hp)) (by rw [List.length_reverse]; exact hl)
  rw [List.reverse_reverse] at this
  exact this
theorem row_fold {P : Pt} (hP : P.ok) (b : Bool) {A : List PairV} (h : FineV A) (hl : A.length ≤ 1000) : Fold50 (partsV P b A) (rowV P b A) :=
  fold50 _ (fun p hp => by have := parts_mem hP h p hp; exact ⟨this.1, this.2.2.2⟩) (by have := parts_len P b A; omega)
theorem row_sum50 {P : Pt} (hP : P.ok) (b : Bool) {A : List PairV} (h : FineV A) (hl : A.length ≤ 1000) : Sum50 (rowV P b A) A.length := by
  have F := row_fold hP b h hl
  have hp := parts_len P b A
  have h1 := F.sums.sum
  have h2 : ((partsV P b A).length : Int) * 1125899906842624 ≤ A.length * 1125899906842624 := Int.mul_le_mul_of_nonneg_right (by omega) (by omega)
  exact ⟨F.sums.good, F.sums.ok, Nat.le_trans F.sums.len hp, by omega⟩
theorem row_sum {P : Pt} (hP : P.ok) (b : Bool) {A : List PairV} (h : FineV A) (hl : A.length ≤ 1000) : sumP (rowV P b A) = cntV (sideV b) A := by
  rw [(row_fold hP b h hl).sum, ← cnt_all, parts_cnt]
  exact cnt_eq fun v _ => by simp
theorem row_below {P : Pt} (hP : P.ok) (b : Bool) {A : List PairV} (h : FineV A) (hl : A.length ≤ 1000) (i : Int) : belowP (rowV P b A) i = cntV (fun x => sideV b x && decide (P.idx (mag x) ≤ i)) A := by
  rw [(row_fold hP b h hl).below, below_cnt, parts_cnt]
theorem row_count {P : Pt} (hP : P.ok) (b : Bool) {A : List PairV} (h : FineV A) (hl : A.length ≤ 1000) (i : Int) : countP (rowV P b A) i = cntV (fun x => sideV b x && (P.idx (mag x) == i)) A := by
  rw [(row_fold hP b h hl).cnt, count_cnt, parts_cnt]
theorem sides_all {P : Pt} (hP : P.ok) {A : List PairV} (h : FineV A) (hl : A.length ≤ 1000) : sumP A = sumP (rowV P true A) + sumP (rowV P false A) + zeroV A := by
  rw [row_sum hP true h hl, row_sum hP false h hl, ← cnt_all]
  have e1 : cntV (fun _ => true) A = cntV (fun x => !(x == 0)) A + zeroV A := cnt_two fun v _ => by cases (v.1 == 0) <;> simp
  have e2 : cntV (fun x => !(x == 0)) A = cntV (sideV true) A + cntV (sideV false) A := by
    refine cnt_two fun v _ => ?_
    unfold sideV
    cases (v.1 == 0) <;> cases (decide (v.1 < 0)) <;> simp
  omega
end Go.Proofs.YtcijflakldggaaaGreat

/-
  Plain mathematics of bins: what they keep, find and rank, and what is asked for: no program in sight.
-/
namespace Go.Proofs.YtcijflakldggaaaGreat
set_option linter.unusedVariables false
set_option linter.unusedSimpArgs false

/-- What is kept on a side (true: the least indexes; false: the greatest), what is found, and told. -/
def keepS (s : Bool) (m : Int) (A : List PairV) : List PairV := if s = true then keepH m A else keepP m A
def findS (s : Bool) (K : List PairV) (l t : Int) : Option Int := if s = true then findH K l t else findL K l t
def lowS (s : Bool) (m : Int) (K : List PairV) (l i : Int) : Int := if s = true then lowBH m K l i else lowB m K l i
def highS (s : Bool) (m : Int) (K : List PairV) (l i : Int) : Int := if s = true then highBH m K l i else highB m K l i
theorem keeps_add {s : Bool} {m : Int} {A : List PairV} {i c : Int} (hm : 0 < m) (hg : GoodP A) (hn : countP A i + c ≤ 9223372036854775807) (hc : 0 < c) : keepS s m (addP (keepS s m A) i c) = keepS s m (addP A i c) := by
  unfold keepS; split
  · exact keeph_add hm hg hn hc
  · exact keep_add hm hg hn hc
theorem keeps_join {s : Bool} {m : Int} {A B : List PairV} (hm : 0 < m) (hA : GoodP A) (oA : ∀ p, p ∈ A → okP p) (hB : GoodP B) (oB : ∀ p, p ∈ B → okP p) (hs : sumP A + sumP B ≤ 9223372036854775807) : keepS s m (joinP (keepS s m A) (keepS s m B)) = keepS s m (joinP A B) := by
  unfold keepS; split
  · exact keeph_join hm hA oA hB oB hs
  · exact keep_join hm hA oA hB oB hs
theorem keeps_le (s : Bool) (m : Int) (A : List PairV) : (keepS s m A).length ≤ A.length := by
  unfold keepS; split
  · exact keeph_le m A
  · exact keep_le m A
theorem keeps_good {s : Bool} {m : Int} {A : List PairV} (h : GoodP A) : GoodP (keepS s m A) := by
  unfold keepS; split
  · exact keeph_good h
  · exact keep_good h
theorem keeps_ok {s : Bool} {m : Int} {A : List PairV} (h : ∀ p, p ∈ A → okP p) : ∀ p, p ∈ keepS s m A → okP p := by
  unfold keepS; split
  · exact keeph_ok h
  · exact keep_ok h
theorem keeps_sum (s : Bool) (m : Int) {A : List PairV} (h : ∀ p, p ∈ A → 0 ≤ p.2) : 0 ≤ sumP (keepS s m A) ∧ sumP (keepS s m A) ≤ sumP A := by
  unfold keepS; split
  · exact keeph_sum m h
  · exact keep_sum m h
theorem keeps_nil (s : Bool) (m : Int) : keepS s m [] = [] := by unfold keepS; split <;> rfl
theorem keeps_mem {s : Bool} {m : Int} {A : List PairV} {p : PairV} (h : p ∈ keepS s m A) : p ∈ A := by
  unfold keepS at h; split at h
  · exact (keeph_mem h).1
  · exact (highP_mem h).1
/-- What is found is what is asked for of all, unless that one isn't kept. -/
theorem finds_keep {s : Bool} {m : Int} {A : List PairV} (hm : 0 < m) (hg : GoodP A) (t i : Int) (hf : findP A t = some i) (hi : 0 < countP A i) :
    findS s (keepS s m A) (sumP A - sumP (keepS s m A)) t = if countP (keepS s m A) i = 0 then none else some i := by
  unfold findS keepS; split
  · rw [find_keeph hm hg, hf, keeph_count]
    by_cases h : i < begP A + m
    · rw [if_pos h, if_neg (by omega)]; show (if i - begP A < m then some i else none) = _; rw [if_pos (by omega)]
    · rw [if_neg h, if_pos rfl]; show (if i - begP A < m then some i else none) = _; rw [if_neg (by omega)]
  · rw [find_keep hm hg, hf, keep_count]
    by_cases h : endP A - m < i
    · rw [if_pos h, if_neg (by omega)]; show (if endP A - i < m then some i else none) = _; rw [if_pos (by omega)]
    · rw [if_neg h, if_pos rfl]; show (if endP A - i < m then some i else none) = _; rw [if_neg (by omega)]
theorem belows_keep {s : Bool} {m : Int} {A : List PairV} (hm : 0 < m) (hg : GoodP A) (i : Int) :
    lowS s m (keepS s m A) (sumP A - sumP (keepS s m A)) i ≤ belowP A i ∧ belowP A i ≤ highS s m (keepS s m A) (sumP A - sumP (keepS s m A)) i ∧
    (lowS s m (keepS s m A) (sumP A - sumP (keepS s m A)) i = highS s m (keepS s m A) (sumP A - sumP (keepS s m A)) i ∨ 0 < sumP A - sumP (keepS s m A)) := by
  unfold lowS highS keepS; split
  · have := below_keeph hm hg (m := m) i
    exact ⟨this.1, this.2.1, this.2.2.imp id fun h => h.2⟩
  · have := below_keep hm hg (m := m) i
    exact ⟨this.1, this.2.1, this.2.2.imp id fun h => h.2⟩

/-- The t-th one of a row. -/
theorem find_of {A : List PairV} {t i : Int} (hg : GoodP A) (h1 : belowP A (i - 1) < t) (h2 : t ≤ belowP A i) (h0 : 0 < t) : findP A t = some i := by
  have hpos : ∀ q, q ∈ A → 0 ≤ q.2 := fun q hq => by have := hg.1 q hq; omega
  have bl : ∀ j, belowP (lowP A i) j = if i - 1 ≤ j then sumP (lowP A i) else belowP (lowP A i) j := by
    intro j; split
    · unfold belowP; rw [List.filter_eq_self.2]
      intro p hp; have := (lowP_mem hp).2; simp; omega
    · rfl
  have bh : ∀ j, j ≤ i → belowP (highP A i) j = 0 := by
    intro j hj
    unfold belowP; rw [List.filter_eq_nil_iff.2]; · rfl
    intro p hp; have := (highP_mem hp).2; simp; omega
  have hp := good_part i hg
  obtain ⟨X, hX⟩ : ∃ X, lowP A i = X := ⟨_, rfl⟩
  obtain ⟨Y, hY⟩ : ∃ Y, highP A i = Y := ⟨_, rfl⟩
  rw [hX, hY] at hp
  rw [hX] at bl
  rw [hY] at bh
  rcases hp with ⟨n, e, e2, e3⟩ | ⟨e, e2⟩
  · have b1 : belowP A (i - 1) = sumP X := by
      rw [← e, below_app]; show belowP X (i - 1) + belowP ([(i, n)] ++ Y) (i - 1) = _
      rw [below_app, below_one, if_neg (by show ¬ i ≤ i - 1; omega), bh _ (by omega), bl, if_pos (by omega)]; omega
    have b2 : belowP A i = sumP X + n := by
      rw [← e, below_app]; show belowP X i + belowP ([(i, n)] ++ Y) i = _
      rw [below_app, below_one, if_pos (by show i ≤ i; omega), bh _ (by omega), bl, if_pos (by omega)]
      show sumP X + (n + 0) = _; omega
    unfold findP
    rw [if_pos h0]
    have hk : A[X.length]? = some (i, n) := by rw [← e, List.getElem?_append_right (Nat.le_refl _), Nat.sub_self]; rfl
    have ht : A.take X.length = X := by
      have := List.take_left (l₁ := X) (l₂ := (i, n) :: Y)
      rw [e] at this; exact this
    exact seek_at t A 0 X.length (i, n) hpos hk (by rw [ht]; omega) (by rw [ht]; show t ≤ 0 + sumP X + n; omega)
  · exfalso
    have b1 : belowP A (i - 1) = sumP X := by
      rw [← e, below_app, bh _ (by omega), bl, if_pos (by omega)]; omega
    have b2 : belowP A i = sumP X := by
      rw [← e, below_app, bh _ (by omega), bl, if_pos (by omega)]; omega
    omega

/-- What bins hold: rows of what is kept, and of how many in all, below 0 and above it; noughts. -/
structure St where
  k1 : List PairV
  t1 : Int
  k2 : List PairV
  t2 : Int
  z : Int
def St.all (s : St) : Int := s.t1 + s.t2 + s.z
def stNil : St := ⟨[], 0, [], 0, 0⟩
/-- A value more, so often; all of other bins, too; of all values. -/
def addSt (P : Pt) (s : Bool) (m : Int) (st : St) (x c : Int) : St :=
  if x = 0 then { st with z := st.z + c }
  else if x < 0 then { st with k1 := keepS s m (addP st.k1 (P.idx (mag x)) c), t1 := st.t1 + c }
  else { st with k2 := keepS s m (addP st.k2 (P.idx (mag x)) c), t2 := st.t2 + c }
def mergeSt (s : Bool) (m : Int) (a b : St) : St := ⟨keepS s m (joinP a.k1 b.k1), a.t1 + b.t1, keepS s m (joinP a.k2 b.k2), a.t2 + b.t2, a.z + b.z⟩
def stV (P : Pt) (s : Bool) (m : Int) (A : List PairV) : St := ⟨keepS s m (rowV P true A), sumP (rowV P true A), keepS s m (rowV P false A), sumP (rowV P false A), zeroV A⟩
theorem stv_nil (P : Pt) (s : Bool) (m : Int) : stV P s m [] = stNil := by
  unfold stV stNil
  have e : ∀ b, rowV P b [] = [] := fun b => rfl
  rw [e, e, keeps_nil]; rfl
theorem stv_all {P : Pt} (hP : P.ok) (s : Bool) (m : Int) {A : List PairV} (h : FineV A) (hl : A.length ≤ 1000) : (stV P s m A).all = sumP A := by
  have := sides_all hP h hl
  show sumP (rowV P true A) + sumP (rowV P false A) + zeroV A = _; omega
theorem stv_snoc {P : Pt} (hP : P.ok) (s : Bool) {m : Int} (hm : 0 < m) {A : List PairV} (h : FineV A) (hl : A.length ≤ 999) {v : PairV} (hv : I64 v.1 ∧ 0 < v.2 ∧ v.2 ≤ 1125899906842624) :
    stV P s m (A ++ [v]) = addSt P s m (stV P s m A) v.1 v.2 := by
  have S1 := row_sum50 hP true h (by omega)
  have S2 := row_sum50 hP false h (by omega)
  unfold stV addSt
  rw [row_snoc, row_snoc, zero_snoc]
  by_cases h0 : v.1 = 0
  · have a : sideV true v.1 = false := by rw [h0]; rfl
    have b : sideV false v.1 = false := by rw [h0]; rfl
    rw [if_pos h0, if_pos h0, a, b]; simp
  · obtain ⟨m1, m2⟩ := mag_in hv.1 h0
    have hi := pt_idx hP m1 m2
    have hc1 := count_le_sum (P.idx (mag v.1)) (ok_pos S1.ok)
    have hc2 := count_le_sum (P.idx (mag v.1)) (ok_pos S2.ok)
    have z1 := S1.sum
    have z2 := S2.sum
    have hln : (A.length : Int) * 1125899906842624 ≤ 999 * 1125899906842624 := Int.mul_le_mul_of_nonneg_right (by omega) (by omega)
    rw [if_neg h0, if_neg h0]
    by_cases hn : v.1 < 0
    · have a : sideV true v.1 = true := by rw [side_true]; simpa using hn
      have b : sideV false v.1 = false := by rw [side_false]; simp; omega
      rw [if_pos hn, a, b]
      simp only [if_true, Bool.false_eq_true, if_false, Int.add_zero]
      rw [keeps_add hm S1.good (by omega) hv.2.1, add_sum (by omega)]
    · have a : sideV true v.1 = false := by rw [side_true]; simpa using hn
      have b : sideV false v.1 = true := by rw [side_false]; simp; omega
      rw [if_neg hn, a, b]
      simp only [if_true, Bool.false_eq_true, if_false, Int.add_zero]
      rw [keeps_add hm S2.good (by omega) hv.2.1, add_sum (by omega)]
theorem row_app {P : Pt} (hP : P.ok) (b : Bool) {A B : List PairV} (h : FineV A) (k : FineV B) (hl : A.length + B.length ≤ 1000) : rowV P b (A ++ B) = joinP (rowV P b A) (rowV P b B) := by
  have FA := row_fold hP b h (by omega)
  have FB := row_fold hP b k (by omega)
  have F := row_fold hP b (fine_app h k) (by rw [List.length_append]; exact hl)
  have SA := row_sum50 hP b h (by omega)
  have SB := row_sum50 hP b k (by omega)
  have hs : sumP (rowV P b A) + sumP (rowV P b B) ≤ 9223372036854775807 := by
    have z1 := SA.sum
    have z2 := SB.sum
    have : ((A.length : Int) + B.length) * 1125899906842624 ≤ 1000 * 1125899906842624 := Int.mul_le_mul_of_nonneg_right (by omega) (by omega)
    rw [Int.add_mul] at this; omega
  have J := join_facts (rowV P b B) (rowV P b A) SA.good SA.ok (good_each SB.good SB.ok) hs
  refine good_ext F.sums.good J.good fun j => ?_
  have e : partsV P b (A ++ B) = partsV P b A ++ partsV P b B := by unfold partsV; rw [List.filter_append, List.map_append]
  rw [J.cnt, F.cnt, FA.cnt, FB.cnt, e, countP_app]
theorem stv_app {P : Pt} (hP : P.ok) (s : Bool) {m : Int} (hm : 0 < m) {A B : List PairV} (h : FineV A) (k : FineV B) (hl : A.length + B.length ≤ 1000) :
    stV P s m (A ++ B) = mergeSt s m (stV P s m A) (stV P s m B) := by
  have hs : ∀ b, sumP (rowV P b A) + sumP (rowV P b B) ≤ 9223372036854775807 := by
    intro b
    have z1 := (row_sum50 hP b h (by omega)).sum
    have z2 := (row_sum50 hP b k (by omega)).sum
    have : ((A.length : Int) + B.length) * 1125899906842624 ≤ 1000 * 1125899906842624 := Int.mul_le_mul_of_nonneg_right (by omega) (by omega)
    rw [Int.add_mul] at this; omega
  have key : ∀ b, keepS s m (rowV P b (A ++ B)) = keepS s m (joinP (keepS s m (rowV P b A)) (keepS s m (rowV P b B))) ∧ sumP (rowV P b (A ++ B)) = sumP (rowV P b A) + sumP (rowV P b B) := by
    intro b
    have SA := row_sum50 hP b h (by omega)
    have SB := row_sum50 hP b k (by omega)
    have J := join_facts (rowV P b B) (rowV P b A) SA.good SA.ok (good_each SB.good SB.ok) (hs b)
    rw [row_app hP b h k hl, keeps_join hm SA.good SA.ok SB.good SB.ok (hs b)]
    exact ⟨rfl, J.sum⟩
  unfold stV mergeSt
  rw [(key true).1, (key true).2, (key false).1, (key false).2]
  have : zeroV (A ++ B) = zeroV A + zeroV B := cnt_app _ _ _
  rw [this]

/-- What Find answers; what Rank answers. -/
def findSt (P : Pt) (s : Bool) (st : St) (t : Int) : Option Int :=
  if t < 1 then none
  else if t ≤ st.t1 then (findS s st.k1 (st.t1 - sumP st.k1) (st.t1 - t + 1)).map fun i => -(P.rep i)
  else if t ≤ st.t1 + st.z then some 0
  else if t ≤ st.t1 + st.z + st.t2 then (findS s st.k2 (st.t2 - sumP st.k2) (t - st.t1 - st.z)).map fun i => min (P.rep i) 9223372036854775807
  else none
def rankSt (P : Pt) (s : Bool) (m : Int) (st : St) (x : Int) : Int × Int :=
  if x = 0 then (st.t1 + st.z, st.t1 + st.z)
  else if x < 0 then (st.t1 - highS s m st.k1 (st.t1 - sumP st.k1) (P.idx (mag x)), st.t1 - lowS s m st.k1 (st.t1 - sumP st.k1) (P.idx (mag x) - 1))
  else (st.t1 + st.z + lowS s m st.k2 (st.t2 - sumP st.k2) (P.idx (mag x) - 1), st.t1 + st.z + highS s m st.k2 (st.t2 - sumP st.k2) (P.idx (mag x)))

/-- What stands for a value; the t-th value of all; what is asked for. -/
def standV (P : Pt) (x : Int) : Int := if x = 0 then 0 else if x < 0 then -(P.rep (P.idx (mag x))) else min (P.rep (P.idx (mag x))) 9223372036854775807
def ltV (A : List PairV) (x : Int) : Int := cntV (fun y => decide (y < x)) A
def eqV (A : List PairV) (x : Int) : Int := cntV (fun y => y == x) A
def upV (A : List PairV) (x : Int) : Int := cntV (fun y => decide (y ≤ x)) A
theorem up_split (A : List PairV) (x : Int) : upV A x = ltV A x + eqV A x := cnt_two fun v _ => by
  by_cases h : v.1 < x
  · have : (v.1 == x) = false := by simp; omega
    simp [h, this]; omega
  · by_cases e : v.1 = x
    · simp [e]
    · have : (v.1 == x) = false := by simp [e]
      simp [h, this]; omega
def isV (A : List PairV) (t : Int) (v : PairV) : Bool := decide (ltV A v.1 < t) && decide (t ≤ ltV A v.1 + eqV A v.1)
def exactV (A : List PairV) (t : Int) : Option Int := (A.find? (isV A t)).map fun v => v.1
def askV (P : Pt) (s : Bool) (m : Int) (A : List PairV) (t : Int) : Option Int :=
  match exactV A t with
  | none => none
  | some x => if x ≠ 0 ∧ countP (keepS s m (rowV P (decide (x < 0)) A)) (P.idx (mag x)) = 0 then none else some (standV P x)

theorem least_of : ∀ (L : List PairV), L ≠ [] → ∃ v, v ∈ L ∧ ∀ u, u ∈ L → v.1 ≤ u.1 := by
  intro L
  induction L with
  | nil => intro h; exact absurd rfl h
  | cons a r ih =>
    intro _
    by_cases hr : r = []
    · subst hr; exact ⟨a, by simp, fun u hu => by simp at hu; subst hu; exact Int.le_refl _⟩
    · obtain ⟨v, hv, h⟩ := ih hr
      by_cases hc : a.1 ≤ v.1
      · exact ⟨a, by simp, fun u hu => by
          rcases List.mem_cons.1 hu with rfl | hu
          · exact Int.le_refl _
          · have := h u hu; omega⟩
      · exact ⟨v, by simp [hv], fun u hu => by
          rcases List.mem_cons.1 hu with rfl | hu
          · omega
          · exact h u hu⟩
theorem most_of : ∀ (L : List PairV), L ≠ [] → ∃ v, v ∈ L ∧ ∀ u, u ∈ L → u.1 ≤ v.1 := by
  intro L
  induction L with
  | nil => intro h; exact absurd rfl h
  | cons a r ih =>
    intro _
    by_cases hr : r = []
    · subst hr; exact ⟨a, by simp, fun u hu => by simp at hu; subst hu; exact Int.le_refl _⟩
    · obtain ⟨v, hv, h⟩ := ih hr
      by_cases hc : v.1 ≤ a.1
      · exact ⟨a, by simp, fun u hu => by
          rcases List.mem_cons.1 hu with rfl | hu
          · exact Int.le_refl _
          · have := h u hu; omega⟩
      · exact ⟨v, by simp [hv], fun u hu => by
          rcases List.mem_cons.1 hu with rfl | hu
          · omega
          · exact h u hu⟩
/-- There is a t-th value, if there are so many. -/
theorem exact_some {A : List PairV} (h : FineV A) {t : Int} (h1 : 1 ≤ t) (h2 : t ≤ sumP A) : ∃ v, v ∈ A ∧ isV A t v = true := by
  have hpos := fine_pos h
  have hne : (A.filter fun v => decide (t ≤ upV A v.1)) ≠ [] := by
    have hA : A ≠ [] := by intro e; rw [e] at h2; simp [sumP_nil] at h2; omega
    obtain ⟨v, hv, hm⟩ := most_of A hA
    have : upV A v.1 = sumP A := by
      rw [← cnt_all]; exact cnt_eq fun u hu => by simpa using hm u hu
    intro e
    have := List.filter_eq_nil_iff.1 e v hv
    simp at this; omega
  obtain ⟨v, hv, hm⟩ := least_of _ hne
  obtain ⟨hv1, hv2⟩ := List.mem_filter.1 hv
  have hv3 : t ≤ upV A v.1 := by simpa using hv2
  refine ⟨v, hv1, ?_⟩
  have hlt : ltV A v.1 < t := by
    by_cases hc : ltV A v.1 < t
    · exact hc
    · exfalso
      have hB : (A.filter fun u => decide (u.1 < v.1)) ≠ [] := by
        intro e
        have : ltV A v.1 = 0 := by unfold ltV cntV; rw [e]; rfl
        omega
      obtain ⟨y, hy, hym⟩ := most_of _ hB
      obtain ⟨hy1, hy2⟩ := List.mem_filter.1 hy
      have hy3 : y.1 < v.1 := by simpa using hy2
      have e : upV A y.1 = ltV A v.1 := cnt_eq fun u hu => by
        apply decide_eq_decide.2
        constructor
        · intro h; omega
        · intro h; exact hym u (List.mem_filter.2 ⟨hu, by simpa using h⟩)
      have := hm y (List.mem_filter.2 ⟨hy1, by simp; omega⟩)
      omega
  have := up_split A v.1
  unfold isV
  simp only [Bool.and_eq_true, decide_eq_true_eq]
  exact ⟨hlt, by omega⟩
end Go.Proofs.YtcijflakldggaaaGreat

/-
  Walks: layer 9's reference: end, keeps, Kept, Lost, Find.
-/
namespace Go.Proofs.YtcijflakldggaaaGreat
set_option linter.unusedVariables false
set_option linter.unusedSimpArgs false
open Go.RowKit

set_option maxRecDepth 100000 in
set_option maxHeartbeats 1000000 in
theorem hrend_any (w : World) (M cap : Nat) (A : List PairV) (a : Option Addr) (e : Int) (hc : w.cell? ⟨M, 1, none⟩ = some (.slice a A.length cap)) (hP : Pairs w a A) (hne : A ≠ []) (hl : A.length ≤ 1000) (he : begP A = e) :
    Calls Tryz.prog 96 #[.pointer (some ⟨M, 0, none⟩)] w fun e' w' => e' = .returned (.int .i64 e) ∧ ∃ n, w' = w.drewN n := by
  have hpos : 0 < A.length := by cases A with
    | nil => exact absurd rfl hne
    | cons p r => simp
  obtain ⟨qx, qc, hx1⟩ : ∃ qx qc, A[0]? = some (qx, qc) := ⟨A[0].1, A[0].2, List.getElem?_eq_getElem hpos⟩
  have h2 : qx = e := by rw [← he]; unfold begP firP; rw [List.head?_eq_getElem?, hx1]; rfl
  subst h2
  obtain ⟨g, off, rfl, hbl, d0, _⟩ := hP.at_ 0 _ hx1
  simp only [Nat.zero_mul, Nat.add_zero] at d0
  obtain ⟨N, hN⟩ : ∃ N, A.length = N := ⟨_, rfl⟩
  rw [hN] at hc hpos hl
  have u3 : (0 : Int) < (N : Int) := by omega
  clear hP hne hN hx1 hbl he hl
  go_enter Tryz.func96, Tryz.ntmps96
  go_wp2_with fail
  go_ret
  exact ⟨rfl, 0, rfl⟩

set_option maxRecDepth 100000 in
set_option maxHeartbeats 1000000 in
theorem hrkeeps_any (w : World) (M cap : Nat) (m : Int) (A : List PairV) (a : Option Addr) (i : Int) (b : Bool) (h0 : w.cell? ⟨M, 0, none⟩ = some (.int .i64 m)) (hc : w.cell? ⟨M, 1, none⟩ = some (.slice a A.length cap)) (hP : Pairs w a A) (hne : A ≠ []) (hl : A.length ≤ 1000) (m0 : 0 ≤ m) (m1 : m ≤ 4096) (hi : I64 i) (hle : begP A ≤ i) (hb : decide (i - begP A < m) = b) :
    Calls Tryz.prog 83 #[.pointer (some ⟨M, 0, none⟩), .int .i64 i] w fun e' w' => e' = .returned (.bool b) ∧ ∃ n, w' = w.drewN n := by
  have he := beg_i64 hP.ok
  have HE : Hid (∀ n, Calls Tryz.prog 96 #[.pointer (some ⟨M, 0, none⟩)] (w.drewN n) fun e' w' => e' = .returned (.int .i64 (begP A)) ∧ ∃ k, w' = (w.drewN n).drewN k) := Lib.hid (fun n => by
    have hb := below_drewN (Below.refl w.heap.size w) n
    exact hrend_any _ M cap A a _ (cell_later hb hc) (hP.call hb) hne hl rfl)
  obtain ⟨e, hee⟩ : ∃ e, begP A = e := ⟨_, rfl⟩
  rw [hee] at he hle hb HE
  obtain ⟨e0, e1⟩ := he
  obtain ⟨i0, i1⟩ := hi
  obtain ⟨ue, hue⟩ : ∃ u, IntKind.u64.wrap e = u := ⟨_, rfl⟩
  obtain ⟨ui, hui⟩ : ∃ u, IntKind.u64.wrap i = u := ⟨_, rfl⟩
  have hsub : IntKind.u64.wrap (ui - ue) = i - e := by rw [← hue, ← hui, IntKind.wrap_u64, IntKind.wrap_u64, IntKind.wrap_u64]; omega
  have hm : IntKind.u64.wrap m = m := by rw [IntKind.wrap_u64]; omega
  have HB := Lib.hid hb
  clear hc hP hne hl hee hb
  go_enter Tryz.func83, Tryz.ntmps83
  go_wp2_with fail
  go_quiet ((go_at_call 96; exact Calls.quiet_of (HE.out _)))
  go_wp2_with fail
  go_ret
  exact ⟨by rw [← HB.out]; rfl, nq, rfl⟩

set_option maxRecDepth 100000 in
set_option maxHeartbeats 2000000 in
theorem hrkept_of (w : World) (M : Nat) (m : Int) (a : Option Addr) (cap : Nat) (A : List PairV) (hP : Pairs w a A) (c0 : w.cell? ⟨M, 0, none⟩ = some (.int .i64 m)) (c1 : w.cell? ⟨M, 1, none⟩ = some (.slice a A.length cap)) (hg : GoodP A) (hl : A.length ≤ 1000) (m0 : 0 ≤ m) (m1 : m ≤ 4096) :
    Calls Tryz.prog 62 #[.pointer (some ⟨M, 0, none⟩)] w fun e' w' => ∃ u, e' = .returned u ∧ OwnP w' w.heap.size u (keepH m A) ∧ Below w.heap.size w w' := by
  have ho := hP.ok
  have HI := Lib.hid hP
  have HG := Lib.hid hg
  have HC0 := Lib.hid c0
  have HC1 := Lib.hid c1
  have HL := Lib.hid hl
  obtain ⟨x, hx⟩ : ∃ x, begP A + m = x := ⟨_, rfl⟩
  have HX := Lib.hid hx
  have HKP : Hid (keepH m A = lowP A x) := Lib.hid (by unfold keepH; rw [hx])
  rw [HKP.out]
  clear hP hg ho c0 hx
  go_enter Tryz.func62, Tryz.ntmps62
  go_wp2_with fail
  go_loopw [3, 11] (fun s j wr => ∃ (k : Nat), k ≤ A.length ∧ j = .int .i64 k ∧ OwnP wr w.heap.size s (lowP (A.take k) x) ∧ Below w.heap.size w wr) (fun _ j _ => A.length - (intOf j).toNat)
  case atStart => exact ⟨0, Nat.zero_le _, rfl, OwnP.nil _ _, Below.refl _ _⟩
  case round =>
    clear c1
    obtain ⟨k, hk, rfl, hown, hb2⟩ := hrel
    have hbs := hb2.size
    by_cases hlt : k < A.length
    · have kk : (k : Int) < A.length := by omega
      have hxk : A[k]? = some A[k] := List.getElem?_eq_getElem hlt
      generalize hit : A[k] = p at *
      obtain ⟨px, pc⟩ := p
      obtain ⟨b0, off, rfl, hbl, c0, c1⟩ := (HI.out.call hb2).at_ k _ hxk
      simp only at c0 c1
      have HS := Lib.hid (low_step hxk x)
      have HLL := Lib.hid (low_len A x k)
      have hok := HI.out.ok _ (List.mem_of_getElem? hxk)
      have hle := beg_le HG.out _ (List.mem_of_getElem? hxk)
      have hne : A ≠ [] := by intro h; rw [h] at hlt; exact absurd hlt (Nat.not_lt_zero _)
      simp only at HS hle
      have hba : Below w.heap.size w (wr.alloc (.cells #[.int .i64 px, .int .u64 pc] 114)) := hb2.alloc hbs _
      have HKS : Hid (∀ b, decide (px < x) = b → Calls Tryz.prog 83 #[.pointer (some ⟨M, 0, none⟩), .int .i64 px] (wr.alloc (.cells #[.int .i64 px, .int .u64 pc] 114)) fun e' w' => e' = .returned (.bool b) ∧ ∃ n, w' = (wr.alloc (.cells #[.int .i64 px, .int .u64 pc] 114)).drewN n) := Lib.hid (fun b hb =>
        hrkeeps_any _ M cap m A _ px b (cell_later hba HC0.out) (cell_later hba HC1.out) (HI.out.call hba) hne HL.out m0 m1 hok.1 hle (by
          rw [← hb]; have := HX.out
          by_cases h : px < x
          · rw [decide_eq_true h, decide_eq_true (by omega)]
          · rw [decide_eq_false h, decide_eq_false (by omega)]))
      obtain ⟨⟨o1, o2⟩, o3, o4⟩ := hok
      have HBA := Lib.hid hba
      clear hxk hit hba hle hne
      by_cases hc : px < x
      · rw [if_pos hc] at HS
        have HK2 := Lib.hid (HKS.out true (decide_eq_true hc))
        obtain ⟨vA, vk, rfl⟩ := hown.form
        have HO := Lib.hid hown
        clear hown HKS
        go_wp2_with fail
        refine HK2.out.mono ?_
        rintro e' w2 ⟨rfl, n, rfl⟩
        have hb3 : Below w.heap.size w ((wr.alloc (.cells #[.int .i64 px, .int .u64 pc] 114)).drewN n) := below_drewN HBA.out n
        have hO3 : OwnP ((wr.alloc (.cells #[.int .i64 px, .int .u64 pc] 114)).drewN n) w.heap.size (.slice vA (lowP (A.take k) x).length vk) (lowP (A.take k) x) := (HO.out.alloc _).call (below_drewN (Below.refl _ _) n)
        obtain ⟨q0, q1⟩ : ((wr.alloc (.cells #[.int .i64 px, .int .u64 pc] 114)).drewN n).cell? ⟨wr.heap.size, 0, none⟩ = some (.int .i64 px) ∧ ((wr.alloc (.cells #[.int .i64 px, .int .u64 pc] 114)).drewN n).cell? ⟨wr.heap.size, 1, none⟩ = some (.int .u64 pc) := by
          have h := two_new9 wr (.int .i64 px) (.int .u64 pc) 114
          exact ⟨cell_later (below_drewN (Below.refl _ _) n) h.1, cell_later (below_drewN (Below.refl _ _) n) h.2⟩
        have hsz : ((wr.alloc (.cells #[.int .i64 px, .int .u64 pc] 114)).drewN n).heap.size = wr.heap.size + 1 := by
          show (wr.alloc _).heap.size = _; simp
        generalize (wr.alloc (.cells #[.int .i64 px, .int .u64 pc] 114)).drewN n = wY at *
        have HO3 := Lib.hid hO3
        have HB3 := Lib.hid hb3
        have HSZ := Lib.hid hsz
        clear hO3 hb3 hsz
        go_wp2_with (at_builtin; refine wpList_append_pair rfl _ _ rfl w.heap.size _ _ wY.heap.size (px, pc) rfl (HO3.out.alloc _) rfl ?c1 ?c2 ?c3 ?c4 ?_)
        case c3 => have := HLL.out; omega
        case c4 => have := HB3.out.size; simp; omega
        intro v' w1 hown' hgrow
        have hb4 := OwnP.below (HO3.out.alloc _) (HB3.out.alloc HB3.out.size _) hgrow (by have := HB3.out.size; simp; omega)
        rw [← HS.out] at hown'
        clear hgrow
        go_wp2_with fail
        go_roundw
        case rel => exact ⟨k + 1, by omega, by go_num, hown', hb4⟩
        case measure => simp [intOf]; omega
      · rw [if_neg hc, List.append_nil] at HS
        have HK2 := Lib.hid (HKS.out false (decide_eq_false hc))
        rw [← HS.out] at hown
        have HO := Lib.hid hown
        clear hown HKS
        go_wp2_with fail
        refine HK2.out.mono ?_
        rintro e' w2 ⟨rfl, n, rfl⟩
        go_wp2_with fail
        go_roundw
        case rel => exact ⟨k + 1, by omega, by go_num, (HO.out.alloc _).call (below_drewN (Below.refl _ _) n), below_drewN HBA.out n⟩
        case measure => simp [intOf]; omega
    · obtain rfl : k = A.length := by omega
      rw [List.take_length] at hown
      have kk : ¬ (A.length : Int) < A.length := by omega
      obtain ⟨vA, vk, rfl⟩ := hown.form
      have HO := Lib.hid hown
      clear hown
      go_wp2_with fail
      go_ret
      exact ⟨_, rfl, HO.out, hb2⟩

set_option maxRecDepth 100000 in
set_option maxHeartbeats 2000000 in
theorem hrlost_of (w : World) (M : Nat) (m : Int) (a : Option Addr) (cap : Nat) (A : List PairV) (t : Int) (hP : Pairs w a A) (c0 : w.cell? ⟨M, 0, none⟩ = some (.int .i64 m)) (c1 : w.cell? ⟨M, 1, none⟩ = some (.slice a A.length cap)) (hg : GoodP A) (hl : A.length ≤ 1000) (m0 : 0 ≤ m) (m1 : m ≤ 4096) (hs : sumP A ≤ 9223372036854775807) (ht : sumP A - sumP (keepH m A) = t) :
    Calls Tryz.prog 63 #[.pointer (some ⟨M, 0, none⟩)] w fun e' w' => e' = .returned (.int .u64 t) ∧ Below w.heap.size w w' := by
  have ho := hP.ok
  have HI := Lib.hid hP
  have HG := Lib.hid hg
  have HC0 := Lib.hid c0
  have HC1 := Lib.hid c1
  have HL := Lib.hid hl
  obtain ⟨x, hx⟩ : ∃ x, begP A + m = x := ⟨_, rfl⟩
  have HX := Lib.hid hx
  have HKP : Hid (sumP A - sumP (lowP A x) = t) := Lib.hid (by rw [← ht]; unfold keepH; rw [hx])
  have HTK : Hid (∀ k, 0 ≤ sumP (A.take k) - sumP (lowP (A.take k) x) ∧ sumP (A.take k) - sumP (lowP (A.take k) x) ≤ 9223372036854775807) := Lib.hid (fun k => by
    have h1 := sumP_take (L := A) k (ok_pos ho)
    have h2 := sumP_filter (fun p : PairV => decide (p.1 < x)) (L := A.take k) (fun p hp => ok_pos ho p (List.mem_of_mem_take hp))
    have h3 : sumP (lowP (A.take k) x) = sumP ((A.take k).filter fun p : PairV => decide (p.1 < x)) := rfl
    omega)
  clear hP hg ho c0 hx ht
  go_enter Tryz.func63, Tryz.ntmps63
  go_wp2_with fail
  go_loopw [3, 11] (fun s j wr => ∃ (k : Nat) (n : Int), k ≤ A.length ∧ j = .int .i64 k ∧ s = .int .u64 n ∧ n = sumP (A.take k) - sumP (lowP (A.take k) x) ∧ Below w.heap.size w wr) (fun _ j _ => A.length - (intOf j).toNat)
  case atStart => exact ⟨0, 0, Nat.zero_le _, rfl, rfl, rfl, Below.refl _ _⟩
  case round =>
    clear c1
    obtain ⟨k, n, hk, rfl, rfl, hn, hb2⟩ := hrel
    have hbs := hb2.size
    have HN := Lib.hid hn
    by_cases hlt : k < A.length
    · have kk : (k : Int) < A.length := by omega
      have hxk : A[k]? = some A[k] := List.getElem?_eq_getElem hlt
      generalize hit : A[k] = p at *
      obtain ⟨px, pc⟩ := p
      obtain ⟨b0, off, rfl, hbl, c0, c1⟩ := (HI.out.call hb2).at_ k _ hxk
      simp only at c0 c1
      have HS := Lib.hid (low_step hxk x)
      have HSS : Hid (sumP (A.take (k + 1)) = sumP (A.take k) + pc) := Lib.hid (by rw [take_snocP hxk, sumP_app, sumP_one])
      have hok := HI.out.ok _ (List.mem_of_getElem? hxk)
      have hle := beg_le HG.out _ (List.mem_of_getElem? hxk)
      have hne : A ≠ [] := by intro h; rw [h] at hlt; exact absurd hlt (Nat.not_lt_zero _)
      simp only at HS hle
      have hba : Below w.heap.size w (wr.alloc (.cells #[.int .i64 px, .int .u64 pc] 114)) := hb2.alloc hbs _
      have HKS : Hid (∀ b, decide (px < x) = b → Calls Tryz.prog 83 #[.pointer (some ⟨M, 0, none⟩), .int .i64 px] (wr.alloc (.cells #[.int .i64 px, .int .u64 pc] 114)) fun e' w' => e' = .returned (.bool b) ∧ ∃ n, w' = (wr.alloc (.cells #[.int .i64 px, .int .u64 pc] 114)).drewN n) := Lib.hid (fun b hb =>
        hrkeeps_any _ M cap m A _ px b (cell_later hba HC0.out) (cell_later hba HC1.out) (HI.out.call hba) hne HL.out m0 m1 hok.1 hle (by
          rw [← hb]; have := HX.out
          by_cases h : px < x
          · rw [decide_eq_true h, decide_eq_true (by omega)]
          · rw [decide_eq_false h, decide_eq_false (by omega)]))
      obtain ⟨⟨o1, o2⟩, o3, o4⟩ := hok
      simp only at o3 o4
      have HBA := Lib.hid hba
      have t0 := HTK.out k
      have t1 := HTK.out (k + 1)
      have hnn : n = sumP (A.take k) - sumP (lowP (A.take k) x) := HN.out
      clear hxk hit hba hle hne hn
      by_cases hc : px < x
      · rw [if_pos hc] at HS
        have HK2 := Lib.hid (HKS.out true (decide_eq_true hc))
        have HE : Hid (n = sumP (A.take (k + 1)) - sumP (lowP (A.take (k + 1)) x)) := Lib.hid (by rw [HS.out, HSS.out, sumP_app, sumP_one]; omega)
        clear HKS t0 t1 hnn
        go_wp2_with fail
        refine HK2.out.mono ?_
        rintro e' w2 ⟨rfl, d, rfl⟩
        go_wp2_with fail
        go_roundw
        case rel => exact ⟨k + 1, n, by omega, by go_num, rfl, HE.out, below_drewN HBA.out d⟩
        case measure => simp [intOf]; omega
      · rw [if_neg hc, List.append_nil] at HS
        have HK2 := Lib.hid (HKS.out false (decide_eq_false hc))
        rw [HS.out, HSS.out] at t1
        have hw : IntKind.u64.wrap (n + pc) = n + pc := by rw [IntKind.wrap_u64]; omega
        have HE : Hid (n + pc = sumP (A.take (k + 1)) - sumP (lowP (A.take (k + 1)) x)) := Lib.hid (by rw [HS.out, HSS.out]; omega)
        have q0 : ((wr.alloc (.cells #[.int .i64 px, .int .u64 pc] 114))).cell? ⟨wr.heap.size, 1, none⟩ = some (.int .u64 pc) := (two_new9 wr _ _ _).2
        clear HKS t0 t1 hnn
        go_wp2_with fail
        refine HK2.out.mono ?_
        rintro e' w2 ⟨rfl, d, rfl⟩
        have q1 := cell_later (below_drewN (Below.refl (wr.alloc (.cells #[.int .i64 px, .int .u64 pc] 114)).heap.size (wr.alloc (.cells #[.int .i64 px, .int .u64 pc] 114))) d) q0
        go_wp2_with fail
        go_roundw
        case rel => exact ⟨k + 1, n + pc, by omega, by go_num, by first | rfl | rw [hw], HE.out, below_drewN HBA.out d⟩
        case measure => simp [intOf]; omega
    · obtain rfl : k = A.length := by omega
      have kk : ¬ (A.length : Int) < A.length := by omega
      have HE : Hid (n = t) := Lib.hid (by rw [HN.out, List.take_length]; exact HKP.out)
      clear hn
      go_wp2_with fail
      go_ret
      exact ⟨ret_int HE.out, hb2⟩

theorem hrkept_any (w : World) (M : Nat) (m : Int) (v : Value) (A : List PairV) (h : RefS w M m v A) (hg : GoodP A) (ho : ∀ p, p ∈ A → okP p) (hl : A.length ≤ 1000) (m0 : 0 ≤ m) (m1 : m ≤ 4096) :
    Calls Tryz.prog 62 #[.pointer (some ⟨M, 0, none⟩)] w fun e' w' => ∃ u, e' = .returned u ∧ OwnP w' w.heap.size u (keepH m A) ∧ Below w.heap.size w w' := by
  obtain ⟨a, cap, rfl, hP, c0, c1⟩ := h.row ho
  exact hrkept_of w M m a cap A hP c0 c1 hg hl m0 m1
theorem hrlost_any (w : World) (M : Nat) (m : Int) (v : Value) (A : List PairV) (t : Int) (h : RefS w M m v A) (hg : GoodP A) (ho : ∀ p, p ∈ A → okP p) (hl : A.length ≤ 1000) (m0 : 0 ≤ m) (m1 : m ≤ 4096) (hs : sumP A ≤ 9223372036854775807) (ht : sumP A - sumP (keepH m A) = t) :
    Calls Tryz.prog 63 #[.pointer (some ⟨M, 0, none⟩)] w fun e' w' => e' = .returned (.int .u64 t) ∧ Below w.heap.size w w' := by
  obtain ⟨a, cap, rfl, hP, c0, c1⟩ := h.row ho
  exact hrlost_of w M m a cap A t hP c0 c1 hg hl m0 m1 hs ht

set_option maxRecDepth 100000 in
set_option maxHeartbeats 2000000 in
theorem hrlfind_any (w : World) (M : Nat) (m : Int) (v : Value) (A : List PairV) (t x : Int) (fb : Bool) (h : RefS w M m v A) (hg : GoodP A) (ho : ∀ p, p ∈ A → okP p) (hl : A.length ≤ 1000) (m0 : 0 ≤ m) (m1 : m ≤ 4096) (hs : sumP A < 18446744073709551616) (ht : Word t)
    (hx : (match findP A t with | none => none | some x => if x - begP A < m then some x else none).getD 0 = x) (hb : (match findP A t with | none => none | some x => if x - begP A < m then some x else none).isSome = fb) :
    Calls Tryz.prog 166 #[.pointer (some ⟨M, 0, none⟩), .int .u64 t] w fun e' w' => e' = .returned (.tuple #[.int .i64 x, .bool fb]) ∧ Below w.heap.size w w' := by
  obtain ⟨a, cap, rfl, hP, c0, c1⟩ := h.row ho
  have HC0 := Lib.hid c0
  have HC1 := Lib.hid c1
  have HI := Lib.hid hP
  have HL := Lib.hid hl
  have hseek : ∀ (L : List PairV) (s x : Int), seekP t s L = some x → ∃ p, p ∈ L ∧ p.1 = x := by
    intro L
    induction L with
    | nil => intro s x h; cases h
    | cons p r ih =>
      intro s x h
      rw [seek_cons] at h
      split at h
      · exact ⟨p, by simp, Option.some.inj h⟩
      · obtain ⟨q, hq, e⟩ := ih _ x h
        exact ⟨q, List.mem_cons_of_mem _ hq, e⟩
  cases hf : findP A t with
  | none =>
    rw [hf] at hx hb
    have h1 : x = 0 := hx.symm
    have h2 : fb = false := hb.symm
    subst h1 h2
    have HF := Lib.hid (rfind_any w a cap A t 0 false hP hl ht hs (by rw [hf]; rfl) (by rw [hf]; rfl))
    clear h hP hg ho hl hs hx hb hf hseek c0
    go_enter Tryz.func166, Tryz.ntmps166
    go_wp2_with fail
    refine HF.out.mono ?_
    rintro e' w2 ⟨rfl, b2⟩
    go_wp2_with fail
    go_ret2
    exact ⟨rfl, b2⟩
  | some y =>
    rw [hf] at hx hb
    obtain ⟨p, hp, hpy⟩ : ∃ p, p ∈ A ∧ p.1 = y := by
      unfold findP at hf
      split at hf
      · exact hseek A 0 y hf
      · cases hf
    have hne : A ≠ [] := by rintro rfl; cases hp
    have hyi : I64 y := by rw [← hpy]; exact (ho p hp).1
    have hyl : begP A ≤ y := by rw [← hpy]; exact beg_le hg p hp
    have HF := Lib.hid (rfind_any w a cap A t y true hP hl ht hs (by rw [hf]; rfl) (by rw [hf]; rfl))
    have HK : Hid (∀ w', Below w.heap.size w w' → ∀ b, decide (y - begP A < m) = b → Calls Tryz.prog 83 #[.pointer (some ⟨M, 0, none⟩), .int .i64 y] w' fun e' w'' => e' = .returned (.bool b) ∧ ∃ n, w'' = w'.drewN n) := Lib.hid (fun w' hw b hb =>
      hrkeeps_any w' M cap m A _ y b (cell_later hw HC0.out) (cell_later hw HC1.out) (HI.out.call hw) hne HL.out m0 m1 hyi hyl hb)
    by_cases hc : y - begP A < m
    · have h1 : x = y := by rw [← hx]; show (if y - begP A < m then some y else none).getD 0 = y; rw [if_pos hc]; rfl
      have h2 : fb = true := by rw [← hb]; show (if y - begP A < m then some y else none).isSome = true; rw [if_pos hc]; rfl
      subst h1 h2
      have HK2 := Lib.hid (fun w' hw => HK.out w' hw true (decide_eq_true hc))
      clear h hP hg ho hl hs hx hb hf hseek c0 hp hpy hne hyi hyl HK hc
      go_enter Tryz.func166, Tryz.ntmps166
      go_wp2_with fail
      refine HF.out.mono ?_
      rintro e' w2 ⟨rfl, b2⟩
      go_wp2_with fail
      refine (HK2.out _ b2).mono ?_
      rintro e' w3 ⟨rfl, n, rfl⟩
      go_wp2_with fail
      go_ret2
      exact ⟨rfl, below_drewN b2 n⟩
    · have h1 : x = 0 := by rw [← hx]; show (if y - begP A < m then some y else none).getD 0 = 0; rw [if_neg hc]; rfl
      have h2 : fb = false := by rw [← hb]; show (if y - begP A < m then some y else none).isSome = false; rw [if_neg hc]; rfl
      subst h1 h2
      have HK2 := Lib.hid (fun w' hw => HK.out w' hw false (decide_eq_false hc))
      clear h hP hg ho hl hs hx hb hf hseek c0 hp hpy hne hyi hyl HK hc
      go_enter Tryz.func166, Tryz.ntmps166
      go_wp2_with fail
      refine HF.out.mono ?_
      rintro e' w2 ⟨rfl, b2⟩
      go_wp2_with fail
      refine (HK2.out _ b2).mono ?_
      rintro e' w3 ⟨rfl, n, rfl⟩
      go_wp2_with fail
      go_ret2
      exact ⟨rfl, below_drewN b2 n⟩
end Go.Proofs.YtcijflakldggaaaGreat

/-
  Rows of cells, and rows of words, of the call's own: read, kept, appended to.
-/
namespace Go.Proofs.YtcijflakldggaaaGreat
set_option linter.unusedVariables false
set_option linter.unusedSimpArgs false
open Go.RowKit

/-- A cell: where it ends, and what stands for it. -/
abbrev CellV := Int × Int
def cellsC (p : CellV) : List Value := [.int .u64 p.1, .int .u64 p.2]
def cellsR (L : List CellV) : List Value := L.flatMap cellsC
theorem cellsR_cons (p : CellV) (r : List CellV) : cellsR (p :: r) = cellsC p ++ cellsR r := by unfold cellsR; rw [List.flatMap_cons]
theorem cellsR_app (a b : List CellV) : cellsR (a ++ b) = cellsR a ++ cellsR b := by unfold cellsR; rw [List.flatMap_append]
theorem cellsR_one' (p : CellV) : cellsR [p] = [.int .u64 p.1, .int .u64 p.2] := by unfold cellsR cellsC; simp
theorem cellsR_len (L : List CellV) : (cellsR L).length = L.length * 2 := by
  induction L with
  | nil => rfl
  | cons p r ih => rw [cellsR_cons, List.length_append, ih, List.length_cons]; simp [cellsC]; omega
theorem cellsR_one (L : List CellV) : ∀ u ∈ cellsR L, u.oneCell' = true := by
  intro u hu
  unfold cellsR at hu
  obtain ⟨p, _, h⟩ := List.mem_flatMap.1 hu
  simp only [cellsC, List.mem_cons, List.not_mem_nil, or_false] at h
  rcases h with rfl | rfl <;> rfl
theorem cellsR_at : ∀ (L : List CellV) (i : Nat) (p : CellV), L[i]? = some p → (cellsR L)[i * 2]? = some (.int .u64 p.1) ∧ (cellsR L)[i * 2 + 1]? = some (.int .u64 p.2) := by
  intro L
  induction L with
  | nil => intro i p h; simp at h
  | cons q r ih =>
    intro i p h
    rw [cellsR_cons]
    cases i with
    | zero => simp at h; subst h; simp [cellsC]
    | succ i =>
      have hr := ih i p (by simpa using h)
      have e : ∀ j, (cellsC q ++ cellsR r)[(i + 1) * 2 + j]? = (cellsR r)[i * 2 + j]? := by
        intro j
        rw [List.getElem?_append_right (by simp [cellsC]; omega)]
        congr 1
        simp [cellsC]; omega
      exact ⟨(e 0).trans hr.1, (e 1).trans hr.2⟩

theorem addr_flat (b off j : Nat) : (⟨b, off, none⟩ : Addr).add j = ⟨b, off + j, none⟩ := by unfold Addr.add; split <;> simp_all

theorem Tryz.infoCell : (Tryz.prog.info? 148).map (fun i => (i.zero, i.size, i.bytes)) = some (some (.agg #[.int .u64 0, .int .u64 0]), 2, 16) := by kernel_rfl

/-- A row of the call's own that holds cells. -/
def OwnR (w : World) (base : Nat) (v : Value) (L : List CellV) : Prop := w.ownsRow base 148 2 v L.length (cellsR L)
theorem OwnR.nil (w : World) (base : Nat) : OwnR w base (.slice none 0 0) [] := World.ownsRow_nil _ _ _ _
theorem OwnR.call {w w' : World} {base : Nat} {v : Value} {L : List CellV} (h : OwnR w base v L) (hb : Below w.heap.size w w') : OwnR w' base v L :=
  World.ownsRow.kept (row := none) h ⟨hb.os, hb.tape, hb.output, hb.size, fun i hi _ => hb.block i hi⟩ (by cases v.ownBlock <;> simp)
theorem OwnR.lt {w : World} {base : Nat} {v : Value} {L : List CellV} (h : OwnR w base v L) : ∀ k, v.ownBlock = some k → base ≤ k ∧ k < w.heap.size := World.ownsRow.lt h
theorem OwnR.form {w : World} {base : Nat} {v : Value} {L : List CellV} (h : OwnR w base v L) : ∃ A cap, v = .slice A L.length cap := by
  have h' : w.ownsRow base 148 2 v L.length (cellsR L) := h
  rcases h'.2 with ⟨rfl, h0⟩ | ⟨g, cap, cur, rfl, _⟩
  · exact ⟨none, 0, by rw [h0]⟩
  · exact ⟨_, _, rfl⟩
theorem OwnR.below {a w w' : World} {base : Nat} {v : Value} {L : List CellV} (h : OwnR w base v L) (hb : Below base a w) (hg : w.grownBy w' v.ownBlock) (hs : base ≤ w.heap.size) : Below base a w' := hb.grown hg hs (fun k hk => (h.lt k hk).1)
/-- A row with cells has an address, and is read there. -/
theorem OwnR.some_ {w : World} {base : Nat} {v : Value} {L : List CellV} (h : OwnR w base v L) (hn : 1 ≤ L.length) : ∃ g cap, v = .slice (some ⟨g, 0, none⟩) L.length cap ∧ base ≤ g := by
  have h' : w.ownsRow base 148 2 v L.length (cellsR L) := h
  rcases h'.2 with ⟨rfl, h0⟩ | ⟨g, cap, cur, rfl, hb, _⟩
  · omega
  · exact ⟨_, _, rfl, hb⟩
theorem OwnR.at_ {w : World} {base g n cap : Nat} {L : List CellV} (h : OwnR w base (.slice (some ⟨g, 0, none⟩) n cap) L) {i : Nat} {p : CellV} (hi : L[i]? = some p) :
    w.cell? ⟨g, i * 2, none⟩ = some (.int .u64 p.1) ∧ w.cell? ⟨g, i * 2 + 1, none⟩ = some (.int .u64 p.2) := by
  have hh : w.ownsRow base 148 2 (.slice (some ⟨g, 0, none⟩) n cap) L.length (cellsR L) := h
  have hc := hh.cells (g := g) rfl
  obtain ⟨c0, c1⟩ := cellsR_at L i p hi
  have a := hc _ _ c0
  have b := hc _ _ c1
  rw [addr_flat, Nat.zero_add] at a b
  exact ⟨a, b⟩
theorem OwnR.keep {w w' : World} {base g n cap : Nat} {L : List CellV} (h : OwnR w base (.slice (some ⟨g, 0, none⟩) n cap) L) (hk : w'.heap[g]? = w.heap[g]?) : OwnR w' base (.slice (some ⟨g, 0, none⟩) n cap) L := by
  have h' : w.ownsRow base 148 2 (.slice (some ⟨g, 0, none⟩) n cap) L.length (cellsR L) := h
  refine ⟨h'.1, ?_⟩
  rcases h'.2 with ⟨e, _⟩ | ⟨g', cap', cur, e, hb, hg, r⟩
  · cases e
  · refine .inr ⟨g', cap', cur, e, hb, ?_, r⟩
    injection e with e1 e2 e3; injection e1 with e1; injection e1 with e1; subst e1
    rw [hk]; exact hg
/-- Appending one cell, that lies in a block of its own: one step of a region that draws. -/
theorem step_append_cell {w : World} {ops : Array Oper} {o : Oper} {a : Act} {K : Act → World → Prop} {Q : Exit → Act → World → Prop} {E : Prop} (hgd : o.guard = none) (s x : Operand)
    (ho : o.op = .call { callee := .builtin .append, args := #[s, x], argTypes := #[144, 144] })
    (base : Nat) (v : Value) (L : List CellV) (g : Nat) (p : CellV) (hs : a.eval s = v) (hown : OwnR w base v L)
    (hx : a.eval x = .slice (some ⟨g, 0, none⟩) 1 1) (h0 : w.cell? ⟨g, 0, none⟩ = some (.int .u64 p.1)) (h1 : w.cell? ⟨g, 1, none⟩ = some (.int .u64 p.2)) (hn : L.length ≤ 100000) (hbase : base ≤ w.heap.size)
    (h : ∀ v' w', OwnR w' base v' (L ++ [p]) → w.grownBy w' v.ownBlock → K (a.put o.dst v') w') : if Region.wanted o (yielded ops a.tmps) = true then Oper.wp Tryz.prog o a w K Q else E := by
  have hw : Region.wanted o (yielded ops a.tmps) = true := by simp [Region.wanted, hgd]
  rw [if_pos hw]
  obtain ⟨i0, hi, hz0, hz1, hz2⟩ := info_parts Tryz.infoCell
  refine wp_append_own w s x _ ho base _ i0 _ 2 16 Tryz.underlying144 hi hz0 hz1 hz2 rfl (by decide) v L.length (cellsR L) hs hown ⟨g, 0, none⟩ 1 1 (cellsR [p]) hx (cellsR_len [p]) ?_ (cellsR_one [p])
      (by unfold maxLen; omega) (by omega) hbase (fun v' w' h1 h2 _ => h v' w' ?_ h2)
  · intro j u hu
    rw [cellsR_one'] at hu
    rw [addr_flat]
    match j, hu with
    | 0, hu => simp at hu; subst hu; exact h0
    | 1, hu => simp at hu; subst hu; exact h1
  · unfold OwnR
    rw [cellsR_app, List.length_append]
    exact h1

/-- A row of the call's own that holds words. -/
def wordsL (L : List Int) : List Value := L.map (Value.int .u64)
theorem Tryz.infoWordC : (Tryz.prog.info? 22).map (fun i => (i.zero, i.size, i.bytes)) = some (some (.int .u64 0), 1, 8) := by kernel_rfl
def OwnW (w : World) (base : Nat) (v : Value) (L : List Int) : Prop := w.ownsRow base 22 1 v L.length (wordsL L)
theorem OwnW.nil (w : World) (base : Nat) : OwnW w base (.slice none 0 0) [] := World.ownsRow_nil _ _ _ _
theorem OwnW.call {w w' : World} {base : Nat} {v : Value} {L : List Int} (h : OwnW w base v L) (hb : Below w.heap.size w w') : OwnW w' base v L :=
  World.ownsRow.kept (row := none) h ⟨hb.os, hb.tape, hb.output, hb.size, fun i hi _ => hb.block i hi⟩ (by cases v.ownBlock <;> simp)
theorem OwnW.other {w w' : World} {base : Nat} {v : Value} {L : List Int} {r : Option Nat} (h : OwnW w base v L) (hg : w.grownBy w' r) (hne : v.ownBlock = none ∨ v.ownBlock ≠ r) : OwnW w' base v L := World.ownsRow.kept h hg hne
theorem OwnW.alloc {w : World} {base : Nat} {v : Value} {L : List Int} (h : OwnW w base v L) (o : Obj) : OwnW (w.alloc o) base v L := World.ownsRow.alloc h o
theorem OwnW.lt {w : World} {base : Nat} {v : Value} {L : List Int} (h : OwnW w base v L) : ∀ k, v.ownBlock = some k → base ≤ k ∧ k < w.heap.size := World.ownsRow.lt h
theorem OwnW.form {w : World} {base : Nat} {v : Value} {L : List Int} (h : OwnW w base v L) : ∃ A cap, v = .slice A L.length cap := by
  have h' : w.ownsRow base 22 1 v L.length (wordsL L) := h
  rcases h'.2 with ⟨rfl, h0⟩ | ⟨g, cap, cur, rfl, _⟩
  · exact ⟨none, 0, by rw [h0]⟩
  · exact ⟨_, _, rfl⟩
theorem OwnW.form_at {w : World} {base n : Nat} {v : Value} {L : List Int} (h : OwnW w base v L) (hn : L.length = n) : ∃ A cap, v = .slice A n cap := by subst hn; exact h.form
theorem OwnW.below {a w w' : World} {base : Nat} {v : Value} {L : List Int} (h : OwnW w base v L) (hb : Below base a w) (hg : w.grownBy w' v.ownBlock) (hs : base ≤ w.heap.size) : Below base a w' := hb.grown hg hs (fun k hk => (h.lt k hk).1)
theorem OwnW.at_ {w : World} {base n cap : Nat} {A : Option Addr} {L : List Int} (h : OwnW w base (.slice A n cap) L) {i : Nat} {x : Int} (hi : L[i]? = some x) :
    ∃ g, A = some ⟨g, 0, none⟩ ∧ g < w.heap.size ∧ w.cell? ⟨g, i, none⟩ = some (.int .u64 x) := by
  have hh : w.ownsRow base 22 1 (.slice A n cap) L.length (wordsL L) := h
  rcases hh.2 with ⟨e, h0⟩ | ⟨g, cap', cur, e, hb, hg, r⟩
  · have : L = [] := List.eq_nil_of_length_eq_zero h0
    subst this; simp at hi
  · have e' := e
    injection e' with e1 e2 e3
    subst e1
    refine ⟨g, rfl, lt_of_block hg, ?_⟩
    have hc := hh.cells (g := g) rfl
    have a := hc i (.int .u64 x) (by unfold wordsL; rw [List.getElem?_map, hi]; rfl)
    rw [addr_flat, Nat.zero_add] at a
    exact a
theorem wpList_append_word {w : World} {ops : Array Oper} {rest : List Oper} {o : Oper} {a : Act} {Q : Exit → Act → World → Prop} (hgd : o.guard = none) (s x : Operand)
    (ho : o.op = .call { callee := .builtin .append, args := #[s, x], argTypes := #[46, 46] })
    (base : Nat) (v : Value) (L : List Int) (n : Nat) (hln : L.length = n) (g : Nat) (p : Int) (hs : a.eval s = v) (hown : OwnW w base v L)
    (hx : a.eval x = .slice (some ⟨g, 0, none⟩) 1 1) (h0 : w.cell? ⟨g, 0, none⟩ = some (.int .u64 p)) (hn : n ≤ 100000) (hbase : base ≤ w.heap.size)
    (h : ∀ g' cap w', OwnW w' base (.slice (some ⟨g', 0, none⟩) (n + 1) cap) (L ++ [p]) → w.grownBy w' v.ownBlock → (v.ownBlock = some g' ∨ g' = w.heap.size) → wpList Tryz.prog ops Q rest (a.put o.dst (.slice (some ⟨g', 0, none⟩) (n + 1) cap)) w') : wpList Tryz.prog ops Q (o :: rest) a w := by
  subst hln
  obtain ⟨i0, hi, hz0, hz1, hz2⟩ := info_parts Tryz.infoWordC
  refine wpList_append_lies w hgd s x _ ho base _ i0 _ 1 8 Tryz.underlying46 hi hz0 hz1 hz2 rfl (by decide) v L.length (wordsL L) hs hown ⟨g, 0, none⟩ 1 1 (wordsL [p]) hx rfl ?_ ?_
      (by decide) (by unfold maxLen; omega) (by omega) hbase _ rfl (fun g' cap w' h1 h2 h3 _ => h g' cap w' ?_ h2 h3)
  · intro j u hu
    rw [addr_flat]
    match j, hu with
    | 0, hu => simp [wordsL] at hu; subst hu; exact h0
  · intro u hu; simp [wordsL] at hu; subst hu; rfl
  · unfold OwnW
    rw [show wordsL (L ++ [p]) = wordsL L ++ wordsL [p] by unfold wordsL; rw [List.map_append], List.length_append]
    exact h1
end Go.Proofs.YtcijflakldggaaaGreat

/-
  The library contracts that the proofs lean on, laid at this translation by program.
-/
namespace Go.Proofs
open Go.Shelf
def Tryz.lays134_ren : Go.Shelf.Ren := ⟨fun | 134 => 109 | 129 => 127 | n => n, fun | 53 => 22 | 3 => 3 | 4 => 4 | 46 => 170 | 5 => 5 | 9 => 9 | n => n, fun | n => n⟩
theorem Tryz.lays134 : Go.Proofs.Lays.n134 Tryz.prog Tryz.lays134_ren := {
  mixed := by kernel_rfl
  f129 := Tryz.func127.trans (congrArg some (by kernel_rfl))
  f134 := Tryz.func109.trans (congrArg some (by kernel_rfl))
  t3 := Tryz.underlying3
  a3 := Tryz.isAgg3
  z3 := Tryz.sizeOf3
  v3 := Tryz.zeroValue3
  t4 := Tryz.underlying4
  a4 := Tryz.isAgg4
  z4 := Tryz.sizeOf4
  v4 := Tryz.zeroValue4
  t5 := Tryz.underlying5
  a5 := Tryz.isAgg5
  z5 := Tryz.sizeOf5
  v5 := Tryz.zeroValue5
  t9 := Tryz.underlying9
  a9 := Tryz.isAgg9
  z9 := Tryz.sizeOf9
  v9 := Tryz.zeroValue9
  t46 := Tryz.underlying170
  a46 := Tryz.isAgg170
  z46 := Tryz.sizeOf170
  v46 := Tryz.zeroValue170
  t53 := Tryz.underlying22
  a53 := Tryz.isAgg22
  z53 := Tryz.sizeOf22
  v53 := Tryz.zeroValue22 }
theorem Tryz.bits_LeadingZeros64 (x : Int) (w : World) (h0 : 0 ≤ x) (h1 : x ≤ 18446744073709551615) :
    Calls Tryz.prog 109 #[.int .u64 x] w fun e w' => e = .returned (.int .i64 (64 - (Lib.bitLen x.toNat : Int))) ∧ w' = w := Any.bits_LeadingZeros64 Tryz.lays134 x w h0 h1
def Tryz.lays215_ren : Go.Shelf.Ren := ⟨fun | 215 => 142 | n => n, fun | 3 => 3 | 4 => 4 | n => n, fun | n => n⟩
theorem Tryz.lays215 : Go.Proofs.Lays.n215 Tryz.prog Tryz.lays215_ren := {
  mixed := by kernel_rfl
  f215 := Tryz.func142.trans (congrArg some (by kernel_rfl))
  t3 := Tryz.underlying3
  a3 := Tryz.isAgg3
  z3 := Tryz.sizeOf3
  v3 := Tryz.zeroValue3
  t4 := Tryz.underlying4
  a4 := Tryz.isAgg4
  z4 := Tryz.sizeOf4
  v4 := Tryz.zeroValue4 }
open Go.RowKit in
theorem Tryz.cmp_isNaN_int (x : Int) (w : World) :
    Calls Tryz.prog 142 #[.int .i64 x] w fun e w' => e = .returned (.bool false) ∧ w' = w := Any.cmp_isNaN_int Tryz.lays215 x w
def Tryz.lays122_ren : Go.Shelf.Ren := ⟨fun | 122 => 139 | 215 => 142 | n => n, fun | 3 => 3 | 4 => 4 | n => n, fun | n => n⟩
theorem Tryz.lays122 : Go.Proofs.Lays.n122 Tryz.prog Tryz.lays122_ren := {
  mixed := by kernel_rfl
  f122 := Tryz.func139.trans (congrArg some (by kernel_rfl))
  f215 := Tryz.func142.trans (congrArg some (by kernel_rfl))
  t3 := Tryz.underlying3
  a3 := Tryz.isAgg3
  z3 := Tryz.sizeOf3
  v3 := Tryz.zeroValue3
  t4 := Tryz.underlying4
  a4 := Tryz.isAgg4
  z4 := Tryz.sizeOf4
  v4 := Tryz.zeroValue4 }
open Go.RowKit in
theorem Tryz.cmp_Compare_int (x y : Int) (w : World) :
    Calls Tryz.prog 139 #[.int .i64 x, .int .i64 y] w fun e w' => e = .returned (.int .i64 (Lib.compareInt x y)) ∧ w' = w := Any.cmp_Compare_int Tryz.lays122 x y w
def Tryz.lays129_ren : Go.Shelf.Ren := ⟨fun | 129 => 127 | n => n, fun | 53 => 22 | 3 => 3 | 4 => 4 | 46 => 170 | 5 => 5 | 9 => 9 | n => n, fun | n => n⟩
theorem Tryz.lays129 : Go.Proofs.Lays.n129 Tryz.prog Tryz.lays129_ren := {
  mixed := by kernel_rfl
  f129 := Tryz.func127.trans (congrArg some (by kernel_rfl))
  t3 := Tryz.underlying3
  a3 := Tryz.isAgg3
  z3 := Tryz.sizeOf3
  v3 := Tryz.zeroValue3
  t4 := Tryz.underlying4
  a4 := Tryz.isAgg4
  z4 := Tryz.sizeOf4
  v4 := Tryz.zeroValue4
  t5 := Tryz.underlying5
  a5 := Tryz.isAgg5
  z5 := Tryz.sizeOf5
  v5 := Tryz.zeroValue5
  t9 := Tryz.underlying9
  a9 := Tryz.isAgg9
  z9 := Tryz.sizeOf9
  v9 := Tryz.zeroValue9
  t46 := Tryz.underlying170
  a46 := Tryz.isAgg170
  z46 := Tryz.sizeOf170
  v46 := Tryz.zeroValue170
  t53 := Tryz.underlying22
  a53 := Tryz.isAgg22
  z53 := Tryz.sizeOf22
  v53 := Tryz.zeroValue22 }
theorem Tryz.bits_Len64 (x : Int) (w : World) (h0 : 0 ≤ x) (h1 : x ≤ 18446744073709551615) :
    Calls Tryz.prog 127 #[.int .u64 x] w fun e w' => e = .returned (.int .i64 (Lib.bitLen x.toNat)) ∧ w' = w := Any.bits_Len64 Tryz.lays129 x w h0 h1
def Tryz.lays264_ren : Go.Shelf.Ren := ⟨fun | 264 => 95 | n => n, fun | 53 => 22 | 46 => 170 | n => n, fun | n => n⟩
theorem Tryz.lays264 : Go.Proofs.Lays.n264 Tryz.prog Tryz.lays264_ren := {
  mixed := by kernel_rfl
  f264 := Tryz.func95.trans (congrArg some (by kernel_rfl))
  t46 := Tryz.underlying170
  a46 := Tryz.isAgg170
  z46 := Tryz.sizeOf170
  v46 := Tryz.zeroValue170
  t53 := Tryz.underlying22
  a53 := Tryz.isAgg22
  z53 := Tryz.sizeOf22
  v53 := Tryz.zeroValue22 }
open Go.RowKit Go.Lib in
theorem Tryz.bits_Mul64 (x y : Nat) (hx : x < 18446744073709551616) (hy : y < 18446744073709551616) (w : World) :
    Calls Tryz.prog 95 #[.int .u64 x, .int .u64 y] w fun e w' => e = .returned (.tuple #[.int .u64 ((x * y / 18446744073709551616 : Nat) : Int), .int .u64 ((x * y % 18446744073709551616 : Nat) : Int)]) ∧ w' = w := Any.bits_Mul64 Tryz.lays264 x y hx hy w
def Tryz.laysNm237_ren : Go.Shelf.Ren := ⟨fun | 37 => 142 | n => n, fun | 3 => 3 | 4 => 4 | n => n, fun | n => n⟩
theorem Tryz.laysNm237 : Go.Proofs.Lays2.n37 Tryz.prog Tryz.laysNm237_ren := {
  mixed := by kernel_rfl
  f37 := Tryz.func142.trans (congrArg some (by kernel_rfl))
  t3 := Tryz.underlying3
  a3 := Tryz.isAgg3
  z3 := Tryz.sizeOf3
  v3 := Tryz.zeroValue3
  t4 := Tryz.underlying4
  a4 := Tryz.isAgg4
  z4 := Tryz.sizeOf4
  v4 := Tryz.zeroValue4 }
open Go.RowKit Go.Lib in
theorem Tryz.cmp_isNaN_int2 (x : Int) (w : World) :
    Calls Tryz.prog 142 #[.int .i64 x] w fun e w' => e = .returned (.bool false) ∧ w' = w := Any.cmp_isNaN_int2 Tryz.laysNm237 x w
end Go.Proofs

/-
  math/bits.Add64 and Sub64 at this translation: equations on a call, over whole numbers; Mul64 and Len64 likewise as contracts over whole numbers.
-/
namespace Go.Proofs.YtcijflakldggaaaGreat
set_option linter.unusedVariables false
open Go.RowKit Go.Shelf

theorem add64 (x y c : Int) (hx : 0 ≤ x) (hy : 0 ≤ y) (hc0 : 0 ≤ c) (hc : c ≤ 1) (w : World) : (callFunc 79 #[.int .u64 x, .int .u64 y, .int .u64 c]).run Tryz.prog w =
    .ok (.value (.tuple #[.int .u64 ((x + y + c) % 18446744073709551616), .int .u64 ((x + y + c) / 18446744073709551616)])) w := by
  rw [run_callFunc_extern Tryz.func79 (by kernel_rfl) (by kernel_rfl) (by kernel_rfl) (e := add64Entry) (by kernel_rfl), run_add64 x y c hx hy hc0 hc]
  rfl
theorem add64_0 (x y : Int) (hx : 0 ≤ x) (hy : 0 ≤ y) (w : World) : (callFunc 79 #[.int .u64 x, .int .u64 y, .int .u64 0]).run Tryz.prog w =
    .ok (.value (.tuple #[.int .u64 ((x + y) % 18446744073709551616), .int .u64 ((x + y) / 18446744073709551616)])) w := by
  simpa using add64 x y 0 hx hy (Int.le_refl 0) (by decide) w
theorem mul64_any (x y : Int) (wx : Word x) (wy : Word y) (w : World) :
    Calls Tryz.prog 95 #[.int .u64 x, .int .u64 y] w fun e w' => e = .returned (.tuple #[.int .u64 (hiW (x * y)), .int .u64 (loW (x * y))]) ∧ w' = w := by
  obtain ⟨hx, hx'⟩ := wx; obtain ⟨hy, hy'⟩ := wy
  obtain ⟨x, rfl⟩ := Int.eq_ofNat_of_zero_le hx
  obtain ⟨y, rfl⟩ := Int.eq_ofNat_of_zero_le hy
  have hb : x * y < 18446744073709551616 * 18446744073709551616 := Nat.mul_lt_mul'' (by omega) (by omega)
  refine (Tryz.bits_Mul64 x y (by omega) (by omega) w).mono fun e w' h => ?_
  rw [h.1]
  refine ⟨?_, h.2⟩
  have e1 : hiW ((x : Int) * y) = ((x * y / 18446744073709551616 : Nat) : Int) := by
    unfold hiW; rw [← Int.natCast_mul]; generalize x * y = n at *; omega
  have e2 : loW ((x : Int) * y) = ((x * y % 18446744073709551616 : Nat) : Int) := by
    unfold loW; rw [← Int.natCast_mul]; generalize x * y = n at *; omega
  rw [e1, e2]
end Go.Proofs.YtcijflakldggaaaGreat

/-
  Walks: wide.Times, Compare, Sub; the reference's Less and Add.
-/
namespace Go.Proofs.YtcijflakldggaaaGreat
set_option linter.unusedVariables false
open Go.RowKit Go.Shelf

set_option maxHeartbeats 400000 in
theorem times_any (a b : Int) (wa : Word a) (wb : Word b) (w : World) :
    Calls Tryz.prog 78 #[.int .u64 a, .int .u64 b] w fun e w' =>
      e = .returned (.agg #[.int .u64 (hiW (a * b)), .int .u64 (loW (a * b))]) ∧ Below w.heap.size w w' := by
  go_enter Tryz.func78, Tryz.ntmps78
  go_wp2_with (go_at_call 95; refine (mul64_any _ _ wa wb _).mono ?_; rintro e w' ⟨rfl, rfl⟩)
  refine bodyPost_ret (v := .agg #[.int .u64 (hiW (a * b)), .int .u64 (loW (a * b))]) (by simp [results, Tryz.results78, go_sem]) rfl ⟨rfl, ?_⟩
  exact (Below.refl _ _).alloc (Nat.le_refl _) _

set_option maxHeartbeats 400000 in
theorem less_any (ah al bh bl : Int) (w1 : Word ah) (w2 : Word al) (w3 : Word bh) (w4 : Word bl) (w : World) :
    Calls Tryz.prog 42 #[.agg #[.int .u64 ah, .int .u64 al], .agg #[.int .u64 bh, .int .u64 bl]] w fun e w' =>
      e = .returned (.bool (belowB (wval ah al - wval bh bl))) ∧ Below w.heap.size w w' := by
  by_cases h : ah = bh
  · subst h
    have e1 := less_lo ah al bl
    have hb : (!(ah == ah)) = false := by simp
    go_enter Tryz.func42, Tryz.ntmps42
    go_wp2
    refine bodyPost_ret (v := .bool (decide (al < bl))) (by simp [results, Tryz.results42, go_sem]) rfl ⟨by rw [e1], ?_⟩
    exact ((Below.refl _ _).alloc (Nat.le_refl _) _).alloc (by simp) _
  · have e1 := less_hi ah al bh bl w2 w4 h
    have hb' : (ah != bh) = true := by simp [h]
    clear h
    go_enter Tryz.func42, Tryz.ntmps42
    go_wp2
    refine bodyPost_ret (v := .bool (decide (ah < bh))) (by simp [results, Tryz.results42, go_sem]) rfl ⟨by rw [e1], ?_⟩
    exact ((Below.refl _ _).alloc (Nat.le_refl _) _).alloc (by simp) _

set_option maxHeartbeats 400000 in
theorem rwadd_any (ah al bh bl : Int) (w1 : Word ah) (w2 : Word al) (w3 : Word bh) (w4 : Word bl) (w : World) :
    Calls Tryz.prog 67 #[.agg #[.int .u64 ah, .int .u64 al], .agg #[.int .u64 bh, .int .u64 bl]] w fun e w' =>
      e = .returned (.tuple #[.agg #[.int .u64 (hiW (wval ah al + wval bh bl)), .int .u64 (loW (wval ah al + wval bh bl))], .bool (carryB (wval ah al + wval bh bl))]) ∧ Below w.heap.size w w' := by
  have EL := Lib.hid (radd_lo ah al bh bl)
  by_cases h : IntKind.u64.wrap (al + bl) < al
  · have EH := Lib.hid (radd_hiB (ah := ah) (bh := bh) w2 w4 h)
    by_cases h2 : IntKind.u64.wrap (ah + bh) < ah
    · have EC := Lib.hid (radd_cB1 w1 w2 w3 w4 h h2)
      clear w1 w2 w3 w4
      go_enter Tryz.func67, Tryz.ntmps67
      go_wp2
      refine bodyPost_ret (v := .tuple #[.agg #[.int .u64 (IntKind.u64.wrap (IntKind.u64.wrap (ah + bh) + 1)), .int .u64 (IntKind.u64.wrap (al + bl))], .bool true]) (by simp [results, Tryz.results67, go_sem]) rfl ⟨by rw [EL.out, EH.out, EC.out], ?_⟩
      exact (((Below.refl _ _).alloc (Nat.le_refl _) _).alloc (by simp) _).alloc (by simp; omega) _
    · have EC := Lib.hid (radd_cB2 w1 w2 w3 w4 h h2)
      clear w1 w2 w3 w4
      go_enter Tryz.func67, Tryz.ntmps67
      go_wp2
      refine bodyPost_ret (v := .tuple #[.agg #[.int .u64 (IntKind.u64.wrap (IntKind.u64.wrap (ah + bh) + 1)), .int .u64 (IntKind.u64.wrap (al + bl))], .bool (IntKind.u64.wrap (IntKind.u64.wrap (ah + bh) + 1) == 0)]) (by simp [results, Tryz.results67, go_sem]) rfl ⟨by rw [EC.out, EL.out, EH.out], ?_⟩
      exact (((Below.refl _ _).alloc (Nat.le_refl _) _).alloc (by simp) _).alloc (by simp; omega) _
  · have EH := Lib.hid (radd_hiA (ah := ah) (bh := bh) w2 w4 h)
    have EC := Lib.hid (radd_cA w1 w2 w3 w4 h)
    clear w1 w2 w3 w4
    go_enter Tryz.func67, Tryz.ntmps67
    go_wp2
    refine bodyPost_ret (v := .tuple #[.agg #[.int .u64 (IntKind.u64.wrap (ah + bh)), .int .u64 (IntKind.u64.wrap (al + bl))], .bool (decide (IntKind.u64.wrap (ah + bh) < ah))]) (by simp [results, Tryz.results67, go_sem]) rfl ⟨by rw [EC.out, EL.out, EH.out], ?_⟩
    exact (((Below.refl _ _).alloc (Nat.le_refl _) _).alloc (by simp) _).alloc (by simp; omega) _
end Go.Proofs.YtcijflakldggaaaGreat
