/-
  Walks: layer 7's reference: Add of a crate.
-/
import Derived.Test.YtoegjncccahmlaaRef7
import Derived.Deep.Onto
namespace Go.Proofs.Ytoegjncccahmlaa
set_option linter.unusedVariables false
set_option linter.unusedSimpArgs false
open Go.RowKit

def headP (R : List PairV) : Int := ((R.head?).map fun p => p.1).getD 0
def lastP (R : List PairV) : Int := ((R.getLast?).map fun p => p.1).getD 0
/-- How far apart a row's ends lie. -/
def spreadP (R : List PairV) : Int := lastP R - headP R
theorem good_ends {R : List PairV} (h : GoodP R) : headP R ≤ lastP R := by
  cases R with
  | nil => exact Int.le_refl _
  | cons p r =>
    cases hl : (p :: r).getLast? with
    | none => simp at hl
    | some z =>
      have hz := List.mem_of_getLast? hl
      unfold headP lastP
      rw [hl]
      show p.1 ≤ z.1
      rcases List.mem_cons.1 hz with rfl | hz
      · exact Int.le_refl _
      · have := (List.pairwise_cons.1 h.2).1 z hz; omega
theorem head_i64 {R : List PairV} (h : ∀ p, p ∈ R → okP p) : I64 (headP R) := by
  cases R with
  | nil => exact ⟨by decide, by decide⟩
  | cons p r => exact (h p (by simp)).1
theorem last_i64 {R : List PairV} (h : ∀ p, p ∈ R → okP p) : I64 (lastP R) := by
  unfold lastP
  cases hl : R.getLast? with
  | none => exact ⟨by decide, by decide⟩
  | some z => exact (h z (List.mem_of_getLast? hl)).1
/-- What adding to a crate tells; what is kept then. -/
def crErr (L : List PairV) (i c : Int) : Int := if c = 0 then 1 else if 9223372036854775807 - sumP L < c then 6 else if 4095 < spreadP (addP L i c) then 6 else 0
def crRow (L : List PairV) (i c : Int) : List PairV := if crErr L i c = 0 then addP L i c else L
theorem add_pos {L : List PairV} {i c : Int} (h0 : 0 ≤ countP L i) (hc : 0 < c) : 0 < (addP L i c).length := by
  unfold addP midP; rw [if_pos (by omega)]; simp; omega
theorem sum_part (L : List PairV) (i : Int) : sumP (lowP L i) + (countP L i + sumP (highP L i)) = sumP L := by
  induction L with
  | nil => rfl
  | cons p r ih =>
    rw [sumP_cons, count_cons]
    unfold lowP highP at *
    rw [List.filter_cons, List.filter_cons]
    rcases Int.lt_trichotomy p.1 i with h | h | h
    · have h2 : ¬ i < p.1 := by omega
      have h3 : ¬ p.1 = i := by omega
      simp only [h, h2, h3, decide_true, decide_false, if_true, Bool.false_eq_true, if_false, sumP_cons]; omega
    · have h1 : ¬ p.1 < i := by omega
      have h2 : ¬ i < p.1 := by omega
      simp only [h, h1, h2, Int.lt_irrefl, decide_false, Bool.false_eq_true, if_true, if_false]; omega
    · have h1 : ¬ p.1 < i := by omega
      have h3 : ¬ p.1 = i := by omega
      simp only [h, h1, h3, decide_true, decide_false, if_true, Bool.false_eq_true, if_false, sumP_cons]; omega
theorem add_sum {L : List PairV} {i c : Int} (h0 : 0 ≤ countP L i + c) : sumP (addP L i c) = sumP L + c := by
  unfold addP
  rw [sumP_app, sumP_app]
  have hm : sumP (midP i (countP L i + c)) = countP L i + c := by
    unfold midP
    split
    · rw [sumP_one]
    · rw [sumP_nil]; omega
  have := sum_part L i
  rw [hm]; omega
theorem count_le_sum {L : List PairV} (i : Int) (h : ∀ p, p ∈ L → 0 ≤ p.2) : 0 ≤ countP L i ∧ countP L i ≤ sumP L := by
  have h1 := sum_part L i
  have h2 : 0 ≤ sumP (lowP L i) := sumP_pos fun p hp => h p (lowP_mem hp).1
  have h3 : 0 ≤ sumP (highP L i) := sumP_pos fun p hp => h p (highP_mem hp).1
  have h4 : 0 ≤ countP L i := sumP_pos fun p hp => h p (List.mem_filter.1 hp).1
  omega
/-- A row that a crate can have. -/
structure Crt (L : List PairV) : Prop where
  good : GoodP L
  ok : ∀ p, p ∈ L → okP p
  sum : sumP L ≤ 9223372036854775807
  far : spreadP L ≤ 4095
theorem Crt.nil : Crt [] := ⟨good_nil, fun p h => (by cases h), by decide, by decide⟩
theorem Crt.cnt {L : List PairV} (h : Crt L) (i : Int) : 0 ≤ countP L i ∧ countP L i ≤ sumP L := count_le_sum i (ok_pos h.ok)
theorem crErr_cases {L : List PairV} {i c : Int} (hc : Word c) : (c = 0 ∧ crErr L i c = 1) ∨ (0 < c ∧ 9223372036854775807 - sumP L < c ∧ crErr L i c = 6) ∨
    (0 < c ∧ c ≤ 9223372036854775807 - sumP L ∧ 4095 < spreadP (addP L i c) ∧ crErr L i c = 6) ∨ (0 < c ∧ c ≤ 9223372036854775807 - sumP L ∧ spreadP (addP L i c) ≤ 4095 ∧ crErr L i c = 0) := by
  unfold Word at hc
  unfold crErr
  by_cases h0 : c = 0
  · exact Or.inl ⟨h0, by rw [if_pos h0]⟩
  · rw [if_neg h0]
    by_cases h1 : 9223372036854775807 - sumP L < c
    · exact Or.inr (Or.inl ⟨by omega, h1, by rw [if_pos h1]⟩)
    · rw [if_neg h1]
      by_cases h2 : 4095 < spreadP (addP L i c)
      · exact Or.inr (Or.inr (Or.inl ⟨by omega, by omega, h2, by rw [if_pos h2]⟩))
      · exact Or.inr (Or.inr (Or.inr ⟨by omega, by omega, by omega, by rw [if_neg h2]⟩))
theorem crt_add {L : List PairV} {i c : Int} (h : Crt L) (hi : I64 i) (hc : Word c) : Crt (crRow L i c) := by
  have hw := hc
  unfold Word at hw
  unfold crRow
  rcases crErr_cases (L := L) (i := i) hc with ⟨_, e⟩ | ⟨_, _, e⟩ | ⟨_, _, _, e⟩ | ⟨h1, h2, h3, e⟩
  · rw [if_neg (by omega)]; exact h
  · rw [if_neg (by omega)]; exact h
  · rw [if_neg (by omega)]; exact h
  · rw [if_pos e]
    have h4 := h.cnt i
    exact ⟨add_good h.good (by omega), add_ok h.ok hi (by omega), by rw [add_sum (by omega)]; omega, h3⟩
theorem crRow_len (L : List PairV) (i c : Int) : (crRow L i c).length ≤ L.length + 1 := by
  unfold crRow
  split
  · exact add_len L i c
  · omega

end Go.Proofs.Ytoegjncccahmlaa