/-
  Plain mathematics of cells, each of which one number stands for closely: no program in sight.
-/
import Derived.Test.YtbkiekogphfabaaMath
namespace Go.Proofs.Ytbkiekogphfabaa
set_option linter.unusedVariables false
set_option linter.unusedSimpArgs false

/-- A closeness that can be. -/
def GoodC (u v : Int) : Prop := 0 < u ∧ u < v ∧ v ≤ 2147483648
def goodC (u v : Int) : Bool := decide (0 < u) && decide (u < v) && decide (v ≤ 2147483648)
theorem goodC_iff {u v : Int} : goodC u v = true ↔ GoodC u v := by
  unfold goodC GoodC; simp [and_assoc]
/-- What stands for the cell that begins somewhere, not cut; where it ends; what stands for it. -/
def rawC (u v lo : Int) : Int := lo * (v + u) / v
def wayC (u v r : Int) : Int := r * v / (v - u)
def endC (u v lo : Int) : Int := min (wayC u v (rawC u v lo)) 9223372036854775808
def repC (u v lo : Int) : Int := min (rawC u v lo) 9223372036854775807
/-- Where each cell begins; behind the last one: above 2^63. -/
def lowC (u v : Int) : Nat → Int
  | 0 => 1
  | k + 1 => endC u v (lowC u v k) + 1
/-- There are just n cells. -/
def TabN (u v : Int) (n : Nat) : Prop := (∀ k, k < n → lowC u v k ≤ 9223372036854775808) ∧ lowC u v n = 9223372036854775809

theorem raw_ge {u v lo : Int} (g : GoodC u v) (h : 1 ≤ lo) : lo ≤ rawC u v lo := by
  obtain ⟨g0, g1, g2⟩ := g
  unfold rawC
  rw [Int.le_ediv_iff_mul_le (by omega)]
  exact Int.mul_le_mul_of_nonneg_left (by omega) (by omega)
theorem raw_lt {u v lo : Int} (g : GoodC u v) (h : 1 ≤ lo) : rawC u v lo < 2 * lo := by
  obtain ⟨g0, g1, g2⟩ := g
  unfold rawC
  rw [Int.ediv_lt_iff_lt_mul (by omega)]
  have : lo * (v + u) < lo * (2 * v) := Int.mul_lt_mul_of_pos_left (by omega) (by omega)
  rw [Int.mul_comm 2 lo, Int.mul_assoc]; exact this
theorem way_ge {u v r : Int} (g : GoodC u v) (h : 0 ≤ r) : r ≤ wayC u v r := by
  obtain ⟨g0, g1, g2⟩ := g
  unfold wayC
  rw [Int.le_ediv_iff_mul_le (by omega)]
  exact Int.mul_le_mul_of_nonneg_left (by omega) (by omega)
theorem end_ge {u v lo : Int} (g : GoodC u v) (h : 1 ≤ lo) (h2 : lo ≤ 9223372036854775808) : lo ≤ endC u v lo := by
  have a := raw_ge g h
  have b := way_ge g (show 0 ≤ rawC u v lo by omega)
  unfold endC; omega
theorem end_le (u v lo : Int) : endC u v lo ≤ 9223372036854775808 := by unfold endC; omega
theorem end_full {u v lo : Int} (g : GoodC u v) (h : 9223372036854775808 ≤ lo) : endC u v lo = 9223372036854775808 := by
  have a := raw_ge g (show 1 ≤ lo by omega)
  have b := way_ge g (show 0 ≤ rawC u v lo by omega)
  unfold endC; omega
theorem low_le (u v : Int) (k : Nat) : lowC u v k ≤ 9223372036854775809 := by
  cases k with
  | zero => simp [lowC]
  | succ k => have := end_le u v (lowC u v k); simp only [lowC]; omega
theorem low_pos {u v : Int} (g : GoodC u v) (k : Nat) : 1 ≤ lowC u v k := by
  induction k with
  | zero => simp [lowC]
  | succ k ih =>
    simp only [lowC]
    have hl := low_le u v k
    by_cases h : lowC u v k ≤ 9223372036854775808
    · have := end_ge g ih h; omega
    · have := end_full g (lo := lowC u v k) (by omega); omega
theorem low_succ (u v : Int) (k : Nat) : lowC u v (k + 1) = endC u v (lowC u v k) + 1 := rfl
theorem low_step {u v : Int} (g : GoodC u v) {k : Nat} (h : lowC u v k ≤ 9223372036854775808) : lowC u v k < lowC u v (k + 1) := by
  have := end_ge g (low_pos g k) h
  rw [low_succ]; omega
theorem low_stop {u v : Int} (g : GoodC u v) {k : Nat} (h : 9223372036854775808 < lowC u v k) : lowC u v (k + 1) = 9223372036854775809 := by
  have := end_full g (lo := lowC u v k) (by omega)
  rw [low_succ]; omega
theorem low_rise {u v : Int} (g : GoodC u v) (k : Nat) : lowC u v k ≤ lowC u v (k + 1) := by
  by_cases h : lowC u v k ≤ 9223372036854775808
  · have := low_step g h; omega
  · have := low_stop g (k := k) (by omega); have := low_le u v k; omega
theorem low_mono {u v : Int} (g : GoodC u v) {j k : Nat} (h : j ≤ k) : lowC u v j ≤ lowC u v k := by
  induction k with
  | zero => obtain rfl : j = 0 := by omega
            exact Int.le_refl _
  | succ k ih =>
    by_cases e : j = k + 1
    · subst e; exact Int.le_refl _
    · have := ih (by omega); have := low_rise g k; omega
theorem tab_or {u v : Int} (g : GoodC u v) (m : Nat) : (∃ n, 1 ≤ n ∧ n ≤ m ∧ TabN u v n) ∨ lowC u v m ≤ 9223372036854775808 := by
  induction m with
  | zero => right; simp [lowC]
  | succ m ih =>
    rcases ih with ⟨n, h1, h2, h3⟩ | h
    · exact .inl ⟨n, h1, by omega, h3⟩
    · by_cases e : lowC u v (m + 1) ≤ 9223372036854775808
      · exact .inr e
      · refine .inl ⟨m + 1, by omega, Nat.le_refl _, fun k hk => ?_, ?_⟩
        · have := low_mono g (show k ≤ m by omega); omega
        · have := low_le u v (m + 1); omega
theorem tab_one {u v : Int} (g : GoodC u v) {n m : Nat} (h : TabN u v n) (k : TabN u v m) : n = m := by
  rcases Nat.lt_trichotomy n m with e | e | e
  · have := k.1 n e; have := h.2; omega
  · exact e
  · have := h.1 m e; have := k.2; omega
theorem tab_pos {u v : Int} {n : Nat} (h : TabN u v n) : 1 ≤ n := by
  cases n with
  | zero => have := h.2; simp [lowC] at this
  | succ n => omega
/-- The n cells of a closeness: where each ends, and what stands for it. -/
theorem tab_end {u v : Int} (g : GoodC u v) {n k : Nat} (h : TabN u v n) (hk : k < n) : lowC u v k ≤ endC u v (lowC u v k) ∧ endC u v (lowC u v k) ≤ 9223372036854775808 := by
  have := end_ge g (low_pos g k) (h.1 k hk)
  have := end_le u v (lowC u v k)
  omega
theorem tab_last {u v : Int} {n : Nat} (h : TabN u v (n + 1)) : endC u v (lowC u v n) = 9223372036854775808 := by
  have := h.2; rw [low_succ] at this; omega
/-- A place in a row whose question is answered no up to i, and yes from there on. -/
theorem count_bound (p : Nat → Bool) (n i : Nat) (hi : i ≤ n) (h1 : ∀ k, k < i → p k = true) (h2 : ∀ k, i ≤ k → k < n → p k = false) : (List.range n).countP p = i := by
  induction n with
  | zero => simp; omega
  | succ n ih =>
    rw [List.range_succ, List.countP_append]
    by_cases e : i = n + 1
    · have : (List.range n).countP p = n := by
        have hl := List.countP_eq_length (p := p) (l := List.range n)
        rw [List.length_range] at hl
        exact hl.2 (fun a ha => h1 a (by have := List.mem_range.1 ha; omega))
      rw [this, e]
      simp [h1 n (by omega)]
    · rw [ih (by omega) (fun k hk hn => h2 k hk (by omega))]
      simp [h2 n (by omega) (by omega)]
/-- In which cell a magnitude lies. -/
def idxC (u v : Int) (n : Nat) (m : Int) : Nat := (List.range n).countP (fun k => !decide (m ≤ endC u v (lowC u v k)))
theorem idx_none {u v : Int} {n : Nat} {m : Int} (h : 9223372036854775808 < m) : idxC u v n m = n := by
  unfold idxC
  refine count_bound _ n n (Nat.le_refl _) (fun k hk => ?_) (fun k h1 h2 => by omega)
  have := end_le u v (lowC u v k)
  simp; omega
theorem idx_is {u v : Int} (g : GoodC u v) {n i : Nat} {m : Int} (h : TabN u v n) (hi : i < n) (h1 : lowC u v i ≤ m) (h2 : m ≤ endC u v (lowC u v i)) : idxC u v n m = i := by
  unfold idxC
  refine count_bound _ n i (by omega) (fun k hk => ?_) (fun k h3 h4 => ?_)
  · have := low_mono g (show k + 1 ≤ i by omega)
    rw [low_succ] at this
    simp; omega
  · have := low_mono g (show i + 1 ≤ k + 1 by omega)
    rw [low_succ, low_succ] at this
    simp; omega
theorem idx_at {u v : Int} (g : GoodC u v) {n : Nat} {m : Int} (h : TabN u v n) (h1 : 1 ≤ m) (h2 : m ≤ 9223372036854775808) : ∃ i, i < n ∧ idxC u v n m = i ∧ lowC u v i ≤ m ∧ m ≤ endC u v (lowC u v i) := by
  have key : ∀ k, m < lowC u v k → ∃ i, i < k ∧ lowC u v i ≤ m ∧ m ≤ endC u v (lowC u v i) := by
    intro k
    induction k with
    | zero => intro hk; simp only [lowC] at hk; omega
    | succ k ih =>
      intro hk
      by_cases e : m < lowC u v k
      · obtain ⟨i, a, b⟩ := ih e
        exact ⟨i, by omega, b⟩
      · rw [low_succ] at hk
        exact ⟨k, by omega, by omega, by omega⟩
  obtain ⟨i, hi, a, b⟩ := key n (by rw [h.2]; omega)
  exact ⟨i, hi, idx_is g h hi a b, a, b⟩
theorem idx_zero {u v : Int} (g : GoodC u v) {n : Nat} (h : TabN u v n) : idxC u v n 0 = 0 := by
  unfold idxC
  refine count_bound _ n 0 (by omega) (fun k hk => by omega) (fun k h3 h4 => ?_)
  have := tab_end g h h4
  have := low_pos g k
  simp; omega
/-- How far two magnitudes are from one another. -/
def gapC (a b : Int) : Int := max a b - min a b
theorem rep_close {u v lo m : Int} (g : GoodC u v) (h : 1 ≤ lo) (h0 : lo ≤ m) (h1 : m ≤ endC u v lo) : gapC (repC u v lo) m * v ≤ m * u := by
  have hlo : lo ≤ 9223372036854775808 := by have := end_le u v lo; omega
  have hm := end_le u v lo
  have hr := raw_ge g h
  obtain ⟨g0, g1, g2⟩ := id g
  have up : rawC u v lo * v ≤ m * (v + u) := by
    have a : rawC u v lo * v ≤ lo * (v + u) := Int.ediv_mul_le _ (by omega)
    have b : lo * (v + u) ≤ m * (v + u) := Int.mul_le_mul_of_nonneg_right h0 (by omega)
    omega
  have dn : m * (v - u) ≤ rawC u v lo * v := by
    have a : m ≤ wayC u v (rawC u v lo) := by unfold endC at h1; omega
    have b : wayC u v (rawC u v lo) * (v - u) ≤ rawC u v lo * v := Int.ediv_mul_le _ (by omega)
    have c : m * (v - u) ≤ wayC u v (rawC u v lo) * (v - u) := Int.mul_le_mul_of_nonneg_right a (by omega)
    omega
  rw [Int.mul_add] at up
  rw [Int.mul_sub] at dn
  have lift : ∀ x y : Int, x ≤ y → x * v ≤ y * v := fun x y hxy => Int.mul_le_mul_of_nonneg_right hxy (by omega)
  by_cases hc : rawC u v lo ≤ 9223372036854775807
  · have e : repC u v lo = rawC u v lo := by unfold repC; omega
    rw [e]
    by_cases hx : rawC u v lo ≤ m
    · have e2 : gapC (rawC u v lo) m = m - rawC u v lo := by unfold gapC; omega
      rw [e2, Int.sub_mul]; omega
    · have e2 : gapC (rawC u v lo) m = rawC u v lo - m := by unfold gapC; omega
      rw [e2, Int.sub_mul]; omega
  · have e : repC u v lo = 9223372036854775807 := by unfold repC; omega
    rw [e]
    by_cases hx : m ≤ 9223372036854775807
    · have e2 : gapC 9223372036854775807 m = 9223372036854775807 - m := by unfold gapC; omega
      have e3 := lift (9223372036854775807 - m) (rawC u v lo - m) (by omega)
      rw [Int.sub_mul (rawC u v lo)] at e3
      rw [e2]; omega
    · have e4 : m = 9223372036854775808 := by omega
      have e2 : gapC 9223372036854775807 m = 1 := by unfold gapC; omega
      have e3 : m * 1 ≤ m * u := Int.mul_le_mul_of_nonneg_left (by omega) (by omega)
      rw [e2]; omega
theorem rep_in {u v lo : Int} (g : GoodC u v) (h : 1 ≤ lo) (h2 : endC u v lo < 9223372036854775808) : lo ≤ repC u v lo ∧ repC u v lo ≤ endC u v lo := by
  have a := raw_ge g h
  have b := way_ge g (show 0 ≤ rawC u v lo by omega)
  unfold endC at *; unfold repC; omega
theorem rep_word {u v lo : Int} (g : GoodC u v) (h : 1 ≤ lo) : 0 ≤ repC u v lo ∧ repC u v lo ≤ 9223372036854775807 := by
  have a := raw_ge g h
  unfold repC; omega
theorem raw_mono {u w v lo lo' : Int} (g : GoodC u v) (h : u ≤ w) (h1 : 1 ≤ lo) (h2 : lo ≤ lo') : rawC u v lo ≤ rawC w v lo' := by
  obtain ⟨g0, g1, g2⟩ := g
  unfold rawC
  refine Int.ediv_le_ediv (by omega) ?_
  have a : lo * (v + u) ≤ lo * (v + w) := Int.mul_le_mul_of_nonneg_left (by omega) (by omega)
  have b : lo * (v + w) ≤ lo' * (v + w) := Int.mul_le_mul_of_nonneg_right h2 (by omega)
  omega
theorem way_mono {u w v r r' : Int} (g : GoodC u v) (g' : GoodC w v) (h : u ≤ w) (h1 : 0 ≤ r) (h2 : r ≤ r') : wayC u v r ≤ wayC w v r' := by
  have hq := way_ge g h1
  obtain ⟨g0, g1, g2⟩ := g
  obtain ⟨k0, k1, k2⟩ := g'
  have a : wayC u v r * (v - u) ≤ r * v := Int.ediv_mul_le _ (by omega)
  have b : wayC u v r * (v - w) ≤ wayC u v r * (v - u) := Int.mul_le_mul_of_nonneg_left (by omega) (by omega)
  have c : r * v ≤ r' * v := Int.mul_le_mul_of_nonneg_right h2 (by omega)
  show wayC u v r ≤ r' * v / (v - w)
  rw [Int.le_ediv_iff_mul_le (by omega)]
  omega
theorem low_looser {u w v : Int} (g : GoodC u v) (g' : GoodC w v) (h : u ≤ w) (k : Nat) : lowC u v k ≤ lowC w v k := by
  induction k with
  | zero => simp [lowC]
  | succ k ih =>
    have p := low_pos g k
    have r := raw_mono g h p ih
    have r0 := raw_ge g p
    have y := way_mono g g' h (show 0 ≤ rawC u v (lowC u v k) by omega) r
    simp only [low_succ]; unfold endC; omega
theorem fewer_cells {u w v : Int} (g : GoodC u v) (g' : GoodC w v) (h : u ≤ w) {n m : Nat} (hn : TabN u v n) (hm : TabN w v m) : m ≤ n := by
  rcases Nat.lt_or_ge n m with e | e
  · have a := hm.1 n e
    have b := low_looser g g' h n
    have c := hn.2
    omega
  · exact e
theorem tab_ten : TabN 1 10 215 := by
  have g : GoodC 1 10 := by unfold GoodC; omega
  have a : lowC 1 10 214 ≤ 9223372036854775808 := by decide +kernel
  have b : lowC 1 10 215 = 9223372036854775809 := by decide +kernel
  exact ⟨fun k hk => by have := low_mono g (show k ≤ 214 by omega); omega, b⟩
end Go.Proofs.Ytbkiekogphfabaa
