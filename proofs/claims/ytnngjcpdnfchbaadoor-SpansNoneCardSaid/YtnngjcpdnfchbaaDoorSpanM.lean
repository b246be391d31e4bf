/-
  Plain mathematics of spans, of magnitudes by their first digits: no program in sight.
-/
import Derived.Test.YtnngjcpdnfchbaaDoorMath
import Derived.Lib.BitFns
import Derived.Lib.ItoaNum
namespace Go.Proofs.YtnngjcpdnfchbaaDoor
set_option linter.unusedVariables false
set_option linter.unusedSimpArgs false

/-- So many digits, the log of the least power of two that isn't below so many tens, and these. -/
def SpanP (d : Int) (L : Nat) (T : Int) : Prop := (d = 1 ∧ L = 4 ∧ T = 10) ∨ (d = 2 ∧ L = 7 ∧ T = 100) ∨ (d = 3 ∧ L = 10 ∧ T = 1000) ∨ (d = 4 ∧ L = 14 ∧ T = 10000)
theorem spanp_of {d : Int} (h1 : 1 ≤ d) (h2 : d ≤ 4) : ∃ L T, SpanP d L T := by
  unfold SpanP
  obtain rfl | rfl | rfl | rfl : d = 1 ∨ d = 2 ∨ d = 3 ∨ d = 4 := by omega
  · exact ⟨4, 10, by omega⟩
  · exact ⟨7, 100, by omega⟩
  · exact ⟨10, 1000, by omega⟩
  · exact ⟨14, 10000, by omega⟩
theorem spanp_log {d : Int} {L : Nat} {T : Int} (h : SpanP d L T) : 4 ≤ L ∧ L ≤ 14 := by unfold SpanP at h; omega
theorem spanp_ten {d : Int} {L : Nat} {T : Int} (h : SpanP d L T) : 1 ≤ T ∧ T ≤ 2 ^ L := by
  rcases h with ⟨_, rfl, rfl⟩ | ⟨_, rfl, rfl⟩ | ⟨_, rfl, rfl⟩ | ⟨_, rfl, rfl⟩ <;> decide
theorem spanp_finer {d e : Int} {L M : Nat} {T U : Int} (h : SpanP d L T) (k : SpanP e M U) (hd : d ≤ e) : L ≤ M := by unfold SpanP at *; omega

theorem pow_i (k : Nat) : ((2 ^ k : Nat) : Int) = (2 : Int) ^ k := by rw [Int.natCast_pow]; rfl
theorem pow_pos (k : Nat) : (1 : Int) ≤ 2 ^ k := by have := Int.pow_pos (n := (2 : Int)) (m := k) (by omega); omega
theorem pow_up (k : Nat) : (2 : Int) ^ (k + 1) = 2 * 2 ^ k := by rw [Int.pow_succ]; omega
theorem pow_le {j k : Nat} (h : j ≤ k) : (2 : Int) ^ j ≤ 2 ^ k := by
  rw [← pow_i, ← pow_i]; exact Int.ofNat_le.2 (Nat.pow_le_pow_right (by omega) h)
theorem pow_join (j k : Nat) : (2 : Int) ^ j * 2 ^ k = 2 ^ (j + k) := by rw [Int.pow_add]

/-- By how many bits a magnitude is cut, what is left of it, its span's index; the least and the greatest one of its span; what stands for it. -/
def cutS (L : Nat) (m : Int) : Nat := Lib.bitLen m.toNat - 1 - L
def leftS (L : Nat) (m : Int) : Int := m / 2 ^ cutS L m
def idxS (L : Nat) (m : Int) : Int := cutS L m * 2 ^ L + leftS L m
def loS (L : Nat) (m : Int) : Int := leftS L m * 2 ^ cutS L m
def hiS (L : Nat) (m : Int) : Int := min (loS L m + (2 ^ cutS L m - 1)) 9223372036854775808
def midS (lo hi : Int) : Int := lo + (hi - lo) / 2
def repS (L : Nat) (m : Int) : Int := midS (loS L m) (hiS L m)
/-- By how many bits what lies in a span is cut; the least and the greatest one there. -/
def cutI (L : Nat) (i : Int) : Nat := (i / 2 ^ L - 1).toNat
def lowI (L : Nat) (i : Int) : Int := (i - cutI L i * 2 ^ L) * 2 ^ cutI L i
def highI (L : Nat) (i : Int) : Int := min (lowI L i + (2 ^ cutI L i - 1)) 9223372036854775808
/-- How many spans there are. -/
def lastS (L : Nat) : Int := (64 - L) * 2 ^ L

theorem len_bd {m : Int} (h1 : 1 ≤ m) (h2 : m ≤ 9223372036854775808) : 1 ≤ Lib.bitLen m.toNat ∧ Lib.bitLen m.toNat ≤ 64 ∧ 2 ^ (Lib.bitLen m.toNat - 1) ≤ m ∧ m < 2 ^ Lib.bitLen m.toNat := by
  obtain ⟨a, b, c⟩ := Lib.bitLenAux_bounds 64 m.toNat (by omega) (by omega)
  have e : Lib.bitLen m.toNat = Lib.bitLenAux 64 m.toNat := rfl
  have l := Lib.bitLen_le m.toNat 64 (Nat.le_refl _) (by omega)
  rw [← e] at a b c
  generalize Lib.bitLen m.toNat = n at *
  refine ⟨a, l, ?_, ?_⟩
  · have := Int.ofNat_le.2 b; rw [pow_i] at this; omega
  · have := Int.ofNat_lt.2 c; rw [pow_i] at this; omega
theorem len_of {m : Int} {n : Nat} (h1 : 1 ≤ m) (h2 : m ≤ 9223372036854775808) (a : 2 ^ n ≤ m) (b : m < 2 ^ (n + 1)) : Lib.bitLen m.toNat = n + 1 := by
  obtain ⟨c, _, d, e⟩ := len_bd h1 h2
  generalize Lib.bitLen m.toNat = l at *
  rcases Nat.lt_trichotomy l (n + 1) with h | h | h
  · have := pow_le (show l ≤ n by omega); omega
  · exact h
  · have := pow_le (show n + 1 ≤ l - 1 by omega); omega

/-- What the cut says of a magnitude. -/
theorem cut_facts (L : Nat) {m : Int} (h1 : 1 ≤ m) (h2 : m ≤ 9223372036854775808) (hL : L ≤ 14) :
    cutS L m ≤ 63 - L ∧ 1 ≤ leftS L m ∧ leftS L m < 2 ^ (L + 1) ∧ (cutS L m = 0 ∨ 2 ^ L ≤ leftS L m) ∧ loS L m ≤ m ∧ m ≤ loS L m + (2 ^ cutS L m - 1) ∧ m < 2 ^ (L + 1 + cutS L m) := by
  obtain ⟨a, b, c, d⟩ := len_bd h1 h2
  have hk : cutS L m = Lib.bitLen m.toNat - 1 - L := rfl
  generalize Lib.bitLen m.toNat = n at *
  have hq : leftS L m = m / 2 ^ cutS L m := rfl
  have hl : loS L m = leftS L m * 2 ^ cutS L m := rfl
  have hp := pow_pos (cutS L m)
  have e := Int.mul_ediv_add_emod m (2 ^ cutS L m)
  have e1 := Int.emod_lt_of_pos m (show 0 < (2 : Int) ^ cutS L m by omega)
  have e2 := Int.emod_nonneg m (show (2 : Int) ^ cutS L m ≠ 0 by omega)
  have hu : m < 2 ^ (L + 1 + cutS L m) := by
    have := pow_le (show n ≤ L + 1 + cutS L m by omega); omega
  have hq1 : leftS L m < 2 ^ (L + 1) := by
    rw [hq, Int.ediv_lt_iff_lt_mul (by omega), pow_join]; exact hu
  have hq2 : cutS L m = 0 ∨ 2 ^ L ≤ leftS L m := by
    by_cases h : cutS L m = 0
    · exact .inl h
    · refine .inr ?_
      rw [hq, Int.le_ediv_iff_mul_le (by omega), pow_join]
      have : L + cutS L m = n - 1 := by omega
      rw [this]; exact c
  refine ⟨by omega, ?_, hq1, hq2, ?_, ?_, hu⟩
  · rcases hq2 with h | h
    · rw [hq, h]; simp; omega
    · have := pow_pos L; omega
  · rw [hl, hq, Int.mul_comm]; omega
  · rw [hl, hq, Int.mul_comm]; omega

/-- Whoever is so much, cut by so many bits, has that cut. -/
theorem cut_is (L k : Nat) {m q : Int} (hL : L ≤ 14) (h2 : m ≤ 9223372036854775808) (a : k = 0 ∨ 2 ^ L ≤ q) (q1 : 1 ≤ q) (b : q < 2 ^ (L + 1)) (c : q * 2 ^ k ≤ m) (d : m < (q + 1) * 2 ^ k) : cutS L m = k ∧ leftS L m = q := by
  have hp := pow_pos k
  have hqp : 1 * 2 ^ k ≤ q * 2 ^ k := Int.mul_le_mul_of_nonneg_right q1 (by omega)
  have h1 : 1 ≤ m := by omega
  obtain ⟨x, y, z, t⟩ := len_bd h1 h2
  have hk : cutS L m = Lib.bitLen m.toNat - 1 - L := rfl
  have hq : leftS L m = m / 2 ^ cutS L m := rfl
  generalize Lib.bitLen m.toNat = n at *
  have hu : m < 2 ^ (L + 1 + k) := by
    have : (q + 1) * 2 ^ k ≤ 2 ^ (L + 1) * 2 ^ k := Int.mul_le_mul_of_nonneg_right (by omega) (by omega)
    rw [pow_join] at this; omega
  have hc : cutS L m = k := by
    rcases a with rfl | a
    · have : ¬ L + 1 + 0 ≤ n - 1 := fun h => by have := pow_le h; omega
      omega
    · have hw : 2 ^ (L + k) ≤ m := by
        have : 2 ^ L * 2 ^ k ≤ q * 2 ^ k := Int.mul_le_mul_of_nonneg_right a (by omega)
        rw [pow_join] at this; omega
      have h3 : ¬ L + 1 + k ≤ n - 1 := fun h => by have := pow_le h; omega
      have h4 : ¬ n ≤ L + k := fun h => by have := pow_le h; omega
      omega
  refine ⟨hc, ?_⟩
  rw [hq, hc]
  have u1 : m / 2 ^ k < q + 1 := (Int.ediv_lt_iff_lt_mul (by omega)).2 d
  have u2 : q ≤ m / 2 ^ k := (Int.le_ediv_iff_mul_le (by omega)).2 c
  omega

theorem half_pow (L : Nat) {q : Int} (h0 : 0 ≤ q) (h : q < 2 ^ (L + 1)) : q / 2 ^ L = if 2 ^ L ≤ q then 1 else 0 := by
  have hp := pow_pos L
  rw [pow_up] at h
  split
  · have u1 : q / 2 ^ L < 2 := (Int.ediv_lt_iff_lt_mul (by omega)).2 (by omega)
    have u2 : 1 ≤ q / 2 ^ L := (Int.le_ediv_iff_mul_le (by omega)).2 (by omega)
    omega
  · have u1 : q / 2 ^ L < 1 := (Int.ediv_lt_iff_lt_mul (by omega)).2 (by omega)
    have u2 : 0 ≤ q / 2 ^ L := (Int.le_ediv_iff_mul_le (by omega)).2 (by omega)
    omega
theorem cuti_of (L k : Nat) {q : Int} (a : k = 0 ∨ 2 ^ L ≤ q) (q0 : 0 ≤ q) (b : q < 2 ^ (L + 1)) : cutI L (k * 2 ^ L + q) = k ∧ (k * 2 ^ L + q : Int) / 2 ^ L - 1 = (k : Int) - (if 2 ^ L ≤ q then 0 else 1) := by
  have hp := pow_pos L
  have e : (k * 2 ^ L + q : Int) / 2 ^ L = k + (if 2 ^ L ≤ q then 1 else 0) := by
    rw [Int.add_comm, Int.add_mul_ediv_right _ _ (by omega), half_pow L q0 b]; omega
  refine ⟨?_, by rw [e]; split <;> omega⟩
  unfold cutI
  rw [e]
  rcases a with rfl | a
  · split <;> simp
  · rw [if_pos a]; omega
theorem cuti_idx (L : Nat) {m : Int} (h1 : 1 ≤ m) (h2 : m ≤ 9223372036854775808) (hL : L ≤ 14) : cutI L (idxS L m) = cutS L m := by
  obtain ⟨_, a, b, c, _⟩ := cut_facts L h1 h2 hL
  exact (cuti_of L _ c (by omega) b).1
theorem low_idx (L : Nat) {m : Int} (h1 : 1 ≤ m) (h2 : m ≤ 9223372036854775808) (hL : L ≤ 14) : lowI L (idxS L m) = loS L m := by
  unfold lowI; rw [cuti_idx L h1 h2 hL]; unfold idxS loS
  rw [show (cutS L m * 2 ^ L + leftS L m - cutS L m * 2 ^ L : Int) = leftS L m by omega]
theorem high_idx (L : Nat) {m : Int} (h1 : 1 ≤ m) (h2 : m ≤ 9223372036854775808) (hL : L ≤ 14) : highI L (idxS L m) = hiS L m := by
  unfold highI hiS; rw [low_idx L h1 h2 hL, cuti_idx L h1 h2 hL]
theorem idx_bd (L : Nat) {m : Int} (h1 : 1 ≤ m) (h2 : m ≤ 9223372036854775808) (hL : L ≤ 14) : 1 ≤ idxS L m := by
  obtain ⟨_, a, _⟩ := cut_facts L h1 h2 hL
  have := pow_pos L
  have : 0 * 2 ^ L ≤ (cutS L m : Int) * 2 ^ L := Int.mul_le_mul_of_nonneg_right (by omega) (by omega)
  unfold idxS; omega
theorem last_idx (L : Nat) (hL : L ≤ 14) : idxS L 9223372036854775808 = lastS L := by
  have hb : Lib.bitLen (9223372036854775808 : Int).toNat = 64 := by decide
  have hp := pow_pos L
  have e : (2 : Int) ^ L * 2 ^ (63 - L) = 9223372036854775808 := by rw [pow_join, show L + (63 - L) = 63 by omega]; decide
  have := cut_is L (63 - L) (m := 9223372036854775808) (q := 2 ^ L) hL (by omega) (.inr (by omega)) hp (by rw [pow_up]; omega) (by rw [e]; omega) (by rw [Int.add_mul, e]; have := pow_pos (63 - L); omega)
  unfold idxS lastS
  rw [this.1, this.2]
  rw [show ((64 : Int) - L) = ((63 - L : Nat) : Int) + 1 by omega, Int.add_mul]; omega
/-- A greater magnitude has no lesser index. -/
theorem idx_mono (L : Nat) {m n : Int} (h1 : 1 ≤ m) (h : m ≤ n) (h2 : n ≤ 9223372036854775808) (hL : L ≤ 14) : idxS L m ≤ idxS L n := by
  obtain ⟨a0, a1, a2, a3, a4, a5, a6⟩ := cut_facts L h1 (by omega) hL
  obtain ⟨b0, b1, b2, b3, b4, b5, b6⟩ := cut_facts L (show 1 ≤ n by omega) h2 hL
  have hp := pow_pos L
  have u := pow_up L
  have hk : cutS L m ≤ cutS L n := by
    obtain ⟨c1, c2, c3, c4⟩ := len_bd h1 (by omega : m ≤ 9223372036854775808)
    obtain ⟨d1, d2, d3, d4⟩ := len_bd (show 1 ≤ n by omega) h2
    have : ¬ Lib.bitLen n.toNat ≤ Lib.bitLen m.toNat - 1 := fun h => by have := pow_le h; omega
    unfold cutS; omega
  by_cases e : cutS L m = cutS L n
  · have : leftS L m ≤ leftS L n := by
      show m / 2 ^ cutS L m ≤ n / 2 ^ cutS L n
      rw [e]; exact Int.ediv_le_ediv (by have := pow_pos (cutS L n); omega) h
    unfold idxS; rw [e]; omega
  · have hq : 2 ^ L ≤ leftS L n := by rcases b3 with h | h <;> omega
    have : ((cutS L m : Int) + 1) * 2 ^ L ≤ (cutS L n : Int) * 2 ^ L := Int.mul_le_mul_of_nonneg_right (by omega) (by omega)
    rw [Int.add_mul] at this
    unfold idxS; omega
theorem idx_last (L : Nat) {m : Int} (h1 : 1 ≤ m) (h2 : m ≤ 9223372036854775808) (hL : L ≤ 14) : idxS L m ≤ lastS L := by
  rw [← last_idx L hL]; exact idx_mono L h1 h2 (Int.le_refl _) hL
/-- The least one of a span has that span. -/
theorem low_in (L : Nat) {i : Int} (h1 : 1 ≤ i) (h2 : i ≤ lastS L) (hL : L ≤ 14) : 1 ≤ lowI L i ∧ lowI L i ≤ 9223372036854775808 ∧ idxS L (lowI L i) = i := by
  have hp := pow_pos L
  have u := pow_up L
  obtain ⟨k, hk⟩ : ∃ k, cutI L i = k := ⟨_, rfl⟩
  obtain ⟨q, hq⟩ : ∃ q, i - k * 2 ^ L = q := ⟨_, rfl⟩
  have hl : lowI L i = q * 2 ^ k := by unfold lowI; rw [hk, hq]
  have e := Int.mul_ediv_add_emod i (2 ^ L)
  have e1 := Int.emod_lt_of_pos i (show 0 < (2 : Int) ^ L by omega)
  have e2 := Int.emod_nonneg i (show (2 : Int) ^ L ≠ 0 by omega)
  have e3 : 0 ≤ i / 2 ^ L := (Int.le_ediv_iff_mul_le (by omega)).2 (by omega)
  have e4 : i / 2 ^ L ≤ 64 - L := by
    have : i / 2 ^ L < 64 - L + 1 := by
      rw [Int.ediv_lt_iff_lt_mul (by omega), Int.add_mul]; unfold lastS at h2; omega
    omega
  have hk' : (k : Int) = if i / 2 ^ L = 0 then 0 else i / 2 ^ L - 1 := by rw [← hk]; unfold cutI; split <;> omega
  rw [Int.mul_comm] at e
  obtain ⟨t, ht⟩ : ∃ t, i / 2 ^ L = t := ⟨_, rfl⟩
  rw [ht] at e e3 e4 hk'
  have hq3 : (k = 0 ∨ 2 ^ L ≤ q) ∧ 1 ≤ q ∧ q < 2 ^ (L + 1) := by
    by_cases h0 : t = 0
    · rw [if_pos h0] at hk'
      have : k = 0 := by omega
      subst this; subst h0
      simp at hq e
      omega
    · rw [if_neg h0] at hk'
      have : (k : Int) * 2 ^ L = t * 2 ^ L - 2 ^ L := by rw [hk', Int.sub_mul]; omega
      omega
  obtain ⟨a, b, c⟩ := hq3
  have hkp := pow_pos k
  have hqp : 1 * 2 ^ k ≤ q * 2 ^ k := Int.mul_le_mul_of_nonneg_right b (by omega)
  have htop : q * 2 ^ k ≤ 9223372036854775808 := by
    by_cases hm : (k : Int) = 63 - L
    · have hq2 : q = 2 ^ L := by
        have : i = k * 2 ^ L + q := by omega
        have h3 : lastS L = (k : Int) * 2 ^ L + 2 ^ L := by unfold lastS; rw [hm, show ((64 : Int) - L) = (63 - L) + 1 by omega, Int.add_mul]; omega
        by_cases h0 : k = 0
        · omega
        · rcases a with a | a <;> omega
      rw [hq2, pow_join, show L + k = 63 by omega]; decide
    · have h5 : q * 2 ^ k ≤ 2 ^ (L + 1) * 2 ^ k := Int.mul_le_mul_of_nonneg_right (by omega) (by omega)
      rw [pow_join] at h5
      have h6 : k ≤ 62 - L := by split at hk' <;> omega
      have := pow_le (show L + 1 + k ≤ 63 by omega)
      have e63 : (2 : Int) ^ 63 = 9223372036854775808 := by decide
      omega
  have hi := cut_is L k (m := q * 2 ^ k) (q := q) hL htop a b c (Int.le_refl _) (by rw [Int.add_mul]; omega)
  rw [hl]
  refine ⟨by omega, htop, ?_⟩
  unfold idxS; rw [hi.1, hi.2]; omega
/-- Behind the greatest magnitude of a span the next one begins. -/
theorem next_span (L : Nat) {m : Int} (h1 : 1 ≤ m) (h2 : m ≤ 9223372036854775808) (hL : L ≤ 14) (h : hiS L m < 9223372036854775808) : idxS L (hiS L m + 1) = idxS L m + 1 ∧ loS L (hiS L m + 1) = hiS L m + 1 := by
  obtain ⟨a0, a1, a2, a3, a4, a5, a6⟩ := cut_facts L h1 h2 hL
  have hh : hiS L m = min (loS L m + (2 ^ cutS L m - 1)) 9223372036854775808 := rfl
  have hl : loS L m = leftS L m * 2 ^ cutS L m := rfl
  have hx : idxS L m = cutS L m * 2 ^ L + leftS L m := rfl
  generalize cutS L m = k at *
  generalize leftS L m = q at *
  have hp := pow_pos k
  have hpL := pow_pos L
  have u := pow_up L
  have e : hiS L m + 1 = (q + 1) * 2 ^ k := by rw [Int.add_mul]; omega
  by_cases hq : q + 1 < 2 ^ (L + 1)
  · have := cut_is L k (m := hiS L m + 1) (q := q + 1) hL (by omega) (by omega) (by omega) hq (by omega) (by rw [Int.add_mul (q + 1)]; omega)
    refine ⟨?_, ?_⟩
    · rw [hx]; unfold idxS; rw [this.1, this.2]; omega
    · unfold loS; rw [this.1, this.2]; omega
  · have hq' : q + 1 = 2 * 2 ^ L := by omega
    have e2 : hiS L m + 1 = 2 ^ L * 2 ^ (k + 1) := by rw [e, hq', pow_up, Int.mul_assoc, Int.mul_left_comm]
    have := cut_is L (k + 1) (m := hiS L m + 1) (q := 2 ^ L) hL (by omega) (.inr (Int.le_refl _)) hpL (by omega) (by omega) (by rw [Int.add_mul, ← e2]; have := pow_pos (k + 1); omega)
    refine ⟨?_, ?_⟩
    · rw [hx]; unfold idxS; rw [this.1, this.2, show (((k + 1 : Nat) : Int)) = (k : Int) + 1 by omega, Int.add_mul]; omega
    · unfold loS; rw [this.1, this.2]; omega
theorem span_in (L : Nat) {m : Int} (h1 : 1 ≤ m) (h2 : m ≤ 9223372036854775808) (hL : L ≤ 14) : 1 ≤ loS L m ∧ loS L m ≤ m ∧ m ≤ hiS L m ∧ hiS L m ≤ 9223372036854775808 := by
  obtain ⟨a0, a1, a2, a3, a4, a5, a6⟩ := cut_facts L h1 h2 hL
  have hp := pow_pos (cutS L m)
  have : 1 * 2 ^ cutS L m ≤ leftS L m * 2 ^ cutS L m := Int.mul_le_mul_of_nonneg_right a1 (by omega)
  have hl : loS L m = leftS L m * 2 ^ cutS L m := rfl
  unfold hiS; omega
theorem mid_in {lo hi : Int} (h : lo ≤ hi) : lo ≤ midS lo hi ∧ midS lo hi ≤ hi := by unfold midS; omega
/-- What stands for a magnitude's span lies close to it. -/
theorem span_close {d : Int} {L : Nat} {T m : Int} (hs : SpanP d L T) (h1 : 1 ≤ m) (h2 : m ≤ 9223372036854775808) : (max (repS L m) m - min (repS L m) m) * T ≤ m := by
  have hL := (spanp_log hs).2
  have hT := spanp_ten hs
  obtain ⟨a0, a1, a2, a3, a4, a5, a6⟩ := cut_facts L h1 h2 hL
  obtain ⟨b0, b1, b2, b3⟩ := span_in L h1 h2 hL
  obtain ⟨c1, c2⟩ := mid_in (show loS L m ≤ hiS L m by omega)
  have hr : repS L m = midS (loS L m) (hiS L m) := rfl
  have hh : hiS L m ≤ loS L m + (2 ^ cutS L m - 1) := by unfold hiS; omega
  have hp := pow_pos (cutS L m)
  have g : max (repS L m) m - min (repS L m) m ≤ 2 ^ cutS L m - 1 := by omega
  have g0 : 0 ≤ max (repS L m) m - min (repS L m) m := by omega
  generalize max (repS L m) m - min (repS L m) m = x at *
  rcases a3 with a | a
  · rw [a] at g
    have : x = 0 := by simp at g; omega
    subst this; omega
  · have e1 : x * T ≤ 2 ^ cutS L m * T := Int.mul_le_mul_of_nonneg_right (by omega) (by omega)
    have e2 : 2 ^ cutS L m * T ≤ 2 ^ cutS L m * leftS L m := Int.mul_le_mul_of_nonneg_left (by omega) (by omega)
    rw [Int.mul_comm _ (leftS L m)] at e2
    have hl : loS L m = leftS L m * 2 ^ cutS L m := rfl
    omega
/-- More digits: the span lies in the wider one. -/
theorem span_finer {L M : Nat} {m : Int} (hLM : L ≤ M) (hM : M ≤ 14) (h1 : 1 ≤ m) (h2 : m ≤ 9223372036854775808) : loS L m ≤ loS M m ∧ hiS M m ≤ hiS L m := by
  have hk : cutS M m ≤ cutS L m := by unfold cutS; omega
  obtain ⟨j, hj⟩ : ∃ j, cutS L m = cutS M m + j := ⟨cutS L m - cutS M m, by omega⟩
  obtain ⟨a0, a1, a2, a3, a4, a5, a6⟩ := cut_facts L h1 h2 (by omega)
  obtain ⟨b0, b1, b2, b3, b4, b5, b6⟩ := cut_facts M h1 h2 hM
  have hl : loS L m = leftS L m * 2 ^ cutS L m := rfl
  have hn : loS M m = leftS M m * 2 ^ cutS M m := rfl
  have hp := pow_pos (cutS M m)
  have e : loS L m = leftS L m * 2 ^ j * 2 ^ cutS M m := by rw [hl, hj, Int.mul_assoc, pow_join, Nat.add_comm]
  have e2 : (2 : Int) ^ cutS L m = 2 ^ j * 2 ^ cutS M m := by rw [hj, pow_join, Nat.add_comm]
  have x1 : leftS L m * 2 ^ j ≤ leftS M m := by
    have : ¬ (leftS M m + 1) * 2 ^ cutS M m ≤ leftS L m * 2 ^ j * 2 ^ cutS M m := by rw [Int.add_mul]; omega
    have h : ¬ leftS M m + 1 ≤ leftS L m * 2 ^ j := fun h => this (Int.mul_le_mul_of_nonneg_right h (by omega))
    omega
  have x2 : leftS M m + 1 ≤ (leftS L m + 1) * 2 ^ j := by
    have : ¬ (leftS L m + 1) * 2 ^ j * 2 ^ cutS M m ≤ leftS M m * 2 ^ cutS M m := by
      rw [Int.mul_assoc, ← e2, Int.add_mul]; omega
    have h : ¬ (leftS L m + 1) * 2 ^ j ≤ leftS M m := fun h => this (Int.mul_le_mul_of_nonneg_right h (by omega))
    omega
  have y1 : leftS L m * 2 ^ j * 2 ^ cutS M m ≤ leftS M m * 2 ^ cutS M m := Int.mul_le_mul_of_nonneg_right x1 (by omega)
  have y2 : (leftS M m + 1) * 2 ^ cutS M m ≤ (leftS L m + 1) * 2 ^ j * 2 ^ cutS M m := Int.mul_le_mul_of_nonneg_right x2 (by omega)
  rw [Int.mul_assoc, ← e2, Int.add_mul, Int.add_mul] at y2
  refine ⟨by omega, ?_⟩
  unfold hiS; omega
end Go.Proofs.YtnngjcpdnfchbaaDoor
