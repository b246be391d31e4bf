/-
  Plain mathematics of a long division by two digits of 32 bits (Knuth's, of a divisor that fills 64 bits).
-/
import Derived.Test.YtjmkkglmckiknaaMath
import Derived.Lib.ItoaNum
import Derived.Laws.Bits64b
namespace Go.Proofs.Ytjmkkglmckiknaa
set_option linter.unusedVariables false
open Go.RowKit

/-- The divisor's parts. -/
theorem digit_le_iff {u v1 v0 d q r : Int} (hr : r = u - q * v1) (hv : 0 < v1 * 4294967296 + v0) :
    q ≤ (u * 4294967296 + d) / (v1 * 4294967296 + v0) ↔ q * v0 ≤ 4294967296 * r + d := by
  rw [Int.le_ediv_iff_mul_le hv, Int.mul_add, ← Int.mul_assoc]
  subst hr
  generalize q * v1 = a
  generalize q * v0 = b
  omega
theorem digit_lt {u v d : Int} (hu : u < v) (h0 : 0 ≤ u) (hd : d < 4294967296) : (u * 4294967296 + d) / v < 4294967296 := by
  refine Int.ediv_lt_of_lt_mul (by omega) ?_
  omega
theorem digit_nonneg {u v d : Int} (hu : 0 ≤ u) (hv : 0 < v) (hd : 0 ≤ d) : 0 ≤ (u * 4294967296 + d) / v := Int.ediv_nonneg (by omega) (by omega)

/-- The first guess. -/
theorem digit_start {u v1 v0 d : Int} (hu : 0 ≤ u) (hv1 : 0 < v1) (hv0 : 0 ≤ v0) (hd : d < 4294967296) (hd0 : 0 ≤ d) :
    (u * 4294967296 + d) / (v1 * 4294967296 + v0) ≤ u / v1 := by
  rw [Int.le_ediv_iff_mul_le hv1]
  have hv : 0 < v1 * 4294967296 + v0 := by omega
  have h1 := Int.ediv_mul_le (u * 4294967296 + d) (b := v1 * 4294967296 + v0) (by omega)
  have hq := digit_nonneg (u := u) (v := v1 * 4294967296 + v0) (d := d) hu hv hd0
  generalize (u * 4294967296 + d) / (v1 * 4294967296 + v0) = q at *
  rw [Int.mul_add, ← Int.mul_assoc] at h1
  have h2 := Int.mul_nonneg hq hv0
  generalize q * v1 = a at *
  generalize q * v0 = b at *
  omega
theorem digit_most {u v1 v0 : Int} (hu : u < v1 * 4294967296 + v0) (hv1 : 2147483648 ≤ v1) (hv0 : v0 < 4294967296) : u / v1 ≤ 4294967297 := by
  have h := Int.ediv_lt_of_lt_mul (a := u) (b := 4294967298) (c := v1) (by omega) (by omega)
  omega
/-- The guess is too great: one less will do. -/
theorem digit_down {u v1 v0 d q r : Int} (hr : r = u - q * v1) (hv : 0 < v1 * 4294967296 + v0) (hlt : (u * 4294967296 + d) / (v1 * 4294967296 + v0) < 4294967296)
    (h : 4294967296 ≤ q ∨ 4294967296 * r + d < q * v0) : (u * 4294967296 + d) / (v1 * 4294967296 + v0) ≤ q - 1 := by
  rcases h with h | h
  · omega
  · have := (not_congr (digit_le_iff (d := d) hr hv)).2 (by omega)
    omega
/-- The guess is right: what is left is great enough. -/
theorem digit_done {u v1 v0 d q r : Int} (hr : r = u - q * v1) (hv : 0 < v1 * 4294967296 + v0) (hq : (u * 4294967296 + d) / (v1 * 4294967296 + v0) ≤ q)
    (h : q * v0 ≤ 4294967296 * r + d) : q = (u * 4294967296 + d) / (v1 * 4294967296 + v0) := by
  have := (digit_le_iff (d := d) hr hv).2 h
  omega
theorem digit_break {u v1 v0 d q r : Int} (hr : r = u - q * v1) (hv : 0 < v1 * 4294967296 + v0) (hv0 : 0 ≤ v0) (hv0' : v0 < 4294967296) (hd : 0 ≤ d) (hq : (u * 4294967296 + d) / (v1 * 4294967296 + v0) ≤ q)
    (h0 : 0 ≤ q) (h1 : q ≤ 4294967296) (h2 : 4294967296 ≤ r) : q = (u * 4294967296 + d) / (v1 * 4294967296 + v0) := by
  refine digit_done hr hv hq ?_
  have := Int.mul_le_mul h1 (show v0 ≤ 4294967295 by omega) hv0 (by omega)
  omega
theorem step_left {u v1 q r : Int} (hr : r = u - q * v1) : r + v1 = u - (q - 1) * v1 := by
  rw [Int.sub_mul]; omega

/-- What is left behind a digit, by numbers that go round. -/
theorem left_over {u d v : Int} (hv : 0 < v) (hv' : v < 18446744073709551616) :
    (u * 4294967296 + d - (u * 4294967296 + d) / v * v) % 18446744073709551616 = (u * 4294967296 + d) % v := by
  have h1 := Int.ediv_mul_add_emod (u * 4294967296 + d) v
  have h2 := Int.emod_nonneg (u * 4294967296 + d) (show v ≠ 0 by omega)
  have h3 := Int.emod_lt_of_pos (u * 4294967296 + d) hv
  generalize (u * 4294967296 + d) / v * v = a at *
  omega

/-- Two digits are the whole quotient. -/
theorem two_digits {u d1 d0 v : Int} (hv : 0 < v) :
    (u * 4294967296 + d1) / v * 4294967296 + ((u * 4294967296 + d1) % v * 4294967296 + d0) / v = (u * 18446744073709551616 + d1 * 4294967296 + d0) / v ∧
    ((u * 4294967296 + d1) % v * 4294967296 + d0) % v = (u * 18446744073709551616 + d1 * 4294967296 + d0) % v := by
  have h1 := Int.ediv_mul_add_emod (u * 4294967296 + d1) v
  generalize (u * 4294967296 + d1) / v = q1 at *
  generalize (u * 4294967296 + d1) % v = r1 at *
  have h4 := Int.ediv_mul_add_emod (r1 * 4294967296 + d0) v
  have h5 := Int.emod_nonneg (r1 * 4294967296 + d0) (show v ≠ 0 by omega)
  have h6 := Int.emod_lt_of_pos (r1 * 4294967296 + d0) hv
  generalize (r1 * 4294967296 + d0) / v = q0 at *
  generalize (r1 * 4294967296 + d0) % v = r0 at *
  have h := (Int.ediv_emod_unique (a := u * 18446744073709551616 + d1 * 4294967296 + d0) (r := r0) (q := q1 * 4294967296 + q0) hv).2 ⟨by
    rw [Int.mul_add, ← Int.mul_assoc, Int.mul_comm v q1, Int.mul_comm v q0]
    generalize q1 * v = a at *
    generalize q0 * v = b at *
    omega, h5, h6⟩
  exact ⟨h.1.symm, h.2.symm⟩

/-- The divisor is moved up till it fills 64 bits. -/
theorem div_norm {y : Int} (h0 : 0 < y) (h1 : y < 18446744073709551616) :
    ∃ s : Nat, s < 64 ∧ 64 - (Lib.bitLen y.toNat : Int) = s ∧ 9223372036854775808 ≤ y * 2 ^ s ∧ y * 2 ^ s < 18446744073709551616 := by
  obtain ⟨Y, rfl⟩ := Int.eq_ofNat_of_zero_le (show 0 ≤ y by omega)
  obtain ⟨a, b, c⟩ := Lib.bitLenAux_bounds 64 Y (by omega) (by omega)
  have hL : Lib.bitLenAux 64 Y ≤ 64 := Lib.bitLen_le Y 64 (Nat.le_refl _) (by omega)
  simp only [Int.toNat_natCast]
  unfold Lib.bitLen
  generalize Lib.bitLenAux 64 Y = L at a b c hL ⊢
  refine ⟨64 - L, by omega, by omega, ?_, ?_⟩
  · have h := Nat.mul_le_mul_right (2 ^ (64 - L)) b
    rw [← Nat.pow_add, show L - 1 + (64 - L) = 63 by omega] at h
    have e : ((Y : Int) * 2 ^ (64 - L)) = ((Y * 2 ^ (64 - L) : Nat) : Int) := by simp
    rw [e]; omega
  · have h := Nat.mul_lt_mul_of_pos_right c (Nat.pow_pos (n := 64 - L) (show 0 < 2 by omega))
    rw [← Nat.pow_add, show L + (64 - L) = 64 by omega] at h
    have e : ((Y : Int) * 2 ^ (64 - L)) = ((Y * 2 ^ (64 - L) : Nat) : Int) := by simp
    rw [e]; omega

theorem pow_parts {s : Nat} (h : s < 64) : ((2 : Int) ^ s) * 2 ^ (64 - s) = 18446744073709551616 ∧ 1 ≤ (2 : Int) ^ s ∧ 1 ≤ (2 : Int) ^ (64 - s) := by
  refine ⟨?_, ?_, ?_⟩
  · rw [← Int.pow_add, show s + (64 - s) = 64 by omega]; rfl
  · have : 0 < (2 : Int) ^ s := Int.pow_pos (by omega); omega
  · have : 0 < (2 : Int) ^ (64 - s) := Int.pow_pos (by omega); omega
/-- The lower half of a word. -/
theorem mask32 {a : Int} (h0 : 0 ≤ a) (h1 : a < 18446744073709551616) : bits .and .u64 a 4294967295 = a % 4294967296 := by
  obtain ⟨n, rfl⟩ := Int.eq_ofNat_of_zero_le h0
  have h := bits_and_u64_nat n 4294967295 (by omega) (by omega)
  have e : n &&& 4294967295 = n % 4294967296 := Nat.and_two_pow_sub_one_eq_mod n 32
  rw [e] at h
  exact h
/-- Two parts that don't meet. -/
theorem or_parts {a b : Int} {s : Nat} (ha : 0 ≤ a) (hb : 0 ≤ b) (hb' : b < 2 ^ s) (h1 : a * 2 ^ s + b < 18446744073709551616) :
    bits .or .u64 (a * 2 ^ s) b = a * 2 ^ s + b := by
  obtain ⟨a, rfl⟩ := Int.eq_ofNat_of_zero_le ha
  obtain ⟨b, rfl⟩ := Int.eq_ofNat_of_zero_le hb
  have e1 : (a : Int) * 2 ^ s = ((a * 2 ^ s : Nat) : Int) := by simp
  have e2 : b < 2 ^ s := by
    have e : ((2 : Int) ^ s) = ((2 ^ s : Nat) : Int) := by simp
    rw [e] at hb'; omega
  rw [e1] at h1 ⊢
  rw [bits_or_u64_nat _ _ (by omega) (by omega), Nat.mul_comm a, ← Nat.two_pow_add_eq_or_of_lt e2 a]
  simp
/-- A number moved up by so many bits, in words. -/
theorem norm_parts {hi lo y : Int} {s : Nat} (hs : s < 64) (h0 : 0 ≤ hi) (hy : hi < y) (l0 : 0 ≤ lo) (l1 : lo < 18446744073709551616) (hv : y * 2 ^ s < 18446744073709551616) :
    IntKind.u64.wrap (y * 2 ^ s) = y * 2 ^ s ∧ IntKind.u64.wrap (hi * 2 ^ s) = hi * 2 ^ s ∧ bits .or .u64 (hi * 2 ^ s) (lo / 2 ^ (64 - s)) = hi * 2 ^ s + lo / 2 ^ (64 - s) ∧
    0 ≤ hi * 2 ^ s + lo / 2 ^ (64 - s) ∧ hi * 2 ^ s + lo / 2 ^ (64 - s) < y * 2 ^ s ∧
    (hi * 2 ^ s + lo / 2 ^ (64 - s)) * 18446744073709551616 + IntKind.u64.wrap (lo * 2 ^ s) = wval hi lo * 2 ^ s := by
  obtain ⟨p1, p2, p3⟩ := pow_parts hs
  have q1 : lo / 2 ^ (64 - s) < 2 ^ s := Int.ediv_lt_of_lt_mul (by omega) (by rw [p1]; exact l1)
  have q0 : 0 ≤ lo / 2 ^ (64 - s) := Int.ediv_nonneg l0 (by omega)
  have g0 : 0 ≤ hi * 2 ^ s := Int.mul_nonneg h0 (by omega)
  have g1 : hi * 2 ^ s + 2 ^ s ≤ y * 2 ^ s := by
    have := Int.mul_le_mul_of_nonneg_right (show hi + 1 ≤ y by omega) (show (0 : Int) ≤ 2 ^ s by omega)
    rw [Int.add_mul] at this; omega
  have e6 : (hi * 2 ^ s + lo / 2 ^ (64 - s)) * 18446744073709551616 + IntKind.u64.wrap (lo * 2 ^ s) = wval hi lo * 2 ^ s := by
    have d1 : lo * 2 ^ s / 18446744073709551616 = lo / 2 ^ (64 - s) := by
      rw [← p1, Int.mul_comm ((2 : Int) ^ s), Int.mul_ediv_mul_of_pos_left _ _ (by omega)]
    rw [IntKind.wrap_u64, ← d1]
    unfold wval
    rw [Int.add_mul (hi * 18446744073709551616), Int.mul_assoc hi, Int.mul_comm 18446744073709551616, ← Int.mul_assoc hi]
    generalize hi * 2 ^ s = a
    generalize lo * 2 ^ s = b
    omega
  refine ⟨?_, ?_, or_parts h0 q0 q1 (by omega), by omega, by omega, e6⟩
  · rw [IntKind.wrap_u64]; omega
  · rw [IntKind.wrap_u64]; omega
/-- The quotient, and what is left, of numbers that were both moved up. -/
theorem moved_back {n y : Int} {s : Nat} (hs : s < 64) : n * 2 ^ s / (y * 2 ^ s) = n / y ∧ n * 2 ^ s % (y * 2 ^ s) / 2 ^ s = n % y := by
  obtain ⟨p1, p2, p3⟩ := pow_parts hs
  refine ⟨Int.mul_ediv_mul_of_pos_left _ _ (by omega), ?_⟩
  have e : n * 2 ^ s % (y * 2 ^ s) = n % y * 2 ^ s := by
    rw [Int.mul_comm n, Int.mul_comm y, Int.mul_emod_mul_of_pos _ _ (by omega), Int.mul_comm]
  rw [e, Int.mul_ediv_cancel _ (by omega)]
/-- The first loop's and the second loop's relation: the guess, and what is left by it. -/
structure DigRel (u v v1 v0 d a b : Int) : Prop where
  low : (u * 4294967296 + d) / v ≤ a
  high : a ≤ 4294967297
  left : b = u - a * v1
  b0 : 0 ≤ b
  b1 : b < 4294967296
/-- What the loop is over: a divisor of two halves, an upper part that is less, one more half. -/
structure DigOver (u v v1 v0 d : Int) : Prop where
  u0 : 0 ≤ u
  uv : u < v
  parts : v = v1 * 4294967296 + v0
  v1lo : 2147483648 ≤ v1
  v1hi : v1 < 4294967296
  v0lo : 0 ≤ v0
  v0hi : v0 < 4294967296
  d0 : 0 ≤ d
  d1 : d < 4294967296
theorem DigOver.start {u v v1 v0 d : Int} (o : DigOver u v v1 v0 d) : DigRel u v v1 v0 d (u / v1) (u - u / v1 * v1) := by
  obtain ⟨u0, uv, rfl, v1lo, v1hi, v0lo, v0hi, d0, d1⟩ := o
  have h1 := Int.ediv_mul_le u (b := v1) (by omega)
  have h2 := Int.ediv_mul_add_emod u v1
  have h3 := Int.emod_lt_of_pos u (show 0 < v1 by omega)
  exact ⟨digit_start u0 (by omega) v0lo d1 d0, digit_most uv v1lo v0hi, rfl, by omega, by omega⟩
theorem DigOver.pos {u v v1 v0 d : Int} (o : DigOver u v v1 v0 d) : 0 ≤ (u * 4294967296 + d) / v ∧ (u * 4294967296 + d) / v < 4294967296 := by
  have hp := o.parts; have h1 := o.v1lo; have h2 := o.v0lo
  exact ⟨digit_nonneg o.u0 (by omega) o.d0, digit_lt o.uv o.u0 o.d1⟩
theorem DigOver.prod {u v v1 v0 d a b : Int} (o : DigOver u v v1 v0 d) (r : DigRel u v v1 v0 d a b) : 0 ≤ a * v0 ∧ a * v0 ≤ 18446744073709551615 := by
  have h0 := o.pos.1; have h1 := r.low; have h2 := o.v0lo; have h3 := o.v0hi
  refine ⟨Int.mul_nonneg (by omega) h2, ?_⟩
  have := Int.mul_le_mul r.high (show v0 ≤ 4294967295 by omega) h2 (by omega)
  omega
theorem DigOver.next {u v v1 v0 d a b : Int} (o : DigOver u v v1 v0 d) (r : DigRel u v v1 v0 d a b) (h : 4294967296 ≤ a ∨ 4294967296 * b + d < a * v0) (g : ¬ 4294967296 ≤ b + v1) : DigRel u v v1 v0 d (a - 1) (b + v1) := by
  obtain ⟨u0, uv, rfl, v1lo, v1hi, v0lo, v0hi, d0, d1⟩ := o
  obtain ⟨low, high, left, b0, b1⟩ := r
  exact ⟨digit_down left (by omega) (digit_lt uv u0 d1) h, by omega, step_left left, by omega, by omega⟩
theorem DigOver.brk {u v v1 v0 d a b : Int} (o : DigOver u v v1 v0 d) (r : DigRel u v v1 v0 d a b) (h : 4294967296 ≤ a ∨ 4294967296 * b + d < a * v0) (g : 4294967296 ≤ b + v1) : a - 1 = (u * 4294967296 + d) / v := by
  have hp := o.pos.1
  obtain ⟨u0, uv, rfl, v1lo, v1hi, v0lo, v0hi, d0, d1⟩ := o
  obtain ⟨low, high, left, b0, b1⟩ := r
  have := digit_down left (by omega) (digit_lt uv u0 d1) h
  exact digit_break (step_left left) (by omega) v0lo v0hi d0 this (by omega) (by omega) g
theorem DigOver.done {u v v1 v0 d a b : Int} (o : DigOver u v v1 v0 d) (r : DigRel u v v1 v0 d a b) (h : ¬ 4294967296 * b + d < a * v0) : a = (u * 4294967296 + d) / v := by
  obtain ⟨u0, uv, rfl, v1lo, v1hi, v0lo, v0hi, d0, d1⟩ := o
  obtain ⟨low, high, left, b0, b1⟩ := r
  exact digit_done left (by omega) low (by omega)
theorem DigOver.one {u v v1 v0 d a b : Int} (o : DigOver u v v1 v0 d) (r : DigRel u v v1 v0 d a b) (h : 4294967296 ≤ a ∨ 4294967296 * b + d < a * v0) : 1 ≤ a := by
  have hp := o.pos.1
  obtain ⟨u0, uv, rfl, v1lo, v1hi, v0lo, v0hi, d0, d1⟩ := o
  have := digit_down r.left (by omega) (digit_lt uv u0 d1) h
  omega
theorem DigOver.guess {u v v1 v0 d : Int} (o : DigOver u v v1 v0 d) : 0 ≤ u / v1 ∧ u / v1 ≤ 4294967297 ∧ u / v1 * v1 ≤ u ∧ 0 ≤ u / v1 * v1 ∧ u - u / v1 * v1 < v1 := by
  obtain ⟨u0, uv, rfl, v1lo, v1hi, v0lo, v0hi, d0, d1⟩ := o
  have k0 : 0 ≤ u / v1 := Int.ediv_nonneg u0 (by omega)
  have h2 := Int.ediv_mul_add_emod u v1
  have h3 := Int.emod_lt_of_pos u (show 0 < v1 by omega)
  exact ⟨k0, digit_most uv v1lo v0hi, Int.ediv_mul_le u (by omega), Int.mul_nonneg k0 (by omega), by omega⟩
/-- What is left behind a digit, as the program reckons it. -/
theorem DigOver.wraps {u v v1 v0 d : Int} (o : DigOver u v v1 v0 d) (hv : v < 18446744073709551616) :
    IntKind.u64.wrap (IntKind.u64.wrap (IntKind.u64.wrap (u * 4294967296) + d) - IntKind.u64.wrap ((u * 4294967296 + d) / v * v)) = (u * 4294967296 + d) % v := by
  have hp := o.parts; have h1 := o.v1lo; have h2 := o.v0lo
  have h := left_over (u := u) (d := d) (v := v) (by omega) hv
  rw [← h]
  simp only [IntKind.wrap_u64]
  generalize (u * 4294967296 + d) / v * v = a
  omega
theorem DigOver.left {u v v1 v0 d : Int} (o : DigOver u v v1 v0 d) : 0 ≤ (u * 4294967296 + d) % v ∧ (u * 4294967296 + d) % v < v := by
  have hp := o.parts; have h1 := o.v1lo; have h2 := o.v0lo
  exact ⟨Int.emod_nonneg _ (by omega), Int.emod_lt_of_pos _ (by omega)⟩

end Go.Proofs.Ytjmkkglmckiknaa
