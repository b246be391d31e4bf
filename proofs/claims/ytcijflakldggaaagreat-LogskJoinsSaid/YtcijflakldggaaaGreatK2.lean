/-
  Texts joined, in build order: DivMath, DivA, Over, CellF, WideB, WideD, ROver, WideE, Ref11, Less, Small, SpanB, SpanA, RefN, BinT, RefP, CellB.
-/
import Derived.Test.YtcijflakldggaaaGreatK1
import Derived.Lib.ItoaNum
import Derived.Laws.Bits64b
import Derived.Deep.DeepCutAuto
import Derived.Deep.CutBlock
import Derived.WalkSmall
import Derived.Deep.RegionWith
import Derived.Lib.SmallJoins
import Derived.Test.YtcijflakldggaaaGreatRows
import Derived.LoopTactic
import Derived.Deep.RegionHeld3
import Derived.Deep.QuietTactic
import Derived.BigQuiet
/-
  Plain mathematics of a long division by two digits of 32 bits (Knuth's, of a divisor that fills 64 bits).
-/
namespace Go.Proofs.YtcijflakldggaaaGreat
set_option linter.unusedVariables false
open Go.RowKit

/-- The divisor's parts. -/
theorem digit_le_iff {u v1 v0 d q r : Int} (hr : r = u - q * v1) (hv : 0 < v1 * 4294967296 + v0) :
    q ≤ (u * 4294967296 + d) / (v1 * 4294967296 + v0) ↔ q * v0 ≤ 4294967296 * r + d := by
  rw [Int.le_ediv_iff_mul_le hv, Int.mul_add, ← Int.mul_assoc]
  subst hr
  generalize q * v1 = a
  generalize q * v0 = b
  omega
theorem digit_lt {u v d : Int} (hu : u < v) (h0 : 0 ≤ u) (hd : d < 4294967296) : (u * 4294967296 + d) / v < 4294967296 := by
  refine Int.ediv_lt_of_lt_mul (by omega) ?_
  omega
theorem digit_nonneg {u v d : Int} (hu : 0 ≤ u) (hv : 0 < v) (hd : 0 ≤ d) : 0 ≤ (u * 4294967296 + d) / v := Int.ediv_nonneg (by omega) (by omega)

/-- The first guess. -/
theorem digit_start {u v1 v0 d : Int} (hu : 0 ≤ u) (hv1 : 0 < v1) (hv0 : 0 ≤ v0) (hd : d < 4294967296) (hd0 : 0 ≤ d) :
    (u * 4294967296 + d) / (v1 * 4294967296 + v0) ≤ u / v1 := by
  rw [Int.le_ediv_iff_mul_le hv1]
  have hv : 0 < v1 * 4294967296 + v0 := by omega
  have h1 := Int.ediv_mul_le (u * 4294967296 + d) (b := v1 * 4294967296 + v0) (by omega)
  have hq := digit_nonneg (u := u) (v := v1 * 4294967296 + v0) (d := d) hu hv hd0
  generalize (u * 4294967296 + d) / (v1 * 4294967296 + v0) = q at *
  rw [Int.mul_add, ← Int.mul_assoc] at h1
  have h2 := Int.mul_nonneg hq hv0
  generalize q * v1 = a at *
  generalize q * v0 = b at *
  omega
theorem digit_most {u v1 v0 : Int} (hu : u < v1 * 4294967296 + v0) (hv1 : 2147483648 ≤ v1) (hv0 : v0 < 4294967296) : u / v1 ≤ 4294967297 := by
  have h := Int.ediv_lt_of_lt_mul (a := u) (b := 4294967298) (c := v1) (by omega) (by omega)
  omega
/-- The guess is too great: one less will do. -/
theorem digit_down {u v1 v0 d q r : Int} (hr : r = u - q * v1) (hv : 0 < v1 * 4294967296 + v0) (hlt : (u * 4294967296 + d) / (v1 * 4294967296 + v0) < 4294967296)
    (h : 4294967296 ≤ q ∨ 4294967296 * r + d < q * v0) : (u * 4294967296 + d) / (v1 * 4294967296 + v0) ≤ q - 1 := by
  rcases h with h | h
  · omega
  · have := (not_congr (digit_le_iff (d := d) hr hv)).2 (by omega)
    omega
/-- The guess is right: what is left is great enough. -/
theorem digit_done {u v1 v0 d q r : Int} (hr : r = u - q * v1) (hv : 0 < v1 * 4294967296 + v0) (hq : (u * 4294967296 + d) / (v1 * 4294967296 + v0) ≤ q)
    (h : q * v0 ≤ 4294967296 * r + d) : q = (u * 4294967296 + d) / (v1 * 4294967296 + v0) := by
  have := (digit_le_iff (d := d) hr hv).2 h
  omega
theorem digit_break {u v1 v0 d q r : Int} (hr : r = u - q * v1) (hv : 0 < v1 * 4294967296 + v0) (hv0 : 0 ≤ v0) (hv0' : v0 < 4294967296) (hd : 0 ≤ d) (hq : (u * 4294967296 + d) / (v1 * 4294967296 + v0) ≤ q)
    (h0 : 0 ≤ q) (h1 : q ≤ 4294967296) (h2 : 4294967296 ≤ r) : q = (u * 4294967296 + d) / (v1 * 4294967296 + v0) := by
  refine digit_done hr hv hq ?_
  have := Int.mul_le_mul h1 (show v0 ≤ 4294967295 by omega) hv0 (by omega)
  omega
theorem step_left {u v1 q r : Int} (hr : r = u - q * v1) : r + v1 = u - (q - 1) * v1 := by
  rw [Int.sub_mul]; omega

/-- What is left behind a digit, by numbers that go round. -/
theorem left_over {u d v : Int} (hv : 0 < v) (hv' : v < 18446744073709551616) :
    (u * 4294967296 + d - (u * 4294967296 + d) / v * v) % 18446744073709551616 = (u * 4294967296 + d) % v := by
  have h1 := Int.ediv_mul_add_emod (u * 4294967296 + d) v
  have h2 := Int.emod_nonneg (u * 4294967296 + d) (show v ≠ 0 by omega)
  have h3 := Int.emod_lt_of_pos (u * 4294967296 + d) hv
  generalize (u * 4294967296 + d) / v * v = a at *
  omega

/-- Two digits are the whole quotient. -/
theorem two_digits {u d1 d0 v : Int} (hv : 0 < v) :
    (u * 4294967296 + d1) / v * 4294967296 + ((u * 4294967296 + d1) % v * 4294967296 + d0) / v = (u * 18446744073709551616 + d1 * 4294967296 + d0) / v ∧
    ((u * 4294967296 + d1) % v * 4294967296 + d0) % v = (u * 18446744073709551616 + d1 * 4294967296 + d0) % v := by
  have h1 := Int.ediv_mul_add_emod (u * 4294967296 + d1) v
  generalize (u * 4294967296 + d1) / v = q1 at *
  generalize (u * 4294967296 + d1) % v = r1 at *
  have h4 := Int.ediv_mul_add_emod (r1 * 4294967296 + d0) v
  have h5 := Int.emod_nonneg (r1 * 4294967296 + d0) (show v ≠ 0 by omega)
  have h6 := Int.emod_lt_of_pos (r1 * 4294967296 + d0) hv
  generalize (r1 * 4294967296 + d0) / v = q0 at *
  generalize (r1 * 4294967296 + d0) % v = r0 at *
  have h := (Int.ediv_emod_unique (a := u * 18446744073709551616 + d1 * 4294967296 + d0) (r := r0) (q := q1 * 4294967296 + q0) hv).2 ⟨by
    rw [Int.mul_add, ← Int.mul_assoc, Int.mul_comm v q1, Int.mul_comm v q0]
    generalize q1 * v = a at *
    generalize q0 * v = b at *
    omega, h5, h6⟩
  exact ⟨h.1.symm, h.2.symm⟩

/-- The divisor is moved up till it fills 64 bits. -/
theorem div_norm {y : Int} (h0 : 0 < y) (h1 : y < 18446744073709551616) :
    ∃ s : Nat, s < 64 ∧ 64 - (Lib.bitLen y.toNat : Int) = s ∧ 9223372036854775808 ≤ y * 2 ^ s ∧ y * 2 ^ s < 18446744073709551616 := by
  obtain ⟨Y, rfl⟩ := Int.eq_ofNat_of_zero_le (show 0 ≤ y by omega)
  obtain ⟨a, b, c⟩ := Lib.bitLenAux_bounds 64 Y (by omega) (by omega)
  have hL : Lib.bitLenAux 64 Y ≤ 64 := Lib.bitLen_le Y 64 (Nat.le_refl _) (by omega)
  simp only [Int.toNat_natCast]
  unfold Lib.bitLen
  generalize Lib.bitLenAux 64 Y = L at a b c hL ⊢
  refine ⟨64 - L, by omega, by omega, ?_, ?_⟩
  · have h := Nat.mul_le_mul_right (2 ^ (64 - L)) b
    rw [← Nat.pow_add, show L - 1 + (64 - L) = 63 by omega] at h
    have e : ((Y : Int) * 2 ^ (64 - L)) = ((Y * 2 ^ (64 - L) : Nat) : Int) := by simp
    rw [e]; omega
  · have h := Nat.mul_lt_mul_of_pos_right c (Nat.pow_pos (n := 64 - L) (show 0 < 2 by omega))
    rw [← Nat.pow_add, show L + (64 - L) = 64 by omega] at h
    have e : ((Y : Int) * 2 ^ (64 - L)) = ((Y * 2 ^ (64 - L) : Nat) : Int) := by simp
    rw [e]; omega

theorem pow_parts {s : Nat} (h : s < 64) : ((2 : Int) ^ s) * 2 ^ (64 - s) = 18446744073709551616 ∧ 1 ≤ (2 : Int) ^ s ∧ 1 ≤ (2 : Int) ^ (64 - s) := by
  refine ⟨?_, ?_, ?_⟩
  · rw [← Int.pow_add, show s + (64 - s) = 64 by omega]; rfl
  · have : 0 < (2 : Int) ^ s := Int.pow_pos (by omega); omega
  · have : 0 < (2 : Int) ^ (64 - s) := Int.pow_pos (by omega); omega
/-- The lower half of a word. -/
theorem mask32 {a : Int} (h0 : 0 ≤ a) (h1 : a < 18446744073709551616) : bits .and .u64 a 4294967295 = a % 4294967296 := by
  obtain ⟨n, rfl⟩ := Int.eq_ofNat_of_zero_le h0
  have h := bits_and_u64_nat n 4294967295 (by omega) (by omega)
  have e : n &&& 4294967295 = n % 4294967296 := Nat.and_two_pow_sub_one_eq_mod n 32
  rw [e] at h
  exact h
/-- Two parts that don't meet. -/
theorem or_parts {a b : Int} {s : Nat} (ha : 0 ≤ a) (hb : 0 ≤ b) (hb' : b < 2 ^ s) (h1 : a * 2 ^ s + b < 18446744073709551616) :
    bits .or .u64 (a * 2 ^ s) b = a * 2 ^ s + b := by
  obtain ⟨a, rfl⟩ := Int.eq_ofNat_of_zero_le ha
  obtain ⟨b, rfl⟩ := Int.eq_ofNat_of_zero_le hb
  have e1 : (a : Int) * 2 ^ s = ((a * 2 ^ s : Nat) : Int) := by simp
  have e2 : b < 2 ^ s := by
    have e : ((2 : Int) ^ s) = ((2 ^ s : Nat) : Int) := by simp
    rw [e] at hb'; omega
  rw [e1] at h1 ⊢
  rw [bits_or_u64_nat _ _ (by omega) (by omega), Nat.mul_comm a, ← Nat.two_pow_add_eq_or_of_lt e2 a]
  simp
/-- A number moved up by so many bits, in words. -/
theorem norm_parts {hi lo y : Int} {s : Nat} (hs : s < 64) (h0 : 0 ≤ hi) (hy : hi < y) (l0 : 0 ≤ lo) (l1 : lo < 18446744073709551616) (hv : y * 2 ^ s < 18446744073709551616) :
    IntKind.u64.wrap (y * 2 ^ s) = y * 2 ^ s ∧ IntKind.u64.wrap (hi * 2 ^ s) = hi * 2 ^ s ∧ bits .or .u64 (hi * 2 ^ s) (lo / 2 ^ (64 - s)) = hi * 2 ^ s + lo / 2 ^ (64 - s) ∧
    0 ≤ hi * 2 ^ s + lo / 2 ^ (64 - s) ∧ hi * 2 ^ s + lo / 2 ^ (64 - s) < y * 2 ^ s ∧
    (hi * 2 ^ s + lo / 2 ^ (64 - s)) * 18446744073709551616 + IntKind.u64.wrap (lo * 2 ^ s) = wval hi lo * 2 ^ s := by
  obtain ⟨p1, p2, p3⟩ := pow_parts hs
  have q1 : lo / 2 ^ (64 - s) < 2 ^ s := Int.ediv_lt_of_lt_mul (by omega) (by rw [p1]; exact l1)
  have q0 : 0 ≤ lo / 2 ^ (64 - s) := Int.ediv_nonneg l0 (by omega)
  have g0 : 0 ≤ hi * 2 ^ s := Int.mul_nonneg h0 (by omega)
  have g1 : hi * 2 ^ s + 2 ^ s ≤ y * 2 ^ s := by
    have := Int.mul_le_mul_of_nonneg_right (show hi + 1 ≤ y by omega) (show (0 : Int) ≤ 2 ^ s by omega)
    rw [Int.add_mul] at this; omega
  have e6 : (hi * 2 ^ s + lo / 2 ^ (64 - s)) * 18446744073709551616 + IntKind.u64.wrap (lo * 2 ^ s) = wval hi lo * 2 ^ s := by
    have d1 : lo * 2 ^ s / 18446744073709551616 = lo / 2 ^ (64 - s) := by
      rw [← p1, Int.mul_comm ((2 : Int) ^ s), Int.mul_ediv_mul_of_pos_left _ _ (by omega)]
    rw [IntKind.wrap_u64, ← d1]
    unfold wval
    rw [Int.add_mul (hi * 18446744073709551616), Int.mul_assoc hi, Int.mul_comm 18446744073709551616, ← Int.mul_assoc hi]
    generalize hi * 2 ^ s = a
    generalize lo * 2 ^ s = b
    omega
  refine ⟨?_, ?_, or_parts h0 q0 q1 (by omega), by omega, by omega, e6⟩
  · rw [IntKind.wrap_u64]; omega
  · rw [IntKind.wrap_u64]; omega
/-- The quotient, and what is left, of numbers that were both moved up. -/
theorem moved_back {n y : Int} {s : Nat} (hs : s < 64) : n * 2 ^ s / (y * 2 ^ s) = n / y ∧ n * 2 ^ s % (y * 2 ^ s) / 2 ^ s = n % y := by
  obtain ⟨p1, p2, p3⟩ := pow_parts hs
  refine ⟨Int.mul_ediv_mul_of_pos_left _ _ (by omega), ?_⟩
  have e : n * 2 ^ s % (y * 2 ^ s) = n % y * 2 ^ s := by
    rw [Int.mul_comm n, Int.mul_comm y, Int.mul_emod_mul_of_pos _ _ (by omega), Int.mul_comm]
  rw [e, Int.mul_ediv_cancel _ (by omega)]
/-- The first loop's and the second loop's relation: the guess, and what is left by it. -/
structure DigRel (u v v1 v0 d a b : Int) : Prop where
  low : (u * 4294967296 + d) / v ≤ a
  high : a ≤ 4294967297
  left : b = u - a * v1
  b0 : 0 ≤ b
  b1 : b < 4294967296
/-- What the loop is over: a divisor of two halves, an upper part that is less, one more half. -/
structure DigOver (u v v1 v0 d : Int) : Prop where
  u0 : 0 ≤ u
  uv : u < v
  parts : v = v1 * 4294967296 + v0
  v1lo : 2147483648 ≤ v1
  v1hi : v1 < 4294967296
  v0lo : 0 ≤ v0
  v0hi : v0 < 4294967296
  d0 : 0 ≤ d
  d1 : d < 4294967296
theorem DigOver.start {u v v1 v0 d : Int} (o : DigOver u v v1 v0 d) : DigRel u v v1 v0 d (u / v1) (u - u / v1 * v1) := by
  obtain ⟨u0, uv, rfl, v1lo, v1hi, v0lo, v0hi, d0, d1⟩ := o
  have h1 := Int.ediv_mul_le u (b := v1) (by omega)
  have h2 := Int.ediv_mul_add_emod u v1
  have h3 := Int.emod_lt_of_pos u (show 0 < v1 by omega)
  exact ⟨digit_start u0 (by omega) v0lo d1 d0, digit_most uv v1lo v0hi, rfl, by omega, by omega⟩
theorem DigOver.pos {u v v1 v0 d : Int} (o : DigOver u v v1 v0 d) : 0 ≤ (u * 4294967296 + d) / v ∧ (u * 4294967296 + d) / v < 4294967296 := by
  have hp := o.parts; have h1 := o.v1lo; have h2 := o.v0lo
  exact ⟨digit_nonneg o.u0 (by omega) o.d0, digit_lt o.uv o.u0 o.d1⟩
theorem DigOver.prod {u v v1 v0 d a b : Int} (o : DigOver u v v1 v0 d) (r : DigRel u v v1 v0 d a b) : 0 ≤ a * v0 ∧ a * v0 ≤ 18446744073709551615 := by
  have h0 := o.pos.1; have h1 := r.low; have h2 := o.v0lo; have h3 := o.v0hi
  refine ⟨Int.mul_nonneg (by omega) h2, ?_⟩
  have := Int.mul_le_mul r.high (show v0 ≤ 4294967295 by omega) h2 (by omega)
  omega
theorem DigOver.next {u v v1 v0 d a b : Int} (o : DigOver u v v1 v0 d) (r : DigRel u v v1 v0 d a b) (h : 4294967296 ≤ a ∨ 4294967296 * b + d < a * v0) (g : ¬ 4294967296 ≤ b + v1) : DigRel u v v1 v0 d (a - 1) (b + v1) := by
  obtain ⟨u0, uv, rfl, v1lo, v1hi, v0lo, v0hi, d0, d1⟩ := o
  obtain ⟨low, high, left, b0, b1⟩ := r
  exact ⟨digit_down left (by omega) (digit_lt uv u0 d1) h, by omega, step_left left, by omega, by omega⟩
theorem DigOver.brk {u v v1 v0 d a b : Int} (o : DigOver u v v1 v0 d) (r : DigRel u v v1 v0 d a b) (h : 4294967296 ≤ a ∨ 4294967296 * b + d < a * v0) (g : 4294967296 ≤ b + v1) : a - 1 = (u * 4294967296 + d) / v := by
  have hp := o.pos.1
  obtain ⟨u0, uv, rfl, v1lo, v1hi, v0lo, v0hi, d0, d1⟩ := o
  obtain ⟨low, high, left, b0, b1⟩ := r
  have := digit_down left (by omega) (digit_lt uv u0 d1) h
  exact digit_break (step_left left) (by omega) v0lo v0hi d0 this (by omega) (by omega) g
theorem DigOver.done {u v v1 v0 d a b : Int} (o : DigOver u v v1 v0 d) (r : DigRel u v v1 v0 d a b) (h : ¬ 4294967296 * b + d < a * v0) : a = (u * 4294967296 + d) / v := by
  obtain ⟨u0, uv, rfl, v1lo, v1hi, v0lo, v0hi, d0, d1⟩ := o
  obtain ⟨low, high, left, b0, b1⟩ := r
  exact digit_done left (by omega) low (by omega)
theorem DigOver.one {u v v1 v0 d a b : Int} (o : DigOver u v v1 v0 d) (r : DigRel u v v1 v0 d a b) (h : 4294967296 ≤ a ∨ 4294967296 * b + d < a * v0) : 1 ≤ a := by
  have hp := o.pos.1
  obtain ⟨u0, uv, rfl, v1lo, v1hi, v0lo, v0hi, d0, d1⟩ := o
  have := digit_down r.left (by omega) (digit_lt uv u0 d1) h
  omega
theorem DigOver.guess {u v v1 v0 d : Int} (o : DigOver u v v1 v0 d) : 0 ≤ u / v1 ∧ u / v1 ≤ 4294967297 ∧ u / v1 * v1 ≤ u ∧ 0 ≤ u / v1 * v1 ∧ u - u / v1 * v1 < v1 := by
  obtain ⟨u0, uv, rfl, v1lo, v1hi, v0lo, v0hi, d0, d1⟩ := o
  have k0 : 0 ≤ u / v1 := Int.ediv_nonneg u0 (by omega)
  have h2 := Int.ediv_mul_add_emod u v1
  have h3 := Int.emod_lt_of_pos u (show 0 < v1 by omega)
  exact ⟨k0, digit_most uv v1lo v0hi, Int.ediv_mul_le u (by omega), Int.mul_nonneg k0 (by omega), by omega⟩
/-- What is left behind a digit, as the program reckons it. -/
theorem DigOver.wraps {u v v1 v0 d : Int} (o : DigOver u v v1 v0 d) (hv : v < 18446744073709551616) :
    IntKind.u64.wrap (IntKind.u64.wrap (IntKind.u64.wrap (u * 4294967296) + d) - IntKind.u64.wrap ((u * 4294967296 + d) / v * v)) = (u * 4294967296 + d) % v := by
  have hp := o.parts; have h1 := o.v1lo; have h2 := o.v0lo
  have h := left_over (u := u) (d := d) (v := v) (by omega) hv
  rw [← h]
  simp only [IntKind.wrap_u64]
  generalize (u * 4294967296 + d) / v * v = a
  omega
theorem DigOver.left {u v v1 v0 d : Int} (o : DigOver u v v1 v0 d) : 0 ≤ (u * 4294967296 + d) % v ∧ (u * 4294967296 + d) % v < v := by
  have hp := o.parts; have h1 := o.v1lo; have h2 := o.v0lo
  exact ⟨Int.emod_nonneg _ (by omega), Int.emod_lt_of_pos _ (by omega)⟩

end Go.Proofs.YtcijflakldggaaaGreat

/-
  Walks: bits.Div64.
-/
namespace Go.Proofs.YtcijflakldggaaaGreat
set_option linter.unusedVariables false
open Go.RowKit Go.Shelf

theorem lz_any (y : Int) (s : Nat) (h0 : 0 ≤ y) (h1 : y ≤ 18446744073709551615) (hs : 64 - (Lib.bitLen y.toNat : Int) = s) (w : World) :
    Calls Tryz.prog 109 #[.int .u64 y] w fun e w' => e = .returned (.int .i64 s) ∧ w = w' := by
  rw [← hs]; exact (Tryz.bits_LeadingZeros64 y w h0 h1).mono fun e w' h => ⟨h.1, h.2.symm⟩

set_option maxHeartbeats 400000 in
theorem div64_zero (lo y : Int) (wl : Word lo) (wy : Word y) (hy : 0 < y) (w : World) :
    Calls Tryz.prog 94 #[.int .u64 0, .int .u64 lo, .int .u64 y] w fun e w' =>
      e = .returned (.tuple #[.int .u64 (lo / y), .int .u64 (lo % y)]) ∧ Below w.heap.size w w' := by
  obtain ⟨l1, l2⟩ := wl
  obtain ⟨y1, y2⟩ := wy
  have hy0 : (y == 0) = false := by simp; omega
  have hy0' : ¬ y = 0 := by omega
  go_enter Tryz.func94, Tryz.ntmps94
  go_wp2_with fail
  go_quiet (fail)
  go_wp2
  refine bodyPost_ret (v := .tuple #[.int .u64 (lo / y), .int .u64 (lo % y)]) (by simp [results, Tryz.results94, go_sem]) rfl ⟨rfl, ?_⟩
  exact below_drewN (Below.refl _ _) _

set_option maxHeartbeats 400000 in
theorem div64_more (hi lo y : Int) (wh : Word hi) (wl : Word lo) (wy : Word y) (hh : 0 < hi) (hy : hi < y) (w : World) :
    Calls Tryz.prog 94 #[.int .u64 hi, .int .u64 lo, .int .u64 y] w fun e w' =>
      e = .returned (.tuple #[.int .u64 (wval hi lo / y), .int .u64 (wval hi lo % y)]) ∧ Below w.heap.size w w' := by
  obtain ⟨l1, l2⟩ := wl
  obtain ⟨y1, y2⟩ := wy
  obtain ⟨h1, h2⟩ := wh
  have hy0 : (y == 0) = false := by simp; omega
  have hh0 : (hi == 0) = false := by simp; omega
  obtain ⟨s, hs, hz, n1, n2⟩ := div_norm (show 0 < y by omega) y2
  obtain ⟨R1, R4, R5, u0, uv, HN⟩ := norm_parts (lo := lo) hs h1 hy l1 l2 n2
  have RES := Lib.hid (moved_back (n := wval hi lo) (y := y) hs)
  rw [← HN] at RES
  have HZ := Lib.hid hz
  clear hz HN
  have ll0 : 0 ≤ IntKind.u64.wrap (lo * 2 ^ s) ∧ IntKind.u64.wrap (lo * 2 ^ s) < 18446744073709551616 := by rw [IntKind.wrap_u64]; omega
  generalize hl : IntKind.u64.wrap (lo * 2 ^ s) = l at *
  generalize hu : hi * 2 ^ s + lo / 2 ^ (64 - s) = u at *
  generalize hv : y * 2 ^ s = v at *
  generalize hh' : hi * 2 ^ s = h' at *
  have hu' : bits .or .u64 h' (lo / 2 ^ (64 - s)) = u := by rw [R5]
  go_enter Tryz.func94, Tryz.ntmps94
  go_wp2_with fail
  refine (lz_any y s y1 (by omega) HZ.out _).mono ?_
  rintro e w' ⟨rfl, rfl⟩
  clear hu R5 HZ hh
  obtain ⟨ll1, ll2⟩ := ll0
  have M1 := mask32 (a := v) (by omega) n2
  have M2 := mask32 ll1 ll2
  have S1 := Lib.hid (Int.ediv_mul_add_emod v 4294967296)
  have S2 := Lib.hid (Int.ediv_mul_add_emod l 4294967296)
  have b1 : v / 4294967296 < 4294967296 := by omega
  have b2 : 2147483648 ≤ v / 4294967296 := by omega
  have b3 : 0 ≤ v % 4294967296 := by omega
  have b4 : v % 4294967296 < 4294967296 := by omega
  have c1 : l / 4294967296 < 4294967296 := by omega
  have c2 : 0 ≤ l / 4294967296 := by omega
  have c3 : 0 ≤ l % 4294967296 := by omega
  have c4 : l % 4294967296 < 4294967296 := by omega
  generalize v % 4294967296 = v0 at *
  generalize l % 4294967296 = d0 at *
  generalize hv1 : v / 4294967296 = v1 at *
  generalize hd1 : l / 4294967296 = d1 at *
  have o1 : DigOver u v v1 v0 d1 := ⟨u0, uv, S1.out.symm, b2, b1, b3, b4, c2, c1⟩
  have st_o1 := DigOver.start o1
  obtain ⟨k0, k1, k2, k3, k4⟩ := DigOver.guess o1
  go_upto_block 0 with fail
  go_cut [15, 16] (fun q r wx => ∃ z : Int, q = .int .u64 ((u * 4294967296 + d1) / v) ∧ r = .int .u64 z ∧ w = wx)
  case first =>
    go_wp2_with fail
    go_loop [15, 16] (fun q r => ∃ a b : Int, DigRel u v v1 v0 d1 a b ∧ q = .int .u64 a ∧ r = .int .u64 b) (fun q _ => (intOf q).toNat)
    case atStart => exact ⟨_, _, st_o1, rfl, rfl⟩
    case round =>
      obtain ⟨a, b, hr, rfl, rfl⟩ := hrel
      have a0 := hr.low; have a1 := hr.high; have bb0 := hr.b0; have bb1 := hr.b1
      obtain ⟨p0, p1⟩ := DigOver.prod o1 hr
      obtain ⟨z0, z1⟩ := DigOver.pos o1
      clear k0 k1 k2 k3 k4 st_o1
      generalize hQ : (u * 4294967296 + d1) / v = Q at a0 z0 z1
      have HQ := Lib.hid hQ
      clear hQ
      by_cases g1 : 4294967296 ≤ a
      · have a2 := DigOver.one o1 hr (.inl g1)
        by_cases g3 : 4294967296 ≤ b + v1
        · have HE := Lib.hid (DigOver.brk o1 hr (.inl g1) g3)
          go_wp2_with fail
          go_meet
          exact ⟨_, by rw [HE.out], rfl, rfl⟩
        · have HN := DigOver.next o1 hr (.inl g1) g3
          go_wp2_with fail
          go_round
          case rel => exact ⟨_, _, HN, rfl, rfl⟩
          case measure => simp [intOf]; omega
      · by_cases g2 : 4294967296 * b + d1 < a * v0
        · have a2 := DigOver.one o1 hr (.inr g2)
          by_cases g3 : 4294967296 ≤ b + v1
          · have HE := Lib.hid (DigOver.brk o1 hr (.inr g2) g3)
            go_wp2_with fail
            go_meet
            exact ⟨_, by rw [HE.out], rfl, rfl⟩
          · have HN := DigOver.next o1 hr (.inr g2) g3
            go_wp2_with fail
            go_round
            case rel => exact ⟨_, _, HN, rfl, rfl⟩
            case measure => simp [intOf]; omega
        · have HE := Lib.hid (DigOver.done o1 hr g2)
          go_wp2_with fail
          go_meet
          exact ⟨_, by rw [HE.out], rfl, rfl⟩
  case rest =>
    obtain ⟨z, rfl, rfl, rfl⟩ := hcut
    clear st_o1 k0 k1 k2 k3 k4
    have WR := DigOver.wraps o1 n2
    obtain ⟨e0, e1⟩ := DigOver.left o1
    obtain ⟨z0, z1⟩ := DigOver.pos o1
    have T := Lib.hid (two_digits (u := u) (d1 := d1) (d0 := d0) (v := v) (by omega))
    generalize (u * 4294967296 + d1) % v = u2 at *
    generalize (u * 4294967296 + d1) / v = Q1 at *
    have o2 : DigOver u2 v v1 v0 d0 := ⟨e0, e1, S1.out.symm, b2, b1, b3, b4, c3, c4⟩
    have st_o2 := DigOver.start o2
    obtain ⟨k0, k1, k2, k3, k4⟩ := DigOver.guess o2
    go_upto_block 2 with fail
    go_cut [18, 16] (fun q r wx => ∃ z : Int, q = .int .u64 ((u2 * 4294967296 + d0) / v) ∧ r = .int .u64 z ∧ w = wx)
    case first =>
      go_wp2_with fail
      go_loop [18, 16] (fun q r => ∃ a b : Int, DigRel u2 v v1 v0 d0 a b ∧ q = .int .u64 a ∧ r = .int .u64 b) (fun q _ => (intOf q).toNat)
      case atStart => exact ⟨_, _, st_o2, rfl, rfl⟩
      case round =>
        obtain ⟨a, b, hr, rfl, rfl⟩ := hrel
        have a0 := hr.low; have a1 := hr.high; have bb0 := hr.b0; have bb1 := hr.b1
        obtain ⟨p0, p1⟩ := DigOver.prod o2 hr
        obtain ⟨z0, z1⟩ := DigOver.pos o2
        clear k0 k1 k2 k3 k4 st_o2
        generalize hQ : (u2 * 4294967296 + d0) / v = Q at a0 z0 z1
        have HQ := Lib.hid hQ
        clear hQ
        by_cases g1 : 4294967296 ≤ a
        · have a2 := DigOver.one o2 hr (.inl g1)
          by_cases g3 : 4294967296 ≤ b + v1
          · have HE := Lib.hid (DigOver.brk o2 hr (.inl g1) g3)
            go_wp2_with fail
            go_meet
            exact ⟨_, by rw [HE.out], rfl, rfl⟩
          · have HN := DigOver.next o2 hr (.inl g1) g3
            go_wp2_with fail
            go_round
            case rel => exact ⟨_, _, HN, rfl, rfl⟩
            case measure => simp [intOf]; omega
        · by_cases g2 : 4294967296 * b + d0 < a * v0
          · have a2 := DigOver.one o2 hr (.inr g2)
            by_cases g3 : 4294967296 ≤ b + v1
            · have HE := Lib.hid (DigOver.brk o2 hr (.inr g2) g3)
              go_wp2_with fail
              go_meet
              exact ⟨_, by rw [HE.out], rfl, rfl⟩
            · have HN := DigOver.next o2 hr (.inr g2) g3
              go_wp2_with fail
              go_round
              case rel => exact ⟨_, _, HN, rfl, rfl⟩
              case measure => simp [intOf]; omega
          · have HE := Lib.hid (DigOver.done o2 hr g2)
            go_wp2_with fail
            go_meet
            exact ⟨_, by rw [HE.out], rfl, rfl⟩
    case rest =>
      obtain ⟨z, rfl, rfl, rfl⟩ := hcut
      clear st_o2 k0 k1 k2 k3 k4
      have WR2 := DigOver.wraps o2 n2
      obtain ⟨f0, f1⟩ := DigOver.left o2
      obtain ⟨y0, y1⟩ := DigOver.pos o2
      generalize (u2 * 4294967296 + d0) % v = r2 at *
      generalize (u2 * 4294967296 + d0) / v = Q2 at *
      go_wp2_with fail
      have e : u * 18446744073709551616 + d1 * 4294967296 + d0 = u * 18446744073709551616 + l := by have := S2.out; omega
      obtain ⟨t1, t2⟩ := T.out
      obtain ⟨r1, r3⟩ := RES.out
      rw [e] at t1 t2
      rw [← t1] at r1
      rw [← t2] at r3
      refine bodyPost_ret (v := .tuple #[.int .u64 (Q1 * 4294967296 + Q2), .int .u64 (r2 / 2 ^ s)]) (by simp [results, Tryz.results94, go_sem]) rfl ⟨by rw [r1, r3], ?_⟩
      exact Below.refl _ _

/-- math/bits.Div64, wherever it doesn't panic. -/
theorem div64_any (hi lo y : Int) (wh : Word hi) (wl : Word lo) (wy : Word y) (hy : hi < y) (w : World) :
    Calls Tryz.prog 94 #[.int .u64 hi, .int .u64 lo, .int .u64 y] w fun e w' =>
      e = .returned (.tuple #[.int .u64 (wval hi lo / y), .int .u64 (wval hi lo % y)]) ∧ Below w.heap.size w w' := by
  by_cases h : hi = 0
  · subst h
    have e : wval 0 lo = lo := by unfold wval; omega
    rw [e]
    exact div64_zero lo y wl wy hy w
  · exact div64_more hi lo y wh wl wy (by have := wh.1; omega) hy w
end Go.Proofs.YtcijflakldggaaaGreat

/-
  Walks: wide.Over, Floor and Ceil.
-/
namespace Go.Proofs.YtcijflakldggaaaGreat
set_option linter.unusedVariables false
open Go.RowKit Go.Shelf

/-- A number divided, where the quotient has room; noughts, where it hasn't. -/
def ovB (n by' : Int) : Bool := decide (0 < by' ∧ n / by' < 18446744073709551616)
def ovQ (n by' : Int) : Int := if ovB n by' = true then n / by' else 0
def ovR (n by' : Int) : Int := if ovB n by' = true then n % by' else 0
theorem ov_iff {h l y : Int} (wh : Word h) (wl : Word l) (wy : Word y) : ovB (wval h l) y = true ↔ h < y := by
  unfold ovB Word at *
  rw [decide_eq_true_iff]
  constructor
  · rintro ⟨a, b⟩
    rw [Int.ediv_lt_iff_lt_mul a] at b
    unfold wval at b; omega
  · intro a
    refine ⟨by omega, ?_⟩
    rw [Int.ediv_lt_iff_lt_mul (by omega)]
    unfold wval; omega
theorem ov_yes {h l y : Int} (wh : Word h) (wl : Word l) (wy : Word y) (hy : h < y) : ovB (wval h l) y = true ∧ ovQ (wval h l) y = wval h l / y ∧ ovR (wval h l) y = wval h l % y := by
  have e := (ov_iff (l := l) wh wl wy).2 hy
  refine ⟨e, ?_, ?_⟩
  · unfold ovQ; rw [if_pos e]
  · unfold ovR; rw [if_pos e]
theorem ov_no {h l y : Int} (wh : Word h) (wl : Word l) (wy : Word y) (hy : ¬ h < y) : ovB (wval h l) y = false ∧ ovQ (wval h l) y = 0 ∧ ovR (wval h l) y = 0 := by
  have e : ovB (wval h l) y = false := by
    cases hb : ovB (wval h l) y with
    | false => rfl
    | true => exact absurd ((ov_iff wh wl wy).1 hb) hy
  refine ⟨e, ?_, ?_⟩
  · unfold ovQ; rw [e]; rfl
  · unfold ovR; rw [e]; rfl
theorem ov_word {n y : Int} (h0 : 0 ≤ n) (wy : Word y) : Word (ovQ n y) ∧ Word (ovR n y) := by
  unfold ovQ ovR Word at *
  split
  · rename_i h
    unfold ovB at h
    rw [decide_eq_true_iff] at h
    obtain ⟨a, b⟩ := h
    have h1 := Int.ediv_nonneg h0 (show 0 ≤ y by omega)
    have h2 := Int.emod_nonneg n (show y ≠ 0 by omega)
    have h3 := Int.emod_lt_of_pos n a
    omega
  · omega

set_option maxHeartbeats 400000 in
theorem over_any (h l y : Int) (wh : Word h) (wl : Word l) (wy : Word y) (w : World) :
    Calls Tryz.prog 77 #[.agg #[.int .u64 h, .int .u64 l], .int .u64 y] w fun e w' =>
      e = .returned (.tuple #[.int .u64 (ovQ (wval h l) y), .int .u64 (ovR (wval h l) y), .bool (ovB (wval h l) y)]) ∧ Below w.heap.size w w' := by
  by_cases hy : h < y
  · obtain ⟨e1, e2, e3⟩ := ov_yes wh wl wy hy
    have E1 := Lib.hid e1; have E2 := Lib.hid e2; have E3 := Lib.hid e3
    clear e1 e2 e3
    go_enter Tryz.func77, Tryz.ntmps77
    go_wp2_with fail
    refine (div64_any h l y wh wl wy hy _).mono ?_
    rintro e wA ⟨rfl, hbA⟩
    go_wp2_with fail
    refine bodyPost_ret (v := .tuple #[.int .u64 (wval h l / y), .int .u64 (wval h l % y), .bool true]) (by simp [results, Tryz.results77, go_sem]) rfl ⟨by rw [E1.out, E2.out, E3.out], ?_⟩
    exact ((Below.refl _ _).alloc (Nat.le_refl _) _).trans (hbA.mono (by simp))
  · obtain ⟨e1, e2, e3⟩ := ov_no (l := l) wh wl wy hy
    have E1 := Lib.hid e1; have E2 := Lib.hid e2; have E3 := Lib.hid e3
    clear e1 e2 e3
    go_enter Tryz.func77, Tryz.ntmps77
    go_wp2_with fail
    refine bodyPost_ret (v := .tuple #[.int .u64 0, .int .u64 0, .bool false]) (by simp [results, Tryz.results77, go_sem]) rfl ⟨by rw [E1.out, E2.out, E3.out], ?_⟩
    exact (Below.refl _ _).alloc (Nat.le_refl _) _

/-- The same, of a number that two words tell. -/
theorem over_num (n y : Int) (h0 : 0 ≤ n) (h1 : n < 340282366920938463463374607431768211456) (wy : Word y) (w : World) :
    Calls Tryz.prog 77 #[.agg #[.int .u64 (hiW n), .int .u64 (loW n)], .int .u64 y] w fun e w' =>
      e = .returned (.tuple #[.int .u64 (ovQ n y), .int .u64 (ovR n y), .bool (ovB n y)]) ∧ Below w.heap.size w w' := by
  have h := over_any (hiW n) (loW n) y (word_hi n) (word_lo n) wy w
  rw [wval_split h0 h1] at h
  exact h

set_option maxHeartbeats 400000 in
theorem floor_any (a b y : Int) (wa : Word a) (wb : Word b) (wy : Word y) (w : World) :
    Calls Tryz.prog 91 #[.int .u64 a, .int .u64 b, .int .u64 y] w fun e w' =>
      e = .returned (.tuple #[.int .u64 (ovQ (a * b) y), .bool (ovB (a * b) y)]) ∧ Below w.heap.size w w' := by
  obtain ⟨n0, n1⟩ := mul_bd wa wb
  go_enter Tryz.func91, Tryz.ntmps91
  go_wp2_with fail
  refine (times_any a b wa wb _).mono ?_
  rintro e wA ⟨rfl, hbA⟩
  go_wp2_with fail
  refine (over_num (a * b) y n0 n1 wy _).mono ?_
  rintro e wB ⟨rfl, hbB⟩
  go_wp2_with fail
  refine bodyPost_ret (v := .tuple #[.int .u64 (ovQ (a * b) y), .bool (ovB (a * b) y)]) (by simp [results, Tryz.results91, go_sem]) rfl ⟨rfl, ?_⟩
  exact hbA.trans (hbB.mono hbA.size)

/-- A product divided, rounded up. -/
def clB (n y : Int) : Bool := ovB n y && !(decide (0 < ovR n y) && ovQ n y == 18446744073709551615)
def clQ (n y : Int) : Int := if clB n y = true then (if 0 < ovR n y then ovQ n y + 1 else ovQ n y) else 0
theorem cl_zero {n y : Int} (h : ovR n y = 0) : clB n y = ovB n y ∧ clQ n y = ovQ n y := by
  have e : clB n y = ovB n y := by unfold clB; rw [h]; simp
  refine ⟨e, ?_⟩
  unfold clQ; rw [e, h]; simp only [Int.lt_irrefl, if_false]
  split
  · rfl
  · rename_i hn; unfold ovQ; rw [if_neg hn]
theorem ovR_pos {n y : Int} (h0 : 0 ≤ n) (wy : Word y) (h : ¬ ovR n y = 0) : 0 < ovR n y ∧ ovB n y = true := by
  have := (ov_word h0 wy).2.1
  refine ⟨by omega, ?_⟩
  cases hb : ovB n y with
  | true => rfl
  | false => exfalso; apply h; unfold ovR; rw [hb]; rfl
theorem cl_more {n y : Int} (h0 : 0 ≤ n) (wy : Word y) (h : ¬ ovR n y = 0) : ((ovQ n y + 1) / 18446744073709551616 == 0) = clB n y ∧ (ovQ n y + 1) % 18446744073709551616 = clQ n y := by
  obtain ⟨hp, hb⟩ := ovR_pos h0 wy h
  obtain ⟨q0, q1⟩ := (ov_word h0 wy).1
  have e : clB n y = ((ovQ n y + 1) / 18446744073709551616 == 0) := by
    unfold clB; rw [hb, decide_eq_true hp, Bool.true_and, Bool.true_and, Bool.eq_iff_iff]
    simp only [Bool.not_eq_true', beq_eq_false_iff_ne, beq_iff_eq, ne_eq]; omega
  refine ⟨e.symm, ?_⟩
  unfold clQ; rw [if_pos hp, e]
  split <;> simp_all <;> omega

set_option maxHeartbeats 400000 in
theorem ceil_any (a b y : Int) (wa : Word a) (wb : Word b) (wy : Word y) (w : World) :
    Calls Tryz.prog 57 #[.int .u64 a, .int .u64 b, .int .u64 y] w fun e w' =>
      e = .returned (.tuple #[.int .u64 (clQ (a * b) y), .bool (clB (a * b) y)]) ∧ Below w.heap.size w w' := by
  obtain ⟨n0, n1⟩ := mul_bd wa wb
  by_cases hr : ovR (a * b) y = 0
  · obtain ⟨e1, e2⟩ := cl_zero hr
    have E1 := Lib.hid e1; have E2 := Lib.hid e2
    have hr0 : (ovR (a * b) y == 0) = true := by simp [hr]
    clear e1 e2 hr
    go_enter Tryz.func57, Tryz.ntmps57
    go_wp2_with fail
    refine (times_any a b wa wb _).mono ?_
    rintro e wA ⟨rfl, hbA⟩
    go_wp2_with fail
    refine (over_num (a * b) y n0 n1 wy _).mono ?_
    rintro e wB ⟨rfl, hbB⟩
    go_wp2_with fail
    refine bodyPost_ret (v := .tuple #[.int .u64 (ovQ (a * b) y), .bool (ovB (a * b) y)]) (by simp [results, Tryz.results57, go_sem]) rfl ⟨by rw [E1.out, E2.out], ?_⟩
    exact hbA.trans (hbB.mono hbA.size)
  · obtain ⟨e1, e2⟩ := cl_more n0 wy hr
    obtain ⟨q0, q1⟩ := (ov_word (n := a * b) n0 wy).1
    have E1 := Lib.hid e1; have E2 := Lib.hid e2
    have hr0 : (ovR (a * b) y == 0) = false := by simp [hr]
    clear e1 e2 hr
    go_enter Tryz.func57, Tryz.ntmps57
    go_wp2_with fail
    refine (times_any a b wa wb _).mono ?_
    rintro e wA ⟨rfl, hbA⟩
    go_wp2_with fail
    refine (over_num (a * b) y n0 n1 wy _).mono ?_
    rintro e wB ⟨rfl, hbB⟩
    go_wp2_with (simp only [add64_0 (ovQ (a * b) y) 1 q0 (by decide)])
    refine bodyPost_ret (v := .tuple #[.int .u64 ((ovQ (a * b) y + 1) % 18446744073709551616), .bool ((ovQ (a * b) y + 1) / 18446744073709551616 == 0)]) (by simp [results, Tryz.results57, go_sem]) rfl ⟨by rw [E1.out, E2.out], ?_⟩
    exact hbA.trans (hbB.mono hbA.size)
end Go.Proofs.YtcijflakldggaaaGreat

/-
  Walks: the cell that begins somewhere, as package cells comes to it.
-/
namespace Go.Proofs.YtcijflakldggaaaGreat
set_option linter.unusedVariables false
set_option linter.unusedSimpArgs false
open Go.RowKit

/-- How the program, and the reference, come to a cell's end and to what stands for it. -/
theorem way_big {u v r : Int} (g : GoodC u v) (h0 : 0 ≤ r) : 0 ≤ r * v ∧ 0 < v - u := by
  obtain ⟨g0, g1, g2⟩ := g
  exact ⟨Int.mul_nonneg h0 (by omega), by omega⟩
theorem ov_raw {u v lo : Int} (g : GoodC u v) (h : 1 ≤ lo) (h2 : lo ≤ 9223372036854775808) : ovQ (lo * (v + u)) v = rawC u v lo ∧ ovB (lo * (v + u)) v = true := by
  have a := craw_lt g h
  have e : ovB (lo * (v + u)) v = true := by
    unfold ovB; unfold rawC at a; apply decide_eq_true; obtain ⟨g0, g1, g2⟩ := g; omega
  refine ⟨?_, e⟩
  unfold ovQ; rw [if_pos e]; rfl
theorem ov_way {u v r : Int} (g : GoodC u v) (h0 : 0 ≤ r) : (ovB (r * v) (v - u) = true ∧ ovQ (r * v) (v - u) = wayC u v r ∧ wayC u v r < 18446744073709551616) ∨ (ovB (r * v) (v - u) = false ∧ ovQ (r * v) (v - u) = 0 ∧ 18446744073709551616 ≤ wayC u v r) := by
  obtain ⟨h1, h2⟩ := way_big g h0
  by_cases h : wayC u v r < 18446744073709551616
  · have e : ovB (r * v) (v - u) = true := by unfold ovB; unfold wayC at h; exact decide_eq_true ⟨h2, h⟩
    exact .inl ⟨e, by unfold ovQ; rw [if_pos e]; rfl, h⟩
  · have e : ovB (r * v) (v - u) = false := by unfold ovB; unfold wayC at h; apply decide_eq_false; omega
    exact .inr ⟨e, by unfold ovQ; rw [e]; rfl, by omega⟩
theorem word_raw {u v lo : Int} (g : GoodC u v) (h : 1 ≤ lo) (h2 : lo ≤ 9223372036854775808) : Word (rawC u v lo) := by
  have a := raw_ge g h
  have b := craw_lt g h
  unfold Word; omega

theorem floor_raw (u v lo r : Int) (g : GoodC u v) (h : 1 ≤ lo) (h2 : lo ≤ 9223372036854775808) (hr : rawC u v lo = r) (w : World) :
    Calls Tryz.prog 91 #[.int .u64 lo, .int .u64 (v + u), .int .u64 v] w fun e w' => e = .returned (.tuple #[.int .u64 r, .bool true]) ∧ Below w.heap.size w w' := by
  obtain ⟨g0, g1, g2⟩ := id g
  have hf := floor_any lo (v + u) v (by unfold Word; omega) (by unfold Word; omega) (by unfold Word; omega) w
  obtain ⟨e1, e2⟩ := ov_raw g h h2
  rw [e1, e2, hr] at hf
  exact hf
theorem floor_way (u v r q : Int) (b : Bool) (g : GoodC u v) (h : 0 ≤ r) (h2 : r < 18446744073709551616) (hq : ovQ (r * v) (v - u) = q) (hb : ovB (r * v) (v - u) = b) (w : World) :
    Calls Tryz.prog 91 #[.int .u64 r, .int .u64 v, .int .u64 (v - u)] w fun e w' => e = .returned (.tuple #[.int .u64 q, .bool b]) ∧ Below w.heap.size w w' := by
  obtain ⟨g0, g1, g2⟩ := id g
  have hf := floor_any r v (v - u) (by unfold Word; omega) (by unfold Word; omega) (by unfold Word; omega) w
  rw [hq, hb] at hf
  exact hf

/-- The smaller one, as the builtin tells it. -/
theorem min_word (x y : Int) : (if y < x then y else x) = min x y := by
  split <;> omega

set_option maxHeartbeats 1000000 in
theorem from_any (u v lo E R : Int) (g : GoodC u v) (h : 1 ≤ lo) (h2 : lo ≤ 9223372036854775808) (hE : endC u v lo = E) (hR : repC u v lo = R) (w : World) :
    Calls Tryz.prog 75 #[.int .u64 lo, .agg #[.int .u64 u, .int .u64 v]] w fun e w' => e = .returned (.agg #[.int .u64 E, .int .u64 R]) ∧ Below w.heap.size w w' := by
  obtain ⟨r, hr⟩ : ∃ r, rawC u v lo = r := ⟨_, rfl⟩
  have hw := word_raw g h h2
  rw [hr] at hw
  obtain ⟨r0, r1⟩ := hw
  have F1 := Lib.hid (floor_raw u v lo r g h h2 hr)
  have HR : Hid (min r 9223372036854775807 = R) := Lib.hid (by unfold repC at hR; rw [hr] at hR; exact hR)
  have HE : endC u v lo = min (wayC u v r) 9223372036854775808 := by unfold endC; rw [hr]
  rw [hE] at HE
  have cases := ov_way g r0
  obtain ⟨g0, g1, g2⟩ := id g
  rcases cases with ⟨e1, e2, e3⟩ | ⟨e1, e2, e3⟩
  · obtain ⟨q, hq⟩ : ∃ q, wayC u v r = q := ⟨_, rfl⟩
    rw [hq] at e2 e3 HE
    have F2 := Lib.hid (floor_way u v r q true g r0 r1 e2 e1)
    have HE' := Lib.hid HE.symm
    have q0 : 0 ≤ q := by have := way_ge g r0; omega
    clear e1 e2 HE hE hR hr hq g
    go_enter Tryz.func75, Tryz.ntmps75
    go_wp2_with fail
    refine (F1.out _).mono ?_
    rintro e wA ⟨rfl, hbA⟩
    obtain ⟨bc, bf⟩ := bcell hbA
    have hz : w.heap.size + 1 < wA.heap.size := by have := hbA.size; simp at this; omega
    go_wp2_with fail
    refine (F2.out _).mono ?_
    rintro e wB ⟨rfl, hbB⟩
    have hT0 := ((Two.new (w.alloc (.cells #[.int .u64 u, .int .u64 v] 24)) (.int .u64 0) (.int .u64 0) 148).call hbA).call hbB
    rw [World.size_alloc] at hT0
    have hT := Lib.hid hT0
    clear hT0
    obtain ⟨bc2, bf2⟩ := bcell hbB
    have hz2 : w.heap.size + 1 < wB.heap.size := by have := hbB.size; omega
    go_wp2_with fail
    rw [HE'.out, HR.out]
    have P := hT.out.put (.int .u64 E) (.int .u64 R)
    refine bodyPost_ret (v := .agg #[.int .u64 E, .int .u64 R]) (by simp [results, Tryz.results75, go_sem, P.c0, P.c1]) rfl ⟨rfl, ?_⟩
    exact below_put (((((Below.refl _ _).alloc (Nat.le_refl _) _).alloc (by simp) _).trans (hbA.mono (by simp; omega))).trans (hbB.mono (by omega))) (by omega) _ _
  · have F2 := Lib.hid (floor_way u v r 0 false g r0 r1 e2 e1)
    have HE' : Hid (9223372036854775808 = E) := Lib.hid (by omega)
    clear e1 e2 HE hE hR hr g
    go_enter Tryz.func75, Tryz.ntmps75
    go_wp2_with fail
    refine (F1.out _).mono ?_
    rintro e wA ⟨rfl, hbA⟩
    obtain ⟨bc, bf⟩ := bcell hbA
    have hz : w.heap.size + 1 < wA.heap.size := by have := hbA.size; simp at this; omega
    go_wp2_with fail
    refine (F2.out _).mono ?_
    rintro e wB ⟨rfl, hbB⟩
    have hT0 := ((Two.new (w.alloc (.cells #[.int .u64 u, .int .u64 v] 24)) (.int .u64 0) (.int .u64 0) 148).call hbA).call hbB
    rw [World.size_alloc] at hT0
    have hT := Lib.hid hT0
    clear hT0
    obtain ⟨bc2, bf2⟩ := bcell hbB
    have hz2 : w.heap.size + 1 < wB.heap.size := by have := hbB.size; omega
    go_wp2_with fail
    rw [HR.out, HE'.out]
    have P := hT.out.put (.int .u64 E) (.int .u64 R)
    refine bodyPost_ret (v := .agg #[.int .u64 E, .int .u64 R]) (by simp [results, Tryz.results75, go_sem, P.c0, P.c1]) rfl ⟨rfl, ?_⟩
    exact below_put (((((Below.refl _ _).alloc (Nat.le_refl _) _).alloc (by simp) _).trans (hbA.mono (by simp; omega))).trans (hbB.mono (by omega))) (by omega) _ _
end Go.Proofs.YtcijflakldggaaaGreat

/-
  Walks: the reference's Sub.
-/
namespace Go.Proofs.YtcijflakldggaaaGreat
set_option linter.unusedVariables false
open Go.RowKit Go.Shelf

set_option maxHeartbeats 400000 in
theorem rsub_any (ah al bh bl : Int) (w1 : Word ah) (w2 : Word al) (w3 : Word bh) (w4 : Word bl) (w : World) :
    Calls Tryz.prog 87 #[.agg #[.int .u64 ah, .int .u64 al], .agg #[.int .u64 bh, .int .u64 bl]] w fun e w' =>
      e = .returned (.tuple #[.agg #[.int .u64 (hiW (wval ah al - wval bh bl)), .int .u64 (loW (wval ah al - wval bh bl))], .bool (belowB (wval ah al - wval bh bl))]) ∧ Below w.heap.size w w' := by
  have n3 := word_comp w3; have n4 := word_comp w4
  have hq := w3.1; have hq' := w3.2; have hr := w4.1; have hr' := w4.2
  go_enter Tryz.func87, Tryz.ntmps87
  go_wp2_with fail
  refine (rwadd_any ah al _ _ w1 w2 n3 n4 _).mono ?_
  rintro e wA ⟨rfl, hbA⟩
  obtain ⟨hcA, hfA⟩ := bcell hbA
  have hzA : w.heap.size + 1 + 1 + 1 + 1 ≤ wA.heap.size := by have := hbA.size; simp at this; omega
  have g0 : w.heap.size < wA.heap.size := by omega
  have g1 : w.heap.size + 1 < wA.heap.size := by omega
  have g2 : w.heap.size + 1 + 1 < wA.heap.size := by omega
  have g0' : w.heap.size ≤ wA.heap.size := by omega
  have g1' : w.heap.size + 1 ≤ wA.heap.size := by omega
  have g2' : w.heap.size + 1 + 1 ≤ wA.heap.size := by omega
  go_wp2_with fail
  refine (rwadd_any _ _ 0 1 (word_hi _) (word_lo _) (by unfold Word; omega) (by unfold Word; omega) _).mono ?_
  rintro e wB ⟨rfl, hbB⟩
  obtain ⟨hcB, hfB⟩ := bcell hbB
  have hzB : wA.heap.size + 1 ≤ wB.heap.size := by have := hbB.size; simp at this; omega
  go_wp2_with fail
  simp only [comp_wval, rsub_hi, rsub_lo]
  generalize hx : hiW (wval ah al - wval bh bl) = x
  generalize hy : loW (wval ah al - wval bh bl) = y
  have HX := Lib.hid hx; have HY := Lib.hid hy
  clear hx hy
  have ne1 : wA.heap.size ≠ w.heap.size := by omega
  have ne2 : wA.heap.size ≠ w.heap.size + 1 := by omega
  have ne3 : wA.heap.size ≠ w.heap.size + 1 + 1 := by omega
  have ne3' : w.heap.size + 1 + 1 ≠ wA.heap.size := by omega
  obtain ⟨W, hW⟩ : ∃ W : World, W = (wB.setCell ⟨wA.heap.size, 0, none⟩ (.int .u64 x)).setCell ⟨wA.heap.size, 1, none⟩ (.int .u64 y) := ⟨_, rfl⟩
  have s1 : W.cell? ⟨wA.heap.size, 0, none⟩ = some (.int .u64 x) := by subst hW; go_simp
  have s2 : W.cell? ⟨wA.heap.size, 1, none⟩ = some (.int .u64 y) := by subst hW; go_simp
  have s3 : W.cell? ⟨w.heap.size, 0, none⟩ = some (.int .u64 ah) := by subst hW; go_simp
  have s4 : W.cell? ⟨w.heap.size, 1, none⟩ = some (.int .u64 al) := by subst hW; go_simp
  have s5 : W.cell? ⟨w.heap.size + 1, 0, none⟩ = some (.int .u64 bh) := by subst hW; go_simp
  have s6 : W.cell? ⟨w.heap.size + 1, 1, none⟩ = some (.int .u64 bl) := by subst hW; go_simp
  have s7 : (W.cell? ⟨w.heap.size + 1 + 1, 0, none⟩) = some (.int .u64 0) := by subst hW; go_simp
  have s8 : (W.cell? ⟨w.heap.size + 1 + 1, 1, none⟩) = some (.int .u64 0) := by subst hW; go_simp
  have f7 : (W.frozen? ⟨w.heap.size + 1 + 1, 0, none⟩) = false := by subst hW; go_simp
  have f8 : (W.frozen? ⟨w.heap.size + 1 + 1, 1, none⟩) = false := by subst hW; go_simp
  have hz : wA.heap.size < W.heap.size := by subst hW; simp; omega
  have hBel : Below w.heap.size w W := by
    subst hW
    refine Below.setCell (Below.setCell ?_ (by simp; omega) _) (by simp; omega) _
    refine Below.trans ?_ (hbB.mono (by simp; omega))
    refine Below.alloc ?_ (by omega) _
    refine Below.trans ?_ (hbA.mono (by simp; omega))
    refine Below.alloc ?_ (by simp; omega) _
    refine Below.alloc ?_ (by simp; omega) _
    refine Below.alloc ?_ (by simp) _
    exact Below.alloc (Below.refl _ _) (Nat.le_refl _) _
  rw [← hW]
  clear hW hcA hfA hcB hfB hbA hbB
  go_region_held3 (fun w' => w'.cell? ⟨wA.heap.size, 0, none⟩ = some (.int .u64 x) ∧ w'.cell? ⟨wA.heap.size, 1, none⟩ = some (.int .u64 y) ∧ w'.cell? ⟨w.heap.size, 0, none⟩ = some (.int .u64 ah) ∧ w'.cell? ⟨w.heap.size, 1, none⟩ = some (.int .u64 al) ∧ w'.cell? ⟨w.heap.size + 1, 0, none⟩ = some (.int .u64 bh) ∧ w'.cell? ⟨w.heap.size + 1, 1, none⟩ = some (.int .u64 bl)) (go_simp)
    (first
      | (go_at_call 42; refine (less_any ah al bh bl w1 w2 w3 w4 _).mono ?_; rintro e wC ⟨rfl, hbC⟩; have t1 := cell_later hbC s1; have t2 := cell_later hbC s2; have t3 := cell_later hbC s3; have t4 := cell_later hbC s4; have t5 := cell_later hbC s5; have t6 := cell_later hbC s6; have t7 := cell_later hbC s7; have t8 := cell_later hbC s8; have u7 := (bcell hbC).2 (w.heap.size + 1 + 1) 0 (by simp; omega); have u8 := (bcell hbC).2 (w.heap.size + 1 + 1) 1 (by simp; omega)))
  go_wp2
  refine bodyPost_ret (v := .tuple #[.agg #[.int .u64 x, .int .u64 y], .bool (belowB (wval ah al - wval bh bl))]) (by simp [results, Tryz.results87, go_sem, t7, t8]) rfl ⟨by rw [HX.out, HY.out], ?_⟩
  exact Below.setCell (Below.setCell ((Below.drew hBel).trans (hbC.mono (by simp; omega))) (by simp; omega) _) (by simp; omega) _
end Go.Proofs.YtcijflakldggaaaGreat

/-
  Walks: the reference's Times.
-/
namespace Go.Proofs.YtcijflakldggaaaGreat
set_option linter.unusedVariables false
open Go.RowKit Go.Shelf

/-- What the reference's product has come to, behind so many of its two middle parts. -/
def tmsTo (a b : Int) (k : Nat) : Int :=
  if k = 0 then wval (a / 4294967296 * (b / 4294967296)) (a % 4294967296 * (b % 4294967296))
  else if k = 1 then wval (a / 4294967296 * (b / 4294967296)) (a % 4294967296 * (b % 4294967296)) + (a / 4294967296 * (b % 4294967296)) * 4294967296
  else a * b
theorem tms0 (a b : Int) : tmsTo a b 0 = wval (a / 4294967296 * (b / 4294967296)) (a % 4294967296 * (b % 4294967296)) := rfl
theorem tms1 (a b : Int) : tmsTo a b 0 + (a / 4294967296 * (b % 4294967296)) * 4294967296 = tmsTo a b 1 := rfl
theorem tms2 (a b : Int) : tmsTo a b 1 + (a % 4294967296 * (b / 4294967296)) * 4294967296 = tmsTo a b 2 := times_parts a b
theorem tmsE (a b : Int) : tmsTo a b 2 = a * b := rfl

set_option maxHeartbeats 400000 in
theorem rtimes_any (a b : Int) (wa : Word a) (wb : Word b) (w : World) :
    Calls Tryz.prog 43 #[.int .u64 a, .int .u64 b] w fun e w' =>
      e = .returned (.agg #[.int .u64 (hiW (a * b)), .int .u64 (loW (a * b))]) ∧ Below w.heap.size w w' := by
  obtain ⟨a1, a2⟩ := wa
  obtain ⟨b1, b2⟩ := wb
  obtain ⟨p1, p2⟩ := half_mul (x := a / 4294967296) (y := b / 4294967296) (by omega) (by omega) (by omega) (by omega)
  obtain ⟨q1, q2⟩ := half_mul (x := a % 4294967296) (y := b % 4294967296) (by omega) (by omega) (by omega) (by omega)
  obtain ⟨r1, r2⟩ := half_mul (x := a / 4294967296) (y := b % 4294967296) (by omega) (by omega) (by omega) (by omega)
  obtain ⟨s1, s2⟩ := half_mul (x := a % 4294967296) (y := b / 4294967296) (by omega) (by omega) (by omega) (by omega)
  have E0 := Lib.hid (tms0 a b); have E1 := Lib.hid (tms1 a b); have E2 := Lib.hid (tms2 a b)
  go_enter Tryz.func43, Tryz.ntmps43
  go_wp2_with fail
  generalize a / 4294967296 * (b % 4294967296) = m0 at *
  generalize a % 4294967296 * (b / 4294967296) = m1 at *
  generalize a / 4294967296 * (b / 4294967296) = x0 at *
  generalize a % 4294967296 * (b % 4294967296) = y0 at *
  have X0 : hiW (tmsTo a b 0) = x0 := by rw [E0.out]; exact hi_wval ⟨by omega, by omega⟩ ⟨by omega, by omega⟩
  have Y0 : loW (tmsTo a b 0) = y0 := by rw [E0.out]; exact lo_wval ⟨by omega, by omega⟩
  have HX0 := Lib.hid X0; have HY0 := Lib.hid Y0
  clear X0 Y0 E0
  go_loopw [35] (fun i wr => ∃ k : Nat, k ≤ 2 ∧ i = .int .i64 k ∧
      wr.cell? ⟨w.heap.size + 1, 0, none⟩ = some (.int .u64 (hiW (tmsTo a b k))) ∧ wr.cell? ⟨w.heap.size + 1, 1, none⟩ = some (.int .u64 (loW (tmsTo a b k))) ∧
      wr.cell? ⟨w.heap.size, 0, none⟩ = some (.int .u64 0) ∧ wr.cell? ⟨w.heap.size, 1, none⟩ = some (.int .u64 0) ∧
      wr.cell? ⟨w.heap.size + 1 + 1, 0, none⟩ = some (.int .u64 m0) ∧ wr.cell? ⟨w.heap.size + 1 + 1, 1, none⟩ = some (.int .u64 m1) ∧
      wr.frozen? ⟨w.heap.size + 1, 0, none⟩ = false ∧ wr.frozen? ⟨w.heap.size + 1, 1, none⟩ = false ∧ wr.frozen? ⟨w.heap.size, 0, none⟩ = false ∧ wr.frozen? ⟨w.heap.size, 1, none⟩ = false ∧
      w.heap.size + 1 + 1 < wr.heap.size ∧ Below w.heap.size w wr) (fun i _ => 2 - (intOf i).toNat)
  case atStart => exact ⟨0, Nat.zero_le _, rfl, by go_simp; rw [HX0.out], by go_simp; rw [HY0.out], by go_simp, by go_simp, by go_simp, by go_simp, by go_simp, by go_simp, by go_simp, by go_simp, by simp, (((Below.refl _ _).alloc (Nat.le_refl _) _).alloc (by simp) _).alloc (by simp; omega) _⟩
  case round =>
    obtain ⟨k, hk, rfl, c1, c2, c3, c4, c5, c6, f1, f2, f3, f4, hz, hb⟩ := hrel
    have hz0 : w.heap.size < wr.heap.size := by omega
    have hz1 : w.heap.size + 1 < wr.heap.size := by omega
    have k3 : k = 0 ∨ k = 1 ∨ k = 2 := by omega
    rcases k3 with rfl | rfl | rfl
    · clear E2
      go_wp2_with fail
      refine (rwadd_any (hiW (tmsTo a b 0)) (loW (tmsTo a b 0)) _ _ (word_hi _) (word_lo _) ⟨by omega, by omega⟩ ⟨by omega, by omega⟩ _).mono ?_
      rintro e wA ⟨rfl, hbA⟩
      have d1 := cell_later hbA c1; have d2 := cell_later hbA c2; have d3 := cell_later hbA c3; have d4 := cell_later hbA c4; have d5 := cell_later hbA c5; have d6 := cell_later hbA c6
      have g1 := ((bcell hbA).2 (w.heap.size + 1) 0 (by omega)).trans f1; have g2 := ((bcell hbA).2 (w.heap.size + 1) 1 (by omega)).trans f2; have g3 := ((bcell hbA).2 w.heap.size 0 (by omega)).trans f3; have g4 := ((bcell hbA).2 w.heap.size 1 (by omega)).trans f4
      have hbS := hbA.size
      clear c1 c2 c3 c4 c5 c6 f1 f2 f3 f4
      go_wp2_with fail
      go_roundw
      case rel =>
        refine ⟨1, by omega, rfl, by go_simp; rw [shift_wval, hi_add, E1.out], by go_simp; rw [shift_wval, lo_add, E1.out], by go_simp, by go_simp, by go_simp, by go_simp, by go_simp, by go_simp, by go_simp, by go_simp, by simp; omega, ?_⟩
        exact (((hb.trans (hbA.mono (by omega))).setCell (p := ⟨w.heap.size + 1, 0, none⟩) (Nat.le_succ _) _).setCell (p := ⟨w.heap.size + 1, 1, none⟩) (Nat.le_succ _) _)
      case measure => simp [intOf]
    · clear E1
      go_wp2_with fail
      refine (rwadd_any (hiW (tmsTo a b 1)) (loW (tmsTo a b 1)) _ _ (word_hi _) (word_lo _) ⟨by omega, by omega⟩ ⟨by omega, by omega⟩ _).mono ?_
      rintro e wA ⟨rfl, hbA⟩
      have d1 := cell_later hbA c1; have d2 := cell_later hbA c2; have d3 := cell_later hbA c3; have d4 := cell_later hbA c4; have d5 := cell_later hbA c5; have d6 := cell_later hbA c6
      have g1 := ((bcell hbA).2 (w.heap.size + 1) 0 (by omega)).trans f1; have g2 := ((bcell hbA).2 (w.heap.size + 1) 1 (by omega)).trans f2; have g3 := ((bcell hbA).2 w.heap.size 0 (by omega)).trans f3; have g4 := ((bcell hbA).2 w.heap.size 1 (by omega)).trans f4
      have hbS := hbA.size
      clear c1 c2 c3 c4 c5 c6 f1 f2 f3 f4
      go_wp2_with fail
      go_roundw
      case rel =>
        refine ⟨2, by omega, rfl, by go_simp; rw [shift_wval, hi_add, E2.out], by go_simp; rw [shift_wval, lo_add, E2.out], by go_simp, by go_simp, by go_simp, by go_simp, by go_simp, by go_simp, by go_simp, by go_simp, by simp; omega, ?_⟩
        exact (((hb.trans (hbA.mono (by omega))).setCell (p := ⟨w.heap.size + 1, 0, none⟩) (Nat.le_succ _) _).setCell (p := ⟨w.heap.size + 1, 1, none⟩) (Nat.le_succ _) _)
      case measure => simp [intOf]
    · go_wp2_with fail
      refine bodyPost_ret (v := .agg #[.int .u64 (hiW (tmsTo a b 2)), .int .u64 (loW (tmsTo a b 2))]) (by simp [results, Tryz.results43, go_sem, c3, c4]) rfl ⟨by rw [tmsE], ?_⟩
      exact (hb.setCell (p := ⟨w.heap.size, 0, none⟩) (Nat.le_refl _) _).setCell (p := ⟨w.heap.size, 1, none⟩) (Nat.le_refl _) _
end Go.Proofs.YtcijflakldggaaaGreat

/-
  Walks: the reference's Double, Bit, Over, Ceil.
-/
namespace Go.Proofs.YtcijflakldggaaaGreat
set_option linter.unusedVariables false
open Go.RowKit Go.Shelf

set_option maxHeartbeats 400000 in
theorem double_any (h l : Int) (wh : Word h) (wl : Word l) (w : World) :
    Calls Tryz.prog 85 #[.agg #[.int .u64 h, .int .u64 l]] w fun e w' =>
      e = .returned (.tuple #[.agg #[.int .u64 (hiW (wval h l + wval h l)), .int .u64 (loW (wval h l + wval h l))], .bool (carryB (wval h l + wval h l))]) ∧ Below w.heap.size w w' := by
  go_enter Tryz.func85, Tryz.ntmps85
  go_wp2_with fail
  refine (rwadd_any h l h l wh wl wh wl _).mono ?_
  rintro e wA ⟨rfl, hbA⟩
  have d1 := (bcell hbA).1 (w.heap.size + 1) 0 (by simp)
  have d2 := (bcell hbA).1 (w.heap.size + 1) 1 (by simp)
  have f1 := (bcell hbA).2 (w.heap.size + 1) 0 (by simp)
  have f2 := (bcell hbA).2 (w.heap.size + 1) 1 (by simp)
  have hz : w.heap.size + 1 + 1 ≤ wA.heap.size := by have := hbA.size; simp at this; omega
  go_wp2_with fail
  refine bodyPost_ret (v := .tuple #[.agg #[.int .u64 (hiW (wval h l + wval h l)), .int .u64 (loW (wval h l + wval h l))], .bool (carryB (wval h l + wval h l))]) (by simp [results, Tryz.results85, go_sem, d1, d2]) rfl ⟨rfl, ?_⟩
  have k := ((((Below.refl w.heap.size w).alloc (Nat.le_refl _) (.cells #[.int .u64 h, .int .u64 l] 93)).alloc (by simp) (.cells #[.int .u64 0, .int .u64 0] 93)).trans (hbA.mono (by simp; omega)))
  exact (k.setCell (p := ⟨w.heap.size + 1, 0, none⟩) (Nat.le_succ _) _).setCell (p := ⟨w.heap.size + 1, 1, none⟩) (Nat.le_succ _) _

/-- The same, of a number that two words tell. -/
theorem double_num (n : Int) (h0 : 0 ≤ n) (h1 : n < 340282366920938463463374607431768211456) (w : World) :
    Calls Tryz.prog 85 #[.agg #[.int .u64 (hiW n), .int .u64 (loW n)]] w fun e w' =>
      e = .returned (.tuple #[.agg #[.int .u64 (hiW (n + n)), .int .u64 (loW (n + n))], .bool (carryB (n + n))]) ∧ Below w.heap.size w w' := by
  have h := double_any (hiW n) (loW n) (word_hi n) (word_lo n) w
  rw [wval_split h0 h1] at h
  exact h
theorem less_num (n y : Int) (h0 : 0 ≤ n) (h1 : n < 340282366920938463463374607431768211456) (wy : Word y) (w : World) :
    Calls Tryz.prog 42 #[.agg #[.int .u64 (hiW n), .int .u64 (loW n)], .agg #[.int .u64 0, .int .u64 y]] w fun e w' =>
      e = .returned (.bool (decide (n < y))) ∧ Below w.heap.size w w' := by
  have h := less_any (hiW n) (loW n) 0 y (word_hi n) (word_lo n) (by unfold Word; omega) wy w
  have e : belowB (wval (hiW n) (loW n) - wval 0 y) = decide (n < y) := by
    rw [wval_split h0 h1]; unfold belowB wval; apply decide_eq_decide.2; omega
  rw [e] at h
  exact h
theorem rsub_num (n y : Int) (h0 : 0 ≤ n) (h1 : n < 340282366920938463463374607431768211456) (wy : Word y) (w : World) :
    Calls Tryz.prog 87 #[.agg #[.int .u64 (hiW n), .int .u64 (loW n)], .agg #[.int .u64 0, .int .u64 y]] w fun e w' =>
      e = .returned (.tuple #[.agg #[.int .u64 (hiW (n - y)), .int .u64 (loW (n - y))], .bool (belowB (n - y))]) ∧ Below w.heap.size w w' := by
  have h := rsub_any (hiW n) (loW n) 0 y (word_hi n) (word_lo n) (by unfold Word; omega) wy w
  have e : wval (hiW n) (loW n) - wval 0 y = n - y := by
    rw [wval_split h0 h1]; unfold wval; omega
  rw [e] at h
  exact h
/-- A step of the long division, bit by bit. -/
theorem ov_step {M y : Int} (hy : 0 < y) :
    (M / 2 % y + M / 2 % y + M % 2 < y → M % y = M / 2 % y + M / 2 % y + M % 2 ∧ M / y = M / 2 / y + M / 2 / y) ∧
    (¬ M / 2 % y + M / 2 % y + M % 2 < y → M % y = M / 2 % y + M / 2 % y + M % 2 - y ∧ M / y = M / 2 / y + M / 2 / y + 1) := by
  have h1 := Int.ediv_mul_add_emod (M / 2) y
  have h2 := Int.emod_nonneg (M / 2) (show y ≠ 0 by omega)
  have h3 := Int.emod_lt_of_pos (M / 2) hy
  generalize M / 2 % y = R at *
  generalize M / 2 / y = Q at *
  constructor
  · intro h
    have := (Int.ediv_emod_unique (a := M) (r := R + R + M % 2) (q := Q + Q) hy).2 ⟨by
      rw [Int.mul_add, Int.mul_comm y Q]; generalize Q * y = a at *; omega, by omega, h⟩
    exact ⟨this.2, this.1⟩
  · intro h
    have := (Int.ediv_emod_unique (a := M) (r := R + R + M % 2 - y) (q := Q + Q + 1) hy).2 ⟨by
      rw [Int.mul_add, Int.mul_add, Int.mul_comm y Q]; generalize Q * y = a at *; omega, by omega, by omega⟩
    exact ⟨this.2, this.1⟩
theorem ov_big {n y : Int} (h0 : 0 ≤ n) (h1 : n < 340282366920938463463374607431768211456) (hy : 0 < y) (h : 0 < hiW (n / y)) : ovQ n y = 0 ∧ ovR n y = 0 ∧ ovB n y = false := by
  have a := Int.ediv_nonneg h0 (show 0 ≤ y by omega)
  have b := Int.ediv_le_self y h0
  have e : ovB n y = false := by
    unfold ovB; apply decide_eq_false; unfold hiW at h; omega
  refine ⟨?_, ?_, e⟩
  · unfold ovQ; rw [e]; rfl
  · unfold ovR; rw [e]; rfl
theorem ov_small {n y : Int} (h0 : 0 ≤ n) (h1 : n < 340282366920938463463374607431768211456) (hy : 0 < y) (hy1 : y < 18446744073709551616) (h : ¬ 0 < hiW (n / y)) : ovQ n y = loW (n / y) ∧ ovR n y = loW (n % y) ∧ ovB n y = true := by
  have a := Int.ediv_nonneg h0 (show 0 ≤ y by omega)
  have b := Int.ediv_le_self y h0
  have c := Int.emod_nonneg n (show y ≠ 0 by omega)
  have d := Int.emod_lt_of_pos n hy
  have e : ovB n y = true := by
    unfold ovB; apply decide_eq_true; unfold hiW at h; omega
  refine ⟨?_, ?_, e⟩
  · unfold ovQ; rw [if_pos e]; unfold hiW at h; unfold loW; omega
  · unfold ovR; rw [if_pos e]; unfold loW; omega
theorem hi_bit {n b : Int} (hb : 0 ≤ b) (hb' : b ≤ 1) : hiW (n + n) = hiW (n + n + b) := by unfold hiW; omega
theorem lo_bit {n b : Int} (hb : 0 ≤ b) (hb' : b ≤ 1) : loW (n + n) + b = loW (n + n + b) := by unfold loW; omega
theorem lo_even (n : Int) : loW (n + n) ≤ 18446744073709551614 := by unfold loW; omega

theorem bit_lo {h l : Int} {k : Nat} (hk : k < 64) (wh : Word h) : l / 2 ^ k % 2 = wval h l / 2 ^ k % 2 := by
  unfold wval
  have e : (18446744073709551616 : Int) = 2 * 2 ^ (63 - k) * 2 ^ k := by
    rw [Int.mul_assoc, ← Int.pow_add, show 63 - k + k = 63 by omega]; rfl
  have hp : (0 : Int) < 2 ^ k := Int.pow_pos (by omega)
  rw [e, ← Int.mul_assoc, Int.add_comm, Int.add_mul_ediv_right _ _ (by omega), ← Int.mul_assoc, Int.mul_comm h 2, Int.mul_assoc]
  omega
theorem bit_hi {h l : Int} {k : Nat} (hk : ¬ k < 64) (wl : Word l) : h / 2 ^ (k - 64) % 2 = wval h l / 2 ^ k % 2 := by
  have e : (2 : Int) ^ k = 18446744073709551616 * 2 ^ (k - 64) := by
    have : (2 : Int) ^ (64 + (k - 64)) = 2 ^ 64 * 2 ^ (k - 64) := Int.pow_add ..
    rw [show 64 + (k - 64) = k by omega, show (2 : Int) ^ 64 = 18446744073709551616 by rfl] at this
    exact this
  have e2 : wval h l / 18446744073709551616 = h := by unfold wval; unfold Word at wl; omega
  rw [e, ← Int.ediv_ediv_of_nonneg (by omega), e2]

set_option maxHeartbeats 400000 in
theorem bit_any (h l : Int) (k : Nat) (wh : Word h) (wl : Word l) (hk : k < 128) (w : World) :
    Calls Tryz.prog 86 #[.agg #[.int .u64 h, .int .u64 l], .int .i64 (k : Int)] w fun e w' =>
      e = .returned (.int .u64 (wval h l / 2 ^ k % 2)) ∧ Below w.heap.size w w' := by
  by_cases h64 : k < 64
  · have E := Lib.hid (bit_lo (l := l) h64 wh)
    obtain ⟨l0, l1⟩ := wl
    have hp : (0 : Int) < 2 ^ k := Int.pow_pos (by omega)
    have g0 : 0 ≤ l / 2 ^ k := Int.ediv_nonneg l0 (by omega)
    go_enter Tryz.func86, Tryz.ntmps86
    go_wp2_with fail
    refine bodyPost_ret (v := .int .u64 (l / 2 ^ k % 2)) (by simp [results, Tryz.results86, go_sem]) rfl ⟨by rw [E.out], ?_⟩
    exact (Below.refl _ _).alloc (Nat.le_refl _) _
  · have E := Lib.hid (bit_hi (h := h) h64 wl)
    obtain ⟨h0, h1⟩ := wh
    have hp : (0 : Int) < 2 ^ (k - 64) := Int.pow_pos (by omega)
    have g0 : 0 ≤ h / 2 ^ (k - 64) := Int.ediv_nonneg h0 (by omega)
    go_enter Tryz.func86, Tryz.ntmps86
    go_wp2_with fail
    refine bodyPost_ret (v := .int .u64 (h / 2 ^ (k - 64) % 2)) (by simp [results, Tryz.results86, go_sem]) rfl ⟨by rw [E.out], ?_⟩
    exact (Below.refl _ _).alloc (Nat.le_refl _) _

/-- The memory of the reference's Over: the number, the divisor, what rests, the quotient. -/
structure OvW (B : Nat) (W w : World) (h l y rh rl qh ql : Int) : Prop where
  a0 : w.cell? ⟨B, 0, none⟩ = some (.int .u64 h)
  a1 : w.cell? ⟨B, 1, none⟩ = some (.int .u64 l)
  d0 : w.cell? ⟨B + 1, 0, none⟩ = some (.int .u64 0)
  d1 : w.cell? ⟨B + 1, 1, none⟩ = some (.int .u64 y)
  r0 : w.cell? ⟨B + 1 + 1, 0, none⟩ = some (.int .u64 rh)
  r1 : w.cell? ⟨B + 1 + 1, 1, none⟩ = some (.int .u64 rl)
  q0 : w.cell? ⟨B + 1 + 1 + 1, 0, none⟩ = some (.int .u64 qh)
  q1 : w.cell? ⟨B + 1 + 1 + 1, 1, none⟩ = some (.int .u64 ql)
  fr0 : w.frozen? ⟨B + 1 + 1, 0, none⟩ = false
  fr1 : w.frozen? ⟨B + 1 + 1, 1, none⟩ = false
  fq0 : w.frozen? ⟨B + 1 + 1 + 1, 0, none⟩ = false
  fq1 : w.frozen? ⟨B + 1 + 1 + 1, 1, none⟩ = false
  sz : B + 1 + 1 + 1 < w.heap.size
  bel : Below B W w
theorem OvW.call {B : Nat} {W w w' : World} {h l y rh rl qh ql : Int} (s : OvW B W w h l y rh rl qh ql) (hb : Below w.heap.size w w') : OvW B W w' h l y rh rl qh ql := by
  have hz := s.sz
  have hs := hb.size
  exact ⟨cell_later hb s.a0, cell_later hb s.a1, cell_later hb s.d0, cell_later hb s.d1, cell_later hb s.r0, cell_later hb s.r1, cell_later hb s.q0, cell_later hb s.q1,
    ((bcell hb).2 _ _ (by omega)).trans s.fr0, ((bcell hb).2 _ _ (by omega)).trans s.fr1, ((bcell hb).2 _ _ (by omega)).trans s.fq0, ((bcell hb).2 _ _ (by omega)).trans s.fq1, by omega, s.bel.trans (hb.mono (by omega))⟩
theorem addr_far {b o b' o' : Nat} (h : b ≠ b') : (⟨b, o, none⟩ : Addr) ≠ ⟨b', o', none⟩ := fun e => h (Addr.mk.inj e).1
theorem addr_off {b o o' : Nat} (h : o ≠ o') : (⟨b, o, none⟩ : Addr) ≠ ⟨b, o', none⟩ := fun e => h (Addr.mk.inj e).2.1
theorem OvW.restLo {B : Nat} {W w : World} {h l y rh rl qh ql : Int} (s : OvW B W w h l y rh rl qh ql) (x : Int) : OvW B W (w.setCell ⟨B + 1 + 1, 1, none⟩ (.int .u64 x)) h l y rh x qh ql := by
  have hz := s.sz
  refine ⟨?_, ?_, ?_, ?_, ?_, ?_, ?_, ?_, ?_, ?_, ?_, ?_, ?_, ?_⟩
  · rw [World.cell?_setCell_other _ _ _ _ (addr_far (by omega))]; exact s.a0
  · rw [World.cell?_setCell_other _ _ _ _ (addr_far (by omega))]; exact s.a1
  · rw [World.cell?_setCell_other _ _ _ _ (addr_far (by omega))]; exact s.d0
  · rw [World.cell?_setCell_other _ _ _ _ (addr_far (by omega))]; exact s.d1
  · rw [World.cell?_setCell_other _ _ _ _ (addr_off (by omega))]; exact s.r0
  · exact World.cell?_setCell_same _ _ _ s.r1
  · rw [World.cell?_setCell_other _ _ _ _ (addr_far (by omega))]; exact s.q0
  · rw [World.cell?_setCell_other _ _ _ _ (addr_far (by omega))]; exact s.q1
  · rw [World.frozen?_setCell]; exact s.fr0
  · rw [World.frozen?_setCell]; exact s.fr1
  · rw [World.frozen?_setCell]; exact s.fq0
  · rw [World.frozen?_setCell]; exact s.fq1
  · simp [World.setCell]; omega
  · exact s.bel.setCell (p := ⟨B + 1 + 1, 1, none⟩) (by show B ≤ B + 1 + 1; omega) _
theorem OvW.restHi {B : Nat} {W w : World} {h l y rh rl qh ql : Int} (s : OvW B W w h l y rh rl qh ql) (x : Int) : OvW B W (w.setCell ⟨B + 1 + 1, 0, none⟩ (.int .u64 x)) h l y x rl qh ql := by
  have hz := s.sz
  refine ⟨?_, ?_, ?_, ?_, ?_, ?_, ?_, ?_, ?_, ?_, ?_, ?_, ?_, ?_⟩
  · rw [World.cell?_setCell_other _ _ _ _ (addr_far (by omega))]; exact s.a0
  · rw [World.cell?_setCell_other _ _ _ _ (addr_far (by omega))]; exact s.a1
  · rw [World.cell?_setCell_other _ _ _ _ (addr_far (by omega))]; exact s.d0
  · rw [World.cell?_setCell_other _ _ _ _ (addr_far (by omega))]; exact s.d1
  · exact World.cell?_setCell_same _ _ _ s.r0
  · rw [World.cell?_setCell_other _ _ _ _ (addr_off (by omega))]; exact s.r1
  · rw [World.cell?_setCell_other _ _ _ _ (addr_far (by omega))]; exact s.q0
  · rw [World.cell?_setCell_other _ _ _ _ (addr_far (by omega))]; exact s.q1
  · rw [World.frozen?_setCell]; exact s.fr0
  · rw [World.frozen?_setCell]; exact s.fr1
  · rw [World.frozen?_setCell]; exact s.fq0
  · rw [World.frozen?_setCell]; exact s.fq1
  · simp [World.setCell]; omega
  · exact s.bel.setCell (p := ⟨B + 1 + 1, 0, none⟩) (by show B ≤ B + 1 + 1; omega) _
theorem OvW.quoLo {B : Nat} {W w : World} {h l y rh rl qh ql : Int} (s : OvW B W w h l y rh rl qh ql) (x : Int) : OvW B W (w.setCell ⟨B + 1 + 1 + 1, 1, none⟩ (.int .u64 x)) h l y rh rl qh x := by
  have hz := s.sz
  refine ⟨?_, ?_, ?_, ?_, ?_, ?_, ?_, ?_, ?_, ?_, ?_, ?_, ?_, ?_⟩
  · rw [World.cell?_setCell_other _ _ _ _ (addr_far (by omega))]; exact s.a0
  · rw [World.cell?_setCell_other _ _ _ _ (addr_far (by omega))]; exact s.a1
  · rw [World.cell?_setCell_other _ _ _ _ (addr_far (by omega))]; exact s.d0
  · rw [World.cell?_setCell_other _ _ _ _ (addr_far (by omega))]; exact s.d1
  · rw [World.cell?_setCell_other _ _ _ _ (addr_far (by omega))]; exact s.r0
  · rw [World.cell?_setCell_other _ _ _ _ (addr_far (by omega))]; exact s.r1
  · rw [World.cell?_setCell_other _ _ _ _ (addr_off (by omega))]; exact s.q0
  · exact World.cell?_setCell_same _ _ _ s.q1
  · rw [World.frozen?_setCell]; exact s.fr0
  · rw [World.frozen?_setCell]; exact s.fr1
  · rw [World.frozen?_setCell]; exact s.fq0
  · rw [World.frozen?_setCell]; exact s.fq1
  · simp [World.setCell]; omega
  · exact s.bel.setCell (p := ⟨B + 1 + 1 + 1, 1, none⟩) (by show B ≤ B + 1 + 1 + 1; omega) _
theorem OvW.quoHi {B : Nat} {W w : World} {h l y rh rl qh ql : Int} (s : OvW B W w h l y rh rl qh ql) (x : Int) : OvW B W (w.setCell ⟨B + 1 + 1 + 1, 0, none⟩ (.int .u64 x)) h l y rh rl x ql := by
  have hz := s.sz
  refine ⟨?_, ?_, ?_, ?_, ?_, ?_, ?_, ?_, ?_, ?_, ?_, ?_, ?_, ?_⟩
  · rw [World.cell?_setCell_other _ _ _ _ (addr_far (by omega))]; exact s.a0
  · rw [World.cell?_setCell_other _ _ _ _ (addr_far (by omega))]; exact s.a1
  · rw [World.cell?_setCell_other _ _ _ _ (addr_far (by omega))]; exact s.d0
  · rw [World.cell?_setCell_other _ _ _ _ (addr_far (by omega))]; exact s.d1
  · rw [World.cell?_setCell_other _ _ _ _ (addr_far (by omega))]; exact s.r0
  · rw [World.cell?_setCell_other _ _ _ _ (addr_far (by omega))]; exact s.r1
  · exact World.cell?_setCell_same _ _ _ s.q0
  · rw [World.cell?_setCell_other _ _ _ _ (addr_off (by omega))]; exact s.q1
  · rw [World.frozen?_setCell]; exact s.fr0
  · rw [World.frozen?_setCell]; exact s.fr1
  · rw [World.frozen?_setCell]; exact s.fq0
  · rw [World.frozen?_setCell]; exact s.fq1
  · simp [World.setCell]; omega
  · exact s.bel.setCell (p := ⟨B + 1 + 1 + 1, 0, none⟩) (by show B ≤ B + 1 + 1 + 1; omega) _
theorem OvW.drew {B : Nat} {W w : World} {h l y rh rl qh ql : Int} (s : OvW B W w h l y rh rl qh ql) : OvW B W w.drew h l y rh rl qh ql :=
  ⟨s.a0, s.a1, s.d0, s.d1, s.r0, s.r1, s.q0, s.q1, s.fr0, s.fr1, s.fq0, s.fq1, s.sz, s.bel.drew⟩

set_option maxHeartbeats 400000 in
theorem rover_zero (h l : Int) (w : World) :
    Calls Tryz.prog 66 #[.agg #[.int .u64 h, .int .u64 l], .int .u64 0] w fun e w' =>
      e = .returned (.tuple #[.int .u64 0, .int .u64 0, .bool false]) ∧ Below w.heap.size w w' := by
  go_enter Tryz.func66, Tryz.ntmps66
  go_wp2_with fail
  refine bodyPost_ret (v := .tuple #[.int .u64 0, .int .u64 0, .bool false]) (by simp [results, Tryz.results66, go_sem]) rfl ⟨rfl, ?_⟩
  exact (Below.refl _ _).alloc (Nat.le_refl _) _

set_option maxHeartbeats 400000 in
theorem rover_more (h l y : Int) (wh : Word h) (wl : Word l) (wy : Word y) (hy : 0 < y) (w : World) :
    Calls Tryz.prog 66 #[.agg #[.int .u64 h, .int .u64 l], .int .u64 y] w fun e w' =>
      e = .returned (.tuple #[.int .u64 (ovQ (wval h l) y), .int .u64 (ovR (wval h l) y), .bool (ovB (wval h l) y)]) ∧ Below w.heap.size w w' := by
  have hy0 : (y == 0) = false := by simp; omega
  have hy1 := wy.2
  go_enter Tryz.func66, Tryz.ntmps66
  go_wp2_with fail
  go_loopw [10] (fun i wr => ∃ k : Nat, k ≤ 128 ∧ i = .int .i64 ((k : Int) - 1) ∧ OvW w.heap.size w wr h l y (hiW (wval h l / 2 ^ k % y)) (loW (wval h l / 2 ^ k % y)) (hiW (wval h l / 2 ^ k / y)) (loW (wval h l / 2 ^ k / y))) (fun i _ => (intOf i + 1).toNat)
  case atStart =>
    have hn := wval_bd wh wl
    have e : wval h l / 2 ^ 128 = 0 := by
      rw [show (2 : Int) ^ 128 = 340282366920938463463374607431768211456 by rfl]; omega
    have e1 : (0 : Int) % y = 0 := Int.zero_emod y
    have e2 : (0 : Int) / y = 0 := Int.zero_ediv y
    refine ⟨128, Nat.le_refl _, rfl, ?_⟩
    rw [e, e1, e2]
    exact ⟨by go_simp, by go_simp, by go_simp, by go_simp, by go_simp; decide, by go_simp; decide, by go_simp; decide, by go_simp; decide, by go_simp, by go_simp, by go_simp, by go_simp, by simp, ((((Below.refl _ _).alloc (Nat.le_refl _) _).alloc (by simp) _).alloc (by simp; omega) _).alloc (by simp; omega) _⟩
  case round =>
    obtain ⟨k, hk, rfl, S⟩ := hrel
    cases k with
    | zero =>
      obtain ⟨a0, a1, d0, d1, r0, r1, q0, q1, fr0, fr1, fq0, fq1, sz, bel⟩ := id S
      have e : wval h l / 2 ^ 0 = wval h l := by rw [Int.pow_zero, Int.ediv_one]
      rw [e] at *
      have hn := wval_bd wh wl
      have sz1 : w.heap.size + 1 < wr.heap.size := by omega
      have sz2 : w.heap.size + 1 + 1 < wr.heap.size := by omega
      clear S e
      by_cases hq : 0 < hiW (wval h l / y)
      · have E := Lib.hid (ov_big (n := wval h l) hn.1 hn.2 hy hq)
        go_wp2_with fail
        refine bodyPost_ret (v := .tuple #[.int .u64 0, .int .u64 0, .bool false]) (by simp [results, Tryz.results66, go_sem]) rfl ⟨by rw [E.out.1, E.out.2.1, E.out.2.2], ?_⟩
        exact bel
      · have E := Lib.hid (ov_small (n := wval h l) hn.1 hn.2 hy hy1 hq)
        go_wp2_with fail
        go_quiet (fail)
        go_wp2
        refine bodyPost_ret (v := .tuple #[.int .u64 (loW (wval h l / y)), .int .u64 (loW (wval h l % y)), .bool true]) (by simp [results, Tryz.results66, go_sem]) rfl ⟨by rw [E.out.1, E.out.2.1, E.out.2.2], ?_⟩
        exact below_drewN bel _
    | succ j =>
      have ej : ((j + 1 : Nat) : Int) - 1 = j := by omega
      rw [ej]
      have hn := wval_bd wh wl
      have hp : (0 : Int) < 2 ^ j := Int.pow_pos (by omega)
      have M0 : 0 ≤ wval h l / 2 ^ j := Int.ediv_nonneg hn.1 (by omega)
      have M1 : wval h l / 2 ^ j ≤ wval h l := Int.ediv_le_self _ hn.1
      have M2 : wval h l / 2 ^ j < 340282366920938463463374607431768211456 := by omega
      have hm : wval h l / 2 ^ (j + 1) = wval h l / 2 ^ j / 2 := by rw [Int.pow_succ, Int.ediv_ediv_of_nonneg (by omega)]
      rw [hm] at S
      clear hm M1 hn hp
      obtain ⟨t1, t2⟩ := ov_step (M := wval h l / 2 ^ j) hy
      have T1 := Lib.hid t1; have T2 := Lib.hid t2
      clear t1 t2
      have bit := bit_any h l j wh wl (by omega)
      generalize hM : wval h l / 2 ^ j = M at *
      have HM := Lib.hid hM
      clear hM
      have R0 := Int.emod_nonneg (M / 2) (show y ≠ 0 by omega)
      have R1 := Int.emod_lt_of_pos (M / 2) hy
      have Q0 := Int.ediv_nonneg (show 0 ≤ M / 2 by omega) (show 0 ≤ y by omega)
      have Q1 := Int.ediv_le_self y (show 0 ≤ M / 2 by omega)
      have b0 : 0 ≤ M % 2 := by omega
      have b1 : M % 2 ≤ 1 := by omega
      have Q2 : M / 2 / y < 170141183460469231731687303715884105728 := by omega
      clear M0 M2 Q1
      generalize M / 2 % y = R at *
      generalize M / 2 / y = Q at *
      generalize M % 2 = b at *
      have ev := lo_even R
      have ev0 := (word_lo (R + R)).1
      obtain ⟨a0, a1, d0, d1, r0, r1, q0, q1, fr0, fr1, fq0, fq1, sz, bel⟩ := id S
      have sz1 : w.heap.size + 1 < wr.heap.size := by omega
      have sz2 : w.heap.size + 1 + 1 < wr.heap.size := by omega
      have Bit := Lib.hid bit
      have hwr : IntKind.u64.wrap (loW (R + R) + b) = loW (R + R) + b := by rw [IntKind.wrap_u64]; omega
      have HW := Lib.hid hwr
      clear hwr
      clear bit
      go_wp2_with fail
      refine (double_num R R0 (by omega) _).mono ?_
      rintro e wA ⟨rfl, hbA⟩
      have SA := S.call hbA
      clear a0 a1 d0 d1 r0 r1 q0 q1 fr0 fr1 fq0 fq1 sz bel S hbA
      obtain ⟨a0, a1, d0, d1, r0, r1, q0, q1, fr0, fr1, fq0, fq1, sz, bel⟩ := id SA
      go_upto_region 10 with fail
      have SB := (SA.restHi (hiW (R + R))).restLo (loW (R + R))
      generalize (wA.setCell ⟨w.heap.size + 1 + 1, 0, none⟩ (.int .u64 (hiW (R + R)))).setCell ⟨w.heap.size + 1 + 1, 1, none⟩ (.int .u64 (loW (R + R))) = wB at *
      clear a0 a1 d0 d1 r0 r1 q0 q1 fr0 fr1 fq0 fq1 sz bel SA
      obtain ⟨a0, a1, d0, d1, r0, r1, q0, q1, fr0, fr1, fq0, fq1, sz, bel⟩ := id SB
      go_cut [31] (fun s wx => OvW w.heap.size w wx h l y (hiW (R + R)) (loW (R + R) + b) (hiW Q) (loW Q))
      case first =>
        go_region_with (go_at_call 86; refine (Bit.out _).mono ?_; rintro e wC ⟨rfl, hbC⟩; have SC := OvW.call SB.drew hbC; obtain ⟨a0, a1, d0, d1, r0, r1, q0, q1, fr0, fr1, fq0, fq1, sz, bel⟩ := id SC)
        all_goals (go_wp2_with fail; go_meet; rw [HW.out]; exact SC.restLo _)
      case rest =>
        clear a0 a1 d0 d1 r0 r1 q0 q1 fr0 fr1 fq0 fq1 sz bel SB Bit
        rename_i wC _
        have SC := hcut
        rw [lo_bit b0 b1, hi_bit b0 b1] at SC
        clear hcut ev ev0
        obtain ⟨a0, a1, d0, d1, r0, r1, q0, q1, fr0, fr1, fq0, fq1, sz, bel⟩ := id SC
        go_wp2_with fail
        refine (double_num Q Q0 (by omega) _).mono ?_
        rintro e wD ⟨rfl, hbD⟩
        have SD := SC.call hbD
        clear a0 a1 d0 d1 r0 r1 q0 q1 fr0 fr1 fq0 fq1 sz bel SC hbD
        obtain ⟨a0, a1, d0, d1, r0, r1, q0, q1, fr0, fr1, fq0, fq1, sz, bel⟩ := id SD
        go_upto_region 12 with fail
        have SE := (SD.quoHi (hiW (Q + Q))).quoLo (loW (Q + Q))
        generalize (wD.setCell ⟨w.heap.size + 1 + 1 + 1, 0, none⟩ (.int .u64 (hiW (Q + Q)))).setCell ⟨w.heap.size + 1 + 1 + 1, 1, none⟩ (.int .u64 (loW (Q + Q))) = wE at *
        clear a0 a1 d0 d1 r0 r1 q0 q1 fr0 fr1 fq0 fq1 sz bel SD
        obtain ⟨a0, a1, d0, d1, r0, r1, q0, q1, fr0, fr1, fq0, fq1, sz, bel⟩ := id SE
        go_wp2_with fail
        refine (less_num (R + R + b) y (by omega) (by omega) wy _).mono ?_
        rintro e wF ⟨rfl, hbF⟩
        have SF := SE.call hbF
        clear a0 a1 d0 d1 r0 r1 q0 q1 fr0 fr1 fq0 fq1 sz bel SE hbF
        obtain ⟨a0, a1, d0, d1, r0, r1, q0, q1, fr0, fr1, fq0, fq1, sz, bel⟩ := id SF
        by_cases hX : R + R + b < y
        · obtain ⟨g1, g2⟩ := T1.out (by omega)
          have G1 := Lib.hid g1; have G2 := Lib.hid g2
          clear g1 g2
          go_wp2_with fail
          go_roundw
          case rel => 
            refine ⟨j, by omega, rfl, ?_⟩
            rw [HM.out, G1.out, G2.out]
            exact SF
          case measure => simp [intOf]
        · obtain ⟨g1, g2⟩ := T2.out (by omega)
          have G1 := Lib.hid g1; have G2 := Lib.hid g2
          clear g1 g2
          have hXf : decide (R + R + b < y) = false := decide_eq_false hX
          go_wp2_with fail
          refine (rsub_num (R + R + b) y (by omega) (by omega) wy _).mono ?_
          rintro e wG ⟨rfl, hbG⟩
          have SG := SF.call hbG
          clear a0 a1 d0 d1 r0 r1 q0 q1 fr0 fr1 fq0 fq1 sz bel SF hbG
          obtain ⟨a0, a1, d0, d1, r0, r1, q0, q1, fr0, fr1, fq0, fq1, sz, bel⟩ := id SG
          have ev := lo_even Q
          have ev0 := (word_lo (Q + Q)).1
          have SH := ((SG.restHi (hiW (R + R + b - y))).restLo (loW (R + R + b - y))).quoLo (loW (Q + Q) + 1)
          rw [lo_bit (n := Q) (b := 1) (by omega) (by omega), hi_bit (n := Q) (b := 1) (by omega) (by omega)] at SH
          have HL := Lib.hid (lo_bit (n := Q) (b := 1) (by omega) (by omega))
          go_wp2_with fail
          go_roundw
          case rel =>
            refine ⟨j, by omega, rfl, ?_⟩
            rw [HM.out, G1.out, G2.out]
            rw [HL.out]
            exact SH
          case measure => simp [intOf]

/-- The reference's Over, of all numbers. -/
theorem rover_any (h l y : Int) (wh : Word h) (wl : Word l) (wy : Word y) (w : World) :
    Calls Tryz.prog 66 #[.agg #[.int .u64 h, .int .u64 l], .int .u64 y] w fun e w' =>
      e = .returned (.tuple #[.int .u64 (ovQ (wval h l) y), .int .u64 (ovR (wval h l) y), .bool (ovB (wval h l) y)]) ∧ Below w.heap.size w w' := by
  by_cases hy : y = 0
  · subst hy
    have e : ovB (wval h l) 0 = false := by unfold ovB; apply decide_eq_false; omega
    have e1 : ovQ (wval h l) 0 = 0 := by unfold ovQ; rw [e]; rfl
    have e2 : ovR (wval h l) 0 = 0 := by unfold ovR; rw [e]; rfl
    rw [e, e1, e2]
    exact rover_zero h l w
  · exact rover_more h l y wh wl wy (by have := wy.1; omega) w
theorem rover_num (n y : Int) (h0 : 0 ≤ n) (h1 : n < 340282366920938463463374607431768211456) (wy : Word y) (w : World) :
    Calls Tryz.prog 66 #[.agg #[.int .u64 (hiW n), .int .u64 (loW n)], .int .u64 y] w fun e w' =>
      e = .returned (.tuple #[.int .u64 (ovQ n y), .int .u64 (ovR n y), .bool (ovB n y)]) ∧ Below w.heap.size w w' := by
  have h := rover_any (hiW n) (loW n) y (word_hi n) (word_lo n) wy w
  rw [wval_split h0 h1] at h
  exact h

end Go.Proofs.YtcijflakldggaaaGreat

/-
  wide.Compare and the reference's Less, of numbers below 2^128; what a held region keeps.
-/
namespace Go.Proofs.YtcijflakldggaaaGreat
set_option linter.unusedVariables false
open Go.RowKit Go.Shelf

theorem less_two (x y : Int) (x0 : 0 ≤ x) (x1 : x < 340282366920938463463374607431768211456) (y0 : 0 ≤ y) (y1 : y < 340282366920938463463374607431768211456) (w : World) :
    Calls Tryz.prog 42 #[.agg #[.int .u64 (hiW x), .int .u64 (loW x)], .agg #[.int .u64 (hiW y), .int .u64 (loW y)]] w fun e w' =>
      e = .returned (.bool (decide (x < y))) ∧ Below w.heap.size w w' := by
  have h := less_any (hiW x) (loW x) (hiW y) (loW y) (word_hi x) (word_lo x) (word_hi y) (word_lo y) w
  rw [wval_split x0 x1, wval_split y0 y1] at h
  have e : belowB (x - y) = decide (x < y) := by unfold belowB; apply decide_eq_decide.2; omega
  rw [e] at h
  exact h

theorem cmp_neg (x y : Int) : decide (cmpW x y < 0) = decide (x < y) := by
  unfold cmpW; apply decide_eq_decide.2; split <;> (try split) <;> omega

/-- Two cells of one block, and the world below, behind a callee that makes memory. -/
theorem keep2 {B : Nat} {W w w' : World} {x y : Value} (h : w.cell? ⟨B, 0, none⟩ = some x ∧ w.cell? ⟨B, 1, none⟩ = some y ∧ Below W.heap.size W w) (hb : Below w.heap.size w w') :
    w'.cell? ⟨B, 0, none⟩ = some x ∧ w'.cell? ⟨B, 1, none⟩ = some y ∧ Below W.heap.size W w' :=
  ⟨cell_later hb h.1, cell_later hb h.2.1, h.2.2.trans (hb.mono h.2.2.size)⟩
theorem keep2_bel {B : Nat} {W w : World} {x y : Value} (h : w.cell? ⟨B, 0, none⟩ = some x ∧ w.cell? ⟨B, 1, none⟩ = some y ∧ Below W.heap.size W w) : Below W.heap.size W w := h.2.2
end Go.Proofs.YtcijflakldggaaaGreat

/-
  Walks: layer 11's reference: all cells of a closeness.
-/
namespace Go.Proofs.YtcijflakldggaaaGreat
set_option linter.unusedVariables false
set_option linter.unusedSimpArgs false
open Go.RowKit

def lowsC (u v : Int) (n : Nat) : List Int := (List.range n).map fun i => lowC u v i
def repsC (u v : Int) (n : Nat) : List Int := (List.range n).map fun i => repC u v (lowC u v i)
theorem lowsC_len (u v : Int) (n : Nat) : (lowsC u v n).length = n := by unfold lowsC; simp
theorem repsC_len (u v : Int) (n : Nat) : (repsC u v n).length = n := by unfold repsC; simp
theorem lowsC_succ (u v : Int) (n : Nat) : lowsC u v (n + 1) = lowsC u v n ++ [lowC u v n] := by unfold lowsC; rw [List.range_succ, List.map_append]; rfl
theorem repsC_succ (u v : Int) (n : Nat) : repsC u v (n + 1) = repsC u v n ++ [repC u v (lowC u v n)] := by unfold repsC; rw [List.range_succ, List.map_append]; rfl
theorem lowsC_at (u v : Int) {n i : Nat} (h : i < n) : (lowsC u v n)[i]? = some (lowC u v i) := by unfold lowsC; rw [List.getElem?_map, List.getElem?_range h]; rfl
theorem repsC_at (u v : Int) {n i : Nat} (h : i < n) : (repsC u v n)[i]? = some (repC u v (lowC u v i)) := by unfold repsC; rw [List.getElem?_map, List.getElem?_range h]; rfl

/-- The two rows on their way. -/
structure Rows11 (w0 w : World) (u v : Int) (a b : Value) (L R : List Int) : Prop where
  p0 : w.cell? ⟨w0.heap.size, 0, none⟩ = some (.int .u64 u)
  p1 : w.cell? ⟨w0.heap.size, 1, none⟩ = some (.int .u64 v)
  oa : OwnW w (w0.heap.size + 1) a L
  ob : OwnW w (w0.heap.size + 1) b R
  ne : ∀ g, a.ownBlock = some g → b.ownBlock ≠ some g
  sz : w0.heap.size + 1 ≤ w.heap.size
  bel : Below w0.heap.size w0 w
theorem Rows11.call {w0 w w' : World} {u v : Int} {a b : Value} {L R : List Int} (h : Rows11 w0 w u v a b L R) (hb : Below w.heap.size w w') : Rows11 w0 w' u v a b L R :=
  ⟨cell_later hb h.p0, cell_later hb h.p1, h.oa.call hb, h.ob.call hb, h.ne, Nat.le_trans h.sz hb.size, h.bel.trans (hb.mono h.bel.size)⟩
theorem Rows11.swap {w0 w : World} {u v : Int} {a b : Value} {L R : List Int} (h : Rows11 w0 w u v a b L R) : Rows11 w0 w u v b a R L :=
  ⟨h.p0, h.p1, h.ob, h.oa, fun g h1 h2 => h.ne g h2 h1, h.sz, h.bel⟩
/-- Behind an append to the first of them. -/
theorem Rows11.put {w0 w w' : World} {u v : Int} {a b : Value} {L R M : List Int} {g n cap : Nat} (h : Rows11 w0 w u v a b L R) (ho : OwnW w' (w0.heap.size + 1) (.slice (some ⟨g, 0, none⟩) n cap) M) (hg : w.grownBy w' a.ownBlock) (hat : a.ownBlock = some g ∨ g = w.heap.size) :
    Rows11 w0 w' u v (.slice (some ⟨g, 0, none⟩) n cap) b M R := by
  have hne : ∀ k, a.ownBlock = some k → w0.heap.size + 1 ≤ k := fun k hk => (h.oa.lt k hk).1
  have hb1 : Below (w0.heap.size + 1) w w' := (Below.refl _ _).grown hg h.sz hne
  have hc : ∀ (o : Nat) (y : Value), w.cell? ⟨w0.heap.size, o, none⟩ = some y → w'.cell? ⟨w0.heap.size, o, none⟩ = some y := fun o y hy =>
    (World.cell?_of_block (a := ⟨w0.heap.size, o, none⟩) (hb1.block _ (by show w0.heap.size < w0.heap.size + 1; omega))).trans hy
  refine ⟨hc 0 _ h.p0, hc 1 _ h.p1, ho, h.ob.other hg ?_, ?_, Nat.le_trans h.sz hg.size, h.bel.trans (hb1.mono (by omega))⟩
  · cases hb : b.ownBlock with
    | none => exact .inl rfl
    | some k =>
      refine .inr fun e => ?_
      exact h.ne k e.symm hb
  · intro k hk hbk
    have hk' : g = k := by simpa [Value.ownBlock] using hk
    subst hk'
    rcases hat with e | e
    · exact h.ne g e hbk
    · have := (h.ob.lt g hbk).2; omega

/-- What the reference tells. -/
def RefT (w : World) (u v : Int) (e : Ending) (w' : World) : Prop :=
  (∃ n A c A' c', TabN u v n ∧ 1 ≤ n ∧ n ≤ 4096 ∧ e = .returned (.tuple #[.slice A n c, .slice A' n c', .bool true]) ∧ OwnW w' (w.heap.size + 1) (.slice A n c) (lowsC u v n) ∧ OwnW w' (w.heap.size + 1) (.slice A' n c') (repsC u v n) ∧ Below w.heap.size w w') ∨
  (e = .returned (.tuple #[.slice none 0 0, .slice none 0 0, .bool false]) ∧ lowC u v 4096 ≤ 9223372036854775808 ∧ Below w.heap.size w w')
theorem rtimes_lo (u v lo : Int) (g : GoodC u v) (h : 1 ≤ lo) (h2 : lo ≤ 9223372036854775808) (w : World) :
    Calls Tryz.prog 43 #[.int .u64 lo, .int .u64 (v + u)] w fun e w' => e = .returned (.agg #[.int .u64 (hiW (lo * (v + u))), .int .u64 (loW (lo * (v + u)))]) ∧ Below w.heap.size w w' := by
  obtain ⟨g0, g1, g2⟩ := g
  exact rtimes_any lo (v + u) (by unfold Word; omega) (by unfold Word; omega) w
theorem rover_lo (u v lo r s : Int) (g : GoodC u v) (h : 1 ≤ lo) (h2 : lo ≤ 9223372036854775808) (hr : rawC u v lo = r) (hs : ovR (lo * (v + u)) v = s) (w : World) :
    Calls Tryz.prog 66 #[.agg #[.int .u64 (hiW (lo * (v + u))), .int .u64 (loW (lo * (v + u)))], .int .u64 v] w fun e w' => e = .returned (.tuple #[.int .u64 r, .int .u64 s, .bool true]) ∧ Below w.heap.size w w' := by
  obtain ⟨g0, g1, g2⟩ := id g
  obtain ⟨m0, m1⟩ := mul_bd (a := lo) (b := v + u) (by unfold Word; omega) (by unfold Word; omega)
  have hf := rover_num (lo * (v + u)) v m0 m1 (by unfold Word; omega) w
  obtain ⟨e1, e2⟩ := ov_raw g h h2
  rw [e1, e2, hr, hs] at hf
  exact hf
theorem rtimes_up (u v r : Int) (g : GoodC u v) (h : 0 ≤ r) (h2 : r < 18446744073709551616) (w : World) :
    Calls Tryz.prog 43 #[.int .u64 r, .int .u64 v] w fun e w' => e = .returned (.agg #[.int .u64 (hiW (r * v)), .int .u64 (loW (r * v))]) ∧ Below w.heap.size w w' := by
  obtain ⟨g0, g1, g2⟩ := g
  exact rtimes_any r v (by unfold Word; omega) (by unfold Word; omega) w
theorem rover_up (u v r q s : Int) (b : Bool) (g : GoodC u v) (h : 0 ≤ r) (h2 : r < 18446744073709551616) (hq : ovQ (r * v) (v - u) = q) (hs : ovR (r * v) (v - u) = s) (hb : ovB (r * v) (v - u) = b) (w : World) :
    Calls Tryz.prog 66 #[.agg #[.int .u64 (hiW (r * v)), .int .u64 (loW (r * v))], .int .u64 (v - u)] w fun e w' => e = .returned (.tuple #[.int .u64 q, .int .u64 s, .bool b]) ∧ Below w.heap.size w w' := by
  obtain ⟨g0, g1, g2⟩ := id g
  obtain ⟨m0, m1⟩ := mul_bd (a := r) (b := v) (by unfold Word; omega) (by unfold Word; omega)
  have hf := rover_num (r * v) (v - u) m0 m1 (by unfold Word; omega) w
  rw [hq, hs, hb] at hf
  exact hf
/-- The ways of a round: where the cell ends, and what stands for it. -/
theorem ref_ways {u v lo r q E R : Int} {b : Bool} (g : GoodC u v) (h : 1 ≤ lo) (hr : rawC u v lo = r) (hq : ovQ (r * v) (v - u) = q) (hb : ovB (r * v) (v - u) = b) (hE : endC u v lo = E) (hR : repC u v lo = R) :
    (9223372036854775808 < r ∧ E = 9223372036854775808 ∧ R = 9223372036854775807) ∨
    (r < 9223372036854775808 ∧ b = true ∧ q < 9223372036854775808 ∧ E = q ∧ R = r) ∨
    (r < 9223372036854775808 ∧ b = true ∧ 9223372036854775808 ≤ q ∧ E = 9223372036854775808 ∧ R = r) ∨
    (r < 9223372036854775808 ∧ b = false ∧ E = 9223372036854775808 ∧ R = r) ∨
    (r = 9223372036854775808 ∧ b = true ∧ 9223372036854775808 ≤ q ∧ E = 9223372036854775808 ∧ R = 9223372036854775807) ∨
    (r = 9223372036854775808 ∧ b = false ∧ E = 9223372036854775808 ∧ R = 9223372036854775807) := by
  have hr0 := raw_ge g h
  have hw := way_ge g (show 0 ≤ r by omega)
  unfold endC at hE
  unfold repC at hR
  rw [hr] at hE hR hr0
  rcases ov_way g (show 0 ≤ r by omega) with ⟨e1, e2, e3⟩ | ⟨e1, e2, e3⟩
  · rw [hb] at e1
    rw [hq] at e2
    subst e1
    by_cases c1 : 9223372036854775808 < r
    · left; omega
    · by_cases c2 : r = 9223372036854775808
      · right; right; right; right; left; exact ⟨c2, rfl, by omega, by omega, by omega⟩
      · by_cases c3 : q < 9223372036854775808
        · right; left; exact ⟨by omega, rfl, by omega, by omega, by omega⟩
        · right; right; left; exact ⟨by omega, rfl, by omega, by omega, by omega⟩
  · rw [hb] at e1
    subst e1
    by_cases c1 : 9223372036854775808 < r
    · left; omega
    · by_cases c2 : r = 9223372036854775808
      · right; right; right; right; right; exact ⟨c2, rfl, by omega, by omega⟩
      · right; right; right; left; exact ⟨by omega, rfl, by omega, by omega⟩

/-- What a round needs of its cell: the two calls ahead, their numbers, and the ways. -/
theorem rows_done {w0 w : World} {u v : Int} {k : Nat} {a b : Value} (g : GoodC u v) (hk : k ≤ 4096) (hl : ∀ j, j < k → lowC u v j ≤ 9223372036854775808) (hn : ¬ lowC u v k ≤ 9223372036854775808) (h : Rows11 w0 w u v a b (lowsC u v k) (repsC u v k)) :
    RefT w0 u v (.returned (.tuple #[a, b, .bool true])) w := by
  have ht : TabN u v k := ⟨hl, by have := low_le u v k; omega⟩
  obtain ⟨A, c, rfl⟩ := h.oa.form
  obtain ⟨A', c', rfl⟩ := h.ob.form
  have oa := h.oa
  have ob := h.ob
  rw [lowsC_len] at oa ⊢
  rw [repsC_len] at ob ⊢
  exact Or.inl ⟨k, A, c, A', c', ht, tab_pos ht, hk, rfl, oa, ob, h.bel⟩

set_option maxRecDepth 100000 in
set_option maxHeartbeats 4000000 in
theorem rcells_any (u v : Int) (g : GoodC u v) (w : World) :
    Calls Tryz.prog 55 #[.agg #[.int .u64 u, .int .u64 v]] w (RefT w u v) := by
  have HG : Hid (GoodC u v) := Lib.hid g
  obtain ⟨g0, g1, g2⟩ := id g
  clear g
  go_enter Tryz.func55, Tryz.ntmps55
  go_wp2_with fail
  have W0 : Rows11 w (w.alloc (.cells #[.int .u64 u, .int .u64 v] 24)) u v (.slice none 0 0) (.slice none 0 0) (lowsC u v 0) (repsC u v 0) :=
    ⟨by go_simp, by go_simp, OwnW.nil _ _, OwnW.nil _ _, fun g h => by simp [Value.ownBlock] at h, by simp, (Below.refl _ _).alloc (Nat.le_refl _) _⟩
  generalize w.alloc (.cells #[.int .u64 u, .int .u64 v] 24) = w1 at *
  go_loopw [5, 6, 8] (fun a b s wr => ∃ k : Nat, k ≤ 4096 ∧ s = .int .u64 (lowC u v k) ∧ (∀ j, j < k → lowC u v j ≤ 9223372036854775808) ∧ Rows11 w wr u v a b (lowsC u v k) (repsC u v k)) (fun _ _ s _ => (9223372036854775810 - intOf s).toNat)
  case atStart => exact ⟨0, by omega, rfl, fun j hj => absurd hj (Nat.not_lt_zero _), W0⟩
  case round =>
    clear W0
    obtain ⟨k, hk, rfl, hl, hw⟩ := hrel
    have HL := Lib.hid hl
    have HW := Lib.hid hw
    clear hl hw
    have l0 := low_pos HG.out k
    have HU := Lib.hid (low_succ u v k)
    have HF : Hid (k = 4096 → lowC u v k = lowC u v 4096) := Lib.hid fun h => by rw [h]
    have HK : Hid (¬ lowC u v k ≤ 9223372036854775808 → RefT w u v (.returned (.tuple #[u5, u6, .bool true])) wr) := Lib.hid fun h => rows_done HG.out hk HL.out h HW.out
    generalize hlo : lowC u v k = lo at *
    have HLO := Lib.hid hlo
    by_cases hle : lo ≤ 9223372036854775808
    · clear HK hlo
      obtain ⟨A, c, rfl⟩ := HW.out.oa.form_at (lowsC_len u v k)
      obtain ⟨A', c', rfl⟩ := HW.out.ob.form_at (repsC_len u v k)
      by_cases hf : k = 4096
      · have HF2 := Lib.hid (HF.out hf)
        have bel := HW.out.bel
        have e1 : ((k : Int) == 4096) = true := by simp; omega
        clear hf
        go_wp2_with fail
        refine bodyPost_ret (v := .tuple #[.slice none 0 0, .slice none 0 0, .bool false]) (by simp [results, Tryz.results55, go_sem]) rfl (Or.inr ⟨rfl, ?_, bel⟩)
        have := HF2.out
        omega
      · have e1 : ((k : Int) == 4096) = false := by simp; omega
        obtain ⟨r, hr⟩ : ∃ r, rawC u v lo = r := ⟨_, rfl⟩
        obtain ⟨s, hs⟩ : ∃ s, ovR (lo * (v + u)) v = s := ⟨_, rfl⟩
        obtain ⟨q, hq⟩ : ∃ q, ovQ (r * v) (v - u) = q := ⟨_, rfl⟩
        obtain ⟨s', hs'⟩ : ∃ s', ovR (r * v) (v - u) = s' := ⟨_, rfl⟩
        obtain ⟨b, hb⟩ : ∃ b, ovB (r * v) (v - u) = b := ⟨_, rfl⟩
        obtain ⟨E, hE⟩ : ∃ E, endC u v lo = E := ⟨_, rfl⟩
        obtain ⟨R, hR⟩ : ∃ R, repC u v lo = R := ⟨_, rfl⟩
        have hw := word_raw HG.out l0 hle
        rw [hr] at hw
        obtain ⟨r0, r1⟩ := hw
        have E0 : lo ≤ E := by rw [← hE]; exact cend_ge HG.out l0 hle
        have E1 : E ≤ 9223372036854775808 := by rw [← hE]; exact end_le u v lo
        have HT1 := Lib.hid (rtimes_lo u v lo HG.out l0 hle)
        have HO1 := Lib.hid (rover_lo u v lo r s HG.out l0 hle hr hs)
        have HT2 := Lib.hid (rtimes_up u v r HG.out r0 r1)
        have HO2 := Lib.hid (rover_up u v r q s' b HG.out r0 r1 hq hs' hb)
        have HWY := Lib.hid (ref_ways HG.out l0 hr hq hb hE hR)
        have HE := Lib.hid hE
        have HR := Lib.hid hR
        have wa : IntKind.u64.wrap (v + u) = v + u := by rw [IntKind.wrap_u64]; omega
        have ws : IntKind.u64.wrap (v - u) = v - u := by rw [IntKind.wrap_u64]; omega
        have WA := Lib.hid wa
        have WS := Lib.hid ws
        clear hr hs hq hs' hb hE hR wa ws
        have HW1 := Lib.hid (HW.out.call ((Below.refl _ _).alloc (Nat.le_refl _) (.cells #[.int .u64 lo] 22)))
        go_wp2_with (at_builtin; refine wpList_append_word rfl _ _ rfl (w.heap.size + 1) _ (lowsC u v k) k (lowsC_len u v k) wr.heap.size lo rfl HW1.out.oa rfl ?c1 ?c2 ?c3 ?_)
        case c1 => go_simp
        case c2 => omega
        case c3 => exact HW1.out.sz
        intro g' cap' w2 ho hg hat
        have P0 := HW1.out.put ho hg (by rcases hat with h | h; exact .inl h; exact .inr (by rw [World.size_alloc]; exact h))
        rw [show lowsC u v k ++ [lo] = lowsC u v (k + 1) by rw [lowsC_succ, HLO.out]] at P0
        have P1 := Lib.hid P0
        have d0 := P0.p0
        have d1 := P0.p1
        have hb2 := P0.bel
        have wa := WA.out
        clear P0 ho hg hat HW1
        go_wp2_with fail
        have BB : Below w2.heap.size w2 w2.drew := (Below.refl _ _).drew
        go_region_held3 (fun w' => w'.cell? ⟨w.heap.size, 0, none⟩ = some (.int .u64 u) ∧ w'.cell? ⟨w.heap.size, 1, none⟩ = some (.int .u64 v) ∧ Below w2.heap.size w2 w')
          ((first | exact ⟨d0, d1, BB⟩ | exact keep2 (by assumption) hbA | assumption))
          (first
            | (go_at_call 43; refine (HT1.out _).mono ?_; rintro e wA ⟨rfl, hbA⟩)
            | (go_at_call 66; refine (HO1.out _).mono ?_; rintro e wA ⟨rfl, hbA⟩))
        have P2 := Lib.hid (P1.out.call (keep2_bel (by assumption)))
        rename_i hheld
        obtain ⟨d2, d3, _⟩ := id hheld
        clear hheld d0 d1 wa
        have wAP := P2
        rcases HWY.out with ⟨k1, rfl, rfl⟩ | ⟨k1, rfl, k2, rfl, rfl⟩ | ⟨k1, rfl, k2, rfl, rfl⟩ | ⟨k1, rfl, rfl, rfl⟩ | ⟨rfl, rfl, k2, rfl, rfl⟩ | ⟨rfl, rfl, rfl, rfl⟩
        · have c1 : decide (r ≤ 9223372036854775808) = false := decide_eq_false (by omega)
          clear HT2 HO2 HWY
          have P3 := Lib.hid ((wAP).out.swap.call ((Below.refl _ _).alloc (Nat.le_refl _) (.cells #[.int .u64 9223372036854775807] 22)))
          go_wp2_with (at_builtin; refine wpList_append_word rfl _ _ rfl (w.heap.size + 1) _ (repsC u v k) k (repsC_len u v k) wA.heap.size (9223372036854775807) rfl P3.out.oa rfl ?c10 ?c20 ?c30 ?_)
          case c10 => go_simp
          case c20 => omega
          case c30 => exact P3.out.sz
          intro g2 cap2 w5 ho hg hat
          have P4 := (P3.out.put ho hg (by rcases hat with h | h; exact .inl h; exact .inr (by rw [World.size_alloc]; exact h))).swap
          rw [show repsC u v k ++ [9223372036854775807] = repsC u v (k + 1) by rw [repsC_succ, HLO.out, HR.out]] at P4
          have P5 := Lib.hid P4
          clear P4 ho hg hat P3
          go_wp2_with fail
          go_roundw
          case rel => exact ⟨k + 1, by omega, by rw [HU.out, HE.out] <;> rfl, fun j hj => by
            by_cases e : j = k
            · subst e; have := HLO.out; omega
            · exact HL.out j (by omega), P5.out⟩
          case measure => simp [intOf]; omega
        · have c1 : (R == 9223372036854775808) = false := by simp; omega
          have ws := WS.out
          clear HWY
          go_wp2_with fail
          have BB2 : Below wA.heap.size wA wA.drew := (Below.refl _ _).drew
          go_region_held3 (fun w' => w'.cell? ⟨w.heap.size, 0, none⟩ = some (.int .u64 u) ∧ w'.cell? ⟨w.heap.size, 1, none⟩ = some (.int .u64 v) ∧ Below wA.heap.size wA w')
            ((first | exact ⟨d2, d3, BB2⟩ | exact keep2 (by assumption) hbB | assumption))
            (first
              | (go_at_call 43; refine (HT2.out _).mono ?_; rintro e wB ⟨rfl, hbB⟩)
              | (go_at_call 66; refine (HO2.out _).mono ?_; rintro e wB ⟨rfl, hbB⟩))
          have wBP := Lib.hid (P2.out.call (keep2_bel (by assumption)))
          clear ws
          have P3 := Lib.hid ((wBP).out.swap.call ((Below.refl _ _).alloc (Nat.le_refl _) (.cells #[.int .u64 R] 22)))
          go_wp2_with (at_builtin; refine wpList_append_word rfl _ _ rfl (w.heap.size + 1) _ (repsC u v k) k (repsC_len u v k) wB.heap.size (R) rfl P3.out.oa rfl ?c11 ?c21 ?c31 ?_)
          case c11 => go_simp
          case c21 => omega
          case c31 => exact P3.out.sz
          intro g2 cap2 w5 ho hg hat
          have P4 := (P3.out.put ho hg (by rcases hat with h | h; exact .inl h; exact .inr (by rw [World.size_alloc]; exact h))).swap
          rw [show repsC u v k ++ [R] = repsC u v (k + 1) by rw [repsC_succ, HLO.out, HR.out]] at P4
          have P5 := Lib.hid P4
          clear P4 ho hg hat P3
          go_wp2_with fail
          go_roundw
          case rel => exact ⟨k + 1, by omega, by rw [HU.out, HE.out] <;> rfl, fun j hj => by
            by_cases e : j = k
            · subst e; have := HLO.out; omega
            · exact HL.out j (by omega), P5.out⟩
          case measure => simp [intOf]; omega
        · have c1 : (R == 9223372036854775808) = false := by simp; omega
          have c2 : decide (q < 9223372036854775808) = false := decide_eq_false (by omega)
          have ws := WS.out
          clear HWY
          go_wp2_with fail
          have BB2 : Below wA.heap.size wA wA.drew := (Below.refl _ _).drew
          go_region_held3 (fun w' => w'.cell? ⟨w.heap.size, 0, none⟩ = some (.int .u64 u) ∧ w'.cell? ⟨w.heap.size, 1, none⟩ = some (.int .u64 v) ∧ Below wA.heap.size wA w')
            ((first | exact ⟨d2, d3, BB2⟩ | exact keep2 (by assumption) hbB | assumption))
            (first
              | (go_at_call 43; refine (HT2.out _).mono ?_; rintro e wB ⟨rfl, hbB⟩)
              | (go_at_call 66; refine (HO2.out _).mono ?_; rintro e wB ⟨rfl, hbB⟩))
          have wBP := Lib.hid (P2.out.call (keep2_bel (by assumption)))
          clear ws
          have P3 := Lib.hid ((wBP).out.swap.call ((Below.refl _ _).alloc (Nat.le_refl _) (.cells #[.int .u64 R] 22)))
          go_wp2_with (at_builtin; refine wpList_append_word rfl _ _ rfl (w.heap.size + 1) _ (repsC u v k) k (repsC_len u v k) wB.heap.size (R) rfl P3.out.oa rfl ?c12 ?c22 ?c32 ?_)
          case c12 => go_simp
          case c22 => omega
          case c32 => exact P3.out.sz
          intro g2 cap2 w5 ho hg hat
          have P4 := (P3.out.put ho hg (by rcases hat with h | h; exact .inl h; exact .inr (by rw [World.size_alloc]; exact h))).swap
          rw [show repsC u v k ++ [R] = repsC u v (k + 1) by rw [repsC_succ, HLO.out, HR.out]] at P4
          have P5 := Lib.hid P4
          clear P4 ho hg hat P3
          go_wp2_with fail
          go_roundw
          case rel => exact ⟨k + 1, by omega, by rw [HU.out, HE.out] <;> rfl, fun j hj => by
            by_cases e : j = k
            · subst e; have := HLO.out; omega
            · exact HL.out j (by omega), P5.out⟩
          case measure => simp [intOf]; omega
        · have c1 : (R == 9223372036854775808) = false := by simp; omega
          have ws := WS.out
          clear HWY
          go_wp2_with fail
          have BB2 : Below wA.heap.size wA wA.drew := (Below.refl _ _).drew
          go_region_held3 (fun w' => w'.cell? ⟨w.heap.size, 0, none⟩ = some (.int .u64 u) ∧ w'.cell? ⟨w.heap.size, 1, none⟩ = some (.int .u64 v) ∧ Below wA.heap.size wA w')
            ((first | exact ⟨d2, d3, BB2⟩ | exact keep2 (by assumption) hbB | assumption))
            (first
              | (go_at_call 43; refine (HT2.out _).mono ?_; rintro e wB ⟨rfl, hbB⟩)
              | (go_at_call 66; refine (HO2.out _).mono ?_; rintro e wB ⟨rfl, hbB⟩))
          have wBP := Lib.hid (P2.out.call (keep2_bel (by assumption)))
          clear ws
          have P3 := Lib.hid ((wBP).out.swap.call ((Below.refl _ _).alloc (Nat.le_refl _) (.cells #[.int .u64 R] 22)))
          go_wp2_with (at_builtin; refine wpList_append_word rfl _ _ rfl (w.heap.size + 1) _ (repsC u v k) k (repsC_len u v k) wB.heap.size (R) rfl P3.out.oa rfl ?c13 ?c23 ?c33 ?_)
          case c13 => go_simp
          case c23 => omega
          case c33 => exact P3.out.sz
          intro g2 cap2 w5 ho hg hat
          have P4 := (P3.out.put ho hg (by rcases hat with h | h; exact .inl h; exact .inr (by rw [World.size_alloc]; exact h))).swap
          rw [show repsC u v k ++ [R] = repsC u v (k + 1) by rw [repsC_succ, HLO.out, HR.out]] at P4
          have P5 := Lib.hid P4
          clear P4 ho hg hat P3
          go_wp2_with fail
          go_roundw
          case rel => exact ⟨k + 1, by omega, by rw [HU.out, HE.out] <;> rfl, fun j hj => by
            by_cases e : j = k
            · subst e; have := HLO.out; omega
            · exact HL.out j (by omega), P5.out⟩
          case measure => simp [intOf]; omega
        · have c2 : decide (q < 9223372036854775808) = false := decide_eq_false (by omega)
          have ws := WS.out
          clear HWY
          go_wp2_with fail
          have BB2 : Below wA.heap.size wA wA.drew := (Below.refl _ _).drew
          go_region_held3 (fun w' => w'.cell? ⟨w.heap.size, 0, none⟩ = some (.int .u64 u) ∧ w'.cell? ⟨w.heap.size, 1, none⟩ = some (.int .u64 v) ∧ Below wA.heap.size wA w')
            ((first | exact ⟨d2, d3, BB2⟩ | exact keep2 (by assumption) hbB | assumption))
            (first
              | (go_at_call 43; refine (HT2.out _).mono ?_; rintro e wB ⟨rfl, hbB⟩)
              | (go_at_call 66; refine (HO2.out _).mono ?_; rintro e wB ⟨rfl, hbB⟩))
          have wBP := Lib.hid (P2.out.call (keep2_bel (by assumption)))
          clear ws
          have P3 := Lib.hid ((wBP).out.swap.call ((Below.refl _ _).alloc (Nat.le_refl _) (.cells #[.int .u64 9223372036854775807] 22)))
          go_wp2_with (at_builtin; refine wpList_append_word rfl _ _ rfl (w.heap.size + 1) _ (repsC u v k) k (repsC_len u v k) wB.heap.size (9223372036854775807) rfl P3.out.oa rfl ?c14 ?c24 ?c34 ?_)
          case c14 => go_simp
          case c24 => omega
          case c34 => exact P3.out.sz
          intro g2 cap2 w5 ho hg hat
          have P4 := (P3.out.put ho hg (by rcases hat with h | h; exact .inl h; exact .inr (by rw [World.size_alloc]; exact h))).swap
          rw [show repsC u v k ++ [9223372036854775807] = repsC u v (k + 1) by rw [repsC_succ, HLO.out, HR.out]] at P4
          have P5 := Lib.hid P4
          clear P4 ho hg hat P3
          go_wp2_with fail
          go_roundw
          case rel => exact ⟨k + 1, by omega, by rw [HU.out, HE.out] <;> rfl, fun j hj => by
            by_cases e : j = k
            · subst e; have := HLO.out; omega
            · exact HL.out j (by omega), P5.out⟩
          case measure => simp [intOf]; omega
        · skip
          have ws := WS.out
          clear HWY
          go_wp2_with fail
          have BB2 : Below wA.heap.size wA wA.drew := (Below.refl _ _).drew
          go_region_held3 (fun w' => w'.cell? ⟨w.heap.size, 0, none⟩ = some (.int .u64 u) ∧ w'.cell? ⟨w.heap.size, 1, none⟩ = some (.int .u64 v) ∧ Below wA.heap.size wA w')
            ((first | exact ⟨d2, d3, BB2⟩ | exact keep2 (by assumption) hbB | assumption))
            (first
              | (go_at_call 43; refine (HT2.out _).mono ?_; rintro e wB ⟨rfl, hbB⟩)
              | (go_at_call 66; refine (HO2.out _).mono ?_; rintro e wB ⟨rfl, hbB⟩))
          have wBP := Lib.hid (P2.out.call (keep2_bel (by assumption)))
          clear ws
          have P3 := Lib.hid ((wBP).out.swap.call ((Below.refl _ _).alloc (Nat.le_refl _) (.cells #[.int .u64 9223372036854775807] 22)))
          go_wp2_with (at_builtin; refine wpList_append_word rfl _ _ rfl (w.heap.size + 1) _ (repsC u v k) k (repsC_len u v k) wB.heap.size (9223372036854775807) rfl P3.out.oa rfl ?c15 ?c25 ?c35 ?_)
          case c15 => go_simp
          case c25 => omega
          case c35 => exact P3.out.sz
          intro g2 cap2 w5 ho hg hat
          have P4 := (P3.out.put ho hg (by rcases hat with h | h; exact .inl h; exact .inr (by rw [World.size_alloc]; exact h))).swap
          rw [show repsC u v k ++ [9223372036854775807] = repsC u v (k + 1) by rw [repsC_succ, HLO.out, HR.out]] at P4
          have P5 := Lib.hid P4
          clear P4 ho hg hat P3
          go_wp2_with fail
          go_roundw
          case rel => exact ⟨k + 1, by omega, by rw [HU.out, HE.out] <;> rfl, fun j hj => by
            by_cases e : j = k
            · subst e; have := HLO.out; omega
            · exact HL.out j (by omega), P5.out⟩
          case measure => simp [intOf]; omega
    · go_wp2_with fail
      exact bodyPost_ret (v := .tuple #[u5, u6, .bool true]) (by simp [results, Tryz.results55, go_sem]) rfl (HK.out hle)
end Go.Proofs.YtcijflakldggaaaGreat

/-
  Walks: wide.Less, the reference's Fewer.
-/
namespace Go.Proofs.YtcijflakldggaaaGreat
set_option linter.unusedVariables false
open Go.RowKit Go.Shelf

/-- Whether a fraction is less than another one. -/
def fewB (an ad bn bd : Int) : Bool := if ad = 0 then false else if bd = 0 then true else decide (an * bd < bn * ad)
theorem few_a {an bn bd : Int} : fewB an 0 bn bd = false := by unfold fewB; rw [if_pos rfl]
theorem few_b {an ad bn : Int} (h : ¬ ad = 0) : fewB an ad bn 0 = true := by unfold fewB; rw [if_neg h, if_pos rfl]
theorem few_c {an ad bn bd : Int} (h : ¬ ad = 0) (h' : ¬ bd = 0) : fewB an ad bn bd = decide (an * bd < bn * ad) := by unfold fewB; rw [if_neg h, if_neg h']

theorem held_keep {B : Nat} {W w w' : World} {an ad bn bd : Int} (h : w.cell? ⟨B, 0, none⟩ = some (.int .u64 an) ∧ w.cell? ⟨B, 1, none⟩ = some (.int .u64 ad) ∧ w.cell? ⟨B + 1, 0, none⟩ = some (.int .u64 bn) ∧ w.cell? ⟨B + 1, 1, none⟩ = some (.int .u64 bd) ∧ Below W.heap.size W w) (hb : Below w.heap.size w w') :
    w'.cell? ⟨B, 0, none⟩ = some (.int .u64 an) ∧ w'.cell? ⟨B, 1, none⟩ = some (.int .u64 ad) ∧ w'.cell? ⟨B + 1, 0, none⟩ = some (.int .u64 bn) ∧ w'.cell? ⟨B + 1, 1, none⟩ = some (.int .u64 bd) ∧ Below W.heap.size W w' :=
  ⟨cell_later hb h.1, cell_later hb h.2.1, cell_later hb h.2.2.1, cell_later hb h.2.2.2.1, h.2.2.2.2.trans (hb.mono h.2.2.2.2.size)⟩

theorem held_bel {B : Nat} {W w : World} {an ad bn bd : Int} (h : w.cell? ⟨B, 0, none⟩ = some (.int .u64 an) ∧ w.cell? ⟨B, 1, none⟩ = some (.int .u64 ad) ∧ w.cell? ⟨B + 1, 0, none⟩ = some (.int .u64 bn) ∧ w.cell? ⟨B + 1, 1, none⟩ = some (.int .u64 bd) ∧ Below W.heap.size W w) : Below W.heap.size W w := h.2.2.2.2

/-! What the law says of the order. -/
theorem few_self (an ad : Int) : fewB an ad an ad = false := by
  unfold fewB
  split
  · rfl
  · simp
theorem few_anti {an ad bn bd : Int} (wad : Word ad) (wbd : Word bd) (h : fewB an ad bn bd = true) : fewB bn bd an ad = false := by
  unfold fewB at *
  by_cases h1 : ad = 0
  · rw [if_pos h1] at h; cases h
  · rw [if_neg h1] at h
    by_cases h2 : bd = 0
    · rw [if_pos h2]
    · rw [if_neg h2] at h ⊢
      rw [if_neg h1]
      rw [decide_eq_true_iff] at h
      apply decide_eq_false
      omega
theorem few_trans {an ad bn bd cn cd : Int} (wa : Word an) (wad : Word ad) (wb : Word bn) (wbd : Word bd) (wc : Word cn) (wcd : Word cd) (h : fewB an ad bn bd = true) (k : fewB bn bd cn cd = true) : fewB an ad cn cd = true := by
  unfold fewB at *
  by_cases h1 : ad = 0
  · rw [if_pos h1] at h; cases h
  · rw [if_neg h1] at h ⊢
    by_cases h3 : cd = 0
    · rw [if_pos h3]
    · rw [if_neg h3] at k ⊢
      by_cases h2 : bd = 0
      · rw [if_pos h2] at k; cases k
      · rw [if_neg h2] at h k
        rw [decide_eq_true_iff] at *
        have pa : 0 < ad := by have := wad.1; omega
        have pb : 0 < bd := by have := wbd.1; omega
        have pc : 0 < cd := by have := wcd.1; omega
        have e1 := Int.mul_lt_mul_of_pos_right h pc
        have e2 := Int.mul_lt_mul_of_pos_right k pa
        have e3 : an * cd * bd < cn * ad * bd := by
          have x1 : an * bd * cd = an * cd * bd := by rw [Int.mul_assoc, Int.mul_comm bd, ← Int.mul_assoc]
          have x2 : bn * ad * cd = bn * cd * ad := by rw [Int.mul_assoc, Int.mul_comm ad, ← Int.mul_assoc]
          have x3 : cn * bd * ad = cn * ad * bd := by rw [Int.mul_assoc, Int.mul_comm bd, ← Int.mul_assoc]
          rw [x1, x2] at e1; rw [x3] at e2; omega
        exact Int.lt_of_mul_lt_mul_right e3 (by omega)
end Go.Proofs.YtcijflakldggaaaGreat

/-
  Walks: the reference's Ceil, wide.Log, wide.Plus, the laws' alive.
-/
namespace Go.Proofs.YtcijflakldggaaaGreat
set_option linter.unusedVariables false
open Go.RowKit Go.Shelf

theorem cl_no {n y : Int} (h : ovB n y = false) : clB n y = false ∧ clQ n y = 0 := by
  have e : clB n y = false := by unfold clB; rw [h]; rfl
  exact ⟨e, by unfold clQ; rw [e]; rfl⟩
theorem cl_full {n y : Int} (h : ovB n y = true) (hr : 0 < ovR n y) (hq : ovQ n y = 18446744073709551615) : clB n y = false ∧ clQ n y = 0 := by
  have e : clB n y = false := by unfold clB; rw [h, decide_eq_true hr, hq]; rfl
  exact ⟨e, by unfold clQ; rw [e]; rfl⟩
theorem cl_up {n y : Int} (h : ovB n y = true) (hr : 0 < ovR n y) (hq : ¬ ovQ n y = 18446744073709551615) : clB n y = true ∧ clQ n y = ovQ n y + 1 := by
  have e : clB n y = true := by unfold clB; rw [h, decide_eq_true hr]; simp [hq]
  exact ⟨e, by unfold clQ; rw [if_pos e, if_pos hr]⟩

set_option maxHeartbeats 1000000 in
theorem rceil_any (a b y : Int) (wa : Word a) (wb : Word b) (wy : Word y) (w : World) :
    Calls Tryz.prog 41 #[.int .u64 a, .int .u64 b, .int .u64 y] w fun e w' =>
      e = .returned (.tuple #[.int .u64 (clQ (a * b) y), .bool (clB (a * b) y)]) ∧ Below w.heap.size w w' := by
  obtain ⟨n0, n1⟩ := mul_bd wa wb
  obtain ⟨⟨q0, q1⟩, ⟨r0, r1⟩⟩ := ov_word (n := a * b) n0 wy
  by_cases ho : ovB (a * b) y = true
  · by_cases hr : 0 < ovR (a * b) y
    · by_cases hq : ovQ (a * b) y = 18446744073709551615
      · have E := Lib.hid (cl_full ho hr hq)
        have hq0 : (ovQ (a * b) y == 18446744073709551615) = true := by simp [hq]
        clear hq
        go_enter Tryz.func41, Tryz.ntmps41
        go_wp2_with fail
        refine (rtimes_any a b wa wb _).mono ?_
        rintro e wA ⟨rfl, hbA⟩
        go_wp2_with fail
        refine (rover_num (a * b) y n0 n1 wy _).mono ?_
        rintro e wB ⟨rfl, hbB⟩
        go_wp2_with fail
        refine bodyPost_ret (v := .tuple #[.int .u64 0, .bool false]) (by simp [results, Tryz.results41, go_sem]) rfl ⟨by rw [E.out.1, E.out.2], ?_⟩
        exact hbA.trans (hbB.mono hbA.size)
      · have E := Lib.hid (cl_up ho hr hq)
        have hq0 : (ovQ (a * b) y == 18446744073709551615) = false := by simp [hq]
        have hq1 : ovQ (a * b) y + 1 < 18446744073709551616 := by omega
        clear hq
        go_enter Tryz.func41, Tryz.ntmps41
        go_wp2_with fail
        refine (rtimes_any a b wa wb _).mono ?_
        rintro e wA ⟨rfl, hbA⟩
        go_wp2_with fail
        refine (rover_num (a * b) y n0 n1 wy _).mono ?_
        rintro e wB ⟨rfl, hbB⟩
        go_wp2_with fail
        refine bodyPost_ret (v := .tuple #[.int .u64 (ovQ (a * b) y + 1), .bool true]) (by simp [results, Tryz.results41, go_sem]) rfl ⟨by rw [E.out.1, E.out.2], ?_⟩
        exact hbA.trans (hbB.mono hbA.size)
    · have E := Lib.hid (cl_zero (n := a * b) (y := y) (by omega))
      go_enter Tryz.func41, Tryz.ntmps41
      go_wp2_with fail
      refine (rtimes_any a b wa wb _).mono ?_
      rintro e wA ⟨rfl, hbA⟩
      go_wp2_with fail
      refine (rover_num (a * b) y n0 n1 wy _).mono ?_
      rintro e wB ⟨rfl, hbB⟩
      go_wp2_with fail
      refine bodyPost_ret (v := .tuple #[.int .u64 (ovQ (a * b) y), .bool true]) (by simp [results, Tryz.results41, go_sem]) rfl ⟨by rw [E.out.1, E.out.2, ho], ?_⟩
      exact hbA.trans (hbB.mono hbA.size)
  · have ho' : ovB (a * b) y = false := by simpa using ho
    have E := Lib.hid (cl_no ho')
    clear ho
    go_enter Tryz.func41, Tryz.ntmps41
    go_wp2_with fail
    refine (rtimes_any a b wa wb _).mono ?_
    rintro e wA ⟨rfl, hbA⟩
    go_wp2_with fail
    refine (rover_num (a * b) y n0 n1 wy _).mono ?_
    rintro e wB ⟨rfl, hbB⟩
    go_wp2_with fail
    refine bodyPost_ret (v := .tuple #[.int .u64 0, .bool false]) (by simp [results, Tryz.results41, go_sem]) rfl ⟨by rw [E.out.1, E.out.2], ?_⟩
    exact hbA.trans (hbB.mono hbA.size)

theorem ceil_712 (w : World) : Calls Tryz.prog 57 #[.int .u64 7, .int .u64 1, .int .u64 2] w fun e w' =>
      e = .returned (.tuple #[.int .u64 4, .bool true]) ∧ Below w.heap.size w w' := by
  have h := ceil_any 7 1 2 (by unfold Word; omega) (by unfold Word; omega) (by unfold Word; omega) w
  rw [show clQ (7 * 1) 2 = 4 by decide, show clB (7 * 1) 2 = true by decide] at h
  exact h
theorem times_634 (w : World) : Calls Tryz.prog 78 #[.int .u64 9223372036854775808, .int .u64 4] w fun e w' =>
      e = .returned (.agg #[.int .u64 2, .int .u64 0]) ∧ Below w.heap.size w w' := by
  have h := times_any 9223372036854775808 4 (by unfold Word; omega) (by unfold Word; omega) w
  rw [show hiW (9223372036854775808 * 4) = 2 by decide, show loW (9223372036854775808 * 4) = 0 by decide] at h
  exact h

set_option maxHeartbeats 400000 in
theorem plus_nil (cap : Nat) (w : World) : Calls Tryz.prog 70 #[.slice none 0 cap] w fun e w' =>
      e = .returned (.tuple #[.int .u64 0, .bool true]) ∧ w = w' := by
  go_enter Tryz.func70, Tryz.ntmps70
  go_wp2_with fail
  go_loop [4, 9] (fun s i => s = .int .u64 0 ∧ i = .int .i64 0) (fun _ _ => 0)
  case atStart => exact ⟨rfl, rfl⟩
  case round =>
    obtain ⟨rfl, rfl⟩ := hrel
    go_wp2_with fail
    exact bodyPost_ret (v := .tuple #[.int .u64 0, .bool true]) (by simp [results, Tryz.results70, go_sem]) rfl ⟨rfl, rfl⟩

set_option maxHeartbeats 400000 in
theorem plus_any (xs : List Int) (b off cap : Nat) (w : World) (hm : xs.length ≤ maxLen) (hw : ∀ x ∈ xs, Word x)
    (hcell : ∀ i x, xs[i]? = some x → w.cell? ⟨b, off + i, none⟩ = some (.int .u64 x)) :
    Calls Tryz.prog 70 #[.slice (some ⟨b, off, none⟩) xs.length cap] w fun e w' =>
      e = .returned (.tuple #[.int .u64 (plQ xs), .bool (plB xs)]) ∧ w = w' := by
  unfold maxLen at hm
  have hpos : ∀ x ∈ xs, 0 ≤ x := fun x hx => (hw x hx).1
  have Hpos := Lib.hid hpos
  have Hw := Lib.hid hw
  have Hcell := Lib.hid hcell
  clear hpos hw hcell
  go_enter Tryz.func70, Tryz.ntmps70
  go_wp2_with fail
  go_loop [4, 9] (fun s i => ∃ k : Nat, k ≤ xs.length ∧ i = .int .i64 k ∧ s = .int .u64 (sumI (xs.take k)) ∧ sumI (xs.take k) ≤ 9223372036854775807) (fun _ i => xs.length - (intOf i).toNat)
  case atStart => exact ⟨0, Nat.zero_le _, rfl, rfl, by simp [sumI]⟩
  case round =>
    obtain ⟨k, hk, rfl, rfl, hs⟩ := hrel
    have s0 : 0 ≤ sumI (xs.take k) := sumI_nonneg (fun x hx => Hpos.out x (List.mem_of_mem_take hx))
    by_cases hlt : k < xs.length
    · obtain ⟨x, hx⟩ : ∃ x, xs[k]? = some x := ⟨_, List.getElem?_eq_getElem hlt⟩
      have e1 := Hcell.out k x hx
      have HS := Lib.hid (sumI_take hx)
      obtain ⟨x0, x1⟩ := Hw.out x (List.mem_of_getElem? hx)
      have HM := Lib.hid (sumI_mono Hpos.out (k + 1))
      clear hx
      generalize sumI (xs.take k) = s at *
      by_cases hg : 9223372036854775807 - s < x
      · have e : plB xs = false := by
          have a := HS.out; have b := HM.out
          unfold plB; apply decide_eq_false; omega
        have e2 : plQ xs = 0 := by unfold plQ; rw [e]; rfl
        have E := Lib.hid e; have E2 := Lib.hid e2
        clear e e2
        go_wp2_with fail
        exact bodyPost_ret (v := .tuple #[.int .u64 0, .bool false]) (by simp [results, Tryz.results70, go_sem]) rfl ⟨by rw [E.out, E2.out], rfl⟩
      · go_wp2_with fail
        go_round
        case rel => exact ⟨k + 1, by omega, by go_num, by rw [HS.out], by rw [HS.out]; omega⟩
        case measure => simp [intOf]; omega
    · obtain rfl : k = xs.length := by omega
      rw [List.take_length] at *
      have e : plB xs = true := by unfold plB; exact decide_eq_true hs
      have e2 : plQ xs = sumI xs := by unfold plQ; rw [if_pos e]
      have E := Lib.hid e; have E2 := Lib.hid e2
      clear e e2
      go_wp2_with fail
      exact bodyPost_ret (v := .tuple #[.int .u64 (sumI xs), .bool true]) (by simp [results, Tryz.results70, go_sem]) rfl ⟨by rw [E.out, E2.out], rfl⟩
end Go.Proofs.YtcijflakldggaaaGreat

/-
  Walks: spans in memory (the landed code): New, Index, Range, Rep, Digits, Part; nil ones.
-/
namespace Go.Proofs.YtcijflakldggaaaGreat
set_option linter.unusedVariables false
set_option linter.unusedSimpArgs false
open Go.RowKit Go.Shelf

theorem heap_new (w : World) (o : Obj) : (w.alloc o).heap[w.heap.size]? = some o := by
  show (w.heap.push o)[w.heap.size]? = some o
  simp


theorem ret_ib {k : IntKind} {a b : Int} {c : Bool} (h : a = b) : Ending.returned (.tuple #[.int k a, .bool c]) = .returned (.tuple #[.int k b, .bool c]) := by rw [h]
theorem ret_uu {a b c d : Int} (h : a = b) (h' : c = d) : Ending.returned (.tuple #[.int .u64 a, .int .u64 c]) = .returned (.tuple #[.int .u64 b, .int .u64 d]) := by rw [h, h']

theorem drewN_add (w : World) (a b : Nat) : (w.drewN a).drewN b = w.drewN (a + b) := by
  induction b with
  | zero => rfl
  | succ b ih => show ((w.drewN a).drewN b).drew = _; rw [ih]; rfl

theorem high_in (L : Nat) {i : Int} (h1 : 1 ≤ i) (h2 : i ≤ lastS L) (hL : L ≤ 14) : 1 ≤ lowI L i ∧ lowI L i ≤ highI L i ∧ highI L i ≤ 9223372036854775808 := by
  obtain ⟨a, b, c⟩ := low_in L h1 h2 hL
  have := pow_pos (cutI L i)
  unfold highI; omega

end Go.Proofs.YtcijflakldggaaaGreat

/-
  Walks: the reference of layer 12 (Half, Index, Range), the laws' alive.
-/
namespace Go.Proofs.YtcijflakldggaaaGreat
set_option linter.unusedVariables false
set_option linter.unusedSimpArgs false
open Go.RowKit Go.Shelf

theorem pow_test {d : Int} {L : Nat} {T : Int} (hs : SpanP d L T) {j : Nat} (h : j ≤ L) : decide ((2 : Int) ^ j < T) = decide (j < L) := by
  apply decide_eq_decide.2
  have hT := spanp_ten hs
  constructor
  · intro a
    by_cases e : j = L
    · subst e; omega
    · omega
  · intro a
    have := pow_le (show j ≤ L - 1 by omega)
    rcases hs with ⟨_, rfl, rfl⟩ | ⟨_, rfl, rfl⟩ | ⟨_, rfl, rfl⟩ | ⟨_, rfl, rfl⟩
    · have e : (2 : Int) ^ (4 - 1) = 8 := by decide
      omega
    · have e : (2 : Int) ^ (7 - 1) = 64 := by decide
      omega
    · have e : (2 : Int) ^ (10 - 1) = 512 := by decide
      omega
    · have e : (2 : Int) ^ (14 - 1) = 8192 := by decide
      omega
def tenN : Nat → Int
  | 0 => 1
  | n + 1 => tenN n * 10
theorem tenN_bd : ∀ k, k ≤ 3 → 1 ≤ tenN k ∧ tenN k ≤ 1000 := by decide
theorem tenN_of {d : Int} {L : Nat} {T : Int} (hs : SpanP d L T) {k : Nat} (h : (k : Int) = d) : tenN k = T := by
  rcases hs with ⟨rfl, rfl, rfl⟩ | ⟨rfl, rfl, rfl⟩ | ⟨rfl, rfl, rfl⟩ | ⟨rfl, rfl, rfl⟩
  · obtain rfl : k = 1 := by omega
    rfl
  · obtain rfl : k = 2 := by omega
    rfl
  · obtain rfl : k = 3 := by omega
    rfl
  · obtain rfl : k = 4 := by omega
    rfl

set_option maxHeartbeats 1000000 in
theorem rhalf_any (d : Int) (L : Nat) (T : Int) (hs : SpanP d L T) (w : World) :
    Calls Tryz.prog 68 #[.int .i64 d] w fun e w' => e = .returned (.int .u64 (2 ^ L)) ∧ w = w' := by
  have d1 : 1 ≤ d := by unfold SpanP at hs; omega
  have d4 : d ≤ 4 := by unfold SpanP at hs; omega
  have HS := Lib.hid hs
  clear hs
  go_enter Tryz.func68, Tryz.ntmps68
  go_wp2_with fail
  go_loop [3, 4] (fun t i => ∃ k : Nat, (k : Int) ≤ d ∧ i = .int .i64 k ∧ t = .int .u64 (tenN k)) (fun _ i => (d - intOf i).toNat)
  case atStart => exact ⟨0, by omega, rfl, rfl⟩
  case round =>
    obtain ⟨k, hk, rfl, rfl⟩ := hrel
    by_cases hlt : (k : Int) < d
    · obtain ⟨t0, t1⟩ := tenN_bd k (by omega)
      have HT := Lib.hid (show tenN (k + 1) = tenN k * 10 from rfl)
      generalize tenN k = t at *
      go_wp2_with fail
      go_round
      case rel => exact ⟨k + 1, by omega, by go_num, by rw [HT.out]⟩
      case measure => simp [intOf]; omega
    · have HT := Lib.hid (tenN_of HS.out (k := k) (by omega))
      rw [HT.out]
      obtain ⟨T0, T1⟩ := spanp_ten HS.out
      obtain ⟨l4, l14⟩ := spanp_log HS.out
      have T2 : T ≤ 10000 := by have := HS.out; unfold SpanP at this; omega
      clear T1
      go_wp2_with fail
      go_loop [5] (fun h => ∃ j : Nat, j ≤ L ∧ h = .int .u64 (2 ^ j)) (fun h => (20000 - intOf h).toNat)
      case atStart => exact ⟨0, by omega, rfl⟩
      case round =>
        obtain ⟨j, hj, rfl⟩ := hrel
        have HP := Lib.hid (pow_test HS.out hj)
        have HU := Lib.hid (pow_up j)
        have p1 := pow_pos j
        have p2 := pow_le (show j ≤ 14 by omega)
        rw [show (2 : Int) ^ 14 = 16384 by decide] at p2
        by_cases hl : j < L
        · have ht : (2 : Int) ^ j < T := by simpa [hl] using HP.out
          generalize (2 : Int) ^ j = p at *
          go_wp2_with fail
          go_round
          case rel => exact ⟨j + 1, by omega, by rw [HU.out]⟩
          case measure => simp [intOf]; omega
        · have ht : ¬ (2 : Int) ^ j < T := by simpa [hl] using HP.out
          obtain rfl : j = L := by omega
          obtain ⟨p, hp⟩ : ∃ p : Int, (2 : Int) ^ j = p := ⟨_, rfl⟩
          have E := Lib.hid hp
          rw [hp] at ht p1 p2 ⊢
          clear hp HP HU
          go_wp2_with fail
          go_ret
          exact ⟨ret_int E.out.symm, rfl⟩

theorem left_test (L : Nat) {m : Int} (h1 : 1 ≤ m) (h2 : m ≤ 9223372036854775808) (hL : L ≤ 14) {j : Nat} (hj : j ≤ cutS L m) : decide (2 * 2 ^ L ≤ m / 2 ^ j) = decide (j < cutS L m) := by
  obtain ⟨a0, a1, a2, a3, a4, a5, a6⟩ := cut_facts L h1 h2 hL
  apply decide_eq_decide.2
  have hp := pow_pos j
  rw [← pow_up, Int.le_ediv_iff_mul_le (by omega), pow_join]
  constructor
  · intro a
    by_cases e : j = cutS L m
    · rw [e] at a; omega
    · omega
  · intro a
    have hq : 2 ^ L ≤ leftS L m := by rcases a3 with h | h <;> omega
    have hc := pow_pos (cutS L m)
    have : 2 ^ L * 2 ^ cutS L m ≤ leftS L m * 2 ^ cutS L m := Int.mul_le_mul_of_nonneg_right hq (by omega)
    rw [pow_join] at this
    have hl : loS L m = leftS L m * 2 ^ cutS L m := rfl
    have := pow_le (show L + 1 + j ≤ L + cutS L m by omega)
    omega
theorem half_more (m : Int) (j : Nat) : m / 2 ^ j / 2 = m / 2 ^ (j + 1) := by
  rw [Int.pow_succ, Int.ediv_ediv_of_nonneg (by have := pow_pos j; omega)]
theorem div_bd {m : Int} (h1 : 1 ≤ m) (h2 : m ≤ 9223372036854775808) (j : Nat) : 0 ≤ m / 2 ^ j ∧ m / 2 ^ j ≤ m := by
  have hp := pow_pos j
  exact ⟨Int.ediv_nonneg (by omega) (by omega), Int.ediv_le_self _ (by omega)⟩

set_option maxHeartbeats 1000000 in
theorem rindex12_any (d : Int) (L : Nat) (T m : Int) (hs : SpanP d L T) (h1 : 1 ≤ m) (h2 : m ≤ 9223372036854775808) (w : World) :
    Calls Tryz.prog 45 #[.int .i64 d, .int .u64 m] w fun e w' => e = .returned (.int .i64 (idxS L m)) ∧ w = w' := by
  obtain ⟨l4, l14⟩ := spanp_log hs
  have HH := Lib.hid (fun W => rhalf_any d L T hs W)
  obtain ⟨a0, a1, a2, a3, _⟩ := cut_facts L h1 h2 l14
  have hpL := pow_le (show L ≤ 14 by omega)
  rw [show (2 : Int) ^ 14 = 16384 by decide] at hpL
  have hpp := pow_pos L
  rw [pow_up] at a2
  have HLT := Lib.hid (fun j (hj : j ≤ cutS L m) => left_test L h1 h2 l14 hj)
  have hkm : (cutS L m : Int) * 2 ^ L ≤ 59 * 16384 := Int.mul_le_mul (by omega) (by omega) (by omega) (by omega)
  have hkm0 : 0 ≤ (cutS L m : Int) * 2 ^ L := Int.mul_nonneg (by omega) (by omega)
  have E : Hid ((cutS L m : Int) * 2 ^ L + leftS L m = idxS L m) := Lib.hid rfl
  have hqd : m / 2 ^ cutS L m = leftS L m := rfl
  generalize leftS L m = q at *
  generalize idxS L m = x at *
  generalize cutS L m = k at *
  obtain ⟨p, hp⟩ : ∃ p : Int, (2 : Int) ^ L = p := ⟨_, rfl⟩
  rw [hp] at HH HLT hkm hkm0 E hpL hpp a2
  have HM := Lib.hid hkm
  have HM0 := Lib.hid hkm0
  clear hp hs l4 l14 a3 hkm hkm0
  go_enter Tryz.func45, Tryz.ntmps45
  go_wp2_with fail
  refine (HH.out _).mono ?_
  rintro e w' ⟨rfl, rfl⟩
  go_wp2_with fail
  go_loop [1, 6] (fun a c => ∃ j : Nat, j ≤ k ∧ a = .int .u64 (m / 2 ^ j) ∧ c = .int .u64 j) (fun _ c => k - (intOf c).toNat)
  case atStart => exact ⟨0, by omega, by simp, rfl⟩
  case round =>
    obtain ⟨j, hj, rfl, rfl⟩ := hrel
    have HT := Lib.hid (HLT.out j hj)
    have HU := Lib.hid (half_more m j)
    obtain ⟨d0, d1⟩ := div_bd h1 h2 j
    by_cases hl : j < k
    · have ht : 2 * p ≤ m / 2 ^ j := by simpa [hl] using HT.out
      generalize m / 2 ^ j = v at *
      clear HT
      go_wp2_with fail
      go_round
      case rel => exact ⟨j + 1, by omega, by rw [← HU.out], by go_num⟩
      case measure => simp [intOf]; omega
    · have ht : ¬ 2 * p ≤ m / 2 ^ j := by simpa [hl] using HT.out
      obtain rfl : j = k := by omega
      rw [hqd] at ht d0 d1 ⊢
      have M1 := HM.out
      have M0 := HM0.out
      clear HT HU hqd
      go_wp2_with fail
      go_ret
      exact ⟨ret_int E.out, rfl⟩

theorem hi_full (L : Nat) {m : Int} (h1 : 1 ≤ m) (h2 : m ≤ 9223372036854775808) (hL : L ≤ 14) (h : loS L m ≠ 9223372036854775808) : hiS L m = loS L m + 2 ^ cutS L m - 1 ∧ loS L m + 2 ^ cutS L m ≤ 9223372036854775808 := by
  obtain ⟨a0, a1, a2, a3, a4, a5, a6⟩ := cut_facts L h1 h2 hL
  have hl : loS L m = leftS L m * 2 ^ cutS L m := rfl
  have hh : hiS L m = min (loS L m + (2 ^ cutS L m - 1)) 9223372036854775808 := rfl
  have hp := pow_pos (cutS L m)
  have e : (2 : Int) ^ (63 - cutS L m) * 2 ^ cutS L m = 9223372036854775808 := by
    rw [pow_join, show 63 - cutS L m + cutS L m = 63 by omega]; decide
  have hq : leftS L m + 1 ≤ 2 ^ (63 - cutS L m) := by
    have : ¬ 2 ^ (63 - cutS L m) ≤ leftS L m := fun h => by
      have := Int.mul_le_mul_of_nonneg_right h (show (0 : Int) ≤ 2 ^ cutS L m by omega)
      omega
    omega
  have h5 := Int.mul_le_mul_of_nonneg_right hq (show (0 : Int) ≤ 2 ^ cutS L m by omega)
  rw [Int.add_mul] at h5
  omega
theorem hi_top (L : Nat) {m : Int} (h : loS L m = 9223372036854775808) : hiS L m = 9223372036854775808 := by
  have hh : hiS L m = min (loS L m + (2 ^ cutS L m - 1)) 9223372036854775808 := rfl
  have := pow_pos (cutS L m)
  omega

set_option maxHeartbeats 1000000 in
theorem rrange12_any (d : Int) (L : Nat) (T m : Int) (hs : SpanP d L T) (h1 : 1 ≤ m) (h2 : m ≤ 9223372036854775808) (w : World) :
    Calls Tryz.prog 81 #[.int .i64 d, .int .u64 m] w fun e w' => e = .returned (.tuple #[.int .u64 (loS L m), .int .u64 (hiS L m)]) ∧ w = w' := by
  obtain ⟨l4, l14⟩ := spanp_log hs
  have HH := Lib.hid (fun W => rhalf_any d L T hs W)
  obtain ⟨a0, a1, a2, a3, a4, _⟩ := cut_facts L h1 h2 l14
  have hpL := pow_le (show L ≤ 14 by omega)
  rw [show (2 : Int) ^ 14 = 16384 by decide] at hpL
  have hpp := pow_pos L
  have HLT := Lib.hid (fun j (hj : j ≤ cutS L m) => left_test L h1 h2 l14 hj)
  have HF := Lib.hid (fun h => hi_full L h1 h2 l14 h)
  have HT := Lib.hid (fun h => hi_top L (m := m) h)
  have ⟨lo0, _⟩ := span_in L h1 h2 l14
  have hmul : leftS L m * 2 ^ cutS L m = loS L m := rfl
  have hqd : m / 2 ^ cutS L m = leftS L m := rfl
  have hk : cutS L m ≤ 59 := by omega
  generalize leftS L m = q at *
  generalize loS L m = lo at *
  generalize hiS L m = hi at *
  generalize cutS L m = k at *
  obtain ⟨p, hp⟩ : ∃ p : Int, (2 : Int) ^ L = p := ⟨_, rfl⟩
  rw [hp] at HH HLT hpL hpp
  clear hp hs l4 l14 a2 a3 a0
  go_enter Tryz.func81, Tryz.ntmps81
  go_wp2_with fail
  refine (HH.out _).mono ?_
  rintro e w' ⟨rfl, rfl⟩
  go_wp2_with fail
  go_loop [7] (fun c => ∃ j : Nat, j ≤ k ∧ c = .int .u64 (2 ^ j)) (fun c => (2 ^ 62 - intOf c).toNat)
  case atStart => exact ⟨0, by omega, rfl⟩
  case round =>
    obtain ⟨j, hj, rfl⟩ := hrel
    have HTE := Lib.hid (HLT.out j hj)
    have HU := Lib.hid (pow_up j)
    have p1 := pow_pos j
    have p2 := pow_le (show j ≤ 59 by omega)
    rw [show (2 : Int) ^ 59 = 576460752303423488 by decide] at p2
    have p0 : ((2 : Int) ^ j == 0) = false := by simp; omega
    obtain ⟨d0, d1⟩ := div_bd h1 h2 j
    obtain ⟨v, hv⟩ : ∃ v, m / 2 ^ j = v := ⟨_, rfl⟩
    by_cases hl : j < k
    · have ht : 2 * p ≤ m / 2 ^ j := by simpa [hl] using HTE.out
      rw [hv] at d0 d1 ht
      generalize (2 : Int) ^ j = s at *
      clear HTE
      go_wp2_with fail
      go_round
      case rel => exact ⟨j + 1, by omega, by rw [HU.out]⟩
      case measure => simp [intOf]; omega
    · have ht : ¬ 2 * p ≤ m / 2 ^ j := by simpa [hl] using HTE.out
      obtain rfl : j = k := by omega
      rw [hv] at hqd d0 d1 ht
      subst hqd
      have hF := HF.out
      have hT := HT.out
      obtain ⟨s, hsz⟩ : ∃ s : Int, (2 : Int) ^ j = s := ⟨_, rfl⟩
      rw [hsz] at hF p1 p2 p0 hv hmul ⊢
      clear HTE HU HF HT hsz
      by_cases hlo : lo = 9223372036854775808
      · have E := Lib.hid (hT hlo)
        have c1 : (lo == 9223372036854775808) = true := by simp [hlo]
        subst hlo
        clear hF hT
        go_wp2_with fail
        go_ret2
        exact ⟨ret_uu rfl E.out.symm, rfl⟩
      · obtain ⟨E1, E2⟩ := hF hlo
        have c1 : (lo == 9223372036854775808) = false := by simp [hlo]
        have E := Lib.hid E1
        clear hF hT E1
        go_wp2_with fail
        go_ret2
        exact ⟨ret_uu rfl E.out.symm, rfl⟩

end Go.Proofs.YtcijflakldggaaaGreat

/-
  Walks: the reference of layer 13 (bins, by definition): what it keeps in memory; Part, Total, Row, Kept, Up.
-/
namespace Go.Proofs.YtcijflakldggaaaGreat
set_option linter.unusedVariables false
set_option linter.unusedSimpArgs false
open Go.RowKit

/-- Which part: the last cell that begins no later. -/
def lastC (u v : Int) : Nat → Int → Int
  | 0, _ => -1
  | k + 1, m => if lowC u v k ≤ m then k else lastC u v k m
theorem lastc_is {u v m : Int} {i : Nat} : ∀ n : Nat, i < n → lowC u v i ≤ m → (∀ k, i < k → k < n → m < lowC u v k) → lastC u v n m = i := by
  intro n
  induction n with
  | zero => intro h; omega
  | succ n ih =>
    intro h h1 h2
    by_cases e : i = n
    · subst e; show (if lowC u v i ≤ m then (i : Int) else _) = _; rw [if_pos h1]
    · have := h2 n (by omega) (by omega)
      show (if lowC u v n ≤ m then (n : Int) else lastC u v n m) = _
      rw [if_neg (by omega)]
      exact ih (by omega) h1 fun k a b => h2 k a (by omega)
theorem lastc_idx {u v m : Int} {n : Nat} (g : GoodC u v) (h : TabN u v n) (h1 : 1 ≤ m) (h2 : m ≤ 9223372036854775808) : lastC u v n m = idxC u v n m := by
  obtain ⟨i, hi, e, a, b⟩ := idx_at g h h1 h2
  rw [e]
  refine lastc_is n hi a fun k hk hn => ?_
  have := low_mono g (show i + 1 ≤ k by omega)
  rw [low_succ] at this; omega

set_option maxRecDepth 100000 in
set_option maxHeartbeats 1000000 in
theorem rfind11_any (w : World) (a cap : Nat) (u v m x : Int) (n : Nat) (hn : n ≤ 4096) (wm : Word m) (hl : ∀ i, i < n → 0 ≤ lowC u v i ∧ lowC u v i ≤ 18446744073709551615) (hc : ∀ i, i < n → w.cell? ⟨a, i, none⟩ = some (.int .u64 (lowC u v i))) (hx : lastC u v n m = x) :
    Calls Tryz.prog 46 #[.slice (some ⟨a, 0, none⟩) n cap, .int .u64 m] w fun e w' => e = .returned (.int .i64 x) ∧ Below w.heap.size w w' := by
  have HX := Lib.hid hx
  have HL := Lib.hid hl
  have HC := Lib.hid hc
  obtain ⟨m0, m1⟩ := wm
  clear hx hl hc
  go_enter Tryz.func46, Tryz.ntmps46
  go_wp2_with fail
  go_loopw [5, 10] (fun s j wr => ∃ k : Nat, k ≤ n ∧ j = .int .i64 k ∧ s = .int .i64 (lastC u v k m) ∧ Below w.heap.size w wr) (fun _ j _ => n - (intOf j).toNat)
  case atStart => exact ⟨0, Nat.zero_le _, rfl, rfl, Below.refl _ _⟩
  case round =>
    obtain ⟨k, hk, rfl, rfl, hb2⟩ := hrel
    by_cases hlt : k < n
    · have kk : (k : Int) < n := by omega
      have c0 := cell_later hb2 (HC.out k hlt)
      obtain ⟨l0, l1⟩ := HL.out k hlt
      have HS : Hid (lastC u v (k + 1) m = if lowC u v k ≤ m then (k : Int) else lastC u v k m) := Lib.hid rfl
      generalize lowC u v k = lo at *
      by_cases he : lo ≤ m
      · rw [if_pos he] at HS
        go_wp2_with fail
        go_roundw
        case rel => exact ⟨k + 1, by omega, by go_num, by rw [HS.out], hb2⟩
        case measure => simp [intOf]; omega
      · rw [if_neg he] at HS
        go_wp2_with fail
        go_roundw
        case rel => exact ⟨k + 1, by omega, by go_num, by rw [HS.out], hb2⟩
        case measure => simp [intOf]; omega
    · obtain rfl : k = n := by omega
      have kk : ¬ (k : Int) < k := by omega
      rw [HX.out]
      go_wp2_with fail
      go_ret
      exact ⟨rfl, hb2⟩

/-- A partition, as the reference keeps it: rows of where cells begin, and of what stands for them, or so many digits. -/
def PtR (w : World) (M : Nat) : Pt → Value → Value → Int → Prop
  | .cells u v n, lo, re, dg => dg = 0 ∧ ∃ g h c c', lo = .slice (some ⟨g, 0, none⟩) n c ∧ re = .slice (some ⟨h, 0, none⟩) n c' ∧ g ≠ M ∧ h ≠ M ∧ (∀ i, i < n → w.cell? ⟨g, i, none⟩ = some (.int .u64 (lowC u v i))) ∧ (∀ i, i < n → w.cell? ⟨h, i, none⟩ = some (.int .u64 (repC u v (lowC u v i))))
  | .spans d L T, lo, re, dg => dg = d ∧ lo = .slice none 0 0 ∧ re = .slice none 0 0
theorem ptr_call {w w' : World} {M : Nat} {P : Pt} {lo re : Value} {dg : Int} (h : PtR w M P lo re dg) (hb : Below w.heap.size w w') : PtR w' M P lo re dg := by
  cases P with
  | cells u v n =>
    obtain ⟨h0, g, h, c, c', h1, h2, n1, n2, h3, h4⟩ := h
    exact ⟨h0, g, h, c, c', h1, h2, n1, n2, fun i hi => cell_later hb (h3 i hi), fun i hi => cell_later hb (h4 i hi)⟩
  | spans d L T => exact h
/-- The reference's bins at block M: a partition, a side, most, and all values. -/
def sideI (s : Bool) : Int := if s = true then 1 else 0
structure RefN (w : World) (M : Nat) (P : Pt) (s : Bool) (m : Int) (A : List PairV) : Prop where
  ex : ∃ lo re dg a cap, PtR w M P lo re dg ∧ Pairs w a A ∧ w.heap[M]? = some (.cells #[lo, re, .int .i64 dg, .int .i64 (sideI s), .int .i64 m, .slice a A.length cap] 48 (0, 0))
theorem RefN.lt {w : World} {M : Nat} {P : Pt} {s : Bool} {m : Int} {A : List PairV} (h : RefN w M P s m A) : M < w.heap.size := by
  obtain ⟨lo, re, dg, a, cap, _, _, hb⟩ := h.ex
  exact lt_of_block hb
theorem RefN.call {w w' : World} {M : Nat} {P : Pt} {s : Bool} {m : Int} {A : List PairV} (h : RefN w M P s m A) (hb : Below w.heap.size w w') : RefN w' M P s m A := by
  have hl := h.lt
  obtain ⟨lo, re, dg, a, cap, h1, h2, h3⟩ := h.ex
  exact ⟨lo, re, dg, a, cap, ptr_call h1 hb, h2.call hb, (hb.block M hl).trans h3⟩
/-- What is read of it. -/
structure CelN (w : World) (M : Nat) (s : Bool) (m : Int) (A : List PairV) (lo re : Value) (dg : Int) (a : Option Addr) (cap : Nat) : Prop where
  c0 : w.cell? ⟨M, 0, none⟩ = some lo
  c1 : w.cell? ⟨M, 1, none⟩ = some re
  c2 : w.cell? ⟨M, 2, none⟩ = some (.int .i64 dg)
  c3 : w.cell? ⟨M, 3, none⟩ = some (.int .i64 (sideI s))
  c4 : w.cell? ⟨M, 4, none⟩ = some (.int .i64 m)
  c5 : w.cell? ⟨M, 5, none⟩ = some (.slice a A.length cap)
theorem RefN.cells {w : World} {M : Nat} {P : Pt} {s : Bool} {m : Int} {A : List PairV} (h : RefN w M P s m A) : ∃ lo re dg a cap, PtR w M P lo re dg ∧ Pairs w a A ∧ CelN w M s m A lo re dg a cap := by
  obtain ⟨lo, re, dg, a, cap, h1, h2, h3⟩ := h.ex
  exact ⟨lo, re, dg, a, cap, h1, h2, by rw [Joins.cell_of_block h3]; rfl, by rw [Joins.cell_of_block h3]; rfl, by rw [Joins.cell_of_block h3]; rfl, by rw [Joins.cell_of_block h3]; rfl, by rw [Joins.cell_of_block h3]; rfl, by rw [Joins.cell_of_block h3]; rfl⟩

set_option maxRecDepth 100000 in
set_option maxHeartbeats 1000000 in
theorem rpart13_any (w : World) (M : Nat) (P : Pt) (s : Bool) (m : Int) (A : List PairV) (x i : Int) (h : RefN w M P s m A) (hP : P.ok) (h1 : 1 ≤ x) (h2 : x ≤ 9223372036854775808) (hi : P.idx x = i) :
    Calls Tryz.prog 21 #[.pointer (some ⟨M, 0, none⟩), .int .u64 x] w fun e w' => e = .returned (.int .i64 i) ∧ Below w.heap.size w w' := by
  obtain ⟨lo, re, dg, a, cap, hp, hv, hc⟩ := h.cells
  have c0 := hc.c0
  have c2 := hc.c2
  clear h hv hc
  cases P with
  | cells u v n =>
    obtain ⟨rfl, g, k, c, c', rfl, rfl, _, _, hl, _⟩ := hp
    obtain ⟨hg, ht, hn⟩ := hP
    have HF := Lib.hid (rfind11_any w g c u v x i n hn (by unfold Word; omega) (fun j hj => by have := low_pos hg j; have := ht.1 j hj; omega) hl (by rw [lastc_idx hg ht h1 h2]; exact hi))
    clear hi hl hg ht hn
    go_enter Tryz.func21, Tryz.ntmps21
    go_wp2_with fail
    refine HF.out.mono ?_
    rintro e w2 ⟨rfl, hb⟩
    go_wp2_with fail
    go_ret
    exact ⟨rfl, hb⟩
  | spans d L T =>
    obtain ⟨rfl, rfl, rfl⟩ := hp
    have d0 : 0 < dg := by have : SpanP dg L T := hP; unfold SpanP at this; omega
    have HF := Lib.hid (rindex12_any dg L T x hP h1 h2 w)
    have e : idxS L x = i := hi
    rw [e] at HF
    clear hi hP e
    go_enter Tryz.func21, Tryz.ntmps21
    go_wp2_with fail
    refine HF.out.mono ?_
    rintro e w2 ⟨rfl, rfl⟩
    go_wp2_with fail
    go_ret
    exact ⟨rfl, Below.refl _ _⟩

set_option maxRecDepth 100000 in
set_option maxHeartbeats 1000000 in
theorem rtotal13_any (w : World) (M : Nat) (P : Pt) (s : Bool) (m : Int) (A : List PairV) (n : Int) (h : RefN w M P s m A) (hl : A.length ≤ 1000) (hn : sumP A = n) (hb : n < 18446744073709551616) :
    Calls Tryz.prog 17 #[.pointer (some ⟨M, 0, none⟩)] w fun e w' => e = .returned (.int .u64 n) ∧ Below w.heap.size w w' := by
  obtain ⟨lo, re, dg, a, cap, hp, hv, hc⟩ := h.cells
  have c5 := hc.c5
  have HI := Lib.hid hv
  have HN := Lib.hid hn
  have HP := Lib.hid (fun k => sumP_take (L := A) k (ok_pos hv.ok))
  clear h hn hp hc hv
  go_enter Tryz.func17, Tryz.ntmps17
  go_wp2_with fail
  go_loopw [3, 11] (fun s j wr => ∃ (k : Nat) (m : Int), k ≤ A.length ∧ j = .int .i64 k ∧ s = .int .u64 m ∧ m = sumP (A.take k) ∧ Below w.heap.size w wr) (fun _ j _ => A.length - (intOf j).toNat)
  case atStart => exact ⟨0, 0, Nat.zero_le _, rfl, rfl, rfl, Below.refl _ _⟩
  case round =>
    obtain ⟨k, m, hk, rfl, rfl, hm, hb2⟩ := hrel
    have HM := Lib.hid hm
    by_cases hlt : k < A.length
    · have kk : (k : Int) < A.length := by omega
      have hxk : A[k]? = some A[k] := List.getElem?_eq_getElem hlt
      generalize hit : A[k] = p at *
      obtain ⟨px, pc⟩ := p
      obtain ⟨b, off, rfl, hbl, c0, c1⟩ := (HI.out.call hb2).at_ k _ hxk
      have HS := Lib.hid (sum_step' hxk)
      have hok := HI.out.ok _ (List.mem_of_getElem? hxk)
      have p1 := HP.out (k + 1)
      have p0 := HP.out k
      rw [HN.out] at p1
      rw [HS.out] at p1
      rw [← hm] at p0 p1
      have hbs := hb2.size
      obtain ⟨⟨o1, o2⟩, o3, o4⟩ := hok
      simp only at c0 c1 o1 o2 o3 o4 p1 HS
      obtain ⟨p2, p3⟩ := p1
      obtain ⟨p4, _⟩ := p0
      clear hxk hit hm
      go_wp2_with fail
      go_roundw
      case rel => exact ⟨k + 1, m + pc, by omega, by go_num, rfl, by rw [HS.out, HM.out], hb2.alloc hbs _⟩
      case measure => simp [intOf]; omega
    · obtain rfl : k = A.length := by omega
      rw [List.take_length, HN.out] at HM
      have kk : ¬ (A.length : Int) < A.length := by omega
      clear hm
      go_wp2_with fail
      go_ret
      exact ⟨ret_int HM.out, hb2⟩

theorem cnt_take {f : Int → Bool} {A : List PairV} {k : Nat} {p : PairV} (h : A[k]? = some p) : cntV f (A.take (k + 1)) = cntV f (A.take k) + if f p.1 = true then p.2 else 0 := by
  rw [take_snocP h, cnt_app, cnt_one]
theorem cnt_part {f : Int → Bool} {A : List PairV} (k : Nat) (h : ∀ v, v ∈ A → 0 ≤ v.2) : 0 ≤ cntV f (A.take k) ∧ cntV f (A.take k) ≤ sumP A := by
  have h1 := cnt_bd (f := f) (A := A.take k) (fun v hv => h v (List.mem_of_mem_take hv))
  have h2 := cnt_le (f := f) (g := fun _ => true) (A := A.take k) (fun v hv => h v (List.mem_of_mem_take hv)) (fun _ _ _ => rfl)
  rw [cnt_all] at h2
  have := sumP_take (L := A) k h
  omega

end Go.Proofs.YtcijflakldggaaaGreat
/-
  Plain mathematics of bins: what is found is what is asked for; what is told of ranks.
-/
namespace Go.Proofs.YtcijflakldggaaaGreat
set_option linter.unusedVariables false
set_option linter.unusedSimpArgs false

theorem exact_of {A : List PairV} {t x : Int} (h : exactV A t = some x) : ∃ v, v ∈ A ∧ v.1 = x ∧ ltV A x < t ∧ t ≤ upV A x := by
  unfold exactV at h
  obtain ⟨v, hv, rfl⟩ := Option.map_eq_some_iff.1 h
  have h1 := List.find?_some hv
  unfold isV at h1
  simp only [Bool.and_eq_true, decide_eq_true_eq] at h1
  exact ⟨v, List.mem_of_find?_eq_some hv, rfl, h1.1, by rw [up_split]; exact h1.2⟩
theorem exact_not {A : List PairV} (h : FineV A) {t : Int} (ht : t < 1 ∨ sumP A < t) : exactV A t = none := by
  have hpos := fine_pos h
  unfold exactV
  rw [List.find?_eq_none.2, Option.map_none]
  intro v hv
  unfold isV
  have a : 0 ≤ ltV A v.1 := cnt_bd hpos
  have b : upV A v.1 ≤ sumP A := by rw [← cnt_all]; exact cnt_le hpos fun _ _ _ => rfl
  rw [up_split] at b
  simp only [Bool.and_eq_true, decide_eq_true_eq, not_and]
  intro c; omega
theorem exact_is {A : List PairV} (h : FineV A) {t : Int} (h1 : 1 ≤ t) (h2 : t ≤ sumP A) : ∃ x, exactV A t = some x := by
  obtain ⟨v, hv, hi⟩ := exact_some h h1 h2
  unfold exactV
  cases e : A.find? (isV A t) with
  | none => exact absurd hi (by simpa using List.find?_eq_none.1 e v hv)
  | some u => exact ⟨u.1, rfl⟩

/-- What Find answers stands for the very value that is asked for, unless that one is lost. -/
theorem find_ask {P : Pt} (hP : P.ok) (s : Bool) {m : Int} (hm : 0 < m) {A : List PairV} (h : FineV A) (hl : A.length ≤ 1000) (t : Int) : findSt P s (stV P s m A) t = askV P s m A t := by
  have hpos := fine_pos h
  have hall := sides_all hP h hl
  have S1 := row_sum50 hP true h hl
  have S2 := row_sum50 hP false h hl
  have e1 := row_sum hP true h hl
  have e2 := row_sum hP false h hl
  have z0 : 0 ≤ zeroV A := cnt_bd hpos
  have q1 : 0 ≤ sumP (rowV P true A) := sumP_pos (ok_pos S1.ok)
  have q2 : 0 ≤ sumP (rowV P false A) := sumP_pos (ok_pos S2.ok)
  have fs : findSt P s (stV P s m A) t = if t < 1 then none
      else if t ≤ sumP (rowV P true A) then (findS s (keepS s m (rowV P true A)) (sumP (rowV P true A) - sumP (keepS s m (rowV P true A))) (sumP (rowV P true A) - t + 1)).map fun i => -(P.rep i)
      else if t ≤ sumP (rowV P true A) + zeroV A then some 0
      else if t ≤ sumP (rowV P true A) + zeroV A + sumP (rowV P false A) then (findS s (keepS s m (rowV P false A)) (sumP (rowV P false A) - sumP (keepS s m (rowV P false A))) (t - sumP (rowV P true A) - zeroV A)).map fun i => min (P.rep i) 9223372036854775807
      else none := rfl
  rw [fs]
  by_cases h1 : t < 1
  · rw [if_pos h1]; unfold askV; rw [exact_not h (.inl h1)]
  by_cases h2 : sumP A < t
  · rw [if_neg h1, if_neg (by omega), if_neg (by omega), if_neg (by omega)]; unfold askV; rw [exact_not h (.inr h2)]
  obtain ⟨x, hx⟩ := exact_is h (show 1 ≤ t by omega) (by omega)
  obtain ⟨v, hv, hvx, hlt, hup⟩ := exact_of hx
  unfold askV
  rw [hx]
  show _ = if x ≠ 0 ∧ countP (keepS s m (rowV P (decide (x < 0)) A)) (P.idx (mag x)) = 0 then none else some (standV P x)
  have hxi : I64 x := hvx ▸ (h v hv).1
  by_cases x0 : x = 0
  · subst x0
    have a : ltV A 0 = sumP (rowV P true A) := by rw [e1]; exact cnt_eq fun u _ => by rw [side_true]
    have b : eqV A 0 = zeroV A := rfl
    rw [up_split] at hup
    rw [if_neg h1, if_neg (by omega), if_pos (by omega), if_neg (by simp)]
    unfold standV; rw [if_pos rfl]
  obtain ⟨m1, m2⟩ := mag_in hxi x0
  have hpi := pt_idx hP m1 m2
  by_cases xn : x < 0
  · have a : upV A x ≤ sumP (rowV P true A) := by
      rw [e1]; exact cnt_le hpos fun u _ hu => by rw [side_true]; have : u.1 ≤ x := by simpa using hu
                                                  simp; omega
    have b1 : belowP (rowV P true A) (P.idx (mag x) - 1) ≤ sumP (rowV P true A) - upV A x := by
      rw [row_below hP true h hl, e1]
      have : cntV (sideV true) A = upV A x + cntV (fun y => decide (x < y) && decide (y < 0)) A := cnt_two fun u _ => by
        rw [side_true]
        by_cases c : u.1 ≤ x
        · have : u.1 < 0 := by omega
          have d : ¬ x < u.1 := by omega
          simp [c, this, d]
        · have d : x < u.1 := by omega
          simp [c, d]
      rw [this]
      have := cnt_le (f := fun y => sideV true y && decide (P.idx (mag y) ≤ P.idx (mag x) - 1)) (g := fun y => decide (x < y) && decide (y < 0)) hpos (fun u hu huf => by
        rw [side_true] at huf
        simp only [Bool.and_eq_true, decide_eq_true_eq] at huf ⊢
        refine ⟨?_, huf.1⟩
        by_cases c : x < u.1
        · exact c
        · exfalso
          have hu1 := (h u hu).1
          obtain ⟨n1, n2⟩ := mag_in hu1 (by omega)
          have := pt_mono hP m1 (show mag x ≤ mag u.1 by unfold mag; rw [if_pos xn, if_pos huf.1]; omega) n2
          omega)
      omega
    have b2 : sumP (rowV P true A) - ltV A x ≤ belowP (rowV P true A) (P.idx (mag x)) := by
      rw [row_below hP true h hl, e1]
      have : cntV (sideV true) A = ltV A x + cntV (fun y => decide (x ≤ y) && decide (y < 0)) A := cnt_two fun u _ => by
        rw [side_true]
        by_cases c : u.1 < x
        · have : u.1 < 0 := by omega
          have d : ¬ x ≤ u.1 := by omega
          simp [c, this, d]
        · have d : x ≤ u.1 := by omega
          simp [c, d]
      rw [this]
      have := cnt_le (g := fun y => sideV true y && decide (P.idx (mag y) ≤ P.idx (mag x))) (f := fun y => decide (x ≤ y) && decide (y < 0)) hpos (fun u hu huf => by
        rw [side_true]
        simp only [Bool.and_eq_true, decide_eq_true_eq] at huf ⊢
        refine ⟨huf.2, ?_⟩
        have hu1 := (h u hu).1
        obtain ⟨n1, n2⟩ := mag_in hu1 (by omega)
        exact pt_mono hP n1 (show mag u.1 ≤ mag x by unfold mag; rw [if_pos xn, if_pos huf.2]; omega) m2)
      omega
    have hf := find_of S1.good (t := sumP (rowV P true A) - t + 1) (i := P.idx (mag x)) (by omega) (by omega) (by omega)
    have hc : 0 < countP (rowV P true A) (P.idx (mag x)) := by
      have p0 : eqV A x ≤ countP (rowV P true A) (P.idx (mag x)) := by
        rw [row_count hP true h hl]
        exact cnt_le hpos fun u hu huf => by
          have : u.1 = x := by simpa using huf
          rw [this, side_true]; simp [xn]
      rw [up_split] at hup; omega
    have := finds_keep (s := s) hm S1.good _ _ hf hc
    rw [if_neg h1, if_pos (by omega), this]
    have dt : decide (x < 0) = true := decide_eq_true xn
    rw [dt]
    by_cases ck : countP (keepS s m (rowV P true A)) (P.idx (mag x)) = 0
    · rw [if_pos ck, if_pos ⟨x0, ck⟩]; rfl
    · rw [if_neg ck, if_neg (fun c => ck c.2)]
      unfold standV; rw [if_neg x0, if_pos xn]; rfl
  · have xp : 0 < x := by omega
    have tz : sumP (rowV P true A) + zeroV A ≤ ltV A x := by
      have : cntV (fun y => decide (y ≤ 0)) A = cntV (sideV true) A + zeroV A := cnt_two fun u _ => by
        rw [side_true]
        by_cases c : u.1 < 0
        · have : (u.1 == 0) = false := by simp; omega
          simp [c, this]; omega
        · by_cases d : u.1 = 0
          · simp [d]
          · have e : (u.1 == 0) = false := by simp [d]
            simp [c, e]; omega
      rw [e1, ← this]
      exact cnt_le hpos fun u _ hu => by have : u.1 ≤ 0 := by simpa using hu
                                         simp; omega
    have hle : upV A x ≤ sumP A := by rw [← cnt_all]; exact cnt_le hpos fun _ _ _ => rfl
    have sp : ∀ f : Int → Bool, (∀ y, y ≤ 0 → f y = true) → cntV f A = sumP (rowV P true A) + zeroV A + cntV (fun y => f y && decide (0 < y)) A := by
      intro f hf
      have a1 : cntV f A = cntV (fun y => decide (y ≤ 0)) A + cntV (fun y => f y && decide (0 < y)) A := cnt_two fun u _ => by
        by_cases c : u.1 ≤ 0
        · have d : ¬ 0 < u.1 := by omega
          simp [c, hf u.1 c, d]
        · have d : 0 < u.1 := by omega
          simp [c, d]
      have a2 : cntV (fun y => decide (y ≤ 0)) A = cntV (sideV true) A + zeroV A := cnt_two fun u _ => by
        rw [side_true]
        by_cases c : u.1 < 0
        · have : (u.1 == 0) = false := by simp; omega
          simp [c, this]; omega
        · by_cases d : u.1 = 0
          · simp [d]
          · have e : (u.1 == 0) = false := by simp [d]
            simp [c, e]; omega
      rw [a1, a2, e1]
    have b1 : belowP (rowV P false A) (P.idx (mag x) - 1) ≤ ltV A x - sumP (rowV P true A) - zeroV A := by
      rw [row_below hP false h hl]
      have := sp (fun y => decide (y < x)) (fun y hy => by simp; omega)
      have t2 : ltV A x = cntV (fun y => decide (y < x)) A := rfl
      have := cnt_le (f := fun y => sideV false y && decide (P.idx (mag y) ≤ P.idx (mag x) - 1)) (g := fun y => decide (y < x) && decide (0 < y)) hpos (fun u hu huf => by
        rw [side_false] at huf
        simp only [Bool.and_eq_true, decide_eq_true_eq] at huf ⊢
        refine ⟨?_, huf.1⟩
        by_cases c : u.1 < x
        · exact c
        · exfalso
          have hu1 := (h u hu).1
          obtain ⟨n1, n2⟩ := mag_in hu1 (by omega)
          have := pt_mono hP m1 (show mag x ≤ mag u.1 by unfold mag; rw [if_neg xn, if_neg (by omega)]; omega) n2
          omega)
      omega
    have b2 : upV A x - sumP (rowV P true A) - zeroV A ≤ belowP (rowV P false A) (P.idx (mag x)) := by
      rw [row_below hP false h hl]
      have := sp (fun y => decide (y ≤ x)) (fun y hy => by simp; omega)
      have t2 : upV A x = cntV (fun y => decide (y ≤ x)) A := rfl
      have := cnt_le (g := fun y => sideV false y && decide (P.idx (mag y) ≤ P.idx (mag x))) (f := fun y => decide (y ≤ x) && decide (0 < y)) hpos (fun u hu huf => by
        rw [side_false]
        simp only [Bool.and_eq_true, decide_eq_true_eq] at huf ⊢
        refine ⟨huf.2, ?_⟩
        have hu1 := (h u hu).1
        obtain ⟨n1, n2⟩ := mag_in hu1 (by omega)
        exact pt_mono hP n1 (show mag u.1 ≤ mag x by unfold mag; rw [if_neg xn, if_neg (by omega)]; omega) m2)
      omega
    have hf := find_of S2.good (t := t - sumP (rowV P true A) - zeroV A) (i := P.idx (mag x)) (by omega) (by omega) (by omega)
    have hc : 0 < countP (rowV P false A) (P.idx (mag x)) := by
      have p0 : eqV A x ≤ countP (rowV P false A) (P.idx (mag x)) := by
        rw [row_count hP false h hl]
        exact cnt_le hpos fun u hu huf => by
          have : u.1 = x := by simpa using huf
          rw [this, side_false]; simp [xp]
      rw [up_split] at hup; omega
    have := finds_keep (s := s) hm S2.good _ _ hf hc
    rw [if_neg h1, if_neg (by omega), if_neg (by omega), if_pos (by omega), this]
    have dt : decide (x < 0) = false := decide_eq_false xn
    rw [dt]
    by_cases ck : countP (keepS s m (rowV P false A)) (P.idx (mag x)) = 0
    · rw [if_pos ck, if_pos ⟨x0, ck⟩]; rfl
    · rw [if_neg ck, if_neg (fun c => ck c.2)]
      unfold standV; rw [if_neg x0, if_neg xn]; rfl
/-- Of the same sign and part. -/
def sameV (P : Pt) (x y : Int) : Bool := (decide (y < 0) == decide (x < 0)) && ((y == 0) == (x == 0)) && ((x == 0) || (P.idx (mag y) == P.idx (mag x)))
def ownV (P : Pt) (A : List PairV) (x : Int) : Int := cntV (sameV P x) A
def aheadV (P : Pt) (A : List PairV) (x : Int) : Int := cntV (fun y => !(sameV P x y) && decide (y < x)) A

theorem low_zero {P : Pt} (hP : P.ok) {A : List PairV} (h : FineV A) (hl : A.length ≤ 1000) : upV A 0 = sumP (rowV P true A) + zeroV A := by
  rw [row_sum hP true h hl]
  exact cnt_two fun u _ => by
    rw [side_true]
    by_cases c : u.1 < 0
    · have : (u.1 == 0) = false := by simp; omega
      simp [c, this]; omega
    · by_cases d : u.1 = 0
      · simp [d]
      · have e : (u.1 == 0) = false := by simp [d]
        simp [c, e]; omega
/-- Rank tells no more, and no less, than there is; where nothing is lost just what is told. -/
theorem rank_in {P : Pt} (hP : P.ok) (s : Bool) {m : Int} (hm : 0 < m) {A : List PairV} (h : FineV A) (hl : A.length ≤ 1000) {x : Int} (hxi : I64 x) :
    (rankSt P s m (stV P s m A) x).1 ≤ upV A x ∧ upV A x ≤ (rankSt P s m (stV P s m A) x).2 ∧
    (((stV P s m A).t1 - sumP (stV P s m A).k1) + ((stV P s m A).t2 - sumP (stV P s m A).k2) = 0 →
      (x = 0 → (rankSt P s m (stV P s m A) x).1 = aheadV P A x + ownV P A x ∧ (rankSt P s m (stV P s m A) x).2 = (rankSt P s m (stV P s m A) x).1) ∧
      (x ≠ 0 → (rankSt P s m (stV P s m A) x).1 = aheadV P A x ∧ (rankSt P s m (stV P s m A) x).2 = aheadV P A x + ownV P A x)) := by
  have hpos := fine_pos h
  have hall := sides_all hP h hl
  have S1 := row_sum50 hP true h hl
  have S2 := row_sum50 hP false h hl
  have e1 := row_sum hP true h hl
  have e2 := row_sum hP false h hl
  have lz := low_zero hP h hl
  have g1 := keeps_sum s m (ok_pos S1.ok)
  have g2 := keeps_sum s m (ok_pos S2.ok)
  have k1 : (stV P s m A).k1 = keepS s m (rowV P true A) := rfl
  have k2 : (stV P s m A).k2 = keepS s m (rowV P false A) := rfl
  have kt1 : (stV P s m A).t1 = sumP (rowV P true A) := rfl
  have kt2 : (stV P s m A).t2 = sumP (rowV P false A) := rfl
  have rk : rankSt P s m (stV P s m A) x = if x = 0 then (sumP (rowV P true A) + zeroV A, sumP (rowV P true A) + zeroV A)
      else if x < 0 then (sumP (rowV P true A) - highS s m (keepS s m (rowV P true A)) (sumP (rowV P true A) - sumP (keepS s m (rowV P true A))) (P.idx (mag x)), sumP (rowV P true A) - lowS s m (keepS s m (rowV P true A)) (sumP (rowV P true A) - sumP (keepS s m (rowV P true A))) (P.idx (mag x) - 1))
      else (sumP (rowV P true A) + zeroV A + lowS s m (keepS s m (rowV P false A)) (sumP (rowV P false A) - sumP (keepS s m (rowV P false A))) (P.idx (mag x) - 1), sumP (rowV P true A) + zeroV A + highS s m (keepS s m (rowV P false A)) (sumP (rowV P false A) - sumP (keepS s m (rowV P false A))) (P.idx (mag x))) := rfl
  rw [rk, k1, k2, kt1, kt2]
  by_cases x0 : x = 0
  · subst x0
    rw [if_pos rfl]
    refine ⟨by omega, by omega, fun _ => ⟨fun _ => ⟨?_, rfl⟩, fun c => absurd rfl c⟩⟩
    have : upV A 0 = aheadV P A 0 + ownV P A 0 := cnt_two fun u _ => by
      unfold sameV
      by_cases c : u.1 < 0
      · have d : (u.1 == 0) = false := by simp; omega
        simp [c, d]; omega
      · by_cases d : u.1 = 0
        · simp [d]
        · have e : (u.1 == 0) = false := by simp [d]
          simp [c, e]; omega
    show sumP (rowV P true A) + zeroV A = _
    omega
  obtain ⟨m1, m2⟩ := mag_in hxi x0
  rw [if_neg x0]
  by_cases xn : x < 0
  · rw [if_pos xn]
    have B1 := belows_keep (s := s) hm S1.good (P.idx (mag x))
    have B2 := belows_keep (s := s) hm S1.good (P.idx (mag x) - 1)
    have c1 := row_below hP true h hl (P.idx (mag x))
    have c2 := row_below hP true h hl (P.idx (mag x) - 1)
    -- above: parts ahead
    have d1 : cntV (sideV true) A = cntV (fun y => sideV true y && decide (P.idx (mag y) ≤ P.idx (mag x))) A + aheadV P A x := cnt_two fun u hu => by
      unfold sameV
      rw [side_true]
      have hu1 := (h u hu).1
      by_cases c : u.1 < 0
      · have z : (u.1 == 0) = false := by simp; omega
        have zx : (x == 0) = false := by simp [x0]
        obtain ⟨n1, n2⟩ := mag_in hu1 (by omega)
        by_cases q : P.idx (mag u.1) ≤ P.idx (mag x)
        · by_cases r : P.idx (mag u.1) = P.idx (mag x)
          · simp [c, z, zx, xn, r]
          · have : ¬ u.1 < x := fun w => by
              have := pt_mono hP m1 (show mag x ≤ mag u.1 by unfold mag; rw [if_pos xn, if_pos c]; omega) n2
              omega
            simp [c, z, zx, xn, q, this]
        · have : u.1 < x := by
            by_cases w : u.1 < x
            · exact w
            · exfalso
              have := pt_mono hP n1 (show mag u.1 ≤ mag x by unfold mag; rw [if_pos xn, if_pos c]; omega) m2
              omega
          have r : ¬ P.idx (mag u.1) = P.idx (mag x) := by omega
          simp [c, z, zx, xn, q, this, r]
      · have : ¬ u.1 < x := by omega
        simp [c, this]
    have d2 : cntV (fun y => sideV true y && decide (P.idx (mag y) ≤ P.idx (mag x))) A = cntV (fun y => sideV true y && decide (P.idx (mag y) ≤ P.idx (mag x) - 1)) A + ownV P A x := cnt_two fun u hu => by
      unfold sameV
      rw [side_true]
      have zx : (x == 0) = false := by simp [x0]
      by_cases c : u.1 < 0
      · have z : (u.1 == 0) = false := by simp; omega
        by_cases r : P.idx (mag u.1) = P.idx (mag x)
        · have : ¬ P.idx (mag x) ≤ P.idx (mag x) - 1 := by omega
          simp [c, z, zx, xn, r, this]
        · by_cases q : P.idx (mag u.1) ≤ P.idx (mag x)
          · have : P.idx (mag u.1) ≤ P.idx (mag x) - 1 := by omega
            simp [c, z, zx, xn, r, q, this]
          · have : ¬ P.idx (mag u.1) ≤ P.idx (mag x) - 1 := by omega
            simp [c, z, zx, xn, r, q, this]
      · have : decide (u.1 < 0) = false := decide_eq_false c
        simp [this, xn]
    have u1 : aheadV P A x ≤ upV A x := cnt_le hpos fun u _ hu => by simp only [Bool.and_eq_true, decide_eq_true_eq] at hu ⊢; omega
    have u2 : upV A x ≤ aheadV P A x + ownV P A x := by
      have : cntV (fun y => !(sameV P x y) && decide (y < x) || sameV P x y) A = aheadV P A x + ownV P A x := cnt_two fun u _ => ⟨rfl, by cases sameV P x u.1 <;> simp⟩
      rw [← this]
      exact cnt_le hpos fun u _ hu => by
        have : u.1 ≤ x := by simpa using hu
        by_cases w : u.1 < x
        · simp only [w, decide_true, Bool.and_true]
          cases sameV P x u.1 <;> rfl
        · have : u.1 = x := by omega
          have : sameV P x u.1 = true := by rw [this]; unfold sameV; simp
          rw [this]; simp
    refine ⟨by show sumP (rowV P true A) - highS s m _ _ _ ≤ _; omega, by show _ ≤ sumP (rowV P true A) - lowS s m _ _ _; omega, fun z => ⟨fun c => absurd c x0, fun _ => ⟨?_, ?_⟩⟩⟩
    · show sumP (rowV P true A) - highS s m _ _ _ = _
      have : ¬ 0 < sumP (rowV P true A) - sumP (keepS s m (rowV P true A)) := by omega
      have := B1.2.2.resolve_right this
      omega
    · show sumP (rowV P true A) - lowS s m _ _ _ = _
      have : ¬ 0 < sumP (rowV P true A) - sumP (keepS s m (rowV P true A)) := by omega
      have := B2.2.2.resolve_right this
      omega
  · rw [if_neg xn]
    have xp : 0 < x := by omega
    have B1 := belows_keep (s := s) hm S2.good (P.idx (mag x))
    have B2 := belows_keep (s := s) hm S2.good (P.idx (mag x) - 1)
    have c1 := row_below hP false h hl (P.idx (mag x))
    have c2 := row_below hP false h hl (P.idx (mag x) - 1)
    have zx : (x == 0) = false := by simp [x0]
    have d1 : aheadV P A x = upV A 0 + cntV (fun y => sideV false y && decide (P.idx (mag y) ≤ P.idx (mag x) - 1)) A := cnt_two fun u hu => by
      unfold sameV
      rw [side_false]
      have hu1 := (h u hu).1
      by_cases c : 0 < u.1
      · have z : (u.1 == 0) = false := by simp; omega
        have cn : ¬ u.1 < 0 := by omega
        have c0 : ¬ u.1 ≤ 0 := by omega
        obtain ⟨n1, n2⟩ := mag_in hu1 (by omega)
        by_cases r : P.idx (mag u.1) = P.idx (mag x)
        · have : ¬ P.idx (mag x) ≤ P.idx (mag x) - 1 := by omega
          simp [c, cn, c0, z, zx, xn, r, this]
        · by_cases q : P.idx (mag u.1) ≤ P.idx (mag x)
          · have a1 : P.idx (mag u.1) ≤ P.idx (mag x) - 1 := by omega
            have a2 : u.1 < x := by
              by_cases w : u.1 < x
              · exact w
              · exfalso
                have := pt_mono hP m1 (show mag x ≤ mag u.1 by unfold mag; rw [if_neg xn, if_neg cn]; omega) n2
                omega
            simp [c, cn, c0, z, zx, xn, r, a1, a2]
          · have a1 : ¬ P.idx (mag u.1) ≤ P.idx (mag x) - 1 := by omega
            have a2 : ¬ u.1 < x := fun w => by
              have := pt_mono hP n1 (show mag u.1 ≤ mag x by unfold mag; rw [if_neg xn, if_neg cn]; omega) m2
              omega
            simp [c, cn, c0, z, zx, xn, r, a1, a2]
      · have a1 : u.1 ≤ 0 := by omega
        have a2 : u.1 < x := by omega
        by_cases z : u.1 = 0
        · simp [z, zx, xp]
        · have z' : (u.1 == 0) = false := by simp [z]
          have cn : u.1 < 0 := by omega
          simp [c, z', zx, xn, a1, a2, cn]
    have d2 : cntV (fun y => sideV false y && decide (P.idx (mag y) ≤ P.idx (mag x))) A = cntV (fun y => sideV false y && decide (P.idx (mag y) ≤ P.idx (mag x) - 1)) A + ownV P A x := cnt_two fun u hu => by
      unfold sameV
      rw [side_false]
      by_cases c : 0 < u.1
      · have z : (u.1 == 0) = false := by simp; omega
        have cn : ¬ u.1 < 0 := by omega
        by_cases r : P.idx (mag u.1) = P.idx (mag x)
        · have : ¬ P.idx (mag x) ≤ P.idx (mag x) - 1 := by omega
          simp [c, cn, z, zx, xn, r, this]
        · by_cases q : P.idx (mag u.1) ≤ P.idx (mag x)
          · have : P.idx (mag u.1) ≤ P.idx (mag x) - 1 := by omega
            simp [c, cn, z, zx, xn, r, q, this]
          · have : ¬ P.idx (mag u.1) ≤ P.idx (mag x) - 1 := by omega
            simp [c, cn, z, zx, xn, r, q, this]
      · have hd : decide (0 < u.1) = false := decide_eq_false c
        by_cases z : u.1 = 0
        · simp [z, zx]
        · have z' : (u.1 == 0) = false := by simp [z]
          have cn : u.1 < 0 := by omega
          simp [hd, z', zx, xn, cn]
    have u1 : aheadV P A x ≤ upV A x := cnt_le hpos fun u _ hu => by simp only [Bool.and_eq_true, decide_eq_true_eq] at hu ⊢; omega
    have u2 : upV A x ≤ aheadV P A x + ownV P A x := by
      have : cntV (fun y => !(sameV P x y) && decide (y < x) || sameV P x y) A = aheadV P A x + ownV P A x := cnt_two fun u _ => ⟨rfl, by cases sameV P x u.1 <;> simp⟩
      rw [← this]
      exact cnt_le hpos fun u _ hu => by
        have : u.1 ≤ x := by simpa using hu
        by_cases w : u.1 < x
        · simp only [w, decide_true, Bool.and_true]
          cases sameV P x u.1 <;> rfl
        · have : u.1 = x := by omega
          have : sameV P x u.1 = true := by rw [this]; unfold sameV; simp
          rw [this]; simp
    refine ⟨by show sumP (rowV P true A) + zeroV A + lowS s m _ _ _ ≤ _; omega, by show _ ≤ sumP (rowV P true A) + zeroV A + highS s m _ _ _; omega, fun z => ⟨fun c => absurd c x0, fun _ => ⟨?_, ?_⟩⟩⟩
    · show sumP (rowV P true A) + zeroV A + lowS s m _ _ _ = _
      have : ¬ 0 < sumP (rowV P false A) - sumP (keepS s m (rowV P false A)) := by omega
      have := B2.2.2.resolve_right this
      omega
    · show sumP (rowV P true A) + zeroV A + highS s m _ _ _ = _
      have : ¬ 0 < sumP (rowV P false A) - sumP (keepS s m (rowV P false A)) := by omega
      have := B1.2.2.resolve_right this
      omega
end Go.Proofs.YtcijflakldggaaaGreat

/-
  Walks: the reference of layer 13: Row, Kept, Stands.
-/
namespace Go.Proofs.YtcijflakldggaaaGreat
set_option linter.unusedVariables false
set_option linter.unusedSimpArgs false
open Go.RowKit

theorem rowv_step {P : Pt} {b : Bool} {A : List PairV} {k : Nat} {p : PairV} (h : A[k]? = some p) : rowV P b (A.take (k + 1)) = if sideV b p.1 = true then addP (rowV P b (A.take k)) (P.idx (mag p.1)) p.2 else rowV P b (A.take k) := by
  rw [take_snocP h, row_snoc]
theorem keep2r {B : Nat} {W w w' : World} {x y : Value} (h : w.cell? ⟨B, 0, none⟩ = some x ∧ w.cell? ⟨B, 1, none⟩ = some y ∧ Below W.heap.size W w) (hb : Below w.heap.size w w') :
    w'.cell? ⟨B, 0, none⟩ = some x ∧ w'.cell? ⟨B, 1, none⟩ = some y ∧ Below W.heap.size W w' :=
  ⟨cell_later hb h.1, cell_later hb h.2.1, h.2.2.trans (hb.mono h.2.2.size)⟩

set_option maxRecDepth 100000 in
set_option maxHeartbeats 2000000 in
theorem rrow13_any (w : World) (M : Nat) (P : Pt) (s : Bool) (m : Int) (A : List PairV) (b : Bool) (h : RefN w M P s m A) (hP : P.ok) (hf : FineV A) (hl : A.length ≤ 1000) :
    Calls Tryz.prog 61 #[.pointer (some ⟨M, 0, none⟩), .bool b] w fun e w' => ∃ v, e = .returned v ∧ OwnP w' w.heap.size v (rowV P b A) ∧ Below w.heap.size w w' := by
  have HR := Lib.hid h
  have HPP := Lib.hid hP
  have HF := Lib.hid hf
  obtain ⟨lo, re, dg, a, cap, hp, hv, hc⟩ := h.cells
  have c5 := hc.c5
  have HI := Lib.hid hv
  clear h hP hf hp hv hc
  go_enter Tryz.func61, Tryz.ntmps61
  go_wp2_with fail
  go_loopw [5, 13] (fun o j wr => ∃ k : Nat, k ≤ A.length ∧ j = .int .i64 k ∧ OwnP wr w.heap.size o (rowV P b (A.take k)) ∧ Below w.heap.size w wr) (fun _ j _ => A.length - (intOf j).toNat)
  case atStart => exact ⟨0, Nat.zero_le _, rfl, OwnP.nil _ _, Below.refl _ _⟩
  case round =>
    obtain ⟨k, hk, rfl, ho, hb2⟩ := hrel
    by_cases hlt : k < A.length
    · have kk : (k : Int) < A.length := by omega
      have hxk : A[k]? = some A[k] := List.getElem?_eq_getElem hlt
      have HFK := Lib.hid (fine_take HF.out k)
      generalize hit : A[k] = p at *
      obtain ⟨px, pc⟩ := p
      obtain ⟨bb, off, rfl, hbl, c0, c1⟩ := (HI.out.call hb2).at_ k _ hxk
      have HS := Lib.hid (rowv_step (P := P) (b := b) hxk)
      have hfp := HF.out _ (List.mem_of_getElem? hxk)
      have HFP := Lib.hid hfp
      have hbs := hb2.size
      obtain ⟨⟨o1, o2⟩, o3, o4⟩ := hfp
      simp only at c0 c1 o1 o2 o3 o4 HS HFP
      have HB3 := Lib.hid (hb2.alloc hbs (.cells #[.int .i64 px, .int .u64 pc] 52))
      have HO3 := Lib.hid (ho.call ((Below.refl wr.heap.size wr).alloc (Nat.le_refl _) (.cells #[.int .i64 px, .int .u64 pc] 52)))
      clear hxk hit ho
      by_cases hz : px = 0
      · have hsd : sideV b px = false := by rw [hz]; cases b <;> rfl
        rw [hsd] at HS
        subst hz
        go_wp2_with fail
        go_roundw
        case rel => exact ⟨k + 1, by omega, by go_num, by rw [HS.out]; exact HO3.out, HB3.out⟩
        case measure => simp [intOf]; omega
      · have z1 : (px == 0) = false := by simp [hz]
        have z2 : (!px == 0) = true := by simp [hz]
        by_cases hs : sideV b px = true
        · rw [if_pos hs] at HS
          have hd : (decide (px < 0) == b) = true := by unfold sideV at hs; rw [z1] at hs; simpa using hs
          have HMG := Lib.hid (mag_in HFP.out.1 hz)
          have hmw : Word (mag px) := mag_word HFP.out.1
          have HIX := Lib.hid (pt_idx HPP.out HMG.out.1 HMG.out.2)
          have HS50 := Lib.hid (row_sum50 HPP.out b HFK.out (by have := List.length_take_le' k A; omega))
          obtain ⟨mg, hmg⟩ : ∃ mg, mag px = mg := ⟨_, rfl⟩
          rw [hmg] at HS HMG HIX hmw
          have HSZ := Lib.hid (fun W => size_any px HFP.out.1 W)
          rw [hmg] at HSZ
          obtain ⟨i, hi⟩ : ∃ i, P.idx mg = i := ⟨_, rfl⟩
          rw [hi] at HS HIX
          have HPT := Lib.hid (fun W hW => rpart13_any W M P s m A mg i hW HPP.out HMG.out.1 HMG.out.2 hi)
          have hcn := count_le_sum i (ok_pos HS50.out.ok)
          have hs50 := HS50.out.sum
          have hl50 := HS50.out.len
          have htl := List.length_take_le' k A
          obtain ⟨n, hn⟩ : ∃ n, countP (rowV P b (A.take k)) i + pc = n := ⟨_, rfl⟩
          have hnb : n < 18446744073709551616 := by
            have : ((A.take k).length : Int) * 1125899906842624 ≤ 1000 * 1125899906842624 := Int.mul_le_mul_of_nonneg_right (by omega) (by omega)
            omega
          have hrl : (rowV P b (A.take k)).length ≤ 1000 := by omega
          obtain ⟨ra, rcap, hu, hpr⟩ := HO3.out.pairs HS50.out.ok
          subst hu
          have HPR := Lib.hid hpr
          have HAD := Lib.hid (fun W hW => radd_any W ra rcap (rowV P b (A.take k)) i pc n hW hrl (by have := HIX.out; unfold I64; omega) (by unfold Word; omega) hn hnb)
          have HRW := Lib.hid (HR.out.call HB3.out)
          obtain ⟨rn, hrn⟩ : ∃ rn : Nat, (rowV P b (A.take k)).length = rn := ⟨_, rfl⟩
          rw [hrn] at HAD
          clear hmg hi hn hnb hcn hs50 hl50 htl hrl hpr HS50 HO3
          go_wp2_with fail
          have v0 : (wr.alloc (.cells #[.int .i64 px, .int .u64 pc] 52)).cell? ⟨wr.heap.size, 0, none⟩ = some (.int .i64 px) := by go_simp
          have v1 : (wr.alloc (.cells #[.int .i64 px, .int .u64 pc] 52)).cell? ⟨wr.heap.size, 1, none⟩ = some (.int .u64 pc) := by go_simp
          have hbz : w.heap.size ≤ (wr.alloc (.cells #[.int .i64 px, .int .u64 pc] 52)).heap.size := by simp; omega
          generalize (wr.alloc (.cells #[.int .i64 px, .int .u64 pc] 52)) = wB at *
          have BB : Below wB.heap.size wB wB.drew := (Below.refl _ _).drew
          go_region_held3 (fun w' => w'.cell? ⟨wr.heap.size, 0, none⟩ = some (.int .i64 px) ∧ w'.cell? ⟨wr.heap.size, 1, none⟩ = some (.int .u64 pc) ∧ Below wB.heap.size wB w')
            ((first | exact ⟨v0, v1, BB⟩ | exact keep2r (by assumption) hbA | assumption))
            (first
              | (go_at_call 20; refine (HSZ.out _).mono ?_; rintro e wA ⟨rfl, rfl⟩)
              | (go_at_call 21; refine (HPT.out _ (HRW.out.call (by assumption : _ ∧ _ ∧ Below _ _ _).2.2)).mono ?_; rintro e wA ⟨rfl, hbA⟩)
              | (go_at_call 82; refine (HAD.out _ (HPR.out.call (by assumption : _ ∧ _ ∧ Below _ _ _).2.2)).mono ?_; rintro e wA ⟨v, rfl, hO', hbA⟩; have hO := own_mono8 hO' (Nat.le_trans hbz (by assumption : _ ∧ _ ∧ Below _ _ _).2.2.size)))
          all_goals
            go_wp2_with fail
            go_roundw
            case rel => exact ⟨k + 1, by omega, by go_num, by rw [HS.out]; exact hO, HB3.out.trans ((by assumption : _ ∧ _ ∧ Below _ _ _).2.2.mono hbz)⟩
            case measure => simp [intOf]; omega
        · rw [if_neg hs] at HS
          have hd : (decide (px < 0) == b) = false := by unfold sideV at hs; rw [z1] at hs; simpa using hs
          go_wp2_with fail
          go_roundw
          case rel => exact ⟨k + 1, by omega, by go_num, by rw [HS.out]; exact HO3.out, HB3.out⟩
          case measure => simp [intOf]; omega
    · obtain rfl : k = A.length := by omega
      rw [List.take_length] at ho
      have kk : ¬ (A.length : Int) < A.length := by omega
      go_wp2_with fail
      go_ret
      exact ⟨_, rfl, ho, hb2⟩
theorem ret_vi {v : Value} {a b : Int} (h : a = b) : Ending.returned (.tuple #[v, .int .u64 a]) = .returned (.tuple #[v, .int .u64 b]) := by rw [h]

set_option maxRecDepth 100000 in
set_option maxHeartbeats 2000000 in
theorem rkept13_any (w : World) (M : Nat) (P : Pt) (s : Bool) (m : Int) (A : List PairV) (b : Bool) (t : Int) (h : RefN w M P s m A) (hP : P.ok) (hf : FineV A) (hl : A.length ≤ 1000) (m1 : 1 ≤ m) (m2 : m ≤ 4096) (ht : sumP (rowV P b A) - sumP (keepS s m (rowV P b A)) = t) :
    Calls Tryz.prog 40 #[.pointer (some ⟨M, 0, none⟩), .bool b] w fun e w' => ∃ v, e = .returned (.tuple #[v, .int .u64 t]) ∧ OwnP w' w.heap.size v (keepS s m (rowV P b A)) ∧ Below w.heap.size w w' := by
  have HRW := Lib.hid (rrow13_any w M P s m A b h hP hf hl)
  have HR := Lib.hid h
  have HT := Lib.hid ht
  have S50 := row_sum50 hP b hf hl
  have HG := Lib.hid S50.good
  have HO := Lib.hid S50.ok
  have hrl : (rowV P b A).length ≤ 1000 := by have := S50.len; omega
  have hrs : sumP (rowV P b A) ≤ 9223372036854775807 := by
    have := S50.sum
    have : (A.length : Int) * 1125899906842624 ≤ 1000 * 1125899906842624 := Int.mul_le_mul_of_nonneg_right (by omega) (by omega)
    omega
  obtain ⟨lo, re, dg, a, cap, hp, hv, hc⟩ := h.cells
  have c3 := hc.c3
  have c4 := hc.c4
  have hM := h.lt
  clear h hP hf hp hv hc S50 ht
  generalize rowV P b A = R at *
  go_enter Tryz.func40, Tryz.ntmps40
  go_wp2_with fail
  refine HRW.out.mono ?_
  rintro e w2 ⟨v, rfl, ho, hb2⟩
  obtain ⟨ra, rcap, rfl, hpr⟩ := ho.pairs HO.out
  have HPR := Lib.hid hpr
  have hbs := hb2.size
  have d3 := cell_later hb2 c3
  have d4 := cell_later hb2 c4
  clear hpr HRW c3 c4 HR
  by_cases hn : R = []
  · subst hn
    have E : Hid (t = 0) := Lib.hid (by rw [← HT.out, keeps_nil]; rfl)
    have hlen : (([] : List PairV).length : Int) = 0 := rfl
    go_wp2_with fail
    go_ret2
    exact ⟨_, ret_vi E.out.symm, by rw [keeps_nil]; exact OwnP.nil _ _, hb2⟩
  · obtain ⟨rn, hrn⟩ : ∃ rn : Nat, R.length = rn := ⟨_, rfl⟩
    have hr0 : 0 < rn := by rw [← hrn]; exact List.length_pos_iff.2 hn
    have HRN := Lib.hid hrn
    rw [hrn] at hrl ⊢
    have z1 : ((rn : Int) == 0) = false := by simp; omega
    cases s with
    | true =>
      have e3 : sideI true = 1 := rfl
      rw [e3] at d3
      have hb3 : Below w2.heap.size w2 (w2.alloc (.cells #[.int .i64 m, .slice ra rn rcap] 123)) := (Below.refl _ _).alloc (Nat.le_refl _) _
      have q0 : (w2.alloc (.cells #[.int .i64 m, .slice ra rn rcap] 123)).cell? ⟨w2.heap.size, 0, none⟩ = some (.int .i64 m) := by go_simp
      have q1 : (w2.alloc (.cells #[.int .i64 m, .slice ra rn rcap] 123)).cell? ⟨w2.heap.size, 1, none⟩ = some (.slice ra rn rcap) := by go_simp
      have HK := Lib.hid (hrkept_of _ w2.heap.size m ra rcap R (HPR.out.call hb3) q0 (by rw [hrn]; exact q1) HG.out (by omega) (by omega) m2)
      have HLO := Lib.hid (fun W (hb : Below _ _ W) => hrlost_of W w2.heap.size m ra rcap R t ((HPR.out.call hb3).call hb) (cell_later hb q0) (cell_later hb (by rw [hrn]; exact q1)) HG.out (by omega) (by omega) m2 hrs HT.out)
      have HB3 := Lib.hid (hb2.trans (hb3.mono hbs))
      clear hrn hb3 q0 q1
      go_wp2_with fail
      refine HK.out.mono ?_
      rintro e w4 ⟨v, rfl, hO, hb4⟩
      go_wp2_with fail
      refine (HLO.out _ hb4).mono ?_
      rintro e w5 ⟨rfl, hb5⟩
      go_wp2_with fail
      go_ret2
      exact ⟨_, rfl, own_mono8 (hO.call hb5) (by simp; omega), (HB3.out.trans (hb4.mono HB3.out.size)).trans (hb5.mono (HB3.out.trans (hb4.mono HB3.out.size)).size)⟩
    | false =>
      have e3 : sideI false = 0 := rfl
      rw [e3] at d3
      have hb3 : Below w2.heap.size w2 (w2.alloc (.cells #[.int .i64 m, .slice ra rn rcap] 125)) := (Below.refl _ _).alloc (Nat.le_refl _) _
      have q0 : (w2.alloc (.cells #[.int .i64 m, .slice ra rn rcap] 125)).cell? ⟨w2.heap.size, 0, none⟩ = some (.int .i64 m) := by go_simp
      have q1 : (w2.alloc (.cells #[.int .i64 m, .slice ra rn rcap] 125)).cell? ⟨w2.heap.size, 1, none⟩ = some (.slice ra rn rcap) := by go_simp
      have HK := Lib.hid (rkept_of _ w2.heap.size m ra rcap R (HPR.out.call hb3) q0 (by rw [hrn]; exact q1) HG.out (by omega) (by omega) m2)
      have HLO := Lib.hid (fun W (hb : Below _ _ W) => rlost_of W w2.heap.size m ra rcap R t ((HPR.out.call hb3).call hb) (cell_later hb q0) (cell_later hb (by rw [hrn]; exact q1)) HG.out (by omega) (by omega) m2 hrs HT.out)
      have HB3 := Lib.hid (hb2.trans (hb3.mono hbs))
      clear hrn hb3 q0 q1
      go_wp2_with fail
      refine HK.out.mono ?_
      rintro e w4 ⟨v, rfl, hO, hb4⟩
      go_wp2_with fail
      refine (HLO.out _ hb4).mono ?_
      rintro e w5 ⟨rfl, hb5⟩
      go_wp2_with fail
      go_ret2
      exact ⟨_, rfl, own_mono8 (hO.call hb5) (by simp; omega), (HB3.out.trans (hb4.mono HB3.out.size)).trans (hb5.mono (HB3.out.trans (hb4.mono HB3.out.size)).size)⟩

set_option maxRecDepth 100000 in
set_option maxHeartbeats 2000000 in
theorem rstands_any (w : World) (M : Nat) (P : Pt) (s : Bool) (m : Int) (A : List PairV) (x y : Int) (h : RefN w M P s m A) (hP : P.ok) (hx : I64 x) (hy : standV P x = y) :
    Calls Tryz.prog 60 #[.pointer (some ⟨M, 0, none⟩), .int .i64 x] w fun e w' => e = .returned (.int .i64 y) ∧ Below w.heap.size w w' := by
  by_cases x0 : x = 0
  · subst x0
    have e : y = 0 := by rw [← hy]; rfl
    subst e
    clear h hy
    go_enter Tryz.func60, Tryz.ntmps60
    go_wp2_with fail
    go_ret
    exact ⟨rfl, Below.refl _ _⟩
  obtain ⟨g1, g2⟩ := mag_in hx x0
  have hpi := pt_idx hP g1 g2
  have HSZ := Lib.hid (size_any x hx w)
  have z1 : (x == 0) = false := by simp [x0]
  obtain ⟨x1, x2⟩ := hx
  obtain ⟨mg, hmg⟩ : ∃ mg, mag x = mg := ⟨_, rfl⟩
  obtain ⟨r, hr⟩ : ∃ r, P.rep (P.idx mg) = r := ⟨_, rfl⟩
  have hst : (0 < x → min r 9223372036854775807 = y) ∧ (x < 0 → -r = y) := by
    have hs : standV P x = if x = 0 then 0 else if x < 0 then -(P.rep (P.idx (mag x))) else min (P.rep (P.idx (mag x))) 9223372036854775807 := rfl
    rw [hmg, hr] at hs
    rw [if_neg x0] at hs
    constructor
    · intro c; rw [if_neg (by omega)] at hs; rw [← hs]; exact hy
    · intro c; rw [if_pos c] at hs; rw [← hs]; exact hy
  rw [hmg] at HSZ hpi g1 g2
  rw [hr] at hpi
  obtain ⟨i0, i1, r1, r2⟩ := hpi
  obtain ⟨lo, re, dg, a, cap, hp, hv, hc⟩ := h.cells
  have c0 := hc.c0
  have c1 := hc.c1
  have c2 := hc.c2
  clear h hv hc hmg hy
  have fin : ∀ (K : Prop), K → K := fun _ k => k
  have HE : Hid ((0 < x → min r 9223372036854775807 = y) ∧ (x < 0 → r ≠ 9223372036854775808 → -r = y) ∧ (x < 0 → r = 9223372036854775808 → y = -9223372036854775808)) := Lib.hid (by
    refine ⟨fun c => ?_, fun c d => ?_, fun c d => ?_⟩
    · exact hst.1 c
    · exact hst.2 c
    · have := hst.2 c; omega)
  clear hst fin
  cases P with
  | cells u v n =>
    obtain ⟨rfl, g, k, c, c', rfl, rfl, _, _, hl, hk⟩ := hp
    obtain ⟨hg, ht, hn⟩ := hP
    obtain ⟨j, hj, e, ja, jb⟩ := idx_at hg ht g1 g2
    have hcr := hk j hj
    have hjr : repC u v (lowC u v j) = r := by
      rw [← hr]
      show _ = if 0 ≤ ((idxC u v n mg : Nat) : Int) ∧ ((idxC u v n mg : Nat) : Int) < n then repC u v (lowC u v ((idxC u v n mg : Nat) : Int).toNat) else 0
      rw [e, if_pos ⟨by omega, by omega⟩, Int.toNat_natCast]
    rw [hjr] at hcr
    have HF := Lib.hid (fun W (hb : Below w.heap.size w W) => rfind11_any W g c u v mg j n hn (by unfold Word; omega) (fun j hj => by have := low_pos hg j; have := ht.1 j hj; omega) (fun q hq => cell_later hb (hl q hq)) (by rw [lastc_idx hg ht g1 g2, e]))
    have kj : (j : Int) < n := by omega
    have j0 : (0 : Int) ≤ j := by omega
    clear hl hk hg ht e ja jb hjr hr
    have BB : Below w.heap.size w w.drew := (Below.refl _ _).drew
    go_enter Tryz.func60, Tryz.ntmps60
    go_wp2_with fail
    refine HSZ.out.mono ?_
    rintro e w2 ⟨rfl, rfl⟩
    go_wp2_with fail
    go_region_held3 (fun w' => w'.cell? ⟨M, 0, none⟩ = some (.slice (some ⟨g, 0, none⟩) n c) ∧ w'.cell? ⟨M, 1, none⟩ = some (.slice (some ⟨k, 0, none⟩) n c') ∧ w'.cell? ⟨k, j, none⟩ = some (.int .u64 r) ∧ Below w.heap.size w w')
      ((first | exact ⟨c0, c1, hcr, BB⟩ | exact ⟨cell_later hbA (by assumption : _ ∧ _ ∧ _ ∧ Below _ _ _).1, cell_later hbA (by assumption : _ ∧ _ ∧ _ ∧ Below _ _ _).2.1, cell_later hbA (by assumption : _ ∧ _ ∧ _ ∧ Below _ _ _).2.2.1, (by assumption : _ ∧ _ ∧ _ ∧ Below _ _ _).2.2.2.trans (hbA.mono (by assumption : _ ∧ _ ∧ _ ∧ Below _ _ _).2.2.2.size)⟩ | assumption))
      (first
        | (go_at_call 46; refine (HF.out _ (by assumption : _ ∧ _ ∧ _ ∧ Below _ _ _).2.2.2).mono ?_; rintro e wA ⟨rfl, hbA⟩))
    all_goals
      have hBL := (by assumption : _ ∧ _ ∧ _ ∧ Below _ _ _).2.2.2
      by_cases xp : 0 < x
      · go_wp2_with fail
        go_ret
        exact ⟨ret_int (HE.out.1 xp), hBL⟩
      · have xn : x < 0 := by omega
        by_cases hr9 : r = 9223372036854775808
        · have E := Lib.hid (HE.out.2.2 xn hr9)
          subst hr9
          go_wp2_with fail
          go_ret
          exact ⟨ret_int E.out.symm, hBL⟩
        · have z2 : (r == 9223372036854775808) = false := by simp [hr9]
          have E := Lib.hid (HE.out.2.1 xn hr9)
          go_wp2_with fail
          go_ret
          exact ⟨ret_int E.out, hBL⟩
  | spans d L T =>
    obtain ⟨rfl, rfl, rfl⟩ := hp
    have hs : SpanP dg L T := hP
    have d0 : 0 < dg := by unfold SpanP at hs; omega
    have HF := Lib.hid (rrange12_any dg L T mg hs g1 g2 w)
    obtain ⟨s1, s2, s3, s4⟩ := span_in L g1 g2 (spanp_log hs).2
    have hrr : loS L mg + (hiS L mg - loS L mg) / 2 = r := by
      rw [← hr]
      show _ = if 1 ≤ idxS L mg ∧ idxS L mg ≤ lastS L then midS (lowI L (idxS L mg)) (highI L (idxS L mg)) else 0
      rw [if_pos ⟨idx_bd L g1 g2 (spanp_log hs).2, idx_last L g1 g2 (spanp_log hs).2⟩, low_idx L g1 g2 (spanp_log hs).2, high_idx L g1 g2 (spanp_log hs).2]; rfl
    generalize loS L mg = sl at *
    generalize hiS L mg = sh at *
    clear hr hs hP
    go_enter Tryz.func60, Tryz.ntmps60
    go_wp2_with fail
    refine HSZ.out.mono ?_
    rintro e w2 ⟨rfl, rfl⟩
    go_wp2_with fail
    refine HF.out.mono ?_
    rintro e w2 ⟨rfl, rfl⟩
    by_cases xp : 0 < x
    · have E := Lib.hid (HE.out.1 xp)
      go_wp2_with fail
      go_ret
      exact ⟨ret_int E.out, Below.refl _ _⟩
    · have xn : x < 0 := by omega
      by_cases hr9 : r = 9223372036854775808
      · have E := Lib.hid (HE.out.2.2 xn hr9)
        have z2 : (r == 9223372036854775808) = true := by simp [hr9]
        go_wp2_with fail
        go_ret
        exact ⟨ret_int E.out.symm, Below.refl _ _⟩
      · have z2 : (r == 9223372036854775808) = false := by simp [hr9]
        have E := Lib.hid (HE.out.2.1 xn hr9)
        go_wp2_with fail
        go_ret
        exact ⟨ret_int E.out, Below.refl _ _⟩
end Go.Proofs.YtcijflakldggaaaGreat

/-
  Walks: a table of cells in memory, and all calls that read it, of a nil one too.
-/
namespace Go.Proofs.YtcijflakldggaaaGreat
set_option linter.unusedVariables false
set_option linter.unusedSimpArgs false
open Go.RowKit

/-- The first n cells of a closeness. -/
def rowC (u v : Int) (n : Nat) : List CellV := (List.range n).map fun i => (endC u v (lowC u v i), repC u v (lowC u v i))
theorem rowC_len (u v : Int) (n : Nat) : (rowC u v n).length = n := by unfold rowC; simp
theorem rowC_at (u v : Int) {n i : Nat} (h : i < n) : (rowC u v n)[i]? = some (endC u v (lowC u v i), repC u v (lowC u v i)) := by
  unfold rowC; rw [List.getElem?_map, List.getElem?_range h]; rfl
theorem rowC_succ (u v : Int) (n : Nat) : rowC u v (n + 1) = rowC u v n ++ [(endC u v (lowC u v n), repC u v (lowC u v n))] := by
  unfold rowC; rw [List.range_succ, List.map_append]; rfl

/-- A table at block B, of n cells; S are its blocks. -/
def TabX (w : World) (B : Nat) (S : Nat → Prop) (u v : Int) (n : Nat) : Prop :=
  GoodC u v ∧ TabN u v n ∧ n ≤ 4096 ∧ ∃ g cap, w.heap[B]? = some (.cells #[.int .u64 u, .int .u64 v, .slice (some ⟨g, 0, none⟩) n cap] 146 (0, 0)) ∧ B < g ∧ OwnR w (B + 1) (.slice (some ⟨g, 0, none⟩) n cap) (rowC u v n) ∧ ∀ k, S k ↔ k = B ∨ k = g
theorem tabx_keep {w w' : World} {B : Nat} {S : Nat → Prop} {u v : Int} {n : Nat} (h : TabX w B S u v n) (hk : ∀ k, S k → w'.heap[k]? = w.heap[k]?) : TabX w' B S u v n := by
  obtain ⟨h1, h2, h3, g, cap, h4, h5, h6, h7⟩ := h
  exact ⟨h1, h2, h3, g, cap, (hk B ((h7 B).2 (Or.inl rfl))).trans h4, h5, h6.keep (hk g ((h7 g).2 (Or.inr rfl))), h7⟩
theorem tabx_lt {w : World} {B : Nat} {S : Nat → Prop} {u v : Int} {n : Nat} (h : TabX w B S u v n) : ∀ k, S k → k < w.heap.size := by
  obtain ⟨h1, h2, h3, g, cap, h4, h5, h6, h7⟩ := h
  intro k hk
  rcases (h7 k).1 hk with rfl | rfl
  · exact lt_of_block h4
  · exact (h6.lt _ rfl).2
theorem tabx_call {w w' : World} {B : Nat} {S : Nat → Prop} {u v : Int} {n : Nat} (h : TabX w B S u v n) (hb : Below w.heap.size w w') : TabX w' B S u v n :=
  tabx_keep h fun k hk => hb.block k (tabx_lt h k hk)
/-- What is read of a table. -/
structure TabC (w : World) (B g cap : Nat) (u v : Int) (n : Nat) : Prop where
  c0 : w.cell? ⟨B, 0, none⟩ = some (.int .u64 u)
  c1 : w.cell? ⟨B, 1, none⟩ = some (.int .u64 v)
  c2 : w.cell? ⟨B, 2, none⟩ = some (.slice (some ⟨g, 0, none⟩) n cap)
  ce : ∀ i, i < n → w.cell? ⟨g, i * 2, none⟩ = some (.int .u64 (endC u v (lowC u v i)))
  cr : ∀ i, i < n → w.cell? ⟨g, i * 2 + 1, none⟩ = some (.int .u64 (repC u v (lowC u v i)))
theorem tabx_cells {w : World} {B : Nat} {S : Nat → Prop} {u v : Int} {n : Nat} (h : TabX w B S u v n) : ∃ g cap, TabC w B g cap u v n := by
  obtain ⟨h1, h2, h3, g, cap, h4, h5, h6, h7⟩ := h
  exact ⟨g, cap, by rw [Joins.cell_of_block h4]; rfl, by rw [Joins.cell_of_block h4]; rfl, by rw [Joins.cell_of_block h4]; rfl, fun i hi => (h6.at_ (rowC_at u v hi)).1, fun i hi => (h6.at_ (rowC_at u v hi)).2⟩

set_option maxHeartbeats 400000 in
theorem cgood_any (u v : Int) (wu : Word u) (wv : Word v) (w : World) :
    Calls Tryz.prog 74 #[.agg #[.int .u64 u, .int .u64 v]] w fun e w' => e = .returned (.bool (goodC u v)) ∧ Below w.heap.size w w' := by
  by_cases h : u = 0
  · subst h
    have E : Hid (false = goodC 0 v) := Lib.hid (by unfold goodC; simp)
    go_enter Tryz.func74, Tryz.ntmps74
    go_wp2_with fail
    go_ret
    exact ⟨ret_bool E.out, (Below.refl _ _).alloc (Nat.le_refl _) _⟩
  · have hb0 : (u != 0) = true := by simp [h]
    have hb1 : (!u == 0) = true := by simp [h]
    have hp : 0 < u := by have := wu.1; omega
    by_cases hl : u < v
    · have E : Hid (decide (v ≤ 2147483648) = goodC u v) := Lib.hid (by unfold goodC; simp [hp, hl])
      go_enter Tryz.func74, Tryz.ntmps74
      go_wp2_with fail
      go_ret
      exact ⟨ret_bool E.out, (Below.refl _ _).alloc (Nat.le_refl _) _⟩
    · have E : Hid (false = goodC u v) := Lib.hid (by unfold goodC; simp [hl])
      have hlf : decide (u < v) = false := decide_eq_false hl
      go_enter Tryz.func74, Tryz.ntmps74
      go_wp2_with fail
      go_ret
      exact ⟨ret_bool E.out, (Below.refl _ _).alloc (Nat.le_refl _) _⟩

set_option maxHeartbeats 400000 in
theorem rcgood_any (u v : Int) (wu : Word u) (wv : Word v) (w : World) :
    Calls Tryz.prog 30 #[.agg #[.int .u64 u, .int .u64 v]] w fun e w' => e = .returned (.bool (goodC u v)) ∧ Below w.heap.size w w' := by
  by_cases h : 1 ≤ u
  · by_cases hl : u < v
    · have E : Hid (decide (v ≤ 2147483648) = goodC u v) := Lib.hid (by unfold goodC; have : 0 < u := by omega
                                                                        simp [this, hl])
      go_enter Tryz.func30, Tryz.ntmps30
      go_wp2_with fail
      go_ret
      exact ⟨ret_bool E.out, (Below.refl _ _).alloc (Nat.le_refl _) _⟩
    · have E : Hid (false = goodC u v) := Lib.hid (by unfold goodC; simp [hl])
      have hlf : decide (u < v) = false := decide_eq_false hl
      go_enter Tryz.func30, Tryz.ntmps30
      go_wp2_with fail
      go_ret
      exact ⟨ret_bool E.out, (Below.refl _ _).alloc (Nat.le_refl _) _⟩
  · have E : Hid (false = goodC u v) := Lib.hid (by unfold goodC; have : ¬ 0 < u := by omega
                                                    simp [this])
    have hlf : decide (1 ≤ u) = false := decide_eq_false h
    go_enter Tryz.func30, Tryz.ntmps30
    go_wp2_with fail
    go_ret
    exact ⟨ret_bool E.out, (Below.refl _ _).alloc (Nat.le_refl _) _⟩

set_option maxHeartbeats 400000 in
theorem tlen_at (w : World) (B g cap : Nat) (n : Nat) (h : w.cell? ⟨B, 2, none⟩ = some (.slice (some ⟨g, 0, none⟩) n cap)) :
    Calls Tryz.prog 161 #[.pointer (some ⟨B, 0, none⟩)] w fun e w' => e = .returned (.int .i64 n) ∧ w = w' := by
  go_enter Tryz.func161, Tryz.ntmps161
  go_wp2_with fail
  go_ret
  exact ⟨rfl, rfl⟩
theorem tlen_none (w : World) : Calls Tryz.prog 161 #[.pointer none] w fun e w' => e = .returned (.int .i64 0) ∧ w = w' := by
  go_enter Tryz.func161, Tryz.ntmps161
  go_wp2_with fail
  go_ret
  exact ⟨rfl, rfl⟩
theorem tlen_any (w : World) (B : Nat) (S : Nat → Prop) (u v : Int) (n : Nat) (h : TabX w B S u v n) :
    Calls Tryz.prog 161 #[.pointer (some ⟨B, 0, none⟩)] w fun e w' => e = .returned (.int .i64 n) ∧ w = w' := by
  obtain ⟨g, cap, h⟩ := tabx_cells h
  exact tlen_at w B g cap n h.c2

set_option maxHeartbeats 400000 in
theorem thas_at (w : World) (B g cap : Nat) (n : Nat) (i : Int) (b : Bool) (hi : I64 i) (h : w.cell? ⟨B, 2, none⟩ = some (.slice (some ⟨g, 0, none⟩) n cap)) (hb : decide (0 ≤ i ∧ i < n) = b) :
    Calls Tryz.prog 165 #[.pointer (some ⟨B, 0, none⟩), .int .i64 i] w fun e w' => e = .returned (.bool b) ∧ w = w' := by
  have HL := Lib.hid (tlen_at w B g cap n h)
  have HB := Lib.hid hb
  clear h hb
  by_cases h0 : 0 ≤ i
  · have E : Hid (decide (i < n) = b) := Lib.hid (by rw [← HB.out]; simp [h0])
    go_enter Tryz.func165, Tryz.ntmps165
    go_wp2_with fail
    refine HL.out.mono ?_
    rintro e w2 ⟨rfl, rfl⟩
    go_wp2_with fail
    go_ret
    exact ⟨ret_bool E.out, rfl⟩
  · have E : Hid (false = b) := Lib.hid (by rw [← HB.out]; simp [h0])
    have hf : decide (0 ≤ i) = false := decide_eq_false h0
    go_enter Tryz.func165, Tryz.ntmps165
    go_wp2_with fail
    go_ret
    exact ⟨ret_bool E.out, rfl⟩

set_option maxHeartbeats 400000 in
theorem thas_none (w : World) (i : Int) (hi : I64 i) :
    Calls Tryz.prog 165 #[.pointer none, .int .i64 i] w fun e w' => e = .returned (.bool false) ∧ w = w' := by
  by_cases h0 : 0 ≤ i
  · have E : decide (i < 0) = false := decide_eq_false (by omega)
    go_enter Tryz.func165, Tryz.ntmps165
    go_wp2_with fail
    refine (tlen_none _).mono ?_
    rintro e w2 ⟨rfl, rfl⟩
    go_wp2_with fail
    go_ret
    exact ⟨rfl, rfl⟩
  · have hf : decide (0 ≤ i) = false := decide_eq_false h0
    go_enter Tryz.func165, Tryz.ntmps165
    go_wp2_with fail
    go_ret
    exact ⟨rfl, rfl⟩

set_option maxHeartbeats 400000 in
theorem trep_none (w : World) (i : Int) (hi : I64 i) :
    Calls Tryz.prog 162 #[.pointer none, .int .i64 i] w fun e w' => e = .returned (.int .u64 0) ∧ w = w' := by
  go_enter Tryz.func162, Tryz.ntmps162
  go_wp2_with fail
  refine (thas_none _ i hi).mono ?_
  rintro e w2 ⟨rfl, rfl⟩
  go_wp2_with fail
  go_ret
  exact ⟨rfl, rfl⟩

set_option maxHeartbeats 400000 in
theorem trep_out (w : World) (B : Nat) (S : Nat → Prop) (u v : Int) (n : Nat) (i : Int) (h : TabX w B S u v n) (hi : I64 i) (ho : i < 0 ∨ n ≤ i) :
    Calls Tryz.prog 162 #[.pointer (some ⟨B, 0, none⟩), .int .i64 i] w fun e w' => e = .returned (.int .u64 0) ∧ w = w' := by
  obtain ⟨g, cap, h⟩ := tabx_cells h
  have HH := Lib.hid (thas_at w B g cap n i false hi h.c2 (decide_eq_false (by omega)))
  clear h
  go_enter Tryz.func162, Tryz.ntmps162
  go_wp2_with fail
  refine HH.out.mono ?_
  rintro e w2 ⟨rfl, rfl⟩
  go_wp2_with fail
  go_ret
  exact ⟨rfl, rfl⟩

set_option maxHeartbeats 400000 in
theorem trep_any (w : World) (B : Nat) (S : Nat → Prop) (u v : Int) (n i : Nat) (x : Int) (h : TabX w B S u v n) (hi : i < n) (hx : repC u v (lowC u v i) = x) :
    Calls Tryz.prog 162 #[.pointer (some ⟨B, 0, none⟩), .int .i64 i] w fun e w' => e = .returned (.int .u64 x) ∧ w = w' := by
  have hn := h.2.2.1
  obtain ⟨g, cap, h⟩ := tabx_cells h
  have HH := Lib.hid (thas_at w B g cap n i true (by unfold I64; omega) h.c2 (decide_eq_true (by omega)))
  have c2 := h.c2
  have cr := h.cr i hi
  have ki : (i : Int) < n := by omega
  rw [hx] at cr
  clear h hx
  go_enter Tryz.func162, Tryz.ntmps162
  go_wp2_with fail
  refine HH.out.mono ?_
  rintro e w2 ⟨rfl, rfl⟩
  go_wp2_with fail
  go_ret
  exact ⟨rfl, rfl⟩

end Go.Proofs.YtcijflakldggaaaGreat