/-
  Plain mathematics of numbers of 64 bits with a sign: no program in sight.
-/
import Derived.Test.YtecnlpkfcggimaaMath
import Derived.Laws.BitsLemmas
import Derived.Laws.Bits64
import Derived.Laws.Bits64b
namespace Go.Proofs.Ytecnlpkfcggimaa
set_option linter.unusedVariables false

/-- A number that fits 64 bits with a sign. -/
def I64 (x : Int) : Prop := -9223372036854775808 ≤ x ∧ x ≤ 9223372036854775807
theorem i64_of_wf {x : Int} (h : (Lit.int .i64 x).wf = true) : I64 x := by
  simp [Lit.wf, IntKind.min, IntKind.max, IntKind.signed, IntKind.bits] at h
  exact ⟨by omega, by omega⟩
/-- How far a number is from 0; how far two are from one another. -/
def mag (x : Int) : Int := if x < 0 then -x else x
def gap (a b : Int) : Int := if a < b then b - a else a - b
/-- Numbers with a sign as such without. -/
def zig (x : Int) : Int := if x < 0 then -2 * x - 1 else 2 * x
def zag (u : Int) : Int := if u % 2 = 1 then -(u / 2) - 1 else u / 2
def key (x : Int) : Int := x + 9223372036854775808
def back (u : Int) : Int := u - 9223372036854775808
/-- Whether there is a value of such a magnitude, and which one. -/
def canB (m : Int) (below : Bool) : Bool := decide (m < 9223372036854775808) || (below && decide (m = 9223372036854775808))
def valI (m : Int) (below : Bool) : Int := if canB m below = true then (if below = true then -m else m) else 0
/-- Whether one lies close to another one. -/
def nearB (r x n d : Int) : Bool := decide (gap r x * d ≤ n * mag x)

theorem mag_word {x : Int} (h : I64 x) : Word (mag x) := by unfold I64 at h; unfold Word mag; split <;> omega
theorem mag_bd {x : Int} (h : I64 x) : 0 ≤ mag x ∧ mag x ≤ 9223372036854775808 := by unfold I64 at h; unfold mag; split <;> omega
theorem gap_word {a b : Int} (ha : I64 a) (hb : I64 b) : Word (gap a b) := by unfold I64 at *; unfold Word gap; split <;> omega
theorem zig_word {x : Int} (h : I64 x) : Word (zig x) := by unfold I64 at h; unfold Word zig; split <;> omega
theorem zag_i64 {u : Int} (h : Word u) : I64 (zag u) := by unfold Word at h; unfold I64 zag; split <;> omega
theorem key_word {x : Int} (h : I64 x) : Word (key x) := by unfold I64 at h; unfold Word key; omega
theorem back_i64 {u : Int} (h : Word u) : I64 (back u) := by unfold Word at h; unfold I64 back; omega
theorem zag_zig {x : Int} : zag (zig x) = x := by unfold zag zig; split <;> split <;> omega
theorem zig_zag {u : Int} (h : Word u) : zig (zag u) = u := by unfold Word at h; unfold zag zig; split <;> split <;> omega
theorem back_key (x : Int) : back (key x) = x := by unfold back key; omega
theorem key_back (u : Int) : key (back u) = u := by unfold back key; omega
theorem valI_i64 {m : Int} {b : Bool} (h : Word m) : I64 (valI m b) := by
  unfold Word at h; unfold I64 valI canB
  cases b <;> simp <;> split <;> omega
theorem valI_mag {x : Int} (h : I64 x) : canB (mag x) (decide (x < 0)) = true ∧ valI (mag x) (decide (x < 0)) = x := by
  have e : canB (mag x) (decide (x < 0)) = true := by
    unfold I64 at h; unfold canB mag
    by_cases h0 : x < 0
    · simp [h0]; omega
    · simp [h0]; omega
  refine ⟨e, ?_⟩
  unfold valI; rw [if_pos e]
  unfold mag
  by_cases h0 : x < 0 <;> simp [h0]
theorem mag_valI {m : Int} {b : Bool} (h : Word m) (hc : canB m b = true) : mag (valI m b) = m := by
  unfold valI; rw [if_pos hc]; unfold Word at h; unfold mag
  cases b <;> simp <;> omega
theorem neg_valI {m : Int} {b : Bool} (h : Word m) (hc : canB m b = true) : decide (valI m b < 0) = (b && decide (0 < m)) := by
  unfold valI; rw [if_pos hc]; unfold Word at h
  cases b <;> simp <;> omega
theorem valI_no {m : Int} {b : Bool} (hc : canB m b = false) : valI m b = 0 := by unfold valI; rw [hc]; rfl
theorem gap_comm (a b : Int) : gap a b = gap b a := by unfold gap; split <;> split <;> omega
theorem gap_zero (a b : Int) : (gap a b == 0) = (a == b) := by
  rw [Bool.eq_iff_iff]; simp only [beq_iff_eq]; unfold gap; split <;> omega
theorem gap_tri (a b c : Int) : gap a b ≤ gap a c + gap c b := by unfold gap; split <;> split <;> split <;> omega
theorem gap_one {a b : Int} (h : decide (a < 0) = decide (b < 0)) : gap a b = max (mag a) (mag b) - min (mag a) (mag b) := by
  have : (a < 0 ↔ b < 0) := by simpa using h
  unfold gap mag; split <;> split <;> split <;> omega
theorem gap_two {a b : Int} (h : ¬ (a < 0 ↔ b < 0)) : gap a b = mag a + mag b := by
  unfold gap mag; split <;> split <;> split <;> omega
theorem zig_neg {x : Int} (h : x < 0) : zig x = 2 * (mag x - 1) + 1 := by unfold zig mag; rw [if_pos h, if_pos h]; omega
theorem zig_pos {x : Int} (h : ¬ x < 0) : zig x = 2 * mag x := by unfold zig mag; rw [if_neg h, if_neg h]
theorem not_i64 {x : Int} (h : I64 x) : bits .xor .i64 (-1) x = -x - 1 := by
  unfold I64 at h
  show IntKind.i64.wrap ((BitVec.ofInt 64 (-1) ^^^ BitVec.ofInt 64 x).toNat : Int) = _
  have e : BitVec.ofInt 64 (-1) = BitVec.allOnes 64 := by decide
  have e2 : (BitVec.ofInt 64 x).toNat = (x % 18446744073709551616).toNat := by rw [BitVec.toNat_ofInt]; rfl
  rw [e, BitVec.allOnes_xor, BitVec.toNat_not, e2, IntKind.wrap_i64]
  omega
theorem or_one {x : Int} (h0 : 0 ≤ x) (h1 : x < 18446744073709551616) (h2 : x % 2 = 0) : bits .or .u64 x 1 = x + 1 :=
  bits_join .u64 64 (by decide) (fun n a b => by rw [IntKind.wrap_u64]; omega) 1 x 1 h0 (by simpa using h2) (by omega) (by decide) (by decide) (by decide)
theorem and_one {x : Int} (h0 : 0 ≤ x) (h1 : x < 18446744073709551616) : bits .and .u64 x 1 = x % 2 := by
  have h := bits_mask .u64 64 (by decide) (fun n a b => by rw [IntKind.wrap_u64]; omega) 1 (by decide) x h0 (by omega)
  simpa using h
end Go.Proofs.Ytecnlpkfcggimaa
