/-
  Texts joined, in build order: Math, SignM, QuillM, PairM, Two, SignA, PairS, QuillC, Obj, Ref7b, StripC, LowC.
-/
import Derived.Below
import Derived.Lib.Hide
import Derived.WalkKit
import Derived.Laws.BitsLemmas
import Derived.Laws.Bits64
import Derived.Laws.Bits64b
import Derived.Lib.Strings
import Derived.Lib.AppendStr
import Derived.Laws.Concat
import Derived.Laws.Shifts
import Derived.WalkSpells
import Derived.WalkLawsBesides
import Derived.RowKit3
import Derived.Test.YtcijflakldggaaaGreatRows
import Derived.WalkMore
import Derived.LoopTactic
import Derived.OwnWalk
import Derived.OneCell
import Derived.Outline
import Derived.Deep.Slices
import Derived.Deep.Fields
import Derived.SizedLaws
import Derived.Carry
import Derived.Laws.AppendOwnNone
import Derived.StillTailTactics
import Derived.Deep.QuietTactic
import Derived.BigQuiet
import Derived.Laws.BytesArg
import Derived.Deep.Onto
/-
  Plain mathematics of numbers of 64 and of 128 bits: no program in sight.
-/
namespace Go.Proofs.YtcijflakldggaaaGreat
set_option linter.unusedVariables false

/-- A number that fits 64 bits without a sign. -/
def Word (x : Int) : Prop := 0 ≤ x ∧ x < 18446744073709551616
/-- The number that two words tell. -/
def wval (h l : Int) : Int := h * 18446744073709551616 + l
/-- The upper and the lower word of a number, modulo 2^128. -/
def hiW (n : Int) : Int := n / 18446744073709551616 % 18446744073709551616
def loW (n : Int) : Int := n % 18446744073709551616
/-- Whether a sum has no room in 128 bits; whether a difference is below 0. -/
def carryB (n : Int) : Bool := decide (340282366920938463463374607431768211456 ≤ n)
def belowB (n : Int) : Bool := decide (n < 0)

theorem word_hi (n : Int) : Word (hiW n) := by unfold Word hiW; omega
theorem word_lo (n : Int) : Word (loW n) := by unfold Word loW; omega
theorem wval_bd {h l : Int} (wh : Word h) (wl : Word l) : 0 ≤ wval h l ∧ wval h l < 340282366920938463463374607431768211456 := by
  unfold Word at *; unfold wval; omega
theorem hi_wval {h l : Int} (wh : Word h) (wl : Word l) : hiW (wval h l) = h := by
  unfold Word at *; unfold hiW wval; omega
theorem lo_wval {h l : Int} (wl : Word l) : loW (wval h l) = l := by
  unfold Word at *; unfold loW wval; omega
theorem wval_split {n : Int} (h0 : 0 ≤ n) (h1 : n < 340282366920938463463374607431768211456) : wval (hiW n) (loW n) = n := by
  unfold wval hiW loW; omega
theorem wval_mod (n : Int) : wval (hiW n) (loW n) = n % 340282366920938463463374607431768211456 := by
  unfold wval hiW loW; omega
theorem word_small {x : Int} (h0 : 0 ≤ x) (h1 : x ≤ 18446744073709551615) : Word x := ⟨h0, by omega⟩

/-- The borrow, under a name. -/
def bor (x y : Int) : Int := if x < y then 1 else 0
theorem bor_bd (x y : Int) : 0 ≤ bor x y ∧ bor x y ≤ 1 := by unfold bor; split <;> omega

/-- Add, word by word. -/
theorem add_lo (ah al bh bl : Int) : (al + bl) % 18446744073709551616 = loW (wval ah al + wval bh bl) := by
  unfold loW wval; omega
theorem add_hi (ah al bh bl : Int) : (ah + bh + (al + bl) / 18446744073709551616) % 18446744073709551616 = hiW (wval ah al + wval bh bl) := by
  unfold hiW wval; omega
theorem sub_lo (ah al bh bl : Int) : (al - bl) % 18446744073709551616 = loW (wval ah al - wval bh bl) := by
  unfold loW wval; omega
theorem sub_hi (ah al bh bl : Int) (wa : Word al) (wb : Word bl) : (ah - bh - bor al bl) % 18446744073709551616 = hiW (wval ah al - wval bh bl) := by
  unfold Word at *; unfold hiW wval bor; split <;> omega
theorem sub_below (ah al bh bl : Int) (wa : Word al) (wb : Word bl) : decide (ah < bh + bor al bl) = belowB (wval ah al - wval bh bl) := by
  unfold Word at *; unfold belowB wval bor; split <;> (apply decide_eq_decide.2; omega)

theorem less_lo (ah al bl : Int) : belowB (wval ah al - wval ah bl) = decide (al < bl) := by
  unfold belowB wval; apply decide_eq_decide.2; omega
theorem less_hi (ah al bh bl : Int) (wa : Word al) (wb : Word bl) (h : ¬ ah = bh) : belowB (wval ah al - wval bh bl) = decide (ah < bh) := by
  unfold Word at *; unfold belowB wval; apply decide_eq_decide.2; omega
theorem sub_bor (ah al bh bl : Int) (wa : Word al) (wb : Word bl) : (bor ah (bh + bor al bl) != 0) = belowB (wval ah al - wval bh bl) := by
  have h := sub_below ah al bh bl wa wb
  rw [← h]
  generalize bor al bl = k
  unfold bor
  split <;> simp_all

/-- Add by halves, as the reference does it: three ways. -/
theorem radd_lo (ah al bh bl : Int) : IntKind.u64.wrap (al + bl) = loW (wval ah al + wval bh bl) := by
  rw [IntKind.wrap_u64]; unfold loW wval; omega
theorem radd_hiA {ah al bh bl : Int} (wa : Word al) (wb : Word bl) (h : ¬ IntKind.u64.wrap (al + bl) < al) : IntKind.u64.wrap (ah + bh) = hiW (wval ah al + wval bh bl) := by
  rw [IntKind.wrap_u64] at *; unfold Word at *; unfold hiW wval; omega
theorem radd_cA {ah al bh bl : Int} (w1 : Word ah) (wa : Word al) (w3 : Word bh) (wb : Word bl) (h : ¬ IntKind.u64.wrap (al + bl) < al) : decide (IntKind.u64.wrap (ah + bh) < ah) = carryB (wval ah al + wval bh bl) := by
  rw [IntKind.wrap_u64] at *; unfold Word at *; unfold carryB wval; apply decide_eq_decide.2; omega
theorem radd_hiB {ah al bh bl : Int} (wa : Word al) (wb : Word bl) (h : IntKind.u64.wrap (al + bl) < al) : IntKind.u64.wrap (IntKind.u64.wrap (ah + bh) + 1) = hiW (wval ah al + wval bh bl) := by
  simp only [IntKind.wrap_u64] at *; unfold Word at *; unfold hiW wval; omega
theorem radd_cB1 {ah al bh bl : Int} (w1 : Word ah) (wa : Word al) (w3 : Word bh) (wb : Word bl) (h : IntKind.u64.wrap (al + bl) < al) (h2 : IntKind.u64.wrap (ah + bh) < ah) : true = carryB (wval ah al + wval bh bl) := by
  simp only [IntKind.wrap_u64] at *; unfold Word at *; unfold carryB wval; symm; apply decide_eq_true; omega
theorem radd_cB2 {ah al bh bl : Int} (w1 : Word ah) (wa : Word al) (w3 : Word bh) (wb : Word bl) (h : IntKind.u64.wrap (al + bl) < al) (h2 : ¬ IntKind.u64.wrap (ah + bh) < ah) : (IntKind.u64.wrap (IntKind.u64.wrap (ah + bh) + 1) == 0) = carryB (wval ah al + wval bh bl) := by
  simp only [IntKind.wrap_u64] at *; unfold Word at *; unfold carryB wval
  rw [Bool.eq_iff_iff]; simp only [beq_iff_eq, decide_eq_true_eq]; omega

/-- What is left, by the complement. -/
def compW (b : Int) : Int := 340282366920938463463374607431768211455 - b
theorem comp_wval (bh bl : Int) : wval (18446744073709551615 - bh) (18446744073709551615 - bl) = compW (wval bh bl) := by unfold wval compW; omega
theorem rsub_hi (a b : Int) : hiW (wval (hiW (a + compW b)) (loW (a + compW b)) + wval 0 1) = hiW (a - b) := by
  unfold hiW loW wval compW; omega
theorem rsub_lo (a b : Int) : loW (wval (hiW (a + compW b)) (loW (a + compW b)) + wval 0 1) = loW (a - b) := by
  unfold hiW loW wval compW; omega

/-- -1, 0 or 1. -/
def cmpW (a b : Int) : Int := if a < b then -1 else if a = b then 0 else 1
theorem cmp_eq (a : Int) : cmpW a a = 0 := by unfold cmpW; simp
theorem cmp_lt {ah al bh bl : Int} (h : wval ah al < wval bh bl) : cmpW (wval ah al) (wval bh bl) = -1 := by unfold cmpW; rw [if_pos h]
theorem cmp_gt {ah al bh bl : Int} (h : wval bh bl < wval ah al) : cmpW (wval ah al) (wval bh bl) = 1 := by
  unfold cmpW; rw [if_neg (by omega), if_neg (by omega)]
theorem wval_lt {ah al bh bl : Int} (wa : Word al) (wb : Word bl) : wval ah al < wval bh bl ↔ ah < bh ∨ ah = bh ∧ al < bl := by
  unfold Word at *; unfold wval; omega
theorem wval_inj {ah al bh bl : Int} (wa : Word al) (wb : Word bl) (h : wval ah al = wval bh bl) : ah = bh ∧ al = bl := by
  unfold Word at *; unfold wval at h; omega

open Go.RowKit in
/-- Behind a callee that makes memory: all old cells, and all old marks, read as before. -/
theorem bcell {W w1 : World} (hb : Below W.heap.size W w1) : (∀ b o, b < W.heap.size → w1.cell? ⟨b, o, none⟩ = W.cell? ⟨b, o, none⟩) ∧ (∀ b o, b < W.heap.size → w1.frozen? ⟨b, o, none⟩ = W.frozen? ⟨b, o, none⟩) :=
  ⟨fun b o h => hb.cell (p := ⟨b, o, none⟩) h, fun b o h => hb.frozen (p := ⟨b, o, none⟩) h⟩
theorem ret_int {k : IntKind} {a b : Int} (h : a = b) : Ending.returned (.int k a) = .returned (.int k b) := by rw [h]
theorem ret_bool {a b : Bool} (h : a = b) : Ending.returned (.bool a) = .returned (.bool b) := by rw [h]
theorem word_comp {b : Int} (h : Word b) : Word (18446744073709551615 - b) := by unfold Word at *; omega

/-- The sum of a row of numbers of two words. -/
def sumW : List (Int × Int) → Int
  | [] => 0
  | x :: r => wval x.1 x.2 + sumW r
theorem sumW_app (a b : List (Int × Int)) : sumW (a ++ b) = sumW a + sumW b := by
  induction a with
  | nil => simp [sumW]
  | cons x r ih => simp only [List.cons_append, sumW, ih]; omega
theorem sumW_take {xs : List (Int × Int)} {k : Nat} {x : Int × Int} (h : xs[k]? = some x) : sumW (xs.take (k + 1)) = sumW (xs.take k) + wval x.1 x.2 := by
  have hk : k < xs.length := by
    rcases Nat.lt_or_ge k xs.length with h' | h'
    · exact h'
    · rw [List.getElem?_eq_none h'] at h; cases h
  rw [List.take_succ_eq_append_getElem hk, sumW_app]
  have : xs[k] = x := by rw [List.getElem?_eq_getElem hk] at h; exact Option.some.inj h
  rw [this]; simp [sumW]
theorem sumW_nonneg {xs : List (Int × Int)} (h : ∀ x ∈ xs, Word x.1 ∧ Word x.2) : 0 ≤ sumW xs := by
  induction xs with
  | nil => simp [sumW]
  | cons x r ih =>
    have h1 := wval_bd (h x (by simp)).1 (h x (by simp)).2
    have h2 := ih (fun y hy => h y (by simp [hy]))
    simp only [sumW]; omega
/-- One step of a sum that goes round. -/
theorem sum_lo (S bh bl : Int) : (loW S + bl) % 18446744073709551616 = loW (S + wval bh bl) := by unfold loW wval; omega
theorem sum_hi (S bh bl : Int) : (hiW S + bh + (loW S + bl) / 18446744073709551616) % 18446744073709551616 = hiW (S + wval bh bl) := by
  unfold hiW loW wval; omega
theorem sum_carry {S bh bl : Int} (h0 : 0 ≤ S) (w1 : Word bh) (w2 : Word bl) : (carryB S || (hiW S + bh + (loW S + bl) / 18446744073709551616) / 18446744073709551616 != 0) = carryB (S + wval bh bl) := by
  unfold Word at *; unfold carryB hiW loW wval
  rw [Bool.eq_iff_iff]; simp only [Bool.or_eq_true, decide_eq_true_eq, bne_iff_ne]; omega

/-- Products of halves of 32 bits. -/
theorem half_mul {x y : Int} (hx : 0 ≤ x) (hx' : x < 4294967296) (hy : 0 ≤ y) (hy' : y < 4294967296) : 0 ≤ x * y ∧ x * y ≤ 18446744065119617025 := by
  refine ⟨Int.mul_nonneg hx hy, ?_⟩
  have h := Int.mul_le_mul (show x ≤ 4294967295 by omega) (show y ≤ 4294967295 by omega) hy (by omega)
  omega
theorem halves_mul (ah al bh bl : Int) : wval (ah * bh) (al * bl) + (ah * bl) * 4294967296 + (al * bh) * 4294967296 = (ah * 4294967296 + al) * (bh * 4294967296 + bl) := by
  unfold wval
  rw [Int.add_mul, Int.mul_add, Int.mul_add]
  have e1 : ah * 4294967296 * (bh * 4294967296) = ah * bh * 18446744073709551616 := by
    rw [Int.mul_assoc ah, ← Int.mul_assoc 4294967296 bh, Int.mul_comm 4294967296 bh, Int.mul_assoc bh, ← Int.mul_assoc]; rfl
  have e2 : ah * 4294967296 * bl = ah * bl * 4294967296 := by rw [Int.mul_assoc, Int.mul_comm 4294967296, ← Int.mul_assoc]
  have e3 : al * (bh * 4294967296) = al * bh * 4294967296 := by rw [Int.mul_assoc]
  rw [e1, e2, e3]; omega
theorem times_parts (a b : Int) : wval (a / 4294967296 * (b / 4294967296)) (a % 4294967296 * (b % 4294967296)) + (a / 4294967296 * (b % 4294967296)) * 4294967296 + (a % 4294967296 * (b / 4294967296)) * 4294967296 = a * b := by
  rw [halves_mul]
  congr 1 <;> omega
theorem shift_wval {m : Int} : wval (m / 4294967296) (m % 4294967296 * 4294967296) = m * 4294967296 := by unfold wval; omega
theorem hi_add (s v : Int) : hiW (wval (hiW s) (loW s) + v) = hiW (s + v) := by unfold hiW loW wval; omega
theorem lo_add (s v : Int) : loW (wval (hiW s) (loW s) + v) = loW (s + v) := by unfold hiW loW wval; omega

/-- The sum of a row of numbers. -/
def sumI : List Int → Int
  | [] => 0
  | x :: r => x + sumI r
theorem sumI_app (a b : List Int) : sumI (a ++ b) = sumI a + sumI b := by
  induction a with
  | nil => simp [sumI]
  | cons x r ih => simp only [List.cons_append, sumI, ih]; omega
theorem sumI_take {xs : List Int} {k : Nat} {x : Int} (h : xs[k]? = some x) : sumI (xs.take (k + 1)) = sumI (xs.take k) + x := by
  have hk : k < xs.length := by
    rcases Nat.lt_or_ge k xs.length with h' | h'
    · exact h'
    · rw [List.getElem?_eq_none h'] at h; cases h
  rw [List.take_succ_eq_append_getElem hk, sumI_app]
  have : xs[k] = x := by rw [List.getElem?_eq_getElem hk] at h; exact Option.some.inj h
  rw [this]; simp [sumI]
theorem sumI_nonneg {xs : List Int} (h : ∀ x ∈ xs, 0 ≤ x) : 0 ≤ sumI xs := by
  induction xs with
  | nil => simp [sumI]
  | cons x r ih =>
    have h1 := h x (by simp)
    have h2 := ih (fun y hy => h y (by simp [hy]))
    simp only [sumI]; omega
theorem sumI_mono {xs : List Int} (h : ∀ x ∈ xs, 0 ≤ x) (k : Nat) : sumI (xs.take k) ≤ sumI xs := by
  have e := sumI_app (xs.take k) (xs.drop k)
  rw [List.take_append_drop] at e
  have := sumI_nonneg (xs := xs.drop k) (fun x hx => h x (List.mem_of_mem_drop hx))
  omega
/-- A sum of counts. -/
def plB (xs : List Int) : Bool := decide (sumI xs ≤ 9223372036854775807)
def plQ (xs : List Int) : Int := if plB xs = true then sumI xs else 0

theorem mul_bd {a b : Int} (wa : Word a) (wb : Word b) : 0 ≤ a * b ∧ a * b < 340282366920938463463374607431768211456 := by
  obtain ⟨a0, a1⟩ := wa; obtain ⟨b0, b1⟩ := wb
  refine ⟨Int.mul_nonneg a0 b0, ?_⟩
  have := Int.mul_le_mul (show a ≤ 18446744073709551615 by omega) (show b ≤ 18446744073709551615 by omega) b0 (by omega)
  omega

end Go.Proofs.YtcijflakldggaaaGreat

/-
  Plain mathematics of numbers of 64 bits with a sign: no program in sight.
-/
namespace Go.Proofs.YtcijflakldggaaaGreat
set_option linter.unusedVariables false

/-- A number that fits 64 bits with a sign. -/
def I64 (x : Int) : Prop := -9223372036854775808 ≤ x ∧ x ≤ 9223372036854775807
theorem i64_of_wf {x : Int} (h : (Lit.int .i64 x).wf = true) : I64 x := by
  simp [Lit.wf, IntKind.min, IntKind.max, IntKind.signed, IntKind.bits] at h
  exact ⟨by omega, by omega⟩
/-- How far a number is from 0; how far two are from one another. -/
def mag (x : Int) : Int := if x < 0 then -x else x
def gap (a b : Int) : Int := if a < b then b - a else a - b
/-- Numbers with a sign as such without. -/
def zig (x : Int) : Int := if x < 0 then -2 * x - 1 else 2 * x
def zag (u : Int) : Int := if u % 2 = 1 then -(u / 2) - 1 else u / 2
def key (x : Int) : Int := x + 9223372036854775808
def back (u : Int) : Int := u - 9223372036854775808
/-- Whether there is a value of such a magnitude, and which one. -/
def canB (m : Int) (below : Bool) : Bool := decide (m < 9223372036854775808) || (below && decide (m = 9223372036854775808))
def valI (m : Int) (below : Bool) : Int := if canB m below = true then (if below = true then -m else m) else 0
/-- Whether one lies close to another one. -/
def nearB (r x n d : Int) : Bool := decide (gap r x * d ≤ n * mag x)

theorem mag_word {x : Int} (h : I64 x) : Word (mag x) := by unfold I64 at h; unfold Word mag; split <;> omega
theorem mag_bd {x : Int} (h : I64 x) : 0 ≤ mag x ∧ mag x ≤ 9223372036854775808 := by unfold I64 at h; unfold mag; split <;> omega
theorem gap_word {a b : Int} (ha : I64 a) (hb : I64 b) : Word (gap a b) := by unfold I64 at *; unfold Word gap; split <;> omega
theorem zig_word {x : Int} (h : I64 x) : Word (zig x) := by unfold I64 at h; unfold Word zig; split <;> omega
theorem zag_i64 {u : Int} (h : Word u) : I64 (zag u) := by unfold Word at h; unfold I64 zag; split <;> omega
theorem key_word {x : Int} (h : I64 x) : Word (key x) := by unfold I64 at h; unfold Word key; omega
theorem back_i64 {u : Int} (h : Word u) : I64 (back u) := by unfold Word at h; unfold I64 back; omega
theorem zag_zig {x : Int} : zag (zig x) = x := by unfold zag zig; split <;> split <;> omega
theorem zig_zag {u : Int} (h : Word u) : zig (zag u) = u := by unfold Word at h; unfold zag zig; split <;> split <;> omega
theorem back_key (x : Int) : back (key x) = x := by unfold back key; omega
theorem key_back (u : Int) : key (back u) = u := by unfold back key; omega
theorem valI_i64 {m : Int} {b : Bool} (h : Word m) : I64 (valI m b) := by
  unfold Word at h; unfold I64 valI canB
  cases b <;> simp <;> split <;> omega
theorem valI_mag {x : Int} (h : I64 x) : canB (mag x) (decide (x < 0)) = true ∧ valI (mag x) (decide (x < 0)) = x := by
  have e : canB (mag x) (decide (x < 0)) = true := by
    unfold I64 at h; unfold canB mag
    by_cases h0 : x < 0
    · simp [h0]; omega
    · simp [h0]; omega
  refine ⟨e, ?_⟩
  unfold valI; rw [if_pos e]
  unfold mag
  by_cases h0 : x < 0 <;> simp [h0]
theorem mag_valI {m : Int} {b : Bool} (h : Word m) (hc : canB m b = true) : mag (valI m b) = m := by
  unfold valI; rw [if_pos hc]; unfold Word at h; unfold mag
  cases b <;> simp <;> omega
theorem neg_valI {m : Int} {b : Bool} (h : Word m) (hc : canB m b = true) : decide (valI m b < 0) = (b && decide (0 < m)) := by
  unfold valI; rw [if_pos hc]; unfold Word at h
  cases b <;> simp <;> omega
theorem valI_no {m : Int} {b : Bool} (hc : canB m b = false) : valI m b = 0 := by unfold valI; rw [hc]; rfl
theorem gap_comm (a b : Int) : gap a b = gap b a := by unfold gap; split <;> split <;> omega
theorem gap_zero (a b : Int) : (gap a b == 0) = (a == b) := by
  rw [Bool.eq_iff_iff]; simp only [beq_iff_eq]; unfold gap; split <;> omega
theorem gap_tri (a b c : Int) : gap a b ≤ gap a c + gap c b := by unfold gap; split <;> split <;> split <;> omega
theorem gap_one {a b : Int} (h : decide (a < 0) = decide (b < 0)) : gap a b = max (mag a) (mag b) - min (mag a) (mag b) := by
  have : (a < 0 ↔ b < 0) := by simpa using h
  unfold gap mag; split <;> split <;> split <;> omega
theorem gap_two {a b : Int} (h : ¬ (a < 0 ↔ b < 0)) : gap a b = mag a + mag b := by
  unfold gap mag; split <;> split <;> split <;> omega
theorem zig_neg {x : Int} (h : x < 0) : zig x = 2 * (mag x - 1) + 1 := by unfold zig mag; rw [if_pos h, if_pos h]; omega
theorem zig_pos {x : Int} (h : ¬ x < 0) : zig x = 2 * mag x := by unfold zig mag; rw [if_neg h, if_neg h]
theorem not_i64 {x : Int} (h : I64 x) : bits .xor .i64 (-1) x = -x - 1 := by
  unfold I64 at h
  show IntKind.i64.wrap ((BitVec.ofInt 64 (-1) ^^^ BitVec.ofInt 64 x).toNat : Int) = _
  have e : BitVec.ofInt 64 (-1) = BitVec.allOnes 64 := by decide
  have e2 : (BitVec.ofInt 64 x).toNat = (x % 18446744073709551616).toNat := by rw [BitVec.toNat_ofInt]; rfl
  rw [e, BitVec.allOnes_xor, BitVec.toNat_not, e2, IntKind.wrap_i64]
  omega
theorem or_one {x : Int} (h0 : 0 ≤ x) (h1 : x < 18446744073709551616) (h2 : x % 2 = 0) : bits .or .u64 x 1 = x + 1 :=
  bits_join .u64 64 (by decide) (fun n a b => by rw [IntKind.wrap_u64]; omega) 1 x 1 h0 (by simpa using h2) (by omega) (by decide) (by decide) (by decide)
theorem and_one {x : Int} (h0 : 0 ≤ x) (h1 : x < 18446744073709551616) : bits .and .u64 x 1 = x % 2 := by
  have h := bits_mask .u64 64 (by decide) (fun n a b => by rw [IntKind.wrap_u64]; omega) 1 (by decide) x h0 (by omega)
  simpa using h
end Go.Proofs.YtcijflakldggaaaGreat

/-
  Plain mathematics of numbers as bytes, seven bits in each: no program in sight.
-/
namespace Go.Proofs.YtcijflakldggaaaGreat
set_option linter.unusedVariables false
set_option linter.unusedSimpArgs false

/-- A number's bytes, with fuel; a number's bytes. -/
def natF : Nat → Nat → List UInt8
  | 0, n => [UInt8.ofNat n]
  | k + 1, n => if n < 128 then [UInt8.ofNat n] else UInt8.ofNat (n % 128 + 128) :: natF k (n / 128)
def natB (n : Nat) : List UInt8 := natF n n
theorem natF_fuel : ∀ (k j n : Nat), n ≤ k → n ≤ j → natF k n = natF j n := by
  intro k
  induction k with
  | zero => intro j n h1 h2; obtain rfl : n = 0 := by omega
            cases j <;> simp [natF]
  | succ k ih =>
    intro j n h1 h2
    cases j with
    | zero => obtain rfl : n = 0 := by omega
              simp [natF]
    | succ j =>
      unfold natF
      split
      · rfl
      · rw [ih j (n / 128) (by omega) (by omega)]
theorem natB_lt {n : Nat} (h : n < 128) : natB n = [UInt8.ofNat n] := by
  unfold natB
  cases n with
  | zero => rfl
  | succ n => unfold natF; rw [if_pos h]
theorem natB_ge {n : Nat} (h : ¬ n < 128) : natB n = UInt8.ofNat (n % 128 + 128) :: natB (n / 128) := by
  unfold natB
  cases n with
  | zero => omega
  | succ n =>
    rw [show natF (n + 1) (n + 1) = UInt8.ofNat ((n + 1) % 128 + 128) :: natF n ((n + 1) / 128) from by rw [natF, if_neg h]]
    rw [natF_fuel n ((n + 1) / 128) _ (by omega) (Nat.le_refl _)]
theorem natB_300 : natB 300 = [172, 2] := by
  rw [natB_ge (by omega), natB_lt (by omega)]; rfl

/-- The number that bytes tell. -/
def valL : List UInt8 → Nat
  | [] => 0
  | b :: r => b.toNat % 128 + 128 * valL r
theorem toNat_low {n : Nat} (h : n < 256) : (UInt8.ofNat n).toNat = n := by
  rw [UInt8.toNat_ofNat']; omega
theorem valL_nat : ∀ (k n : Nat), n ≤ k → valL (natB n) = n := by
  intro k
  induction k with
  | zero => intro n h; obtain rfl : n = 0 := by omega
            rw [natB_lt (by omega)]; rfl
  | succ k ih =>
    intro n h
    by_cases hn : n < 128
    · rw [natB_lt hn]; unfold valL valL; rw [toNat_low (by omega)]; omega
    · rw [natB_ge hn]; unfold valL; rw [toNat_low (by omega), ih (n / 128) (by omega)]; omega
theorem valL_natB (n : Nat) : valL (natB n) = n := valL_nat n n (Nat.le_refl _)

/-- Whether a byte tells that others follow. -/
def hiB (b : UInt8) : Bool := decide (128 ≤ b.toNat)
/-- The place of the first byte that tells that none follows. -/
def stopAt : List UInt8 → Option Nat
  | [] => none
  | b :: r => if hiB b then (stopAt r).map (· + 1) else some 0
/-- The number at the beginning, and how many bytes it has; 0: there is none. -/
def firstS (l : List UInt8) : Nat × Nat :=
  match stopAt l with
  | none => (0, 0)
  | some j => if j < 10 ∧ valL (l.take (j + 1)) < 18446744073709551616 ∧ (j = 0 ∨ (l.getD j 0).toNat ≠ 0) then (valL (l.take (j + 1)), j + 1) else (0, 0)
/-- Likewise, of at most so much. -/
def takS (l : List UInt8) (most : Nat) : Nat × Nat := if (firstS l).2 = 0 ∨ most < (firstS l).1 then (0, 0) else firstS l

theorem stopAt_none : ∀ {l : List UInt8}, l.all hiB = true → stopAt l = none := by
  intro l
  induction l with
  | nil => intro _; rfl
  | cons b r ih =>
    intro h
    simp only [List.all_cons, Bool.and_eq_true] at h
    unfold stopAt; rw [if_pos h.1, ih h.2]; rfl
theorem stopAt_some : ∀ {l : List UInt8} {k : Nat} {b : UInt8}, (l.take k).all hiB = true → l[k]? = some b → hiB b = false → stopAt l = some k := by
  intro l
  induction l with
  | nil => intro k b _ h _; simp at h
  | cons c r ih =>
    intro k b h1 h2 h3
    cases k with
    | zero => simp at h2; subst h2; unfold stopAt; rw [h3]; rfl
    | succ k =>
      simp only [List.take_succ_cons, List.all_cons, Bool.and_eq_true] at h1
      unfold stopAt
      rw [if_pos h1.1, ih h1.2 (by simpa using h2) h3]; rfl
theorem stopAt_ge : ∀ {l : List UInt8} {k j : Nat}, (l.take k).all hiB = true → stopAt l = some j → k ≤ l.length → k ≤ j := by
  intro l
  induction l with
  | nil => intro k j _ h _; cases h
  | cons c r ih =>
    intro k j h1 h2 hk
    cases k with
    | zero => omega
    | succ k =>
      simp only [List.take_succ_cons, List.all_cons, Bool.and_eq_true] at h1
      unfold stopAt at h2
      rw [if_pos h1.1] at h2
      cases hs : stopAt r with
      | none => rw [hs] at h2; cases h2
      | some i =>
        rw [hs] at h2
        have := ih h1.2 hs (by simpa using hk)
        simp at h2
        omega
theorem firstS_end {l : List UInt8} (h : l.all hiB = true) : firstS l = (0, 0) := by unfold firstS; rw [stopAt_none h]
theorem firstS_far {l : List UInt8} (h : (l.take 10).all hiB = true) (hl : 10 ≤ l.length) : firstS l = (0, 0) := by
  unfold firstS
  cases hs : stopAt l with
  | none => rfl
  | some j =>
    have := stopAt_ge h hs hl
    show (if j < 10 ∧ valL (l.take (j + 1)) < 18446744073709551616 ∧ (j = 0 ∨ (l.getD j 0).toNat ≠ 0) then (valL (l.take (j + 1)), j + 1) else (0, 0)) = (0, 0)
    rw [if_neg (by omega)]
theorem firstS_at {l : List UInt8} {k : Nat} {b : UInt8} (h1 : (l.take k).all hiB = true) (h2 : l[k]? = some b) (h3 : hiB b = false) :
    firstS l = if k < 10 ∧ valL (l.take (k + 1)) < 18446744073709551616 ∧ (k = 0 ∨ b.toNat ≠ 0) then (valL (l.take (k + 1)), k + 1) else (0, 0) := by
  unfold firstS
  rw [stopAt_some h1 h2 h3]
  have : l.getD k 0 = b := by simp [List.getD, h2]
  show (if k < 10 ∧ valL (l.take (k + 1)) < 18446744073709551616 ∧ (k = 0 ∨ (l.getD k 0).toNat ≠ 0) then (valL (l.take (k + 1)), k + 1) else (0, 0)) = _
  rw [this]
theorem lt_of_some {l : List UInt8} {k : Nat} {b : UInt8} (h : l[k]? = some b) : k < l.length := by
  rcases Nat.lt_or_ge k l.length with h' | h'
  · exact h'
  · rw [List.getElem?_eq_none h'] at h; cases h
theorem take_some {l : List UInt8} {k : Nat} {b : UInt8} (h : l[k]? = some b) : l.take (k + 1) = l.take k ++ [b] := by
  have hk := lt_of_some h
  rw [List.take_succ_eq_append_getElem hk]
  rw [List.getElem?_eq_getElem hk] at h
  rw [Option.some.inj h]
theorem allH_take {l : List UInt8} {k : Nat} {b : UInt8} (h : l[k]? = some b) : (l.take (k + 1)).all hiB = ((l.take k).all hiB && hiB b) := by
  rw [take_some h]; simp
theorem valL_app : ∀ (l : List UInt8) (b : UInt8), valL (l ++ [b]) = valL l + b.toNat % 128 * 128 ^ l.length := by
  intro l b
  induction l with
  | nil => simp [valL]
  | cons c r ih =>
    rw [List.cons_append]; unfold valL; rw [ih, List.length_cons, Nat.pow_succ, Nat.mul_add]
    have : b.toNat % 128 * (128 ^ r.length * 128) = 128 * (b.toNat % 128 * 128 ^ r.length) := by
      rw [Nat.mul_comm 128 (b.toNat % 128 * 128 ^ r.length), Nat.mul_assoc]
    omega
theorem valL_lt : ∀ (l : List UInt8), valL l < 128 ^ l.length := by
  intro l
  induction l with
  | nil => simp [valL]
  | cons c r ih => unfold valL; rw [List.length_cons, Nat.pow_succ]; have := Nat.mod_lt c.toNat (show 0 < 128 by decide); omega
theorem valL_take {l : List UInt8} {k : Nat} {b : UInt8} (h : l[k]? = some b) : valL (l.take (k + 1)) = valL (l.take k) + b.toNat % 128 * 128 ^ k := by
  rw [take_some h, valL_app, List.length_take, Nat.min_eq_left (Nat.le_of_lt (lt_of_some h))]
theorem valL_take_lt (l : List UInt8) (k : Nat) : valL (l.take k) < 128 ^ k := by
  refine Nat.lt_of_lt_of_le (valL_lt _) (Nat.pow_le_pow_right (by decide) ?_)
  rw [List.length_take]; omega

/-- A number's bytes: all but the last one tell that others follow; none is over. -/
theorem natB_shape : ∀ (k n : Nat), n ≤ k → ∃ p b, natB n = p ++ [b] ∧ p.all hiB = true ∧ hiB b = false ∧ (p.length = 0 ∨ b.toNat ≠ 0) := by
  intro k
  induction k with
  | zero => intro n h; obtain rfl : n = 0 := by omega
            exact ⟨[], 0, by rw [natB_lt (by omega)]; rfl, rfl, rfl, Or.inl rfl⟩
  | succ k ih =>
    intro n h
    by_cases hn : n < 128
    · exact ⟨[], UInt8.ofNat n, by rw [natB_lt hn]; rfl, rfl, by unfold hiB; rw [toNat_low (by omega)]; simp; omega, Or.inl rfl⟩
    · obtain ⟨p, b, e, h1, h2, h3⟩ := ih (n / 128) (by omega)
      refine ⟨UInt8.ofNat (n % 128 + 128) :: p, b, by rw [natB_ge hn, e]; rfl, ?_, h2, Or.inr ?_⟩
      · rw [List.all_cons, h1]; unfold hiB; rw [toNat_low (by omega)]; simp
      · rcases h3 with h3 | h3
        · have hp : p = [] := List.eq_nil_of_length_eq_zero h3
          subst hp
          have hv := valL_natB (n / 128)
          rw [e] at hv
          simp only [List.nil_append, valL] at hv
          intro h0
          rw [h0] at hv; omega
        · exact h3
theorem natB_len : ∀ (k n : Nat), n < 128 ^ (k + 1) → (natB n).length ≤ k + 1 := by
  intro k
  induction k with
  | zero => intro n h; rw [natB_lt (by simpa using h)]; simp
  | succ k ih =>
    intro n h
    by_cases hn : n < 128
    · rw [natB_lt hn]; simp
    · rw [natB_ge hn, List.length_cons]
      have := ih (n / 128) (by rw [Nat.pow_succ] at h; omega)
      omega
theorem natB_len10 {n : Nat} (h : n < 18446744073709551616) : (natB n).length ≤ 10 := by
  by_cases h9 : n < 128 ^ 9
  · have := natB_len 8 n h9; omega
  · exact natB_len 9 n (Nat.lt_of_lt_of_le h (by decide))
theorem natB_pos (n : Nat) : 1 ≤ (natB n).length := by
  obtain ⟨p, b, e, _⟩ := natB_shape n n (Nat.le_refl _)
  rw [e, List.length_append]; simp

/-- A number's bytes, whatever stands behind, are read as the number. -/
theorem firstS_nat {n : Nat} (h : n < 18446744073709551616) (r : List UInt8) : firstS (natB n ++ r) = (n, (natB n).length) := by
  have hl := natB_len10 h
  have hv := valL_natB n
  obtain ⟨p, b, e, h1, h2, h3⟩ := natB_shape n n (Nat.le_refl _)
  rw [e] at hv hl ⊢
  have hk : (p ++ [b] ++ r)[p.length]? = some b := by
    rw [List.append_assoc, List.getElem?_append_right (Nat.le_refl _)]; simp
  have ht : (p ++ [b] ++ r).take p.length = p := by
    rw [List.append_assoc]; exact List.take_left
  have ht1 : (p ++ [b] ++ r).take (p.length + 1) = p ++ [b] := by
    rw [take_some hk, ht]
  rw [firstS_at (by rw [ht]; exact h1) hk h2, ht1, hv]
  rw [List.length_append] at hl
  simp only [List.length_singleton] at hl
  rw [if_pos ⟨by omega, h, h3⟩]
  simp
/-- The bytes of a number that is read are its own. -/
theorem natB_of {p : List UInt8} {b : UInt8} (h1 : p.all hiB = true) (h2 : hiB b = false) (h3 : p.length = 0 ∨ b.toNat ≠ 0) : natB (valL (p ++ [b])) = p ++ [b] := by
  induction p with
  | nil =>
    unfold hiB at h2
    simp only [decide_eq_false_iff_not] at h2
    simp only [List.nil_append, valL]
    rw [natB_lt (by omega)]
    have : b.toNat % 128 + 128 * 0 = b.toNat := by omega
    rw [this, UInt8.ofNat_toNat]
  | cons c r ih =>
    simp only [List.all_cons, Bool.and_eq_true] at h1
    obtain ⟨hc, hr⟩ := h1
    unfold hiB at hc
    simp only [decide_eq_true_eq] at hc
    have hb : b.toNat ≠ 0 := by
      rcases h3 with h3 | h3
      · simp at h3
      · exact h3
    have hlo : b.toNat < 128 := by
      unfold hiB at h2
      simp only [decide_eq_false_iff_not] at h2; omega
    have hpos : 1 ≤ valL (r ++ [b]) := by
      rw [valL_app]
      have := Nat.pow_pos (n := r.length) (show 0 < 128 by decide)
      have : 1 * 1 ≤ b.toNat % 128 * 128 ^ r.length := Nat.mul_le_mul (by omega) this
      omega
    have ih' := ih hr (Or.inr hb)
    rw [List.cons_append]
    have e : valL (c :: (r ++ [b])) = c.toNat % 128 + 128 * valL (r ++ [b]) := rfl
    rw [e, natB_ge (by omega)]
    have e1 : (c.toNat % 128 + 128 * valL (r ++ [b])) % 128 + 128 = c.toNat := by
      have := c.toNat_lt; omega
    have e2 : (c.toNat % 128 + 128 * valL (r ++ [b])) / 128 = valL (r ++ [b]) := by omega
    rw [e1, e2, ih', UInt8.ofNat_toNat]
/-- Whether the bytes up to the first one that ends are those of what they tell modulo 2^64. -/
theorem natB_iff {p : List UInt8} {b : UInt8} (h1 : p.all hiB = true) (h2 : hiB b = false) :
    natB (valL (p ++ [b]) % 18446744073709551616) = p ++ [b] ↔ (valL (p ++ [b]) < 18446744073709551616 ∧ (p.length = 0 ∨ b.toNat ≠ 0)) := by
  constructor
  · intro h
    have hv := valL_natB (valL (p ++ [b]) % 18446744073709551616)
    rw [h] at hv
    refine ⟨by omega, ?_⟩
    obtain ⟨p', b', e, _, _, h3⟩ := natB_shape _ (valL (p ++ [b]) % 18446744073709551616) (Nat.le_refl _)
    rw [e] at h
    obtain ⟨rfl, h⟩ := List.append_inj' h rfl
    simp at h
    subst h
    exact h3
  · rintro ⟨hv, h3⟩
    rw [Nat.mod_eq_of_lt hv]
    exact natB_of h1 h2 h3
theorem firstS_lt (l : List UInt8) : (firstS l).1 < 18446744073709551616 := by
  unfold firstS
  cases stopAt l with
  | none => simp
  | some j =>
    show (if j < 10 ∧ valL (l.take (j + 1)) < 18446744073709551616 ∧ (j = 0 ∨ (l.getD j 0).toNat ≠ 0) then (valL (l.take (j + 1)), j + 1) else (0, 0)).1 < 18446744073709551616
    split
    · exact (by assumption : _ ∧ _ ∧ _).2.1
    · simp
theorem stopAt_lt : ∀ {l : List UInt8} {j : Nat}, stopAt l = some j → j < l.length := by
  intro l
  induction l with
  | nil => intro j h; cases h
  | cons c r ih =>
    intro j h
    unfold stopAt at h
    split at h
    · cases hs : stopAt r with
      | none => rw [hs] at h; cases h
      | some i => rw [hs] at h; have := ih hs; simp at h; rw [List.length_cons]; omega
    · have h := Option.some.inj h; rw [List.length_cons]; omega
theorem firstS_le (l : List UInt8) : (firstS l).2 ≤ l.length := by
  unfold firstS
  cases hs : stopAt l with
  | none => simp
  | some j =>
    have := stopAt_lt hs
    show (if j < 10 ∧ valL (l.take (j + 1)) < 18446744073709551616 ∧ (j = 0 ∨ (l.getD j 0).toNat ≠ 0) then (valL (l.take (j + 1)), j + 1) else (0, 0)).2 ≤ l.length
    split
    · exact this
    · simp
theorem takS_lt (l : List UInt8) (m : Nat) : (takS l m).1 < 18446744073709551616 := by
  unfold takS; split
  · simp
  · exact firstS_lt l
theorem takS_le (l : List UInt8) (m : Nat) : (takS l m).2 ≤ l.length := by
  unfold takS; split
  · simp
  · exact firstS_le l
theorem takS_most (l : List UInt8) (m : Nat) : (takS l m).1 ≤ m := by
  unfold takS; split
  · simp
  · omega
theorem takS_zero {l : List UInt8} {m : Nat} (h : (takS l m).2 = 0) : (takS l m).1 = 0 := by
  unfold takS at h ⊢; split
  · rfl
  · rename_i h'; rw [if_neg h'] at h; omega
theorem takS_nat {n m : Nat} (h : n < 18446744073709551616) (hm : n ≤ m) (r : List UInt8) : takS (natB n ++ r) m = (n, (natB n).length) := by
  unfold takS
  rw [firstS_nat h r]
  have := natB_pos n
  rw [if_neg (by simp only []; omega)]
theorem takS_over {n m : Nat} (h : n < 18446744073709551616) (hm : m < n) (r : List UInt8) : takS (natB n ++ r) m = (0, 0) := by
  unfold takS
  rw [firstS_nat h r, if_pos (Or.inr hm)]

/-- Bytes as cells. -/
def bcs (l : List UInt8) : List Value := l.map fun b => Value.int .u8 (b.toNat : Int)
theorem bcs_str (s : ByteArray) : Lib.strCells s = bcs s.data.toList := rfl
theorem bcs_append (a b : List UInt8) : bcs (a ++ b) = bcs a ++ bcs b := List.map_append
theorem bcs_length (a : List UInt8) : (bcs a).length = a.length := List.length_map _
theorem or_more {x : Int} (h0 : 0 ≤ x) (h1 : x < 18446744073709551616) : bits .or .u8 (IntKind.u8.wrap x) 128 = x % 128 + 128 := by
  have e : IntKind.u8.wrap x = x % 256 := by simp [IntKind.wrap, IntKind.signed, IntKind.bits]
  have key : ∀ y : Fin 256, bits .or .u8 ((y.val : Nat) : Int) 128 = ((y.val % 128 + 128 : Nat) : Int) := by decide +kernel
  rw [e]
  have := key ⟨(x % 256).toNat, by omega⟩
  simp only at this
  rw [Int.toNat_of_nonneg (by omega)] at this
  rw [this]; omega
theorem wrap_u8 (x : Int) : IntKind.u8.wrap x = x % 256 := by simp [IntKind.wrap, IntKind.signed, IntKind.bits]
/-- The part of a number that a byte tells, at its place, modulo 2^64; back again. -/
def partI (k : Nat) (d : Int) : Int := IntKind.u64.wrap (d * 2 ^ min (7 * (k : Int)).toNat IntKind.u64.bits)
def backI (k : Nat) (x : Int) : Int := x / 2 ^ min (7 * (k : Int)).toNat IntKind.u64.bits
theorem shl_run (k : Nat) (d : Int) : Op.shift .shl .u64 d .i64 (7 * (k : Int)) = pure (.int .u64 (partI k d)) := shift_shl_any _ _ _ _ (by omega)
theorem shr_run (k : Nat) (d : Int) : Op.shift .shr .u64 d .i64 (7 * (k : Int)) = pure (.int .u64 (backI k d)) := shift_shr_any _ _ _ _ (by omega)
theorem pow_seven (k : Nat) : (2 : Int) ^ (7 * k) = ((128 ^ k : Nat) : Int) := by
  rw [Int.pow_mul, Int.natCast_pow]; rfl
theorem u64_bits : IntKind.u64.bits = 64 := rfl
theorem part_small {k d : Nat} (hk : k ≤ 8) (hd : d < 128) : partI k d = ((d * 128 ^ k : Nat) : Int) ∧ backI k ((d * 128 ^ k : Nat) : Int) = d := by
  have e : min (7 * (k : Int)).toNat IntKind.u64.bits = 7 * k := by rw [u64_bits]; omega
  have hp : 128 ^ k ≤ 128 ^ 8 := Nat.pow_le_pow_right (by decide) hk
  have hp0 : 0 < 128 ^ k := Nat.pow_pos (by decide)
  have hm : d * 128 ^ k ≤ 127 * 128 ^ 8 := Nat.mul_le_mul (by omega) hp
  unfold partI backI
  rw [e, pow_seven, IntKind.wrap_u64, ← Int.natCast_mul]
  refine ⟨?_, ?_⟩
  · generalize d * 128 ^ k = z at *
    omega
  · rw [← Int.natCast_ediv, Nat.mul_div_cancel _ hp0]
theorem part_nine {d : Nat} (hd : d < 128) : partI 9 d = ((d % 2 * 9223372036854775808 : Nat) : Int) ∧ backI 9 ((d % 2 * 9223372036854775808 : Nat) : Int) = ((d % 2 : Nat) : Int) := by
  have e : min (7 * ((9 : Nat) : Int)).toNat IntKind.u64.bits = 63 := by rw [u64_bits]; omega
  have e2 : (2 : Int) ^ 63 = 9223372036854775808 := by decide
  unfold partI backI
  rw [e, e2, IntKind.wrap_u64]
  omega
theorem part_far {k d : Nat} (hk : 10 ≤ k) : partI k d = 0 ∧ backI k 0 = 0 := by
  have e : min (7 * (k : Int)).toNat IntKind.u64.bits = 64 := by rw [u64_bits]; omega
  have e2 : (2 : Int) ^ 64 = 18446744073709551616 := by decide
  unfold partI backI
  rw [e, e2, IntKind.wrap_u64]
  omega
theorem or_word (x y : Int) : Word (bits .or .u64 x y) := by
  have h : ∃ n, bits .or .u64 x y = IntKind.u64.wrap n := ⟨_, rfl⟩
  obtain ⟨n, h⟩ := h
  rw [h, IntKind.wrap_u64]; unfold Word; omega
theorem or_comm_u64 (x y : Int) : bits .or .u64 x y = bits .or .u64 y x := by
  show IntKind.u64.wrap ((BitVec.ofInt 64 x ||| BitVec.ofInt 64 y).toNat : Int) = IntKind.u64.wrap ((BitVec.ofInt 64 y ||| BitVec.ofInt 64 x).toNat : Int)
  rw [BitVec.or_comm]
theorem or_sum {m d k : Nat} (hm : m < 128 ^ k) (hs : d * 128 ^ k < 18446744073709551616) (hm' : m < 18446744073709551616) :
    bits .or .u64 (m : Int) ((d * 128 ^ k : Nat) : Int) = ((m + d * 128 ^ k : Nat) : Int) := by
  rw [or_comm_u64]
  have h := bits_join .u64 64 (by decide) (fun n a b => by rw [IntKind.wrap_u64]; omega) (7 * k) ((d * 128 ^ k : Nat) : Int) (m : Int)
    (by omega) (by rw [pow_seven, ← Int.natCast_emod, Nat.mul_mod_left]; rfl) (by generalize d * 128 ^ k = z at *; omega) (by omega) (by rw [pow_seven]; exact Int.ofNat_lt.2 hm) (by omega)
  rw [h, ← Int.natCast_add, Nat.add_comm]

/-- One round: what a byte is good for. -/
theorem round_cases {l : List UInt8} {k : Nat} {b : UInt8} {m : Int} (hx : l[k]? = some b) (hA : (l.take k).all hiB = true) (hv : k ≤ 9 → m = ((valL (l.take k) : Nat) : Int)) :
    ∃ P Q R : Int, Word P ∧ Word R ∧ partI k ((b.toNat : Int) % 128) = P ∧ backI k P = Q ∧ bits .or .u64 m P = R ∧
      ((¬ Q = (b.toNat : Int) % 128 ∧ firstS l = (0, 0)) ∨
       (Q = (b.toNat : Int) % 128 ∧ 128 ≤ (b.toNat : Int) ∧ (k + 1 ≤ 9 → R = ((valL (l.take (k + 1)) : Nat) : Int)) ∧ (l.take (k + 1)).all hiB = true) ∨
       (Q = (b.toNat : Int) % 128 ∧ (b.toNat : Int) < 128 ∧ (b.toNat : Int) % 128 = 0 ∧ 0 < k ∧ firstS l = (0, 0)) ∨
       (Q = (b.toNat : Int) % 128 ∧ (b.toNat : Int) < 128 ∧ (¬ (b.toNat : Int) % 128 = 0 ∨ k = 0) ∧ ((firstS l).1 : Int) = R ∧ (firstS l).2 = k + 1)) := by
  have hb := b.toNat_lt
  have ec : (b.toNat : Int) % 128 = ((b.toNat % 128 : Nat) : Int) := by omega
  have hlow : b.toNat % 128 < 128 := Nat.mod_lt _ (by decide)
  have hvt := valL_take hx
  have hvl := valL_take_lt l k
  have hat := allH_take hx
  rw [hA, Bool.true_and] at hat
  have hhi : 128 ≤ b.toNat → hiB b = true := fun h => by unfold hiB; simpa using h
  have hlo : b.toNat < 128 → hiB b = false := fun h => by unfold hiB; simpa using h
  refine ⟨_, _, _, ?_, or_word _ _, rfl, rfl, rfl, ?_⟩
  · have h : ∃ n, partI k ((b.toNat : Int) % 128) = IntKind.u64.wrap n := ⟨_, rfl⟩
    obtain ⟨n, h⟩ := h
    rw [h, IntKind.wrap_u64]; unfold Word; omega
  · rw [ec]
    by_cases h8 : k ≤ 8
    · obtain ⟨p1, p2⟩ := part_small h8 hlow
      have hm := hv (by omega)
      have h9 : 128 ^ k ≤ 128 ^ 8 := Nat.pow_le_pow_right (by decide) h8
      have h10 : b.toNat % 128 * 128 ^ k ≤ 127 * 128 ^ 8 := Nat.mul_le_mul (by omega) h9
      have ho := or_sum (d := b.toNat % 128) hvl (by omega) (by omega)
      rw [p1, p2, hm, ho, ← hvt]
      by_cases hb8 : b.toNat < 128
      · have hf := firstS_at hA hx (hlo hb8)
        by_cases hz : b.toNat % 128 = 0 ∧ 0 < k
        · right; right; left
          refine ⟨rfl, by omega, by omega, hz.2, ?_⟩
          rw [hf, if_neg (by omega)]
        · right; right; right
          have hlt := valL_take_lt l (k + 1)
          have h11 : 128 ^ (k + 1) ≤ 128 ^ 9 := Nat.pow_le_pow_right (by decide) (by omega)
          rw [if_pos ⟨by omega, by omega, by omega⟩] at hf
          rw [hf]
          exact ⟨rfl, by omega, by omega, rfl, rfl⟩
      · right; left
        exact ⟨rfl, by omega, fun _ => rfl, by rw [hat]; exact hhi (by omega)⟩
    · by_cases h9 : k = 9
      · subst h9
        obtain ⟨p1, p2⟩ := part_nine hlow
        have hm := hv (by omega)
        have e9 : 128 ^ 9 = 9223372036854775808 := by decide
        rw [e9] at hvl hvt
        by_cases hs : b.toNat % 128 < 2
        · have e2 : b.toNat % 128 % 2 = b.toNat % 128 := by omega
          rw [e2] at p1 p2
          have ho := or_sum (m := valL (l.take 9)) (d := b.toNat % 128) (k := 9) (by rw [e9]; omega) (by rw [e9]; omega) (by omega)
          rw [e9] at ho
          rw [p1, p2, hm, ho, ← hvt]
          by_cases hb8 : b.toNat < 128
          · have hf := firstS_at hA hx (hlo hb8)
            by_cases hz : b.toNat % 128 = 0
            · right; right; left
              refine ⟨rfl, by omega, by omega, by omega, ?_⟩
              rw [hf, if_neg (by omega)]
            · right; right; right
              rw [if_pos ⟨by omega, by omega, by omega⟩] at hf
              rw [hf]
              exact ⟨rfl, by omega, by omega, rfl, rfl⟩
          · right; left
            exact ⟨rfl, by omega, fun _ => rfl, by rw [hat]; exact hhi (by omega)⟩
        · left
          rw [p1, p2]
          refine ⟨by omega, ?_⟩
          by_cases hb8 : b.toNat < 128
          · rw [firstS_at hA hx (hlo hb8), if_neg (by omega)]
          · exact firstS_far (by rw [hat]; exact hhi (by omega)) (lt_of_some hx)
      · obtain ⟨p1, p2⟩ := part_far (k := k) (d := b.toNat % 128) (by omega)
        have hfar : firstS l = (0, 0) := by
          refine firstS_far ?_ (by have := lt_of_some hx; omega)
          have : l.take 10 = (l.take k).take 10 := by rw [List.take_take, Nat.min_eq_left (by omega)]
          rw [this]
          exact List.all_eq_true.2 fun x hx' => List.all_eq_true.1 hA x (List.mem_of_mem_take hx')
        rw [p1, p2]
        by_cases hz : b.toNat % 128 = 0
        · by_cases hb8 : b.toNat < 128
          · right; right; left
            exact ⟨by omega, by omega, by omega, by omega, hfar⟩
          · right; left
            exact ⟨by omega, by omega, fun h => by omega, by rw [hat]; exact hhi (by omega)⟩
        · left
          exact ⟨by omega, hfar⟩
end Go.Proofs.YtcijflakldggaaaGreat

/-
  Plain mathematics of rows of pairs (an index, a count): no program in sight.
-/
namespace Go.Proofs.YtcijflakldggaaaGreat
set_option linter.unusedVariables false
set_option linter.unusedSimpArgs false

/-- An index, and how many. -/
abbrev PairV := Int × Int
def okP (p : PairV) : Prop := I64 p.1 ∧ Word p.2
def maxC : Int := 9223372036854775807
/-- A row that can be. -/
def GoodP (L : List PairV) : Prop := (∀ p, p ∈ L → 1 ≤ p.2 ∧ p.2 ≤ 9223372036854775807) ∧ L.Pairwise fun p q => p.1 < q.1
instance (L : List PairV) : Decidable (GoodP L) := by unfold GoodP; infer_instance
def goodB (L : List PairV) : Bool := decide (GoodP L)
theorem goodB_true {L : List PairV} : goodB L = true ↔ GoodP L := by unfold goodB; exact decide_eq_true_iff
theorem goodB_false {L : List PairV} : goodB L = false ↔ ¬ GoodP L := by unfold goodB; exact decide_eq_false_iff_not
theorem good_nil : GoodP [] := ⟨fun p h => (by cases h), List.Pairwise.nil⟩
theorem good_app {A B : List PairV} (h : GoodP (A ++ B)) : GoodP A ∧ GoodP B ∧ ∀ p, p ∈ A → ∀ q, q ∈ B → p.1 < q.1 := by
  obtain ⟨h1, h2⟩ := h
  obtain ⟨h3, h4, h5⟩ := List.pairwise_append.1 h2
  exact ⟨⟨fun p hp => h1 p (List.mem_append_left _ hp), h3⟩, ⟨fun p hp => h1 p (List.mem_append_right _ hp), h4⟩, h5⟩
theorem good_mk {A B : List PairV} (h1 : GoodP A) (h2 : GoodP B) (h3 : ∀ p, p ∈ A → ∀ q, q ∈ B → p.1 < q.1) : GoodP (A ++ B) :=
  ⟨fun p hp => (List.mem_append.1 hp).elim (h1.1 p) (h2.1 p), List.pairwise_append.2 ⟨h1.2, h2.2, h3⟩⟩
theorem good_one {p : PairV} (h : 1 ≤ p.2 ∧ p.2 ≤ 9223372036854775807) : GoodP [p] := ⟨fun q hq => (by simp at hq; subst hq; exact h), List.pairwise_singleton _ _⟩
/-- A row's beginning and one more: by the last one of the beginning. -/
theorem good_snoc {A : List PairV} {p : PairV} : GoodP (A ++ [p]) ↔ GoodP A ∧ (1 ≤ p.2 ∧ p.2 ≤ 9223372036854775807) ∧ ∀ q, A.getLast? = some q → q.1 < p.1 := by
  constructor
  · intro h
    obtain ⟨h1, h2, h3⟩ := good_app h
    exact ⟨h1, h2.1 p (by simp), fun q hq => h3 q (List.mem_of_getLast? hq) p (by simp)⟩
  · rintro ⟨h1, h2, h3⟩
    refine good_mk h1 (good_one h2) fun q hq r hr => ?_
    simp at hr; subst hr
    cases hl : A.getLast? with
    | none => rw [List.getLast?_eq_none_iff] at hl; subst hl; cases hq
    | some z =>
      have hz := h3 z hl
      obtain ⟨B, rfl⟩ := List.getLast?_eq_some_iff.1 hl
      rcases List.mem_append.1 hq with h | h
      · have := (List.pairwise_append.1 h1.2).2.2 q h z (by simp); omega
      · simp at h; subst h; exact hz
theorem take_snocP {α : Type} {L : List α} {k : Nat} {p : α} (h : L[k]? = some p) : L.take (k + 1) = L.take k ++ [p] := by
  have hk : k < L.length := by
    rcases Nat.lt_or_ge k L.length with h' | h'
    · exact h'
    · rw [List.getElem?_eq_none h'] at h; cases h
  rw [List.take_succ_eq_append_getElem hk]
  rw [List.getElem?_eq_getElem hk] at h
  rw [Option.some.inj h]
theorem last_take {α : Type} {L : List α} {k : Nat} (hk : k < L.length) : (L.take (k + 1)).getLast? = L[k]? := by
  rw [take_snocP (List.getElem?_eq_getElem hk), List.getLast?_concat, List.getElem?_eq_getElem hk]
theorem good_take {L : List PairV} (k : Nat) (h : GoodP L) : GoodP (L.take k) := (good_app (A := L.take k) (B := L.drop k) (by rw [List.take_append_drop]; exact h)).1
theorem good_drop {L : List PairV} (k : Nat) (h : GoodP L) : GoodP (L.drop k) := (good_app (A := L.take k) (B := L.drop k) (by rw [List.take_append_drop]; exact h)).2.1
/-- Whether the row up to one more is good: by that one and the one ahead. -/
theorem good_step {L : List PairV} {k : Nat} {p : PairV} (h : L[k]? = some p) (hg : GoodP (L.take k)) :
    GoodP (L.take (k + 1)) ↔ (1 ≤ p.2 ∧ p.2 ≤ 9223372036854775807) ∧ (0 < k → ∀ q, L[k - 1]? = some q → q.1 < p.1) := by
  rw [take_snocP h, good_snoc]
  have hk : k < L.length := by
    rcases Nat.lt_or_ge k L.length with h' | h'
    · exact h'
    · rw [List.getElem?_eq_none h'] at h; cases h
  cases k with
  | zero => simp [good_nil]
  | succ j =>
    rw [last_take (by omega)]
    simp [hg]

/-- All counts of a row. -/
def sumP (L : List PairV) : Int := (L.map fun p => p.2).sum
theorem sumP_app (A B : List PairV) : sumP (A ++ B) = sumP A + sumP B := by unfold sumP; rw [List.map_append, List.sum_append]
theorem sumP_one (p : PairV) : sumP [p] = p.2 := by unfold sumP; simp
theorem sumP_cons (p : PairV) (r : List PairV) : sumP (p :: r) = p.2 + sumP r := by unfold sumP; simp
theorem sumP_nil : sumP [] = 0 := rfl
theorem sumP_pos {L : List PairV} (h : ∀ p, p ∈ L → 0 ≤ p.2) : 0 ≤ sumP L := by
  induction L with
  | nil => exact Int.le_refl _
  | cons p r ih =>
    rw [sumP_cons]
    have := h p (by simp); have := ih fun q hq => h q (List.mem_cons_of_mem _ hq)
    omega
theorem sumP_take {L : List PairV} (k : Nat) (h : ∀ p, p ∈ L → 0 ≤ p.2) : 0 ≤ sumP (L.take k) ∧ sumP (L.take k) ≤ sumP L := by
  have e := sumP_app (L.take k) (L.drop k)
  rw [List.take_append_drop] at e
  have h1 := sumP_pos (L := L.take k) fun p hp => h p (List.mem_of_mem_take hp)
  have h2 := sumP_pos (L := L.drop k) fun p hp => h p (List.mem_of_mem_drop hp)
  omega
def fitsB (L : List PairV) : Bool := decide (sumP L ≤ 9223372036854775807)
def totalP (L : List PairV) : Int := if fitsB L then sumP L else 0

/-- How many of an index. -/
def countP (L : List PairV) (i : Int) : Int := sumP (L.filter fun p => p.1 == i)
theorem countP_app (A B : List PairV) (i : Int) : countP (A ++ B) i = countP A i + countP B i := by unfold countP; rw [List.filter_append, sumP_app]
theorem countP_one (p : PairV) (i : Int) : countP [p] i = if p.1 = i then p.2 else 0 := by
  unfold countP
  by_cases h : p.1 = i
  · rw [if_pos h, List.filter_cons_of_pos (by simpa using h)]; simp [sumP_one]
  · rw [if_neg h, List.filter_cons_of_neg (by simpa using h)]; rfl
theorem countP_take {L : List PairV} (k : Nat) (i : Int) (h : ∀ p, p ∈ L → 0 ≤ p.2) : 0 ≤ countP (L.take k) i ∧ countP (L.take k) i ≤ countP L i := by
  have e := countP_app (L.take k) (L.drop k) i
  rw [List.take_append_drop] at e
  have h1 : 0 ≤ countP (L.take k) i := sumP_pos fun p hp => h p (List.mem_of_mem_take (List.mem_filter.1 hp).1)
  have h2 : 0 ≤ countP (L.drop k) i := sumP_pos fun p hp => h p (List.mem_of_mem_drop (List.mem_filter.1 hp).1)
  omega
/-- A row with so many more of an index. -/
def lowP (L : List PairV) (i : Int) : List PairV := L.filter fun p => decide (p.1 < i)
def highP (L : List PairV) (i : Int) : List PairV := L.filter fun p => decide (i < p.1)
def midP (i n : Int) : List PairV := if 0 < n then [(i, n)] else []
def addP (L : List PairV) (i c : Int) : List PairV := lowP L i ++ (midP i (countP L i + c) ++ highP L i)
theorem lowP_mem {L : List PairV} {i : Int} {p : PairV} (h : p ∈ lowP L i) : p ∈ L ∧ p.1 < i := by
  have := List.mem_filter.1 h; exact ⟨this.1, by simpa using this.2⟩
theorem highP_mem {L : List PairV} {i : Int} {p : PairV} (h : p ∈ highP L i) : p ∈ L ∧ i < p.1 := by
  have := List.mem_filter.1 h; exact ⟨this.1, by simpa using this.2⟩
theorem good_filter {L : List PairV} (f : PairV → Bool) (h : GoodP L) : GoodP (L.filter f) :=
  ⟨fun p hp => h.1 p (List.mem_filter.1 hp).1, h.2.filter _⟩
/-- The row stays one that can be. -/
theorem add_good {L : List PairV} {i c : Int} (h : GoodP L) (hn : countP L i + c ≤ 9223372036854775807) : GoodP (addP L i c) := by
  unfold addP
  refine good_mk (good_filter _ h) (good_mk ?_ (good_filter _ h) ?_) ?_
  · unfold midP
    split
    · exact good_one ⟨by simp only; omega, hn⟩
    · exact good_nil
  · intro p hp q hq
    unfold midP at hp
    split at hp
    · simp at hp; subst hp; exact (highP_mem hq).2
    · cases hp
  · intro p hp q hq
    have h1 := (lowP_mem hp).2
    rcases List.mem_append.1 hq with h2 | h2
    · unfold midP at h2
      split at h2
      · simp at h2; subst h2; exact h1
      · cases h2
    · have := (highP_mem h2).2; omega
/-- A good row, parted at an index. -/
theorem good_part : ∀ {L : List PairV} (i : Int), GoodP L → (∃ n, lowP L i ++ ((i, n) :: highP L i) = L ∧ countP L i = n ∧ 1 ≤ n) ∨ (lowP L i ++ highP L i = L ∧ countP L i = 0) := by
  intro L
  induction L with
  | nil => intro i _; exact Or.inr ⟨rfl, rfl⟩
  | cons p r ih =>
    intro i h
    have hr : GoodP r := good_drop 1 h
    have hlt : ∀ q, q ∈ r → p.1 < q.1 := (List.pairwise_cons.1 h.2).1
    have hp := h.1 p (by simp)
    rcases Int.lt_trichotomy p.1 i with h1 | h1 | h1
    · have el : lowP (p :: r) i = p :: lowP r i := by unfold lowP; rw [List.filter_cons_of_pos (by simpa using h1)]
      have eh : highP (p :: r) i = highP r i := by unfold highP; rw [List.filter_cons_of_neg (by simp; omega)]
      have ec : countP (p :: r) i = countP r i := by unfold countP; rw [List.filter_cons_of_neg (by simp; omega)]
      rw [el, eh, ec]
      rcases ih i hr with ⟨n, e1, e2, e3⟩ | ⟨e1, e2⟩
      · exact Or.inl ⟨n, by rw [List.cons_append, e1], e2, e3⟩
      · exact Or.inr ⟨by rw [List.cons_append, e1], e2⟩
    · have hall : ∀ q, q ∈ r → i < q.1 := fun q hq => by have := hlt q hq; omega
      have el : lowP (p :: r) i = [] := by
        unfold lowP; rw [List.filter_eq_nil_iff]; intro q hq
        rcases List.mem_cons.1 hq with rfl | hq
        · simp; omega
        · have := hall q hq; simp; omega
      have eh : highP (p :: r) i = r := by
        unfold highP; rw [List.filter_cons_of_neg (by simp; omega), List.filter_eq_self]
        intro q hq; simpa using hall q hq
      have ec : countP (p :: r) i = p.2 := by
        unfold countP
        rw [List.filter_cons_of_pos (by simpa using h1), List.filter_eq_nil_iff.2 (fun q hq => by have := hall q hq; simp; omega), sumP_one]
      rw [el, eh, ec]
      exact Or.inl ⟨p.2, by rw [← h1]; rfl, rfl, hp.1⟩
    · have hall : ∀ q, q ∈ r → i < q.1 := fun q hq => by have := hlt q hq; omega
      have el : lowP (p :: r) i = [] := by
        unfold lowP; rw [List.filter_eq_nil_iff]; intro q hq
        rcases List.mem_cons.1 hq with rfl | hq
        · simp; omega
        · have := hall q hq; simp; omega
      have eh : highP (p :: r) i = p :: r := by
        unfold highP; rw [List.filter_eq_self]
        intro q hq
        rcases List.mem_cons.1 hq with rfl | hq
        · simpa using h1
        · simpa using hall q hq
      have ec : countP (p :: r) i = 0 := by
        unfold countP
        rw [List.filter_eq_nil_iff.2 (fun q hq => by
          rcases List.mem_cons.1 hq with rfl | hq
          · simp; omega
          · have := hall q hq; simp; omega)]; rfl
      rw [el, eh, ec]
      exact Or.inr ⟨rfl, rfl⟩
theorem add_none {L : List PairV} {i : Int} (h : GoodP L) : addP L i 0 = L := by
  unfold addP
  rcases good_part i h with ⟨n, e1, e2, e3⟩ | ⟨e1, e2⟩
  · rw [e2, Int.add_zero]; unfold midP; rw [if_pos (by omega)]; exact e1
  · rw [e2, Int.add_zero]; unfold midP; rw [if_neg (by omega)]; exact e1

/-- How far an index lies behind another one, less 1, as a number. -/
def farP (a b : Int) : Nat := ((b - a - 1) % 18446744073709551616).toNat
theorem farP_lt (a b : Int) : farP a b < 18446744073709551616 := by unfold farP; omega
theorem farP_of {a b : Int} (ha : I64 a) (hb : I64 b) (h : a < b) : (farP a b : Int) = b - a - 1 := by unfold I64 at ha hb; unfold farP; omega
theorem farP_inj {a b c : Int} (ha : I64 a) (hb : I64 b) (hc : I64 c) (h1 : a < b) (h2 : a < c) (h : farP a b = farP a c) : b = c := by
  have e1 := farP_of ha hb h1
  have e2 := farP_of ha hc h2
  omega
/-- The bytes of a row, behind an index; of a whole row. -/
def tailB : Int → List PairV → List UInt8
  | _, [] => []
  | a, p :: r => natB (farP a p.1) ++ (natB p.2.toNat ++ tailB p.1 r)
def bodyB : List PairV → List UInt8
  | [] => []
  | p :: r => natB (zig p.1).toNat ++ (natB p.2.toNat ++ tailB p.1 r)
def rowB (L : List PairV) : List UInt8 := natB L.length ++ bodyB L
theorem tail_snoc : ∀ (A : List PairV) (a : Int) (p : PairV), tailB a (A ++ [p]) = tailB a A ++ (natB (farP (match A.getLast? with | none => a | some q => q.1) p.1) ++ natB p.2.toNat) := by
  intro A
  induction A with
  | nil => intro a p; simp [tailB]
  | cons q r ih =>
    intro a p
    have e : (match (q :: r).getLast? with | none => a | some z => z.1) = (match r.getLast? with | none => q.1 | some z => z.1) := by
      cases r with
      | nil => rfl
      | cons z t => rw [List.getLast?_cons_cons]; cases h : (z :: t).getLast? with
        | none => simp at h
        | some y => rfl
    rw [e, List.cons_append]
    show natB (farP a q.1) ++ (natB q.2.toNat ++ tailB q.1 (r ++ [p])) = _
    rw [ih]
    show _ = natB (farP a q.1) ++ (natB q.2.toNat ++ tailB q.1 r) ++ _
    simp only [List.append_assoc]
theorem body_first (p : PairV) : bodyB ([] ++ [p]) = bodyB [] ++ (natB (zig p.1).toNat ++ natB p.2.toNat) := by simp [bodyB, tailB]
theorem body_snoc {A : List PairV} {q p : PairV} (h : A.getLast? = some q) : bodyB (A ++ [p]) = bodyB A ++ (natB (farP q.1 p.1) ++ natB p.2.toNat) := by
  cases A with
  | nil => cases h
  | cons z r =>
    rw [List.cons_append]
    show natB (zig z.1).toNat ++ (natB z.2.toNat ++ tailB z.1 (r ++ [p])) = natB (zig z.1).toNat ++ (natB z.2.toNat ++ tailB z.1 r) ++ _
    rw [tail_snoc]
    have e : (match r.getLast? with | none => z.1 | some y => y.1) = q.1 := by
      cases r with
      | nil => simp at h; subst h; rfl
      | cons y t => rw [List.getLast?_cons_cons] at h; rw [h]
    rw [e]
    simp only [List.append_assoc]
/-- The index of a pair that stands there. -/
def idxAt (L : List PairV) (j : Nat) : Int := ((L[j]?).map fun p => p.1).getD 0
/-- Step by step: the bytes of the first k pairs and of one more. -/
theorem body_step {L : List PairV} {k : Nat} {p : PairV} (h : L[k]? = some p) : bodyB (L.take (k + 1)) = bodyB (L.take k) ++ ((if k = 0 then natB (zig p.1).toNat else natB (farP (idxAt L (k - 1)) p.1)) ++ natB p.2.toNat) := by
  have hk : k < L.length := by
    rcases Nat.lt_or_ge k L.length with h' | h'
    · exact h'
    · rw [List.getElem?_eq_none h'] at h; cases h
  rw [take_snocP h]
  cases k with
  | zero => rw [if_pos rfl]; exact body_first p
  | succ j =>
    rw [if_neg (by omega)]
    have hl := last_take (L := L) (k := j) (by omega)
    have hj := List.getElem?_eq_getElem (l := L) (i := j) (by omega)
    rw [hj] at hl
    rw [body_snoc hl, Nat.add_sub_cancel]
    unfold idxAt
    rw [hj]; rfl
theorem tailB_len : ∀ (L : List PairV) (a : Int), (∀ p, p ∈ L → Word p.2) → (tailB a L).length ≤ 20 * L.length := by
  intro L
  induction L with
  | nil => intro a _; exact Nat.zero_le _
  | cons p r ih =>
    intro a h
    have h1 := natB_len10 (farP_lt a p.1)
    have h2 := natB_len10 (n := p.2.toNat) (by have := h p (by simp); unfold Word at this; omega)
    have h3 := ih p.1 fun q hq => h q (List.mem_cons_of_mem _ hq)
    simp only [tailB, List.length_append, List.length_cons]
    omega
theorem bodyB_len {L : List PairV} (h : ∀ p, p ∈ L → okP p) : (bodyB L).length ≤ 20 * L.length := by
  cases L with
  | nil => exact Nat.zero_le _
  | cons p r =>
    have hp := h p (by simp)
    have h1 := natB_len10 (n := (zig p.1).toNat) (by have := zig_word hp.1; unfold Word at this; omega)
    have h2 := natB_len10 (n := p.2.toNat) (by have := hp.2; unfold Word at this; omega)
    have h3 := tailB_len r p.1 fun q hq => (h q (List.mem_cons_of_mem _ hq)).2
    simp only [bodyB, List.length_append, List.length_cons]
    omega
/-- A number ahead of other bytes is read as what it is. -/
theorem nat_split {n m : Nat} {r r' : List UInt8} (hn : n < 18446744073709551616) (hm : m < 18446744073709551616) (h : natB n ++ r = natB m ++ r') : n = m ∧ r = r' := by
  have f := firstS_nat hn r
  rw [h, firstS_nat hm r'] at f
  have e : m = n := congrArg Prod.fst f
  subst e
  exact ⟨rfl, List.append_cancel_left h⟩
theorem tail_inj : ∀ (L L' : List PairV) (a : Int) (r r' : List UInt8), I64 a → (∀ p, p ∈ L → okP p ∧ a < p.1) → (∀ p, p ∈ L' → okP p ∧ a < p.1) → GoodP L → GoodP L' → L.length = L'.length → tailB a L ++ r = tailB a L' ++ r' → L = L' ∧ r = r' := by
  intro L
  induction L with
  | nil =>
    intro L' a r r' _ _ _ _ _ hl h
    cases L' with
    | nil => exact ⟨rfl, h⟩
    | cons _ _ => simp at hl
  | cons p t ih =>
    intro L' a r r' ha h1 h2 g1 g2 hl h
    cases L' with
    | nil => simp at hl
    | cons q u =>
      obtain ⟨⟨p1, p2⟩, p3⟩ := h1 p (by simp)
      obtain ⟨⟨q1, q2⟩, q3⟩ := h2 q (by simp)
      simp only [tailB, List.append_assoc] at h
      obtain ⟨e1, h'⟩ := nat_split (farP_lt _ _) (farP_lt _ _) h
      obtain ⟨e2, h''⟩ := nat_split (by unfold Word at p2; omega) (by unfold Word at q2; omega) h'
      have e3 : p.1 = q.1 := farP_inj ha p1 q1 p3 q3 e1
      have e4 : p.2 = q.2 := by unfold Word at p2 q2; omega
      have hp := (List.pairwise_cons.1 g1.2).1
      have hq := (List.pairwise_cons.1 g2.2).1
      rw [← e3] at h'' hq
      obtain ⟨e5, e6⟩ := ih u p.1 r r' p1 (fun z hz => ⟨(h1 z (List.mem_cons_of_mem _ hz)).1, hp z hz⟩) (fun z hz => ⟨(h2 z (List.mem_cons_of_mem _ hz)).1, hq z hz⟩) (good_drop 1 g1) (good_drop 1 g2) (by simpa using hl) h''
      exact ⟨by rw [e5, Prod.ext e3 e4], e6⟩
/-- Rows' bytes tell the rows. -/
theorem row_inj {L L' : List PairV} {r r' : List UInt8} (o : ∀ p, p ∈ L → okP p) (o' : ∀ p, p ∈ L' → okP p) (g : GoodP L) (g' : GoodP L') (hl : L.length < 18446744073709551616) (hl' : L'.length < 18446744073709551616)
    (h : rowB L ++ r = rowB L' ++ r') : L = L' ∧ r = r' := by
  unfold rowB at h
  simp only [List.append_assoc] at h
  obtain ⟨e1, h1⟩ := nat_split hl hl' h
  cases L with
  | nil => cases L' with
    | nil => exact ⟨rfl, h1⟩
    | cons _ _ => simp at e1
  | cons p t =>
    cases L' with
    | nil => simp at e1
    | cons q u =>
      obtain ⟨p1, p2⟩ := o p (by simp)
      obtain ⟨q1, q2⟩ := o' q (by simp)
      simp only [bodyB, List.append_assoc] at h1
      have w1 := zig_word p1
      have w2 := zig_word q1
      obtain ⟨e2, h2⟩ := nat_split (by unfold Word at w1; omega) (by unfold Word at w2; omega) h1
      obtain ⟨e3, h3⟩ := nat_split (by unfold Word at p2; omega) (by unfold Word at q2; omega) h2
      have e4 : zig p.1 = zig q.1 := by unfold Word at w1 w2; omega
      have e5 : p.1 = q.1 := by rw [← zag_zig (x := p.1), e4, zag_zig]
      have e6 : p.2 = q.2 := by unfold Word at p2 q2; omega
      have hp := (List.pairwise_cons.1 g.2).1
      have hq := (List.pairwise_cons.1 g'.2).1
      rw [← e5] at h3 hq
      obtain ⟨e7, e8⟩ := tail_inj t u p.1 r r' p1 (fun z hz => ⟨o z (List.mem_cons_of_mem _ hz), hp z hz⟩) (fun z hz => ⟨o' z (List.mem_cons_of_mem _ hz), hq z hz⟩) (good_drop 1 g) (good_drop 1 g') (by simpa using e1) h3
      exact ⟨by rw [e7, Prod.ext e5 e6], e8⟩

theorem low_high_len (L : List PairV) (i : Int) : (lowP L i).length + (highP L i).length ≤ L.length := by
  induction L with
  | nil => exact Nat.le_refl _
  | cons p r ih =>
    unfold lowP highP at *
    rw [List.filter_cons, List.filter_cons]
    by_cases h1 : p.1 < i
    · have h2 : ¬ i < p.1 := by omega
      simp only [h1, h2, decide_true, decide_false, if_true, Bool.false_eq_true, if_false, List.length_cons]; omega
    · by_cases h2 : i < p.1
      · simp only [h1, h2, decide_true, decide_false, if_true, Bool.false_eq_true, if_false, List.length_cons]; omega
      · simp only [h1, h2, decide_false, Bool.false_eq_true, if_false, List.length_cons]; omega
theorem add_len (L : List PairV) (i c : Int) : (addP L i c).length ≤ L.length + 1 := by
  unfold addP
  have h := low_high_len L i
  have h2 : (midP i (countP L i + c)).length ≤ 1 := by unfold midP; split <;> simp
  rw [List.length_append, List.length_append]; omega
theorem add_ok {L : List PairV} {i c : Int} (h : ∀ p, p ∈ L → okP p) (hi : I64 i) (hn : countP L i + c < 18446744073709551616) : ∀ p, p ∈ addP L i c → okP p := by
  intro p hp
  unfold addP at hp
  rcases List.mem_append.1 hp with hp | hp
  · exact h p (lowP_mem hp).1
  · rcases List.mem_append.1 hp with hp | hp
    · unfold midP at hp
      split at hp
      · simp at hp; subst hp; exact ⟨hi, by unfold Word; omega⟩
      · cases hp
    · exact h p (highP_mem hp).1
theorem count_low (L : List PairV) (i j : Int) : countP (lowP L i) j = if j < i then countP L j else 0 := by
  unfold countP lowP
  rw [List.filter_filter]
  by_cases h : j < i
  · rw [if_pos h]
    congr 1
    apply List.filter_congr
    intro p _
    by_cases e : p.1 = j
    · subst e; simp [h]
    · simp [e]
  · rw [if_neg h, List.filter_eq_nil_iff.2]; rfl
    intro p _
    simp only [Bool.and_eq_true, decide_eq_true_eq, beq_iff_eq, not_and]
    intro e; omega
theorem count_high (L : List PairV) (i j : Int) : countP (highP L i) j = if i < j then countP L j else 0 := by
  unfold countP highP
  rw [List.filter_filter]
  by_cases h : i < j
  · rw [if_pos h]
    congr 1
    apply List.filter_congr
    intro p _
    by_cases e : p.1 = j
    · subst e; simp [h]
    · simp [e]
  · rw [if_neg h, List.filter_eq_nil_iff.2]; rfl
    intro p _
    simp only [Bool.and_eq_true, decide_eq_true_eq, beq_iff_eq, not_and]
    intro e; omega
/-- How many of each index there are behind an addition. -/
theorem count_add {L : List PairV} {i c : Int} (h0 : 0 ≤ countP L i + c) (j : Int) : countP (addP L i c) j = countP L j + if j = i then c else 0 := by
  unfold addP
  rw [countP_app, countP_app, count_low, count_high]
  have hm : countP (midP i (countP L i + c)) j = if j = i then countP L i + c else 0 := by
    unfold midP
    by_cases hn : 0 < countP L i + c
    · rw [if_pos hn, countP_one]
      by_cases e : j = i
      · rw [if_pos e, if_pos e.symm]
      · rw [if_neg e, if_neg (fun h => e h.symm)]
    · rw [if_neg hn]
      by_cases e : j = i
      · rw [if_pos e, show countP [] j = 0 from rfl]; omega
      · rw [if_neg e]; rfl
  rw [hm]
  by_cases e : j = i
  · subst e
    simp only [Int.lt_irrefl, if_true, if_false]; omega
  · rw [if_neg e, if_neg e]
    by_cases h1 : j < i
    · rw [if_pos h1, if_neg (by omega)]; omega
    · rw [if_neg h1, if_pos (by omega)]; omega
/-- All pairs of a row, added one by one. -/
def foldP (L : List PairV) : List PairV := L.foldl (fun R p => addP R p.1 p.2) []
theorem fold_snoc (L : List PairV) (p : PairV) : foldP (L ++ [p]) = addP (foldP L) p.1 p.2 := by unfold foldP; rw [List.foldl_append]; rfl
/-- What is kept while small counts are added. -/
structure Sums (R : List PairV) (k : Nat) : Prop where
  good : GoodP R
  ok : ∀ p, p ∈ R → okP p
  len : R.length ≤ k
  cnt : ∀ j, 0 ≤ countP R j ∧ countP R j ≤ k * 1099511627776
theorem Sums.nil : Sums [] 0 := ⟨good_nil, fun p h => (by cases h), Nat.le_refl _, fun j => ⟨Int.le_refl _, Int.le_refl _⟩⟩
theorem Sums.add {R : List PairV} {k : Nat} (h : Sums R k) {p : PairV} (hp : okP p) (hc : p.2 ≤ 1099511627776) (hk : k ≤ 1000) : Sums (addP R p.1 p.2) (k + 1) := by
  have h0 := h.cnt p.1
  have hw := hp.2
  unfold Word at hw
  refine ⟨add_good h.good (by omega), add_ok h.ok hp.1 (by omega), Nat.le_trans (add_len _ _ _) (by have := h.len; omega), fun j => ?_⟩
  rw [count_add (by omega)]
  have := h.cnt j
  split <;> omega

/-- A good row hangs on its counts alone. -/
theorem count_cons (p : PairV) (r : List PairV) (j : Int) : countP (p :: r) j = (if p.1 = j then p.2 else 0) + countP r j := by
  have := countP_app [p] r j
  rw [countP_one] at this
  exact this
theorem count_above {L : List PairV} {j : Int} (h : ∀ q, q ∈ L → j < q.1) : countP L j = 0 := by
  unfold countP
  rw [List.filter_eq_nil_iff.2 (fun q hq => by have := h q hq; simp; omega)]; rfl
theorem good_ext : ∀ {L M : List PairV}, GoodP L → GoodP M → (∀ j, countP L j = countP M j) → L = M := by
  intro L
  induction L with
  | nil =>
    intro M _ hM h
    cases M with
    | nil => rfl
    | cons q s =>
      have h1 := h q.1
      rw [count_cons, if_pos rfl, count_above (L := s) (fun z hz => (List.pairwise_cons.1 hM.2).1 z hz)] at h1
      have h2 := hM.1 q (by simp)
      have h3 : countP [] q.1 = 0 := rfl
      omega
  | cons p r ih =>
    intro M hL hM h
    have hp := hL.1 p (by simp)
    have hr := (List.pairwise_cons.1 hL.2).1
    cases M with
    | nil =>
      have h1 := h p.1
      rw [count_cons, if_pos rfl, count_above (L := r) hr] at h1
      have h3 : countP [] p.1 = 0 := rfl
      omega
    | cons q s =>
      have hq := hM.1 q (by simp)
      have hs := (List.pairwise_cons.1 hM.2).1
      have e1 : p.1 = q.1 := by
        rcases Int.lt_trichotomy p.1 q.1 with hc | hc | hc
        · have h1 := h p.1
          rw [count_cons, if_pos rfl, count_above (L := r) hr, count_cons, if_neg (by omega), count_above (L := s) (fun z hz => by have := hs z hz; omega)] at h1
          omega
        · exact hc
        · have h1 := h q.1
          rw [count_cons, if_neg (by omega), count_above (L := r) (fun z hz => by have := hr z hz; omega), count_cons, if_pos rfl, count_above (L := s) hs] at h1
          omega
      have e2 : p.2 = q.2 := by
        have h1 := h p.1
        rw [count_cons, if_pos rfl, count_above (L := r) hr, count_cons, if_pos e1.symm, count_above (L := s) (fun z hz => by have := hs z hz; omega)] at h1
        omega
      have e3 : r = s := ih (good_drop 1 hL) (good_drop 1 hM) fun j => by
        have h1 := h j
        rw [count_cons, count_cons, e1, e2] at h1
        omega
      rw [e3, Prod.ext e1 e2]
theorem fold_app (A B : List PairV) : foldP (A ++ B) = B.foldl (fun R p => addP R p.1 p.2) (foldP A) := by unfold foldP; rw [List.foldl_append]
/-- What all pairs added one by one come to: good, and with all counts. -/
theorem fold_sums : ∀ (L : List PairV), (∀ p, p ∈ L → okP p ∧ p.2 ≤ 1099511627776) → L.length ≤ 1000 → Sums (foldP L) L.length ∧ ∀ j, countP (foldP L) j = countP L j := by
  have key : ∀ (n : Nat) (L : List PairV), L.length = n → (∀ p, p ∈ L → okP p ∧ p.2 ≤ 1099511627776) → L.length ≤ 1000 → Sums (foldP L) L.length ∧ ∀ j, countP (foldP L) j = countP L j := by
    intro n
    induction n with
    | zero =>
      intro L h0 _ _
      have : L = [] := List.eq_nil_of_length_eq_zero h0
      subst this
      exact ⟨Sums.nil, fun j => rfl⟩
    | succ n ih =>
      intro L h0 h hl
      rcases List.eq_nil_or_concat L with rfl | ⟨A, p, rfl⟩
      · cases h0
      rw [List.concat_eq_append] at *
      rw [List.length_append, List.length_singleton] at hl h0
      obtain ⟨h1, h2⟩ := ih A (by omega) (fun q hq => h q (List.mem_append_left _ hq)) (by omega)
      have hp := h p (by simp)
      rw [fold_snoc, List.length_append, List.length_singleton]
      refine ⟨h1.add hp.1 hp.2 (by omega), fun j => ?_⟩
      have h3 := h1.cnt p.1
      have hw := hp.1.2
      unfold Word at hw
      rw [count_add (by omega), h2, countP_app, countP_one]
      by_cases e : j = p.1
      · subst e; rw [if_pos rfl]
      · rw [if_neg e, if_neg (fun h => e h.symm)]
  exact fun L => key L.length L rfl
end Go.Proofs.YtcijflakldggaaaGreat

/-
  A block of two cells that may be written: what is carried from world to world.
-/
namespace Go.Proofs.YtcijflakldggaaaGreat
set_option linter.unusedVariables false
open Go.RowKit

structure Two (w : World) (B : Nat) (x y : Value) : Prop where
  c0 : w.cell? ⟨B, 0, none⟩ = some x
  c1 : w.cell? ⟨B, 1, none⟩ = some y
  f0 : w.frozen? ⟨B, 0, none⟩ = false
  f1 : w.frozen? ⟨B, 1, none⟩ = false
theorem Two.lt {w : World} {B : Nat} {x y : Value} (h : Two w B x y) : B < w.heap.size := World.block_lt_of_cell? (a := ⟨B, 0, none⟩) w h.c0
theorem Two.call {w w' : World} {B : Nat} {x y : Value} (h : Two w B x y) (hb : Below w.heap.size w w') : Two w' B x y :=
  ⟨cell_later hb h.c0, cell_later hb h.c1, ((bcell hb).2 _ _ h.lt).trans h.f0, ((bcell hb).2 _ _ h.lt).trans h.f1⟩
theorem Two.alloc {w : World} {B : Nat} {x y : Value} (h : Two w B x y) (o : Obj) : Two (w.alloc o) B x y :=
  h.call ((Below.refl _ _).alloc (Nat.le_refl _) _)
theorem Two.drew {w : World} {B : Nat} {x y : Value} (h : Two w B x y) : Two w.drew B x y :=
  h.call (Below.refl _ _).drew
theorem Two.new (w : World) (x y : Value) (t : TypeId) : Two (w.alloc (.cells #[x, y] t)) w.heap.size x y := by
  refine ⟨?_, ?_, ?_, ?_⟩
  · go_simp
  · go_simp
  · go_simp
  · go_simp
theorem two_far {b o b' o' : Nat} (h : b ≠ b') : (⟨b, o, none⟩ : Addr) ≠ ⟨b', o', none⟩ := fun e => h (Addr.mk.inj e).1
theorem two_off {b o o' : Nat} (h : o ≠ o') : (⟨b, o, none⟩ : Addr) ≠ ⟨b, o', none⟩ := fun e => h (Addr.mk.inj e).2.1
/-- Both cells written. -/
theorem Two.put {w : World} {B : Nat} {x y : Value} (h : Two w B x y) (x' y' : Value) : Two ((w.setCell ⟨B, 0, none⟩ x').setCell ⟨B, 1, none⟩ y') B x' y' := by
  refine ⟨?_, ?_, ?_, ?_⟩
  · rw [World.cell?_setCell_other _ _ _ _ (two_off (by omega))]; exact World.cell?_setCell_same _ _ _ h.c0
  · have e : (w.setCell ⟨B, 0, none⟩ x').cell? ⟨B, 1, none⟩ = some y := by
      rw [World.cell?_setCell_other _ _ _ _ (two_off (by omega))]; exact h.c1
    exact World.cell?_setCell_same _ _ _ e
  · rw [World.frozen?_setCell, World.frozen?_setCell]; exact h.f0
  · rw [World.frozen?_setCell, World.frozen?_setCell]; exact h.f1
/-- Another block written. -/
theorem Two.past {w : World} {B B' : Nat} {x y : Value} (h : Two w B x y) (hB : B' ≠ B) (x' y' : Value) : Two ((w.setCell ⟨B', 0, none⟩ x').setCell ⟨B', 1, none⟩ y') B x y := by
  refine ⟨?_, ?_, ?_, ?_⟩
  · rw [World.cell?_setCell_other _ _ _ _ (two_far hB), World.cell?_setCell_other _ _ _ _ (two_far hB)]; exact h.c0
  · rw [World.cell?_setCell_other _ _ _ _ (two_far hB), World.cell?_setCell_other _ _ _ _ (two_far hB)]; exact h.c1
  · rw [World.frozen?_setCell, World.frozen?_setCell]; exact h.f0
  · rw [World.frozen?_setCell, World.frozen?_setCell]; exact h.f1
theorem below_put {w0 w : World} {n B : Nat} (h : Below n w0 w) (hB : n ≤ B) (x y : Value) : Below n w0 ((w.setCell ⟨B, 0, none⟩ x).setCell ⟨B, 1, none⟩ y) :=
  (h.setCell (p := ⟨B, 0, none⟩) hB _).setCell (p := ⟨B, 1, none⟩) hB _
theorem size_put (w : World) (B : Nat) (x y : Value) : ((w.setCell ⟨B, 0, none⟩ x).setCell ⟨B, 1, none⟩ y).heap.size = w.heap.size := by
  simp [World.setCell]
end Go.Proofs.YtcijflakldggaaaGreat

/-
  Walks: package sign's calls, and the reference's of layer 2.
-/
namespace Go.Proofs.YtcijflakldggaaaGreat
set_option linter.unusedVariables false
open Go.RowKit

theorem ret_pair {k : IntKind} {a b : Int} {c d : Bool} (h : a = b) (h' : c = d) : Ending.returned (.tuple #[.int k a, .bool c]) = .returned (.tuple #[.int k b, .bool d]) := by rw [h, h']

set_option maxHeartbeats 400000 in
theorem of_any (x : Int) (hx : I64 x) (w : World) :
    Calls Tryz.prog 73 #[.int .i64 x] w fun e w' =>
      e = .returned (.tuple #[.int .u64 (mag x), .bool (decide (x < 0))]) ∧ w = w' := by
  obtain ⟨h1, h2⟩ := hx
  by_cases h : x < 0
  · have E1 : Hid (IntKind.u64.wrap (-IntKind.u64.wrap x) = mag x) := Lib.hid (by simp only [IntKind.wrap_u64]; unfold mag; rw [if_pos h]; omega)
    have E2 : Hid (true = decide (x < 0)) := Lib.hid (by simp [h])
    go_enter Tryz.func73, Tryz.ntmps73
    go_wp2_with fail
    go_ret2
    exact ⟨ret_pair E1.out E2.out, rfl⟩
  · have E1 : Hid (x = mag x) := Lib.hid (by unfold mag; rw [if_neg h])
    have E2 : Hid (false = decide (x < 0)) := Lib.hid (by simp [h])
    go_enter Tryz.func73, Tryz.ntmps73
    go_wp2_with fail
    go_ret2
    exact ⟨ret_pair E1.out E2.out, rfl⟩

set_option maxHeartbeats 400000 in
theorem value_any (m : Int) (b : Bool) (hm : Word m) (w : World) :
    Calls Tryz.prog 80 #[.int .u64 m, .bool b] w fun e w' =>
      e = .returned (.tuple #[.int .i64 (valI m b), .bool (canB m b)]) ∧ w = w' := by
  obtain ⟨h1, h2⟩ := hm
  go_enter Tryz.func80, Tryz.ntmps80
  go_wp2_with fail
  all_goals go_ret2
  all_goals refine ⟨ret_pair ?_ ?_, rfl⟩
  all_goals (cases b <;> simp_all [valI, canB, wrap64, IntKind.wrap_u64] <;> first | omega | (split <;> omega))

set_option maxHeartbeats 400000 in
theorem gap_any (a b : Int) (ha : I64 a) (hb : I64 b) (w : World) :
    Calls Tryz.prog 135 #[.int .i64 a, .int .i64 b] w fun e w' =>
      e = .returned (.int .u64 (gap a b)) ∧ w = w' := by
  obtain ⟨h1, h2⟩ := ha
  obtain ⟨h3, h4⟩ := hb
  go_enter Tryz.func135, Tryz.ntmps135
  go_wp2_with fail
  all_goals go_ret
  all_goals refine ⟨ret_int ?_, rfl⟩
  all_goals (simp only [IntKind.wrap_u64]; unfold gap; split <;> omega)

set_option maxHeartbeats 400000 in
theorem size_any (x : Int) (hx : I64 x) (w : World) :
    Calls Tryz.prog 20 #[.int .i64 x] w fun e w' =>
      e = .returned (.int .u64 (mag x)) ∧ w = w' := by
  obtain ⟨h1, h2⟩ := hx
  go_enter Tryz.func20, Tryz.ntmps20
  go_wp2_with fail
  all_goals go_ret
  all_goals refine ⟨ret_int ?_, rfl⟩
  all_goals (unfold mag; split <;> omega)

set_option maxHeartbeats 400000 in
theorem rgap_any (a b : Int) (ha : I64 a) (hb : I64 b) (w : World) :
    Calls Tryz.prog 44 #[.int .i64 a, .int .i64 b] w fun e w' =>
      e = .returned (.int .u64 (gap a b)) ∧ w = w' := by
  have b1 := mag_bd ha; have b2 := mag_bd hb
  by_cases h : decide (a < 0) = decide (b < 0)
  · have E := Lib.hid (gap_one h)
    have hg : (!decide (a < 0) == decide (b < 0)) = false := by simp [h]
    clear h
    go_enter Tryz.func44, Tryz.ntmps44
    go_wp2_with (go_at_call 20; refine (size_any _ (by assumption) _).mono ?_; rintro e w' ⟨rfl, rfl⟩)
    all_goals go_ret
    all_goals refine ⟨ret_int ?_, rfl⟩
    all_goals (obtain ⟨g1, g2⟩ := gap_word ha hb; first | (rw [E.out] at *; done) | (rw [E.out] at *; first | omega | (rw [IntKind.wrap_u64]; omega)))
  · have E := Lib.hid (gap_two (a := a) (b := b) (by simpa using h))
    have hg : (!decide (a < 0) == decide (b < 0)) = true := by simp [h]
    clear h
    go_enter Tryz.func44, Tryz.ntmps44
    go_wp2_with (go_at_call 20; refine (size_any _ (by assumption) _).mono ?_; rintro e w' ⟨rfl, rfl⟩)
    all_goals go_ret
    all_goals refine ⟨ret_int ?_, rfl⟩
    all_goals (obtain ⟨g1, g2⟩ := gap_word ha hb; first | (rw [E.out] at *; done) | (rw [E.out] at *; first | omega | (rw [IntKind.wrap_u64]; omega)))

end Go.Proofs.YtcijflakldggaaaGreat
/-
  Rows of pairs in memory: as they are read; as rows of the call's own; appended to.
  Walks: the reference's Count, Same, Good of rows of pairs.
  Walks: the reference's Add of rows of pairs.
-/
namespace Go.Proofs.YtcijflakldggaaaGreat
set_option linter.unusedVariables false
set_option linter.unusedSimpArgs false
open Go.RowKit

/-- A row of pairs in memory. -/
structure Pairs (w : World) (A : Option Addr) (L : List PairV) : Prop where
  ok : ∀ p, p ∈ L → okP p
  at_ : ∀ (i : Nat) (p : PairV), L[i]? = some p → ∃ b off, A = some ⟨b, off, none⟩ ∧ b < w.heap.size ∧ w.cell? ⟨b, off + i * 2, none⟩ = some (.int .i64 p.1) ∧ w.cell? ⟨b, off + i * 2 + 1, none⟩ = some (.int .u64 p.2)
theorem Pairs.call {w w' : World} {A : Option Addr} {L : List PairV} (h : Pairs w A L) (hb : Below w.heap.size w w') : Pairs w' A L :=
  ⟨h.ok, fun i it hi => by
    obtain ⟨b, off, hA, hlt, c0, c1⟩ := h.at_ i it hi
    exact ⟨b, off, hA, Nat.lt_of_lt_of_le hlt hb.size, cell_later hb c0, cell_later hb c1⟩⟩
theorem Pairs.nil (w : World) : Pairs w none [] := ⟨fun p h => (by cases h), fun i p h => by simp at h⟩
/-- A row's cells. -/
def cellsP (p : PairV) : List Value := [.int .i64 p.1, .int .u64 p.2]
def cellsQ (L : List PairV) : List Value := L.flatMap cellsP
theorem cellsQ_cons (p : PairV) (r : List PairV) : cellsQ (p :: r) = cellsP p ++ cellsQ r := by unfold cellsQ; rw [List.flatMap_cons]
theorem cellsQ_app (a b : List PairV) : cellsQ (a ++ b) = cellsQ a ++ cellsQ b := by unfold cellsQ; rw [List.flatMap_append]
theorem cellsQ_one' (p : PairV) : cellsQ [p] = [.int .i64 p.1, .int .u64 p.2] := by unfold cellsQ cellsP; simp
theorem cellsQ_len (L : List PairV) : (cellsQ L).length = L.length * 2 := by
  induction L with
  | nil => rfl
  | cons p r ih => rw [cellsQ_cons, List.length_append, ih, List.length_cons]; simp [cellsP]; omega
theorem cellsQ_one (L : List PairV) : ∀ u ∈ cellsQ L, u.oneCell' = true := by
  intro u hu
  unfold cellsQ at hu
  obtain ⟨p, _, h⟩ := List.mem_flatMap.1 hu
  simp only [cellsP, List.mem_cons, List.not_mem_nil, or_false] at h
  rcases h with rfl | rfl <;> rfl
theorem cellsQ_at : ∀ (L : List PairV) (i : Nat) (p : PairV), L[i]? = some p → (cellsQ L)[i * 2]? = some (.int .i64 p.1) ∧ (cellsQ L)[i * 2 + 1]? = some (.int .u64 p.2) := by
  intro L
  induction L with
  | nil => intro i p h; simp at h
  | cons q r ih =>
    intro i p h
    rw [cellsQ_cons]
    cases i with
    | zero => simp at h; subst h; simp [cellsP]
    | succ i =>
      have hr := ih i p (by simpa using h)
      have e : ∀ j, (cellsP q ++ cellsQ r)[(i + 1) * 2 + j]? = (cellsQ r)[i * 2 + j]? := by
        intro j
        rw [List.getElem?_append_right (by simp [cellsP]; omega)]
        congr 1
        simp [cellsP]; omega
      exact ⟨(e 0).trans hr.1, (e 1).trans hr.2⟩
theorem add_flat (b off j : Nat) : (⟨b, off, none⟩ : Addr).add j = ⟨b, off + j, none⟩ := by unfold Addr.add; split <;> simp_all
theorem own_pairs {w : World} {base : Nat} {v : Value} {L : List PairV} (h : w.ownsRow base 114 2 v L.length (cellsQ L)) (hok : ∀ p, p ∈ L → okP p) :
    ∃ A cap, v = .slice A L.length cap ∧ Pairs w A L := by
  have hh := h
  rcases h.2 with ⟨rfl, h0⟩ | ⟨g, cap, cur, rfl, _, hg, _⟩
  · have e : L = [] := List.eq_nil_of_length_eq_zero h0
    subst e
    exact ⟨none, 0, rfl, hok, fun i p hi => by simp at hi⟩
  · refine ⟨some ⟨g, 0, none⟩, cap, rfl, hok, fun i p hi => ?_⟩
    have hc := hh.cells (g := g) rfl
    obtain ⟨c0, c1⟩ := cellsQ_at L i p hi
    refine ⟨g, 0, rfl, lt_of_block hg, ?_, ?_⟩
    · rw [← add_flat]; exact hc _ _ c0
    · rw [Nat.add_assoc, ← add_flat]; exact hc _ _ c1
theorem Tryz.infoPair : (Tryz.prog.info? 114).map (fun i => (i.zero, i.size, i.bytes)) = some (some (.agg #[.int .i64 0, .int .u64 0]), 2, 16) := by kernel_rfl

/-- A row of the call's own that holds pairs. -/
def OwnP (w : World) (base : Nat) (v : Value) (L : List PairV) : Prop := w.ownsRow base 114 2 v L.length (cellsQ L)
theorem OwnP.nil (w : World) (base : Nat) : OwnP w base (.slice none 0 0) [] := World.ownsRow_nil _ _ _ _
theorem OwnP.call {w w' : World} {base : Nat} {v : Value} {L : List PairV} (h : OwnP w base v L) (hb : Below w.heap.size w w') : OwnP w' base v L :=
  World.ownsRow.kept (row := none) h ⟨hb.os, hb.tape, hb.output, hb.size, fun i hi _ => hb.block i hi⟩ (by cases v.ownBlock <;> simp)
theorem OwnP.other {w w' : World} {base : Nat} {v : Value} {L : List PairV} {r : Option Nat} (h : OwnP w base v L) (hg : w.grownBy w' r) (hne : v.ownBlock = none ∨ v.ownBlock ≠ r) : OwnP w' base v L := World.ownsRow.kept h hg hne
theorem OwnP.pairs {w : World} {base : Nat} {v : Value} {L : List PairV} (h : OwnP w base v L) (hok : ∀ p, p ∈ L → okP p) : ∃ A cap, v = .slice A L.length cap ∧ Pairs w A L := own_pairs h hok
theorem OwnP.lt {w : World} {base : Nat} {v : Value} {L : List PairV} (h : OwnP w base v L) : ∀ k, v.ownBlock = some k → base ≤ k ∧ k < w.heap.size := World.ownsRow.lt h
theorem OwnP.form {w : World} {base : Nat} {v : Value} {L : List PairV} (h : OwnP w base v L) : ∃ A cap, v = .slice A L.length cap := by
  have h' : w.ownsRow base 114 2 v L.length (cellsQ L) := h
  rcases h'.2 with ⟨rfl, h0⟩ | ⟨g, cap, cur, rfl, _⟩
  · exact ⟨none, 0, by rw [h0]⟩
  · exact ⟨_, _, rfl⟩
/-- Appending one pair, that lies in a block of its own, to such a row. -/
theorem wpList_append_pair {w : World} {ops : Array Oper} {rest : List Oper} {o : Oper} {a : Act} {Q : Exit → Act → World → Prop} (hgd : o.guard = none) (s x : Operand)
    (ho : o.op = .call { callee := .builtin .append, args := #[s, x], argTypes := #[72, 72] })
    (base : Nat) (v : Value) (L : List PairV) (g : Nat) (p : PairV) (hs : a.eval s = v) (hown : OwnP w base v L)
    (hx : a.eval x = .slice (some ⟨g, 0, none⟩) 1 1) (h0 : w.cell? ⟨g, 0, none⟩ = some (.int .i64 p.1)) (h1 : w.cell? ⟨g, 1, none⟩ = some (.int .u64 p.2)) (hn : L.length ≤ 100000) (hbase : base ≤ w.heap.size)
    (h : ∀ v' w', OwnP w' base v' (L ++ [p]) → w.grownBy w' v.ownBlock → wpList Tryz.prog ops Q rest (a.put o.dst v') w') : wpList Tryz.prog ops Q (o :: rest) a w := by
  obtain ⟨i0, hi, hz0, hz1, hz2⟩ := info_parts Tryz.infoPair
  refine wpList_append_own w hgd s x _ ho base _ i0 _ 2 16 Tryz.underlying72 hi hz0 hz1 hz2 rfl (by decide) v L.length (cellsQ L) hs hown ⟨g, 0, none⟩ 1 1 (cellsQ [p]) hx (cellsQ_len [p]) ?_ (cellsQ_one [p])
      (by unfold maxLen; omega) (by omega) hbase (fun v' w' h1 h2 _ => h v' w' ?_ h2)
  · intro j u hu
    rw [cellsQ_one'] at hu
    rw [add_flat]
    match j, hu with
    | 0, hu => simp at hu; subst hu; exact h0
    | 1, hu => simp at hu; subst hu; exact h1
  · unfold OwnP
    rw [cellsQ_app, List.length_append]
    exact h1
end Go.Proofs.YtcijflakldggaaaGreat

namespace Go.Proofs.YtcijflakldggaaaGreat
set_option linter.unusedVariables false
set_option linter.unusedSimpArgs false
open Go.RowKit

theorem count_step {L : List PairV} {k : Nat} {p : PairV} (h : L[k]? = some p) (i : Int) : countP (L.take (k + 1)) i = countP (L.take k) i + if p.1 = i then p.2 else 0 := by
  rw [take_snocP h, countP_app, countP_one]
theorem ok_pos {L : List PairV} (h : ∀ p, p ∈ L → okP p) : ∀ p, p ∈ L → 0 ≤ p.2 := fun p hp => (h p hp).2.1

set_option maxRecDepth 100000 in
set_option maxHeartbeats 1000000 in
theorem rcount_any (w : World) (A : Option Addr) (cap : Nat) (L : List PairV) (i n : Int) (h : Pairs w A L) (hl : L.length ≤ 1000) (hi : I64 i) (hn : countP L i = n) (hb : n < 18446744073709551616) :
    Calls Tryz.prog 59 #[.slice A L.length cap, .int .i64 i] w fun e w' => e = .returned (.int .u64 n) ∧ Below w.heap.size w w' := by
  have HI := Lib.hid h
  have HN := Lib.hid hn
  have HP := Lib.hid (fun k => countP_take (L := L) k i (ok_pos h.ok))
  obtain ⟨i0, i1⟩ := hi
  clear h hn
  go_enter Tryz.func59, Tryz.ntmps59
  go_wp2_with fail
  go_loopw [5, 10] (fun s j wr => ∃ (k : Nat) (m : Int), k ≤ L.length ∧ j = .int .i64 k ∧ s = .int .u64 m ∧ m = countP (L.take k) i ∧ Below w.heap.size w wr) (fun _ j _ => L.length - (intOf j).toNat)
  case atStart => exact ⟨0, 0, Nat.zero_le _, rfl, rfl, rfl, Below.refl _ _⟩
  case round =>
    obtain ⟨k, m, hk, rfl, rfl, hm, hb2⟩ := hrel
    have HM := Lib.hid hm
    by_cases hlt : k < L.length
    · have kk : (k : Int) < L.length := by omega
      have hxk : L[k]? = some L[k] := List.getElem?_eq_getElem hlt
      generalize hit : L[k] = p at *
      obtain ⟨px, pc⟩ := p
      obtain ⟨b, off, rfl, hbl, c0, c1⟩ := (HI.out.call hb2).at_ k _ hxk
      have HS := Lib.hid (count_step hxk i)
      have hok := HI.out.ok _ (List.mem_of_getElem? hxk)
      have p1 := HP.out (k + 1)
      have p0 := HP.out k
      rw [HN.out] at p1
      rw [HS.out] at p1
      rw [← hm] at p0 p1
      have hbs := hb2.size
      obtain ⟨⟨o1, o2⟩, o3, o4⟩ := hok
      simp only at c0 c1 o1 o2 o3 o4 p1 HS
      clear hxk hit hm
      by_cases he : px = i
      · subst he
        rw [if_pos rfl] at p1 HS
        obtain ⟨p2, p3⟩ := p1
        obtain ⟨p4, _⟩ := p0
        have e1 : (px == px) = true := by simp
        go_wp2_with fail
        go_roundw
        case rel => exact ⟨k + 1, m + pc, by omega, by go_num, rfl, by rw [HS.out, HM.out], hb2.alloc hbs _⟩
        case measure => simp [intOf]; omega
      · rw [if_neg he] at p1 HS
        have e1 : (px == i) = false := by simpa using he
        clear p0 p1 he
        go_wp2_with fail
        go_roundw
        case rel => exact ⟨k + 1, m, by omega, by go_num, rfl, by rw [HS.out, HM.out, Int.add_zero], hb2.alloc hbs _⟩
        case measure => simp [intOf]; omega
    · obtain rfl : k = L.length := by omega
      rw [List.take_length, HN.out] at HM
      have kk : ¬ (L.length : Int) < L.length := by omega
      clear hm
      go_wp2_with fail
      go_ret
      exact ⟨ret_int HM.out, hb2⟩

theorem below_drewM {B : Nat} {a w : World} (h : Below B a w) (n : Nat) : Below B a (w.drewN n) := by
  induction n with
  | zero => exact h
  | succ n ih => exact ih.drew
theorem pair_neq (a b c d : Int) (w : World) : (binOp .neq 114 (.agg #[.int .i64 a, .int .u64 b]) (.agg #[.int .i64 c, .int .u64 d])).run Tryz.prog w = .ok (.bool (!(a == c && b == d))) w := by
  by_cases h : a = c
  · subst h
    by_cases h' : b = d
    · subst h'; simp [go_sem]
    · have : (b == d) = false := by simp [h']
      simp [go_sem, this]
  · have : (a == c) = false := by simp [h]
    simp [go_sem, this]
theorem ne_at {L M : List PairV} {k : Nat} {p q : PairV} (hp : L[k]? = some p) (hq : M[k]? = some q) (h : p ≠ q) : L ≠ M := by
  rintro rfl; rw [hp] at hq; exact h (Option.some.inj hq)
theorem same_take {L M : List PairV} {k : Nat} {p q : PairV} (hp : L[k]? = some p) (hq : M[k]? = some q) (h : p = q) (ht : L.take k = M.take k) : L.take (k + 1) = M.take (k + 1) := by
  rw [take_snocP hp, take_snocP hq, ht, h]

set_option maxRecDepth 100000 in
set_option maxHeartbeats 1000000 in
theorem same_any (w : World) (A A' : Option Addr) (cap cap' : Nat) (L M : List PairV) (b : Bool) (hbb : decide (L = M) = b) (h : Pairs w A L) (h' : Pairs w A' M) (hl : L.length ≤ 1000) (hl' : M.length ≤ 1000) :
    Calls Tryz.prog 34 #[.slice A L.length cap, .slice A' M.length cap'] w fun e w' => e = .returned (.bool b) ∧ Below w.heap.size w w' := by
  have HB := Lib.hid hbb
  have HI := Lib.hid h
  have HJ := Lib.hid h'
  clear hbb h h'
  by_cases hlen : L.length = M.length
  · have e1 : ((L.length : Int) == (M.length : Int)) = true := by simp [hlen]
    have e2 : (!(L.length : Int) == (M.length : Int)) = false := by rw [e1]; rfl
    have HL := Lib.hid hlen
    clear hlen
    go_enter Tryz.func34, Tryz.ntmps34
    go_wp2_with fail
    go_loopw [13] (fun j wr => ∃ k : Nat, k ≤ L.length ∧ j = .int .i64 k ∧ L.take k = M.take k ∧ Below w.heap.size w wr) (fun j _ => L.length - (intOf j).toNat)
    case atStart => exact ⟨0, Nat.zero_le _, rfl, rfl, Below.refl _ _⟩
    case round =>
      obtain ⟨k, hk, rfl, ht, hb2⟩ := hrel
      have HT := Lib.hid ht
      clear ht
      by_cases hlt : k < L.length
      · have kk : (k : Int) < L.length := by omega
        have hlt' : k < M.length := by have := HL.out; omega
        have kk' : (k : Int) < M.length := by omega
        have hxk : L[k]? = some L[k] := List.getElem?_eq_getElem hlt
        have hyk : M[k]? = some M[k] := List.getElem?_eq_getElem hlt'
        generalize hit : L[k] = p at *
        generalize hjt : M[k] = q at *
        obtain ⟨px, pc⟩ := p
        obtain ⟨qx, qc⟩ := q
        obtain ⟨b0, off, rfl, hbl, c0, c1⟩ := (HI.out.call hb2).at_ k _ hxk
        obtain ⟨b1, off', rfl, hbl', d0, d1⟩ := (HJ.out.call hb2).at_ k _ hyk
        simp only at c0 c1 d0 d1
        have hcmp := pair_neq px pc qx qc
        have HXK := Lib.hid hxk
        have HYK := Lib.hid hyk
        clear hxk hyk hit hjt
        by_cases hc : px = qx ∧ pc = qc
        · have e3 : (!(px == qx && pc == qc)) = false := by simp [hc.1, hc.2]
          rw [e3] at hcmp
          have HC := Lib.hid hc
          clear hc e3
          go_wp2_with fail
          go_quiet (fail)
          go_wp2_with fail
          go_roundw
          case rel => exact ⟨k + 1, by omega, by go_num, same_take HXK.out HYK.out (Prod.ext HC.out.1 HC.out.2) HT.out, below_drewM hb2 _⟩
          case measure => simp [intOf]; omega
        · have e3 : (!(px == qx && pc == qc)) = true := by
            by_cases h1 : px = qx
            · have h2 : ¬ pc = qc := fun h => hc ⟨h1, h⟩
              simp [h2]
            · simp [h1]
          rw [e3] at hcmp
          have HE : Hid (b = false) := Lib.hid (by rw [← HB.out]; exact decide_eq_false (ne_at HXK.out HYK.out (fun h => hc ⟨(Prod.mk.inj h).1, (Prod.mk.inj h).2⟩)))
          clear hc e3
          go_wp2_with fail
          go_quiet (fail)
          go_wp2_with fail
          go_ret
          exact ⟨by rw [HE.out]; rfl, below_drewM hb2 _⟩
      · obtain rfl : k = L.length := by omega
        have HE : Hid (b = true) := Lib.hid (by
          have h1 := HT.out
          rw [List.take_length, HL.out, List.take_length] at h1
          rw [← HB.out]; exact decide_eq_true h1)
        have kk : ¬ (L.length : Int) < L.length := by omega
        go_wp2_with fail
        go_ret
        exact ⟨by rw [HE.out]; rfl, hb2⟩
  · have e1 : ((L.length : Int) == (M.length : Int)) = false := by simp; omega
    have e2 : (!(L.length : Int) == (M.length : Int)) = true := by rw [e1]; rfl
    have HE : Hid (b = false) := Lib.hid (by rw [← HB.out]; exact decide_eq_false (fun h => hlen (by rw [h])))
    clear hlen
    go_enter Tryz.func34, Tryz.ntmps34
    go_wp2_with fail
    go_ret
    exact ⟨by rw [HE.out]; rfl, Below.refl _ _⟩

end Go.Proofs.YtcijflakldggaaaGreat

namespace Go.Proofs.YtcijflakldggaaaGreat
set_option linter.unusedVariables false
set_option linter.unusedSimpArgs false
open Go.RowKit

theorem low_step {L : List PairV} {k : Nat} {p : PairV} (h : L[k]? = some p) (i : Int) : lowP (L.take (k + 1)) i = lowP (L.take k) i ++ (if p.1 < i then [p] else []) := by
  rw [take_snocP h]; unfold lowP; rw [List.filter_append]
  congr 1
  by_cases hc : p.1 < i
  · rw [if_pos hc, List.filter_cons_of_pos (by simpa using hc)]; rfl
  · rw [if_neg hc, List.filter_cons_of_neg (by simpa using hc)]; rfl
theorem high_step {L : List PairV} {k : Nat} {p : PairV} (h : L[k]? = some p) (i : Int) : highP (L.take (k + 1)) i = highP (L.take k) i ++ (if i < p.1 then [p] else []) := by
  rw [take_snocP h]; unfold highP; rw [List.filter_append]
  congr 1
  by_cases hc : i < p.1
  · rw [if_pos hc, List.filter_cons_of_pos (by simpa using hc)]; rfl
  · rw [if_neg hc, List.filter_cons_of_neg (by simpa using hc)]; rfl
theorem low_len (L : List PairV) (i : Int) (k : Nat) : (lowP (L.take k) i).length ≤ L.length := Nat.le_trans (List.length_filter_le _ _) (List.length_take_le' _ _)
theorem high_len (L : List PairV) (i : Int) (k : Nat) : (highP (L.take k) i).length ≤ L.length := Nat.le_trans (List.length_filter_le _ _) (List.length_take_le' _ _)
theorem OwnP.alloc {w : World} {base : Nat} {v : Value} {L : List PairV} (h : OwnP w base v L) (o : Obj) : OwnP (w.alloc o) base v L := World.ownsRow.alloc h o
theorem OwnP.below {a w w' : World} {base : Nat} {v : Value} {L : List PairV} (h : OwnP w base v L) (hb : Below base a w) (hg : w.grownBy w' v.ownBlock) (hs : base ≤ w.heap.size) : Below base a w' := hb.grown hg hs (fun k hk => (h.lt k hk).1)

set_option maxRecDepth 100000 in
set_option maxHeartbeats 2000000 in
theorem radd_any (w : World) (A : Option Addr) (cap : Nat) (L : List PairV) (i c n : Int) (h : Pairs w A L) (hl : L.length ≤ 1000) (hi : I64 i) (hc : Word c) (hn : countP L i + c = n) (hb : n < 18446744073709551616) :
    Calls Tryz.prog 82 #[.slice A L.length cap, .int .i64 i, .int .u64 c] w fun e w' => ∃ v, e = .returned v ∧ OwnP w' w.heap.size v (addP L i c) ∧ Below w.heap.size w w' := by
  have HI := Lib.hid h
  have HIX := Lib.hid hi
  obtain ⟨i0, i1⟩ := hi
  obtain ⟨c0', c1'⟩ := hc
  obtain ⟨m, hm⟩ : ∃ m, countP L i = m := ⟨_, rfl⟩
  have hm0 := (countP_take (L := L) L.length i (ok_pos h.ok)).1
  rw [List.take_length, hm] at hm0
  rw [hm] at hn
  have HM := Lib.hid hm
  have HN := Lib.hid hn
  have hmn : m + c < 18446744073709551616 := by omega
  have HADD : Hid (addP L i c = lowP L i ++ (midP i n ++ highP L i)) := Lib.hid (by unfold addP; rw [hm, hn])
  clear h hm
  go_enter Tryz.func82, Tryz.ntmps82
  go_wp2_with fail
  go_loopw [7, 15] (fun s j wr => ∃ (k : Nat), k ≤ L.length ∧ j = .int .i64 k ∧ OwnP wr w.heap.size s (lowP (L.take k) i) ∧ Below w.heap.size w wr) (fun _ j _ => L.length - (intOf j).toNat)
  case atStart => exact ⟨0, Nat.zero_le _, rfl, OwnP.nil _ _, Below.refl _ _⟩
  case round =>
    obtain ⟨k, hk, rfl, hown, hb2⟩ := hrel
    have hbs := hb2.size
    by_cases hlt : k < L.length
    · have kk : (k : Int) < L.length := by omega
      have hxk : L[k]? = some L[k] := List.getElem?_eq_getElem hlt
      generalize hit : L[k] = p at *
      obtain ⟨px, pc⟩ := p
      obtain ⟨b0, off, rfl, hbl, c0, c1⟩ := (HI.out.call hb2).at_ k _ hxk
      simp only at c0 c1
      have HS := Lib.hid (low_step hxk i)
      have HLL := Lib.hid (low_len L i k)
      have hok := HI.out.ok _ (List.mem_of_getElem? hxk)
      obtain ⟨⟨o1, o2⟩, o3, o4⟩ := hok
      simp only at HS
      clear hxk hit
      by_cases hc : px < i
      · rw [if_pos hc] at HS
        obtain ⟨vA, vk, rfl⟩ := hown.form
        have HO := Lib.hid hown
        clear hown
        go_wp2_with (at_builtin; refine wpList_append_pair rfl _ _ rfl w.heap.size _ _ (wr.heap.size + 1) (px, pc) rfl ((HO.out.alloc _).alloc _) rfl ?c1 ?c2 ?c3 ?c4 ?_)
        case c3 => have := HLL.out; omega
        case c4 => first | omega | (simp; omega)
        intro v' w1 hown' hgrow
        have hb3 := OwnP.below ((HO.out.alloc _).alloc _) ((hb2.alloc hbs _).alloc (by simp; omega) _) hgrow (by simp; omega)
        rw [← HS.out] at hown'
        clear hgrow
        go_wp2_with fail
        go_roundw
        case rel => exact ⟨k + 1, by omega, by go_num, hown', hb3⟩
        case measure => simp [intOf]; omega
      · rw [if_neg hc, List.append_nil] at HS
        rw [← HS.out] at hown
        go_wp2_with fail
        go_roundw
        case rel => exact ⟨k + 1, by omega, by go_num, hown.alloc _, hb2.alloc hbs _⟩
        case measure => simp [intOf]; omega
    · obtain rfl : k = L.length := by omega
      rw [List.take_length] at hown
      have kk : ¬ (L.length : Int) < L.length := by omega
      have HLL := Lib.hid (low_len L i L.length)
      rw [List.take_length] at HLL
      have HO := Lib.hid hown
      clear hown
      go_wp2_with fail
      refine (rcount_any _ A cap L i m (HI.out.call hb2) hl HIX.out HM.out (by omega)).mono ?_
      rintro e w3 ⟨rfl, hb3'⟩
      have hb3 := hb2.trans (hb3'.mono hbs)
      have hbs3 := hb3.size
      have HO3 := Lib.hid (HO.out.call hb3')
      have HML : Hid ((lowP L i ++ midP i n).length ≤ 1001) := Lib.hid (by
        rw [List.length_append]; have := HLL.out
        have : (midP i n).length ≤ 1 := by unfold midP; split <;> simp
        omega)
      clear hb3' hb2 hbs HO
      by_cases h0 : 0 < n
      · have HMID : Hid (lowP L i ++ [(i, n)] = lowP L i ++ midP i n) := Lib.hid (by unfold midP; rw [if_pos h0])
        obtain ⟨vA, vk, rfl⟩ := HO3.out.form
        go_wp2_with (at_builtin; refine wpList_append_pair rfl _ _ rfl w.heap.size _ _ w3.heap.size (i, n) rfl (HO3.out.alloc _) rfl ?d1 ?d2 ?d3 ?d4 ?_)
        case d3 => have := HLL.out; omega
        case d4 => first | omega | (simp; omega)
        intro v5 w5 hown5 hgrow
        have hb5 := OwnP.below (HO3.out.alloc _) (hb3.alloc hbs3 _) hgrow (by simp; omega)
        rw [HMID.out] at hown5
        have hbs5 := hb5.size
        clear hgrow hb3 hbs3 HO3 HLL
        go_wp2_with fail
        go_loopw [7, 43] (fun s j wr => ∃ (k : Nat), k ≤ L.length ∧ j = .int .i64 k ∧ OwnP wr w.heap.size s (lowP L i ++ midP i n ++ highP (L.take k) i) ∧ Below w.heap.size w wr) (fun _ j _ => L.length - (intOf j).toNat)
        case atStart => exact ⟨0, Nat.zero_le _, rfl, by rw [List.take_zero, show highP [] i = [] from rfl, List.append_nil]; exact hown5, hb5⟩
        case round =>
          clear hown5 hb5 hbs5
          obtain ⟨k, hk, rfl, hown, hb2⟩ := hrel
          have hbs := hb2.size
          by_cases hlt : k < L.length
          · have kk : (k : Int) < L.length := by omega
            have hxk : L[k]? = some L[k] := List.getElem?_eq_getElem hlt
            generalize hit : L[k] = p at *
            obtain ⟨px, pc⟩ := p
            obtain ⟨b0, off, rfl, hbl, c0, c1⟩ := (HI.out.call hb2).at_ k _ hxk
            simp only at c0 c1
            have HS := Lib.hid (high_step hxk i)
            have HHL := Lib.hid (high_len L i k)
            have hok := HI.out.ok _ (List.mem_of_getElem? hxk)
            obtain ⟨⟨o1, o2⟩, o3, o4⟩ := hok
            simp only at HS
            clear hxk hit
            by_cases hc : i < px
            · rw [if_pos hc] at HS
              obtain ⟨R, hR⟩ : ∃ R, lowP L i ++ midP i n ++ highP (L.take k) i = R := ⟨_, rfl⟩
              have HRL : Hid (R.length ≤ 3000) := Lib.hid (by rw [← hR, List.length_append]; have := HML.out; have := HHL.out; omega)
              have HSR : Hid (R ++ [(px, pc)] = lowP L i ++ midP i n ++ highP (L.take (k + 1)) i) := Lib.hid (by rw [HS.out, ← List.append_assoc, hR])
              rw [hR] at hown
              clear hR
              obtain ⟨vA, vk, rfl⟩ := hown.form
              have HO := Lib.hid hown
              clear hown
              go_wp2_with (at_builtin; refine wpList_append_pair rfl _ _ rfl w.heap.size _ _ (wr.heap.size + 1) (px, pc) rfl ((HO.out.alloc _).alloc _) rfl ?e1 ?e2 ?e3 ?e4 ?_)
              case e3 => have := HRL.out; omega
              case e4 => first | omega | (simp; omega)
              intro v' w1 hown' hgrow
              have hb3 := OwnP.below ((HO.out.alloc _).alloc _) ((hb2.alloc hbs _).alloc (by simp; omega) _) hgrow (by simp; omega)
              rw [HSR.out] at hown'
              clear hgrow
              go_wp2_with fail
              go_roundw
              case rel => exact ⟨k + 1, by omega, by go_num, hown', hb3⟩
              case measure => simp [intOf]; omega
            · rw [if_neg hc, List.append_nil] at HS
              rw [← HS.out] at hown
              go_wp2_with fail
              go_roundw
              case rel => exact ⟨k + 1, by omega, by go_num, hown.alloc _, hb2.alloc hbs _⟩
              case measure => simp [intOf]; omega
          · obtain rfl : k = L.length := by omega
            rw [List.take_length, List.append_assoc, ← HADD.out] at hown
            have kk : ¬ (L.length : Int) < L.length := by omega
            have HO := Lib.hid hown
            clear hown
            go_wp2_with fail
            go_ret
            exact ⟨_, rfl, HO.out, hb2⟩
      · have HMID : Hid (lowP L i = lowP L i ++ midP i n) := Lib.hid (by unfold midP; rw [if_neg h0, List.append_nil])
        have hown5 := HO3.out
        rw [HMID.out] at hown5
        have hb5 := hb3
        have hbs5 := hbs3
        clear hb3 hbs3 HO3 HLL
        go_wp2_with fail
        go_loopw [7, 43] (fun s j wr => ∃ (k : Nat), k ≤ L.length ∧ j = .int .i64 k ∧ OwnP wr w.heap.size s (lowP L i ++ midP i n ++ highP (L.take k) i) ∧ Below w.heap.size w wr) (fun _ j _ => L.length - (intOf j).toNat)
        case atStart => exact ⟨0, Nat.zero_le _, rfl, by rw [List.take_zero, show highP [] i = [] from rfl, List.append_nil]; exact hown5, hb5⟩
        case round =>
          clear hown5 hb5 hbs5
          obtain ⟨k, hk, rfl, hown, hb2⟩ := hrel
          have hbs := hb2.size
          by_cases hlt : k < L.length
          · have kk : (k : Int) < L.length := by omega
            have hxk : L[k]? = some L[k] := List.getElem?_eq_getElem hlt
            generalize hit : L[k] = p at *
            obtain ⟨px, pc⟩ := p
            obtain ⟨b0, off, rfl, hbl, c0, c1⟩ := (HI.out.call hb2).at_ k _ hxk
            simp only at c0 c1
            have HS := Lib.hid (high_step hxk i)
            have HHL := Lib.hid (high_len L i k)
            have hok := HI.out.ok _ (List.mem_of_getElem? hxk)
            obtain ⟨⟨o1, o2⟩, o3, o4⟩ := hok
            simp only at HS
            clear hxk hit
            by_cases hc : i < px
            · rw [if_pos hc] at HS
              obtain ⟨R, hR⟩ : ∃ R, lowP L i ++ midP i n ++ highP (L.take k) i = R := ⟨_, rfl⟩
              have HRL : Hid (R.length ≤ 3000) := Lib.hid (by rw [← hR, List.length_append]; have := HML.out; have := HHL.out; omega)
              have HSR : Hid (R ++ [(px, pc)] = lowP L i ++ midP i n ++ highP (L.take (k + 1)) i) := Lib.hid (by rw [HS.out, ← List.append_assoc, hR])
              rw [hR] at hown
              clear hR
              obtain ⟨vA, vk, rfl⟩ := hown.form
              have HO := Lib.hid hown
              clear hown
              go_wp2_with (at_builtin; refine wpList_append_pair rfl _ _ rfl w.heap.size _ _ (wr.heap.size + 1) (px, pc) rfl ((HO.out.alloc _).alloc _) rfl ?f1 ?f2 ?f3 ?f4 ?_)
              case f3 => have := HRL.out; omega
              case f4 => first | omega | (simp; omega)
              intro v' w1 hown' hgrow
              have hb3 := OwnP.below ((HO.out.alloc _).alloc _) ((hb2.alloc hbs _).alloc (by simp; omega) _) hgrow (by simp; omega)
              rw [HSR.out] at hown'
              clear hgrow
              go_wp2_with fail
              go_roundw
              case rel => exact ⟨k + 1, by omega, by go_num, hown', hb3⟩
              case measure => simp [intOf]; omega
            · rw [if_neg hc, List.append_nil] at HS
              rw [← HS.out] at hown
              go_wp2_with fail
              go_roundw
              case rel => exact ⟨k + 1, by omega, by go_num, hown.alloc _, hb2.alloc hbs _⟩
              case measure => simp [intOf]; omega
          · obtain rfl : k = L.length := by omega
            rw [List.take_length, List.append_assoc, ← HADD.out] at hown
            have kk : ¬ (L.length : Int) < L.length := by omega
            have HO := Lib.hid hown
            clear hown
            go_wp2_with fail
            go_ret
            exact ⟨_, rfl, HO.out, hb2⟩
end Go.Proofs.YtcijflakldggaaaGreat

/-
  Walks: an eye: On, Bad, Left, Over, Shut, and the number at the beginning.
  Walks: the number at the beginning of a text.
  Walks: an eye's Raw, Nat, Int, Small, Count.
  A quill in memory: what it holds, what writing leaves alone; walks: a quill's Nat, Int, Raw, Text.
-/
namespace Go.Proofs.YtcijflakldggaaaGreat
set_option linter.unusedVariables false
set_option linter.unusedSimpArgs false
open Go.RowKit

/-- An eye at block B: what is left, and whether it is bad (then nothing is left). -/
structure Eye (w : World) (B : Nat) (s : ByteArray) (bad : Bool) : Prop where
  two : Two w B (.string s) (.bool bad)
  non : bad = true → s = ⟨#[]⟩
theorem Eye.call {w w' : World} {B : Nat} {s : ByteArray} {bad : Bool} (h : Eye w B s bad) (hb : Below w.heap.size w w') : Eye w' B s bad := ⟨h.two.call hb, h.non⟩
theorem two_only {w w' : World} {B B' : Nat} {x y : Value} (h : Two w B x y) (hg : w.grownBy w' (some B')) (hne : B ≠ B') : Two w' B x y := by
  have hlt := h.lt
  have hb := hg.block B hlt (fun e => hne (Option.some.inj e))
  exact ⟨(World.cell?_of_block (a := ⟨B, 0, none⟩) hb).trans h.c0, (World.cell?_of_block (a := ⟨B, 1, none⟩) hb).trans h.c1, (World.frozen?_of_block (a := ⟨B, 0, none⟩) hb).trans h.f0, (World.frozen?_of_block (a := ⟨B, 1, none⟩) hb).trans h.f1⟩
theorem grown_refl (w : World) (r : Option Nat) : w.grownBy w r := ⟨rfl, rfl, rfl, Nat.le_refl _, fun _ _ _ => rfl⟩
theorem grown_trans {a b c : World} {r : Option Nat} (h : a.grownBy b r) (k : b.grownBy c r) : a.grownBy c r :=
  ⟨k.os.trans h.os, k.tape.trans h.tape, k.output.trans h.output, Nat.le_trans h.size k.size, fun i hi hr => (k.block i (Nat.lt_of_lt_of_le hi h.size) hr).trans (h.block i hi hr)⟩
theorem grown_setCell (w : World) (B o : Nat) (v : Value) : w.grownBy (w.setCell ⟨B, o, none⟩ v) (some B) :=
  ⟨rfl, rfl, rfl, by simp [World.setCell], fun k hk hr => Below.heap_setCell _ _ _ _ (fun e => hr (by rw [e]))⟩
theorem grown_below {a b : World} {B n : Nat} (h : a.grownBy b (some B)) (hn : n ≤ B) (hs : n ≤ a.heap.size) : Below n a b :=
  ⟨h.os, h.tape, h.output, h.size, fun k hk => h.block k (by omega) (fun e => by have := Option.some.inj e; omega)⟩
theorem Two.low {w : World} {B : Nat} {x y : Value} (h : Two w B x y) (v : Value) : Two (w.setCell ⟨B, 0, none⟩ v) B v y := by
  refine ⟨?_, ?_, ?_, ?_⟩
  · exact World.cell?_setCell_same _ _ _ h.c0
  · rw [World.cell?_setCell_other _ _ _ _ (two_off (by omega))]; exact h.c1
  · rw [World.frozen?_setCell]; exact h.f0
  · rw [World.frozen?_setCell]; exact h.f1

end Go.Proofs.YtcijflakldggaaaGreat

namespace Go.Proofs.YtcijflakldggaaaGreat
set_option linter.unusedVariables false
set_option linter.unusedSimpArgs false
open Go.RowKit

theorem byte_atA (s : ByteArray) (k : Nat) (h : k < s.size) : s.data.toList[k]? = some (s[k]'h) := by
  obtain ⟨⟨l⟩⟩ := s
  exact List.getElem?_eq_getElem h

end Go.Proofs.YtcijflakldggaaaGreat

namespace Go.Proofs.YtcijflakldggaaaGreat
set_option linter.unusedVariables false
set_option linter.unusedSimpArgs false
open Go.RowKit

/-- What an eye tells, and what it is behind it, that is asked for a number of at most so much. -/
def gone (s : ByteArray) (bad : Bool) (most : Nat) : Bool := bad || decide ((takS s.data.toList most).2 = 0)
def nV (s : ByteArray) (bad : Bool) (most : Nat) : Int := if gone s bad most then 0 else ((takS s.data.toList most).1 : Nat)
def nS (s : ByteArray) (bad : Bool) (most : Nat) : ByteArray := if gone s bad most then ⟨#[]⟩ else s.extract (takS s.data.toList most).2 s.size
theorem nV_word (s : ByteArray) (bad : Bool) (most : Nat) : Word (nV s bad most) := by
  unfold nV Word; have := takS_lt s.data.toList most
  split <;> omega
theorem nV_most (s : ByteArray) (bad : Bool) (most : Nat) : nV s bad most ≤ most := by
  unfold nV; have := takS_most s.data.toList most
  split <;> omega
theorem nS_size (s : ByteArray) (bad : Bool) (most : Nat) : (nS s bad most).size ≤ s.size := by
  unfold nS; split
  · exact Nat.zero_le _
  · rw [Lib.size_eq, Lib.size_eq, ← Lib.toList_data, Lib.extract_toList, List.length_take, List.length_drop]; omega
theorem eye_nS {w : World} {B : Nat} {s : ByteArray} {bad : Bool} {most : Nat} (h : gone s bad most = true) (k : Eye w B ⟨#[]⟩ true) : Eye w B (nS s bad most) (gone s bad most) := by
  unfold nS; rw [h]; exact k

/-- Small's most. -/
def sm (n : Int) : Nat := n.toNat

/-- Count's answers. -/
def cgone (s : ByteArray) (bad : Bool) : Bool := gone s bad 9223372036854775807 || nV s bad 9223372036854775807 == 0
def cS (s : ByteArray) (bad : Bool) : ByteArray := if cgone s bad then ⟨#[]⟩ else nS s bad 9223372036854775807

/-- Raw's answers. -/
def rgone (s : ByteArray) (bad : Bool) (n : Int) : Bool := bad || decide (n < 0) || decide ((s.size : Int) < n)
def rV (s : ByteArray) (bad : Bool) (n : Int) : ByteArray := if rgone s bad n then ⟨#[]⟩ else s.extract 0 n.toNat
def rS (s : ByteArray) (bad : Bool) (n : Int) : ByteArray := if rgone s bad n then ⟨#[]⟩ else s.extract n.toNat s.size
theorem rS_size (s : ByteArray) (bad : Bool) (n : Int) : (rS s bad n).size ≤ s.size := by
  unfold rS; split
  · exact Nat.zero_le _
  · rw [Lib.size_eq, Lib.size_eq, ← Lib.toList_data, Lib.extract_toList, List.length_take, List.length_drop]; omega

end Go.Proofs.YtcijflakldggaaaGreat

namespace Go.Proofs.YtcijflakldggaaaGreat
set_option linter.unusedVariables false
set_option linter.unusedSimpArgs false
open Go.RowKit

/-- Numbers' bytes, one behind the other. -/
def natsB (xs : List Int) : List UInt8 := xs.flatMap fun x => natB x.toNat
theorem natsB_snoc (xs : List Int) (k : Nat) (x : Int) (h : xs[k]? = some x) : natsB (xs.take (k + 1)) = natsB (xs.take k) ++ natB x.toNat := by
  have hk : k < xs.length := by
    rcases Nat.lt_or_ge k xs.length with h' | h'
    · exact h'
    · rw [List.getElem?_eq_none h'] at h; cases h
  rw [List.take_succ_eq_append_getElem hk]
  rw [List.getElem?_eq_getElem hk] at h
  rw [Option.some.inj h]
  unfold natsB
  rw [List.flatMap_append]; simp
theorem natsB_len (xs : List Int) (h : ∀ x ∈ xs, Word x) : (natsB xs).length ≤ 10 * xs.length := by
  induction xs with
  | nil => simp [natsB]
  | cons x r ih =>
    have h1 := ih fun y hy => h y (List.mem_cons_of_mem _ hy)
    have h2 := natB_len10 (n := x.toNat) (by have := h x (List.mem_cons_self); unfold Word at this; omega)
    unfold natsB at *
    rw [List.flatMap_cons, List.length_append, List.length_cons]; omega

theorem natsB_one (x : Int) : natsB [x] = natB x.toNat := by unfold natsB; simp

end Go.Proofs.YtcijflakldggaaaGreat
/-
  Things that keep blocks of their own: what a call on one leaves alone.
-/
namespace Go.Proofs.YtcijflakldggaaaGreat
set_option linter.unusedVariables false
set_option linter.unusedSimpArgs false
open Go.RowKit

/-- All blocks but those of S are as they were. -/
structure Keeps (S : Nat → Prop) (w w' : World) : Prop where
  os : w'.os = w.os
  tape : w'.tape = w.tape
  output : w'.output = w.output
  size : w.heap.size ≤ w'.heap.size
  block : ∀ k, k < w.heap.size → ¬ S k → w'.heap[k]? = w.heap[k]?
theorem Keeps.refl (S : Nat → Prop) (w : World) : Keeps S w w := ⟨rfl, rfl, rfl, Nat.le_refl _, fun _ _ _ => rfl⟩
theorem Keeps.of_below {S : Nat → Prop} {w w' : World} (h : Below w.heap.size w w') : Keeps S w w' := ⟨h.os, h.tape, h.output, h.size, fun k hk _ => h.block k hk⟩
/-- Behind a call on a thing whose blocks are all new since a: all that a had is as it was. -/
theorem Keeps.below {S : Nat → Prop} {n : Nat} {a w w' : World} (h : Below n a w) (k : Keeps S w w') (hn : n ≤ w.heap.size) (hS : ∀ i, S i → n ≤ i) : Below n a w' :=
  ⟨k.os.trans h.os, k.tape.trans h.tape, k.output.trans h.output, Nat.le_trans h.size k.size, fun i hi => (k.block i (by omega) (fun hs => by have := hS i hs; omega)).trans (h.block i hi)⟩
theorem Keeps.cell {S : Nat → Prop} {w w' : World} (k : Keeps S w w') {b o : Nat} {v : Value} (hb : ¬ S b) (h : w.cell? ⟨b, o, none⟩ = some v) : w'.cell? ⟨b, o, none⟩ = some v := by
  have hlt := World.block_lt_of_cell? (a := ⟨b, o, none⟩) w h
  exact (World.cell?_of_block (a := ⟨b, o, none⟩) (k.block b hlt hb)).trans h
theorem Keeps.own {S : Nat → Prop} {w w' : World} (k : Keeps S w w') {base : Nat} {v : Value} {L : List PairV} (h : OwnP w base v L) (hv : ∀ g, v.ownBlock = some g → ¬ S g) : OwnP w' base v L := by
  refine ⟨h.1, ?_⟩
  rcases h.2 with hn | ⟨g, cap, cur, rfl, hb, hgg, rest⟩
  · exact .inl hn
  · refine .inr ⟨g, cap, cur, rfl, hb, ?_, rest⟩
    rw [k.block g (lt_of_block hgg) (hv g rfl)]
    exact hgg
end Go.Proofs.YtcijflakldggaaaGreat

/-
  Walks: layer 7's reference: Total, Find, Below of a row.
  Walks: layer 7's reference: Add of a crate.
-/
namespace Go.Proofs.YtcijflakldggaaaGreat
set_option linter.unusedVariables false
set_option linter.unusedSimpArgs false
open Go.RowKit

theorem sum_step' {L : List PairV} {k : Nat} {p : PairV} (h : L[k]? = some p) : sumP (L.take (k + 1)) = sumP (L.take k) + p.2 := by rw [take_snocP h, sumP_app, sumP_one]

/-- How many there are up to an index. -/
def belowP (L : List PairV) (i : Int) : Int := sumP (L.filter fun p => decide (p.1 ≤ i))
theorem below_app (A B : List PairV) (i : Int) : belowP (A ++ B) i = belowP A i + belowP B i := by unfold belowP; rw [List.filter_append, sumP_app]
theorem below_one (p : PairV) (i : Int) : belowP [p] i = if p.1 ≤ i then p.2 else 0 := by
  unfold belowP
  by_cases h : p.1 ≤ i
  · rw [if_pos h, List.filter_cons_of_pos (by simpa using h)]; simp [sumP_one]
  · rw [if_neg h, List.filter_cons_of_neg (by simpa using h)]; rfl
theorem below_step {L : List PairV} {k : Nat} {p : PairV} (h : L[k]? = some p) (i : Int) : belowP (L.take (k + 1)) i = belowP (L.take k) i + if p.1 ≤ i then p.2 else 0 := by
  rw [take_snocP h, below_app, below_one]
theorem below_take {L : List PairV} (k : Nat) (i : Int) (h : ∀ p, p ∈ L → 0 ≤ p.2) : 0 ≤ belowP (L.take k) i ∧ belowP (L.take k) i ≤ belowP L i := by
  have e := below_app (L.take k) (L.drop k) i
  rw [List.take_append_drop] at e
  have h1 : 0 ≤ belowP (L.take k) i := sumP_pos fun p hp => h p (List.mem_of_mem_take (List.mem_filter.1 hp).1)
  have h2 : 0 ≤ belowP (L.drop k) i := sumP_pos fun p hp => h p (List.mem_of_mem_drop (List.mem_filter.1 hp).1)
  omega
theorem below_le : ∀ {L : List PairV} (i : Int), (∀ p, p ∈ L → 0 ≤ p.2) → belowP L i ≤ sumP L := by
  intro L
  induction L with
  | nil => intro i _; exact Int.le_refl _
  | cons p r ih =>
    intro i h
    have h1 := h p (by simp)
    have h2 := ih i fun q hq => h q (List.mem_cons_of_mem _ hq)
    have e := below_app [p] r i
    rw [below_one] at e
    rw [sumP_cons]
    show belowP ([p] ++ r) i ≤ _
    rw [e]; split <;> omega

/-- The index of the t-th one, from some count on. -/
def seekP (t : Int) : Int → List PairV → Option Int
  | _, [] => none
  | s, p :: r => if t ≤ s + p.2 then some p.1 else seekP t (s + p.2) r
def findP (L : List PairV) (t : Int) : Option Int := if 0 < t then seekP t 0 L else none
theorem seek_at (t : Int) : ∀ (L : List PairV) (s : Int) (k : Nat) (p : PairV), (∀ q, q ∈ L → 0 ≤ q.2) → L[k]? = some p → s + sumP (L.take k) < t → t ≤ s + sumP (L.take k) + p.2 → seekP t s L = some p.1 := by
  intro L
  induction L with
  | nil => intro s k p _ h; simp at h
  | cons q r ih =>
    intro s k p hp h h1 h2
    cases k with
    | zero =>
      simp at h; subst h
      rw [List.take_zero, sumP_nil] at h1 h2
      unfold seekP; rw [if_pos (by omega)]
    | succ k =>
      rw [List.take_succ_cons, sumP_cons] at h1 h2
      have hq := hp q (by simp)
      have hr := sumP_take (L := r) k fun z hz => hp z (List.mem_cons_of_mem _ hz)
      unfold seekP
      rw [if_neg (by omega)]
      exact ih (s + q.2) k p (fun z hz => hp z (List.mem_cons_of_mem _ hz)) (by simpa using h) (by omega) (by omega)
theorem seek_none (t : Int) : ∀ (L : List PairV) (s : Int), (∀ q, q ∈ L → 0 ≤ q.2) → s + sumP L < t → seekP t s L = none := by
  intro L
  induction L with
  | nil => intro s _ _; rfl
  | cons q r ih =>
    intro s hp h
    rw [sumP_cons] at h
    have hr := sumP_pos (L := r) fun z hz => hp z (List.mem_cons_of_mem _ hz)
    unfold seekP
    rw [if_neg (by omega)]
    exact ih (s + q.2) (fun z hz => hp z (List.mem_cons_of_mem _ hz)) (by omega)

set_option maxRecDepth 100000 in
set_option maxHeartbeats 1000000 in
theorem rfind_any (w : World) (A : Option Addr) (cap : Nat) (L : List PairV) (t x : Int) (fb : Bool) (h : Pairs w A L) (hl : L.length ≤ 1000) (ht : Word t) (hb : sumP L < 18446744073709551616) (hf : (findP L t).getD 0 = x) (hs : (findP L t).isSome = fb) :
    Calls Tryz.prog 167 #[.slice A L.length cap, .int .u64 t] w fun e w' => e = .returned (.tuple #[.int .i64 x, .bool fb]) ∧ Below w.heap.size w w' := by
  have HI := Lib.hid h
  have HX := Lib.hid hf
  have HB := Lib.hid hs
  have HP := Lib.hid (fun k => sumP_take (L := L) k (ok_pos h.ok))
  have HSL := Lib.hid hb
  have HAT := Lib.hid (fun k p => seek_at t L 0 k p (ok_pos h.ok))
  have HNO := Lib.hid (seek_none t L 0 (ok_pos h.ok))
  obtain ⟨t0, t1⟩ := ht
  clear h hf hs hb
  go_enter Tryz.func167, Tryz.ntmps167
  go_wp2_with fail
  go_loopw [6, 11] (fun s j wr => ∃ (k : Nat) (m : Int), k ≤ L.length ∧ j = .int .i64 k ∧ s = .int .u64 m ∧ m = sumP (L.take k) ∧ (0 < t → m < t) ∧ Below w.heap.size w wr) (fun _ j _ => L.length - (intOf j).toNat)
  case atStart => exact ⟨0, 0, Nat.zero_le _, rfl, rfl, rfl, fun h => h, Below.refl _ _⟩
  case round =>
    obtain ⟨k, m, hk, rfl, rfl, hm, hlow, hb2⟩ := hrel
    have HM := Lib.hid hm
    have HLW := Lib.hid hlow
    by_cases hlt : k < L.length
    · have kk : (k : Int) < L.length := by omega
      have hxk : L[k]? = some L[k] := List.getElem?_eq_getElem hlt
      generalize hit : L[k] = p at *
      obtain ⟨px, pc⟩ := p
      obtain ⟨b, off, rfl, hbl, c0, c1⟩ := (HI.out.call hb2).at_ k _ hxk
      have HS := Lib.hid (sum_step' hxk)
      have HXK := Lib.hid hxk
      have hok := HI.out.ok _ (List.mem_of_getElem? hxk)
      have p1 := HP.out (k + 1)
      have p0 := HP.out k
      rw [HS.out] at p1
      rw [← hm] at p0 p1
      have hbs := hb2.size
      obtain ⟨⟨o1, o2⟩, o3, o4⟩ := hok
      simp only at c0 c1 o1 o2 o3 o4 p1 HS HXK
      obtain ⟨p2, p3⟩ := p1
      obtain ⟨p4, _⟩ := p0
      have p5 : m + pc < 18446744073709551616 := by have := HSL.out; omega
      clear hxk hit hm hlow p3
      by_cases h0 : 0 < t
      · by_cases hge : t ≤ m + pc
        · have HF : Hid (findP L t = some px) := Lib.hid (by
            unfold findP; rw [if_pos h0]
            exact HAT.out k (px, pc) HXK.out (by have := HLW.out h0; rw [← HM.out]; omega) (by rw [← HM.out]; omega))
          have HE : Hid (px = x ∧ true = fb) := Lib.hid (by
            have h1 := HX.out; have h2 := HB.out
            rw [HF.out] at h1 h2
            exact ⟨h1, h2⟩)
          go_wp2_with fail
          go_ret2
          exact ⟨by rw [← HE.out.1, ← HE.out.2]; rfl, hb2.alloc hbs _⟩
        · go_wp2_with fail
          go_roundw
          case rel => exact ⟨k + 1, m + pc, by omega, by go_num, rfl, by rw [HS.out, HM.out], fun _ => by omega, hb2.alloc hbs _⟩
          case measure => simp [intOf]; omega
      · go_wp2_with fail
        go_roundw
        case rel => exact ⟨k + 1, m + pc, by omega, by go_num, rfl, by rw [HS.out, HM.out], fun h => absurd h h0, hb2.alloc hbs _⟩
        case measure => simp [intOf]; omega
    · obtain rfl : k = L.length := by omega
      rw [List.take_length] at HM
      have HF : Hid (findP L t = none) := Lib.hid (by
        unfold findP
        split
        · rename_i h0
          exact HNO.out (by have := HLW.out h0; rw [← HM.out]; omega)
        · rfl)
      have HE : Hid (0 = x ∧ false = fb) := Lib.hid (by
        have h1 := HX.out; have h2 := HB.out
        rw [HF.out] at h1 h2
        exact ⟨h1, h2⟩)
      have kk : ¬ (L.length : Int) < L.length := by omega
      clear hm hlow
      go_wp2_with fail
      go_ret2
      exact ⟨by rw [← HE.out.1, ← HE.out.2]; rfl, hb2⟩
end Go.Proofs.YtcijflakldggaaaGreat

namespace Go.Proofs.YtcijflakldggaaaGreat
set_option linter.unusedVariables false
set_option linter.unusedSimpArgs false
open Go.RowKit

def headP (R : List PairV) : Int := ((R.head?).map fun p => p.1).getD 0
def lastP (R : List PairV) : Int := ((R.getLast?).map fun p => p.1).getD 0
/-- How far apart a row's ends lie. -/
def spreadP (R : List PairV) : Int := lastP R - headP R
theorem good_ends {R : List PairV} (h : GoodP R) : headP R ≤ lastP R := by
  cases R with
  | nil => exact Int.le_refl _
  | cons p r =>
    cases hl : (p :: r).getLast? with
    | none => simp at hl
    | some z =>
      have hz := List.mem_of_getLast? hl
      unfold headP lastP
      rw [hl]
      show p.1 ≤ z.1
      rcases List.mem_cons.1 hz with rfl | hz
      · exact Int.le_refl _
      · have := (List.pairwise_cons.1 h.2).1 z hz; omega
theorem head_i64 {R : List PairV} (h : ∀ p, p ∈ R → okP p) : I64 (headP R) := by
  cases R with
  | nil => exact ⟨by decide, by decide⟩
  | cons p r => exact (h p (by simp)).1
theorem last_i64 {R : List PairV} (h : ∀ p, p ∈ R → okP p) : I64 (lastP R) := by
  unfold lastP
  cases hl : R.getLast? with
  | none => exact ⟨by decide, by decide⟩
  | some z => exact (h z (List.mem_of_getLast? hl)).1
/-- What adding to a crate tells; what is kept then. -/
def crErr (L : List PairV) (i c : Int) : Int := if c = 0 then 1 else if 9223372036854775807 - sumP L < c then 6 else if 4095 < spreadP (addP L i c) then 6 else 0
def crRow (L : List PairV) (i c : Int) : List PairV := if crErr L i c = 0 then addP L i c else L
theorem add_pos {L : List PairV} {i c : Int} (h0 : 0 ≤ countP L i) (hc : 0 < c) : 0 < (addP L i c).length := by
  unfold addP midP; rw [if_pos (by omega)]; simp; omega
theorem sum_part (L : List PairV) (i : Int) : sumP (lowP L i) + (countP L i + sumP (highP L i)) = sumP L := by
  induction L with
  | nil => rfl
  | cons p r ih =>
    rw [sumP_cons, count_cons]
    unfold lowP highP at *
    rw [List.filter_cons, List.filter_cons]
    rcases Int.lt_trichotomy p.1 i with h | h | h
    · have h2 : ¬ i < p.1 := by omega
      have h3 : ¬ p.1 = i := by omega
      simp only [h, h2, h3, decide_true, decide_false, if_true, Bool.false_eq_true, if_false, sumP_cons]; omega
    · have h1 : ¬ p.1 < i := by omega
      have h2 : ¬ i < p.1 := by omega
      simp only [h, h1, h2, Int.lt_irrefl, decide_false, Bool.false_eq_true, if_true, if_false]; omega
    · have h1 : ¬ p.1 < i := by omega
      have h3 : ¬ p.1 = i := by omega
      simp only [h, h1, h3, decide_true, decide_false, if_true, Bool.false_eq_true, if_false, sumP_cons]; omega
theorem add_sum {L : List PairV} {i c : Int} (h0 : 0 ≤ countP L i + c) : sumP (addP L i c) = sumP L + c := by
  unfold addP
  rw [sumP_app, sumP_app]
  have hm : sumP (midP i (countP L i + c)) = countP L i + c := by
    unfold midP
    split
    · rw [sumP_one]
    · rw [sumP_nil]; omega
  have := sum_part L i
  rw [hm]; omega
theorem count_le_sum {L : List PairV} (i : Int) (h : ∀ p, p ∈ L → 0 ≤ p.2) : 0 ≤ countP L i ∧ countP L i ≤ sumP L := by
  have h1 := sum_part L i
  have h2 : 0 ≤ sumP (lowP L i) := sumP_pos fun p hp => h p (lowP_mem hp).1
  have h3 : 0 ≤ sumP (highP L i) := sumP_pos fun p hp => h p (highP_mem hp).1
  have h4 : 0 ≤ countP L i := sumP_pos fun p hp => h p (List.mem_filter.1 hp).1
  omega
/-- A row that a crate can have. -/
structure Crt (L : List PairV) : Prop where
  good : GoodP L
  ok : ∀ p, p ∈ L → okP p
  sum : sumP L ≤ 9223372036854775807
  far : spreadP L ≤ 4095
theorem Crt.nil : Crt [] := ⟨good_nil, fun p h => (by cases h), by decide, by decide⟩
theorem Crt.cnt {L : List PairV} (h : Crt L) (i : Int) : 0 ≤ countP L i ∧ countP L i ≤ sumP L := count_le_sum i (ok_pos h.ok)
theorem crErr_cases {L : List PairV} {i c : Int} (hc : Word c) : (c = 0 ∧ crErr L i c = 1) ∨ (0 < c ∧ 9223372036854775807 - sumP L < c ∧ crErr L i c = 6) ∨
    (0 < c ∧ c ≤ 9223372036854775807 - sumP L ∧ 4095 < spreadP (addP L i c) ∧ crErr L i c = 6) ∨ (0 < c ∧ c ≤ 9223372036854775807 - sumP L ∧ spreadP (addP L i c) ≤ 4095 ∧ crErr L i c = 0) := by
  unfold Word at hc
  unfold crErr
  by_cases h0 : c = 0
  · exact Or.inl ⟨h0, by rw [if_pos h0]⟩
  · rw [if_neg h0]
    by_cases h1 : 9223372036854775807 - sumP L < c
    · exact Or.inr (Or.inl ⟨by omega, h1, by rw [if_pos h1]⟩)
    · rw [if_neg h1]
      by_cases h2 : 4095 < spreadP (addP L i c)
      · exact Or.inr (Or.inr (Or.inl ⟨by omega, by omega, h2, by rw [if_pos h2]⟩))
      · exact Or.inr (Or.inr (Or.inr ⟨by omega, by omega, by omega, by rw [if_neg h2]⟩))
theorem crt_add {L : List PairV} {i c : Int} (h : Crt L) (hi : I64 i) (hc : Word c) : Crt (crRow L i c) := by
  have hw := hc
  unfold Word at hw
  unfold crRow
  rcases crErr_cases (L := L) (i := i) hc with ⟨_, e⟩ | ⟨_, _, e⟩ | ⟨_, _, _, e⟩ | ⟨h1, h2, h3, e⟩
  · rw [if_neg (by omega)]; exact h
  · rw [if_neg (by omega)]; exact h
  · rw [if_neg (by omega)]; exact h
  · rw [if_pos e]
    have h4 := h.cnt i
    exact ⟨add_good h.good (by omega), add_ok h.ok hi (by omega), by rw [add_sum (by omega)]; omega, h3⟩
theorem crRow_len (L : List PairV) (i c : Int) : (crRow L i c).length ≤ L.length + 1 := by
  unfold crRow
  split
  · exact add_len L i c
  · omega

end Go.Proofs.YtcijflakldggaaaGreat
/-
  What package strip is to do, said once (proved elsewhere of the code, for its own way to lay a strip in memory); what the laws of strip ask first.
-/
namespace Go.Proofs.YtcijflakldggaaaGreat
set_option linter.unusedVariables false
set_option linter.unusedSimpArgs false
open Go.RowKit

/-- What adding to a strip tells; what is kept then. -/
def stErr (m : Int) (L : List PairV) (i c : Int) : Int := if c = 0 then 1 else if 9223372036854775807 - sumP L < c then 6 else if m < ((addP L i c).length : Int) then 6 else 0
def stRow (m : Int) (L : List PairV) (i c : Int) : List PairV := if stErr m L i c = 0 then addP L i c else L
/-- A row that a strip of that many pairs can have. -/
structure Stp (m : Int) (L : List PairV) : Prop where
  good : GoodP L
  ok : ∀ p, p ∈ L → okP p
  sum : sumP L ≤ 9223372036854775807
  most : (L.length : Int) ≤ m
theorem Stp.nil {m : Int} (h : 0 ≤ m) : Stp m [] := ⟨good_nil, fun p h => (by cases h), by decide, h⟩
theorem Stp.cnt {m : Int} {L : List PairV} (h : Stp m L) (i : Int) : 0 ≤ countP L i ∧ countP L i ≤ sumP L := count_le_sum i (ok_pos h.ok)
theorem stErr_cases {m : Int} {L : List PairV} {i c : Int} (hc : Word c) : (c = 0 ∧ stErr m L i c = 1) ∨ (0 < c ∧ 9223372036854775807 - sumP L < c ∧ stErr m L i c = 6) ∨
    (0 < c ∧ c ≤ 9223372036854775807 - sumP L ∧ m < ((addP L i c).length : Int) ∧ stErr m L i c = 6) ∨ (0 < c ∧ c ≤ 9223372036854775807 - sumP L ∧ ((addP L i c).length : Int) ≤ m ∧ stErr m L i c = 0) := by
  unfold Word at hc
  unfold stErr
  by_cases h0 : c = 0
  · exact Or.inl ⟨h0, by rw [if_pos h0]⟩
  · rw [if_neg h0]
    by_cases h1 : 9223372036854775807 - sumP L < c
    · exact Or.inr (Or.inl ⟨by omega, h1, by rw [if_pos h1]⟩)
    · rw [if_neg h1]
      by_cases h2 : m < ((addP L i c).length : Int)
      · exact Or.inr (Or.inr (Or.inl ⟨by omega, by omega, h2, by rw [if_pos h2]⟩))
      · exact Or.inr (Or.inr (Or.inr ⟨by omega, by omega, by omega, by rw [if_neg h2]⟩))
theorem stp_add {m : Int} {L : List PairV} {i c : Int} (h : Stp m L) (hi : I64 i) (hc : Word c) : Stp m (stRow m L i c) := by
  have hw := hc
  unfold Word at hw
  unfold stRow
  rcases stErr_cases (m := m) (L := L) (i := i) hc with ⟨_, e⟩ | ⟨_, _, e⟩ | ⟨_, _, _, e⟩ | ⟨h1, h2, h3, e⟩
  · rw [if_neg (by omega)]; exact h
  · rw [if_neg (by omega)]; exact h
  · rw [if_neg (by omega)]; exact h
  · rw [if_pos e]
    have h4 := h.cnt i
    exact ⟨add_good h.good (by omega), add_ok h.ok hi (by omega), by rw [add_sum (by omega)]; omega, h3⟩
theorem stRow_len (m : Int) (L : List PairV) (i c : Int) : (stRow m L i c).length ≤ L.length + 1 := by
  unfold stRow
  split
  · exact add_len L i c
  · omega
theorem sumP_tail {L : List PairV} (h : ∀ p, p ∈ L → 0 ≤ p.2) : 0 ≤ sumP L.tail ∧ sumP L.tail ≤ sumP L := by
  cases L with
  | nil => exact ⟨Int.le_refl _, Int.le_refl _⟩
  | cons p r =>
    have h1 := h p (by simp)
    have h2 := sumP_pos (L := r) fun q hq => h q (List.mem_cons_of_mem _ hq)
    rw [sumP_cons]
    exact ⟨h2, by show sumP r ≤ _; omega⟩
theorem stp_tail {m : Int} {L : List PairV} (h : Stp m L) : Stp m L.tail :=
  ⟨by rw [← List.drop_one]; exact good_drop 1 h.good, fun p hp => h.ok p (List.mem_of_mem_tail hp), Int.le_trans (sumP_tail (ok_pos h.ok)).2 h.sum, by have := h.most; rw [List.length_tail]; omega⟩
theorem stp_front {m : Int} {L : List PairV} (h : Stp m L) : Stp m L.dropLast := by
  rw [List.dropLast_eq_take]
  exact ⟨good_take _ h.good, fun p hp => h.ok p (List.mem_of_mem_take hp), Int.le_trans (sumP_take _ (ok_pos h.ok)).2 h.sum, by have := h.most; rw [List.length_take]; omega⟩

/-- A pair as a value. -/
def prV (p : PairV) : Value := .agg #[.int .i64 p.1, .int .u64 p.2]
/-- The first pair, the last one. -/
def firP (L : List PairV) : PairV := L.head?.getD (0, 0)
def lasP (L : List PairV) : PairV := L.getLast?.getD (0, 0)

/-- St w B S m L: at block B lies a strip of m pairs at most whose row is L; S are its blocks. -/
structure StripDoes (St : World → Nat → (Nat → Prop) → Int → List PairV → Prop) : Prop where
  keep : ∀ (w w' : World) (B : Nat) (S : Nat → Prop) (m : Int) (L : List PairV), St w B S m L → (∀ k, S k → w'.heap[k]? = w.heap[k]?) → St w' B S m L
  lt : ∀ (w : World) (B : Nat) (S : Nat → Prop) (m : Int) (L : List PairV), St w B S m L → ∀ k, S k → k < w.heap.size
  stp : ∀ (w : World) (B : Nat) (S : Nat → Prop) (m : Int) (L : List PairV), St w B S m L → Stp m L
  cells : ∀ (w : World) (B : Nat) (S : Nat → Prop) (m : Int) (L : List PairV), St w B S m L → ∀ k, S k → ∃ cs t z, w.heap[k]? = some (.cells cs t z)
  new : ∀ (w : World) (m : Int), 1 ≤ m → m ≤ 4096 → Calls Tryz.prog 122 #[.int .i64 m] w fun e w' => ∃ B S, e = .returned (.tuple #[.pointer (some ⟨B, 0, none⟩), .int .i64 0]) ∧ St w' B S m [] ∧ (∀ k, S k → w.heap.size ≤ k) ∧ Below w.heap.size w w'
  bad : ∀ (w : World) (m : Int), I64 m → (m < 1 ∨ 4096 < m) → Calls Tryz.prog 122 #[.int .i64 m] w fun e w' => e = .returned (.tuple #[.pointer none, .int .i64 1]) ∧ Below w.heap.size w w'
  add : ∀ (w : World) (B : Nat) (S : Nat → Prop) (m : Int) (L : List PairV) (i c : Int), St w B S m L → L.length ≤ 900 → I64 i → Word c →
    Calls Tryz.prog 117 #[.pointer (some ⟨B, 0, none⟩), .int .i64 i, .int .u64 c] w fun e w' => ∃ S', e = .returned (.int .i64 (stErr m L i c)) ∧ St w' B S' m (stRow m L i c) ∧ Keeps S w w' ∧ (∀ k, S' k → S k ∨ w.heap.size ≤ k)
  first : ∀ (w : World) (B : Nat) (S : Nat → Prop) (m : Int) (L : List PairV), St w B S m L → L.length ≤ 900 →
    Calls Tryz.prog 131 #[.pointer (some ⟨B, 0, none⟩)] w fun e w' => ∃ S', e = .returned (.tuple #[.agg #[.int .i64 (firP L).1, .int .u64 (firP L).2], .bool (!L.isEmpty)]) ∧ St w' B S' m L.tail ∧ Keeps S w w' ∧ (∀ k, S' k → S k ∨ w.heap.size ≤ k)
  last : ∀ (w : World) (B : Nat) (S : Nat → Prop) (m : Int) (L : List PairV), St w B S m L → L.length ≤ 900 →
    Calls Tryz.prog 134 #[.pointer (some ⟨B, 0, none⟩)] w fun e w' => ∃ S', e = .returned (.tuple #[.agg #[.int .i64 (lasP L).1, .int .u64 (lasP L).2], .bool (!L.isEmpty)]) ∧ St w' B S' m L.dropLast ∧ Keeps S w w' ∧ (∀ k, S' k → S k ∨ w.heap.size ≤ k)
  total : ∀ (w : World) (B : Nat) (S : Nat → Prop) (m : Int) (L : List PairV), St w B S m L → L.length ≤ 900 →
    Calls Tryz.prog 112 #[.pointer (some ⟨B, 0, none⟩)] w fun e w' => e = .returned (.int .u64 (sumP L)) ∧ Below w.heap.size w w'
  len : ∀ (w : World) (B : Nat) (S : Nat → Prop) (m : Int) (L : List PairV), St w B S m L → L.length ≤ 900 →
    Calls Tryz.prog 136 #[.pointer (some ⟨B, 0, none⟩)] w fun e w' => e = .returned (.int .i64 (L.length : Int)) ∧ Below w.heap.size w w'
  ends : ∀ (w : World) (B : Nat) (S : Nat → Prop) (m : Int) (L : List PairV), St w B S m L → L.length ≤ 900 →
    Calls Tryz.prog 130 #[.pointer (some ⟨B, 0, none⟩)] w fun e w' => e = .returned (.tuple #[.int .i64 (firP L).1, .int .i64 (lasP L).1, .bool (!L.isEmpty)]) ∧ Below w.heap.size w w'
  pairs : ∀ (w : World) (B : Nat) (S : Nat → Prop) (m : Int) (L : List PairV), St w B S m L → L.length ≤ 900 →
    Calls Tryz.prog 114 #[.pointer (some ⟨B, 0, none⟩)] w fun e w' => ∃ v, e = .returned v ∧ OwnP w' w.heap.size v L ∧ Below w.heap.size w w'
  find : ∀ (w : World) (B : Nat) (S : Nat → Prop) (m : Int) (L : List PairV) (t : Int), St w B S m L → L.length ≤ 900 → Word t →
    Calls Tryz.prog 173 #[.pointer (some ⟨B, 0, none⟩), .int .u64 t] w fun e w' => e = .returned (.tuple #[.int .i64 ((findP L t).getD 0), .bool (findP L t).isSome]) ∧ Below w.heap.size w w'
theorem StripDoes.call {St : World → Nat → (Nat → Prop) → Int → List PairV → Prop} (D : StripDoes St) {w w' : World} {B : Nat} {S : Nat → Prop} {m : Int} {L : List PairV} (h : St w B S m L) (hb : Below w.heap.size w w') : St w' B S m L :=
  D.keep w w' B S m L h fun k hk => hb.block k (D.lt _ _ _ _ _ h k hk)

/-- A nil strip. -/
structure StripNil : Prop where
  add : ∀ (w : World) (i c : Int), I64 i → Word c → Calls Tryz.prog 117 #[.pointer none, .int .i64 i, .int .u64 c] w fun e w' => e = .returned (.int .i64 2) ∧ Below w.heap.size w w'
  first : ∀ (w : World), Calls Tryz.prog 131 #[.pointer none] w fun e w' => e = .returned (.tuple #[.agg #[.int .i64 0, .int .u64 0], .bool false]) ∧ Below w.heap.size w w'
  last : ∀ (w : World), Calls Tryz.prog 134 #[.pointer none] w fun e w' => e = .returned (.tuple #[.agg #[.int .i64 0, .int .u64 0], .bool false]) ∧ Below w.heap.size w w'
  total : ∀ (w : World), Calls Tryz.prog 112 #[.pointer none] w fun e w' => e = .returned (.int .u64 0) ∧ Below w.heap.size w w'
  len : ∀ (w : World), Calls Tryz.prog 136 #[.pointer none] w fun e w' => e = .returned (.int .i64 0) ∧ Below w.heap.size w w'
  ends : ∀ (w : World), Calls Tryz.prog 130 #[.pointer none] w fun e w' => e = .returned (.tuple #[.int .i64 0, .int .i64 0, .bool false]) ∧ Below w.heap.size w w'
  pairs : ∀ (w : World), Calls Tryz.prog 114 #[.pointer none] w fun e w' => ∃ A cap, e = .returned (.slice A 0 cap) ∧ Below w.heap.size w w'
  find : ∀ (w : World) (t : Int), Word t → Calls Tryz.prog 173 #[.pointer none, .int .u64 t] w fun e w' => e = .returned (.tuple #[.int .i64 0, .bool false]) ∧ Below w.heap.size w w'

theorem sr1 : stErr 1 [] 5 2 = 0 ∧ stRow 1 [] 5 2 = [(5, 2)] := by decide
theorem sr2 : stErr 1 [(5, 2)] 3 1 = 6 ∧ stRow 1 [(5, 2)] 3 1 = [(5, 2)] := by decide
theorem sr3 : countP [(5, 2)] 5 = 2 := by decide

end Go.Proofs.YtcijflakldggaaaGreat
/-
  Plain mathematics of layer 9 (lowcap): what is kept of a row, where so many indexes side by side are kept, the greatest ones.
  What package lowcap is to do, said once (proved elsewhere of the code); a nil one.
-/
namespace Go.Proofs.YtcijflakldggaaaGreat
set_option linter.unusedVariables false
set_option linter.unusedSimpArgs false
open Go.RowKit

theorem lt_or_geI (a b : Int) : a < b ∨ b ≤ a := by omega
/-- The greatest index of a row. -/
def endP (L : List PairV) : Int := (lasP L).1
/-- What is kept of a row. -/
def keepP (m : Int) (L : List PairV) : List PairV := highP L (endP L - m)
theorem las_snoc (A : List PairV) (p : PairV) : lasP (A ++ [p]) = p := by unfold lasP; rw [List.getLast?_concat]; rfl
theorem end_snoc (A : List PairV) (p : PairV) : endP (A ++ [p]) = p.1 := by unfold endP; rw [las_snoc]
theorem end_mem {L : List PairV} (h : L ≠ []) : ∃ p, p ∈ L ∧ p.1 = endP L := by
  rcases List.eq_nil_or_concat L with rfl | ⟨A, p, rfl⟩
  · exact absurd rfl h
  · rw [List.concat_eq_append]; exact ⟨p, by simp, (end_snoc A p).symm⟩
theorem end_ge {L : List PairV} (hg : GoodP L) : ∀ p, p ∈ L → p.1 ≤ endP L := by
  intro p hp
  rcases List.eq_nil_or_concat L with rfl | ⟨A, q, rfl⟩
  · cases hp
  · rw [List.concat_eq_append] at *
    rw [end_snoc]
    rcases List.mem_append.1 hp with h | h
    · have := (good_app hg).2.2 p h q (by simp); omega
    · simp at h; subst h; exact Int.le_refl _
theorem end_i64 {L : List PairV} (h : ∀ p, p ∈ L → okP p) : I64 (endP L) := by
  by_cases hL : L = []
  · subst hL; exact ⟨by decide, by decide⟩
  · obtain ⟨p, hp, e⟩ := end_mem hL
    rw [← e]; exact (h p hp).1
theorem fir_i64 {L : List PairV} (h : ∀ p, p ∈ L → okP p) : I64 (firP L).1 := by
  cases L with
  | nil => exact ⟨by decide, by decide⟩
  | cons p r => exact (h p (by simp)).1
/-- Where there is a count there is a pair. -/
theorem count_mem {L : List PairV} {j : Int} (h : countP L j ≠ 0) : ∃ p, p ∈ L ∧ p.1 = j := by
  cases hf : L.filter fun p => p.1 == j with
  | nil => exact absurd (by unfold countP; rw [hf]; rfl) h
  | cons p r =>
    have hp : p ∈ L.filter fun p => p.1 == j := by rw [hf]; simp
    have := List.mem_filter.1 hp
    exact ⟨p, this.1, by simpa using this.2⟩
theorem mem_count {L : List PairV} (hg : GoodP L) {p : PairV} (hp : p ∈ L) : 1 ≤ countP L p.1 := by
  obtain ⟨A, B, rfl⟩ := List.append_of_mem hp
  have h1 := hg.1 p hp
  have h2 : 0 ≤ countP A p.1 := sumP_pos fun q hq => by have := hg.1 q (List.mem_append_left _ (List.mem_filter.1 hq).1); omega
  have h3 : 0 ≤ countP B p.1 := sumP_pos fun q hq => by have := hg.1 q (List.mem_append_right _ (List.mem_cons_of_mem _ (List.mem_filter.1 hq).1)); omega
  rw [countP_app, count_cons, if_pos rfl]; omega
theorem count_end {L : List PairV} (hg : GoodP L) (h : L ≠ []) : 1 ≤ countP L (endP L) := by
  obtain ⟨p, hp, e⟩ := end_mem h
  rw [← e]; exact mem_count hg hp
theorem count_past {L : List PairV} (hg : GoodP L) {j : Int} (h : endP L < j) : countP L j = 0 := by
  by_cases hc : countP L j = 0
  · exact hc
  · obtain ⟨p, hp, e⟩ := count_mem hc
    have := end_ge hg p hp; omega
/-- The end is told by the counts. -/
theorem end_uniq {L : List PairV} (hg : GoodP L) {e : Int} (h1 : 1 ≤ countP L e) (h2 : ∀ j, e < j → countP L j = 0) : endP L = e := by
  obtain ⟨p, hp, he⟩ := count_mem (L := L) (j := e) (by omega)
  have hne : L ≠ [] := by rintro rfl; cases hp
  have h3 := end_ge hg p hp
  have h4 := count_end hg hne
  rcases lt_or_geI e (endP L) with h | h
  · have := h2 _ h; omega
  · omega
theorem ne_of_count {L : List PairV} {j : Int} (h : 1 ≤ countP L j) : L ≠ [] := by
  rintro rfl
  have : countP [] j = 0 := rfl
  omega

theorem keep_nil (m : Int) : keepP m [] = [] := rfl
theorem keep_count (m : Int) (L : List PairV) (j : Int) : countP (keepP m L) j = if endP L - m < j then countP L j else 0 := count_high _ _ _
theorem keep_mem {m : Int} {L : List PairV} {p : PairV} (h : p ∈ keepP m L) : p ∈ L ∧ endP L - m < p.1 := highP_mem h
theorem keep_good {m : Int} {L : List PairV} (h : GoodP L) : GoodP (keepP m L) := good_filter _ h
theorem keep_ok {m : Int} {L : List PairV} (h : ∀ p, p ∈ L → okP p) : ∀ p, p ∈ keepP m L → okP p := fun p hp => h p (keep_mem hp).1
theorem keep_le (m : Int) (L : List PairV) : (keepP m L).length ≤ L.length := List.length_filter_le _ _
theorem keep_ne {m : Int} {L : List PairV} (hm : 0 < m) (h : L ≠ []) : keepP m L ≠ [] := by
  obtain ⟨p, hp, e⟩ := end_mem h
  have : p ∈ keepP m L := List.mem_filter.2 ⟨hp, by simp; omega⟩
  intro h0; rw [h0] at this; cases this
theorem keep_end {m : Int} {L : List PairV} (hm : 0 < m) (hg : GoodP L) (h : L ≠ []) : endP (keepP m L) = endP L := by
  refine end_uniq (keep_good hg) ?_ fun j hj => ?_
  · rw [keep_count, if_pos (by omega)]; exact count_end hg h
  · rw [keep_count, if_pos (by omega)]; exact count_past hg hj
theorem keep_idem {m : Int} {L : List PairV} (hm : 0 < m) (hg : GoodP L) : keepP m (keepP m L) = keepP m L := by
  by_cases h : L = []
  · subst h; rfl
  · refine good_ext (keep_good (keep_good hg)) (keep_good hg) fun j => ?_
    rw [keep_count, keep_end hm hg h, keep_count]
    split <;> rfl
/-- Rows with the same end, and the same counts near it, keep the same. -/
theorem keep_ext {m : Int} {L M : List PairV} (hL : GoodP L) (hM : GoodP M) (he : endP L = endP M) (hc : ∀ j, endP L - m < j → countP L j = countP M j) : keepP m L = keepP m M := by
  refine good_ext (keep_good hL) (keep_good hM) fun j => ?_
  rw [keep_count, keep_count, ← he]
  by_cases h : endP L - m < j
  · rw [if_pos h, if_pos h, hc j h]
  · rw [if_neg h, if_neg h]
theorem sumP_filter (f : PairV → Bool) : ∀ {L : List PairV}, (∀ p, p ∈ L → 0 ≤ p.2) → 0 ≤ sumP (L.filter f) ∧ sumP (L.filter f) ≤ sumP L := by
  intro L
  induction L with
  | nil => intro _; exact ⟨Int.le_refl _, Int.le_refl _⟩
  | cons p r ih =>
    intro h
    have h1 := h p (by simp)
    have h2 := ih fun q hq => h q (List.mem_cons_of_mem _ hq)
    by_cases hf : f p = true
    · rw [List.filter_cons_of_pos hf, sumP_cons, sumP_cons]; omega
    · rw [List.filter_cons_of_neg hf, sumP_cons]; omega
theorem keep_sum (m : Int) {L : List PairV} (h : ∀ p, p ∈ L → 0 ≤ p.2) : 0 ≤ sumP (keepP m L) ∧ sumP (keepP m L) ≤ sumP L := sumP_filter _ h
/-- Indexes that lie close to one another are few. -/
theorem spread_len : ∀ (L : List PairV) (a b : Int), GoodP L → a ≤ b → (∀ p, p ∈ L → a < p.1 ∧ p.1 ≤ b) → (L.length : Int) ≤ b - a := by
  intro L
  induction L with
  | nil => intro a b _ h _; simp; omega
  | cons p r ih =>
    intro a b hg hab h
    have h1 := h p (by simp)
    have h2 := (List.pairwise_cons.1 hg.2).1
    have h3 := ih p.1 b (good_drop 1 hg) h1.2 fun q hq => ⟨h2 q hq, (h q (List.mem_cons_of_mem _ hq)).2⟩
    rw [List.length_cons]; omega
theorem keep_len {m : Int} {L : List PairV} (hm : 0 ≤ m) (hg : GoodP L) : ((keepP m L).length : Int) ≤ m := by
  have := spread_len (keepP m L) (endP L - m) (endP L) (keep_good hg) (by omega) fun p hp => ⟨(keep_mem hp).2, end_ge hg p (keep_mem hp).1⟩
  omega

/-- The end behind an addition. -/
theorem end_add {L : List PairV} {i c : Int} (hg : GoodP L) (hn : countP L i + c ≤ 9223372036854775807) (hc : 0 < c) (h0 : 0 ≤ countP L i) : endP (addP L i c) = if L = [] then i else max (endP L) i := by
  have hC := count_add (L := L) (i := i) (c := c) (by omega)
  refine end_uniq (add_good hg hn) ?_ fun j hj => ?_
  · rw [hC]
    by_cases h : L = []
    · subst h; rw [if_pos rfl, if_pos rfl]; have : countP [] i = 0 := rfl; omega
    · rw [if_neg h]
      rcases lt_or_geI (endP L) i with h1 | h1
      · rw [Int.max_eq_right (by omega), if_pos rfl]; omega
      · rw [Int.max_eq_left h1]; have := count_end hg h; split <;> omega
  · rw [hC]
    by_cases h : L = []
    · subst h; rw [if_pos rfl] at hj; rw [if_neg (by omega)]; rfl
    · rw [if_neg h] at hj
      rw [count_past hg (by omega), if_neg (by omega)]; rfl
theorem cnt_pos {L : List PairV} (hg : GoodP L) (i : Int) : 0 ≤ countP L i := sumP_pos fun p hp => by have := hg.1 p (List.mem_filter.1 hp).1; omega
theorem keep_cnt_le {m : Int} {L : List PairV} (hg : GoodP L) (i : Int) : countP (keepP m L) i ≤ countP L i := by
  rw [keep_count]; have := cnt_pos hg i; split <;> omega
/-- What is added to what is kept is kept as it is of all. -/
theorem keep_add {m : Int} {A : List PairV} {i c : Int} (hm : 0 < m) (hg : GoodP A) (hn : countP A i + c ≤ 9223372036854775807) (hc : 0 < c) : keepP m (addP (keepP m A) i c) = keepP m (addP A i c) := by
  by_cases h : A = []
  · subst h; rfl
  · have hk := keep_cnt_le (m := m) hg i
    have h0 := cnt_pos hg i
    have h1 := cnt_pos (keep_good (m := m) hg) i
    have e1 := end_add (keep_good (m := m) hg) (by omega) hc h1
    have e2 := end_add hg hn hc h0
    rw [if_neg (keep_ne hm h), keep_end hm hg h] at e1
    rw [if_neg h] at e2
    refine keep_ext (add_good (keep_good hg) (by omega)) (add_good hg hn) (e1.trans e2.symm) fun j hj => ?_
    rw [e1] at hj
    rw [count_add (by omega), count_add (by omega), keep_count, if_pos (by omega)]
/-- Too far below the end: all stays as it was. -/
theorem keep_far {m : Int} {K : List PairV} {i c : Int} (hm : 0 < m) (hg : GoodP K) (hk : keepP m K = K) (hn : countP K i + c ≤ 9223372036854775807) (hc : 0 < c) (hne : K ≠ []) (hf : i ≤ endP K - m) : keepP m (addP K i c) = K := by
  have h0 := cnt_pos hg i
  have e2 := end_add hg hn hc h0
  rw [if_neg hne, Int.max_eq_left (by omega)] at e2
  refine Eq.trans (keep_ext (add_good hg hn) hg e2 fun j hj => ?_) hk
  rw [e2] at hj
  rw [count_add (by omega), if_neg (by omega), Int.add_zero]
/-- Else what lies too far below goes, and the rest is added to. -/
theorem keep_near {m : Int} {K : List PairV} {i c : Int} (hm : 0 < m) (hg : GoodP K) (hk : keepP m K = K) (hn : countP K i + c ≤ 9223372036854775807) (hc : 0 < c) (hf : K = [] ∨ endP K - m < i) : keepP m (addP K i c) = addP (highP K (i - m)) i c := by
  have h0 := cnt_pos hg i
  have e2 := end_add hg hn hc h0
  have hh : countP (highP K (i - m)) i = countP K i := by rw [count_high, if_pos (by omega)]
  refine good_ext (keep_good (add_good hg hn)) (add_good (good_filter _ hg) (by rw [hh]; exact hn)) fun j => ?_
  rw [keep_count, e2, count_add (by omega), count_add (by rw [hh]; omega), count_high]
  by_cases h : K = []
  · subst h
    rw [if_pos rfl]
    have hz : countP [] j = 0 := rfl
    rw [hz]
    by_cases hj : j = i
    · subst hj; by_cases hx : j - m < j <;> simp [hx]; omega
    · by_cases hx : i - m < j <;> simp [hx, hj]
  · rw [if_neg h]
    have hf' : endP K - m < i := by rcases hf with h1 | h1; exact absurd h1 h; exact h1
    have hz : j ≤ endP K - m → countP K j = 0 := fun hj => by rw [← hk, keep_count, if_neg (by omega)]
    rcases lt_or_geI (endP K) i with h1 | h1
    · rw [Int.max_eq_right (by omega)]
      by_cases hj : i - m < j
      · rw [if_pos hj, if_pos hj]
      · rw [if_neg hj, if_neg hj, if_neg (by omega)]; rfl
    · rw [Int.max_eq_left h1]
      by_cases hj : endP K - m < j
      · rw [if_pos hj, if_pos (show i - m < j by omega)]
      · have hz' := hz (by omega)
        rw [if_neg hj, hz', if_neg (show ¬ j = i by omega)]
        split <;> rfl
/-- Where the front of a good row goes. -/
theorem high_drop {K : List PairV} {x : Int} {k : Nat} (hg : GoodP K) (h1 : ∀ p, p ∈ K.take k → p.1 ≤ x) (h2 : K.drop k = [] ∨ x < (firP (K.drop k)).1) : highP K x = K.drop k := by
  have e : highP K x = highP (K.take k ++ K.drop k) x := by rw [List.take_append_drop]
  rw [e]
  unfold highP
  rw [List.filter_append, List.filter_eq_nil_iff.2 (fun p hp => by have := h1 p hp; simp; omega), List.nil_append, List.filter_eq_self]
  intro p hp
  rcases h2 with h | h
  · rw [h] at hp; cases hp
  · have hg2 := good_drop k hg
    revert hp h hg2
    generalize K.drop k = R
    intro hp h hg2
    cases R with
    | nil => cases hp
    | cons q r =>
      have h' : x < q.1 := h
      rcases List.mem_cons.1 hp with rfl | h3
      · simpa using h'
      · have := (List.pairwise_cons.1 hg2.2).1 p h3; simp; omega
theorem sum_high_drop {K : List PairV} {k : Nat} : sumP K - sumP (K.drop k) = sumP (K.take k) := by
  have e := sumP_app (K.take k) (K.drop k)
  rw [List.take_append_drop] at e
  omega

/-- All pairs of a row, added one by one to another one. -/
def joinP (A B : List PairV) : List PairV := B.foldl (fun R p => addP R p.1 p.2) A
theorem join_nil (A : List PairV) : joinP A [] = A := rfl
theorem join_cons (A : List PairV) (p : PairV) (r : List PairV) : joinP A (p :: r) = joinP (addP A p.1 p.2) r := rfl
theorem join_snoc (A B : List PairV) (p : PairV) : joinP A (B ++ [p]) = addP (joinP A B) p.1 p.2 := by unfold joinP; rw [List.foldl_append]; rfl
theorem join_fold (A : List PairV) : joinP [] A = foldP A := rfl
theorem join_app (A B C : List PairV) : joinP A (B ++ C) = joinP (joinP A B) C := by unfold joinP; rw [List.foldl_append]
/-- What is known of such a row. -/
structure Joined (A B R : List PairV) : Prop where
  good : GoodP R
  ok : ∀ p, p ∈ R → okP p
  cnt : ∀ j, countP R j = countP A j + countP B j
  sum : sumP R = sumP A + sumP B
  len : R.length ≤ A.length + B.length
theorem join_facts : ∀ (B A : List PairV), GoodP A → (∀ p, p ∈ A → okP p) → (∀ p, p ∈ B → okP p ∧ 0 < p.2) → sumP A + sumP B ≤ 9223372036854775807 → Joined A B (joinP A B) := by
  intro B
  induction B with
  | nil => intro A h1 h2 _ _; exact ⟨h1, h2, fun j => by show _ = countP A j + 0; rw [Int.add_zero]; rfl, by rw [sumP_nil, Int.add_zero]; rfl, Nat.le_refl _⟩
  | cons p r ih =>
    intro A h1 h2 h3 h4
    have hp := h3 p (by simp)
    have hr : ∀ q, q ∈ r → okP q ∧ 0 < q.2 := fun q hq => h3 q (List.mem_cons_of_mem _ hq)
    have hrs := sumP_pos (L := r) fun q hq => by have := hr q hq; omega
    have hc := count_le_sum p.1 (ok_pos h2)
    rw [sumP_cons] at h4
    have hs := add_sum (L := A) (i := p.1) (c := p.2) (by omega)
    have hi := ih (addP A p.1 p.2) (add_good h1 (by omega)) (add_ok h2 hp.1.1 (by omega)) hr (by rw [hs]; omega)
    rw [join_cons]
    refine ⟨hi.good, hi.ok, fun j => ?_, ?_, ?_⟩
    · rw [hi.cnt, count_add (by omega), count_cons]
      by_cases e : j = p.1
      · rw [if_pos e, if_pos e.symm]; omega
      · rw [if_neg e, if_neg (fun h => e h.symm)]; omega
    · rw [hi.sum, hs, sumP_cons]; omega
    · have := hi.len; have := add_len A p.1 p.2; rw [List.length_cons]; omega
theorem good_each {B : List PairV} (hg : GoodP B) (h : ∀ p, p ∈ B → okP p) : ∀ p, p ∈ B → okP p ∧ 0 < p.2 := fun p hp => ⟨h p hp, by have := hg.1 p hp; omega⟩
/-- Merging what is kept is what is kept of all. -/
theorem keep_join {m : Int} {A B : List PairV} (hm : 0 < m) (hA : GoodP A) (oA : ∀ p, p ∈ A → okP p) (hB : GoodP B) (oB : ∀ p, p ∈ B → okP p) (hs : sumP A + sumP B ≤ 9223372036854775807) : keepP m (joinP (keepP m A) (keepP m B)) = keepP m (joinP A B) := by
  have sA := keep_sum m (ok_pos oA)
  have sB := keep_sum m (ok_pos oB)
  have J1 := join_facts (keepP m B) (keepP m A) (keep_good hA) (keep_ok oA) (good_each (keep_good hB) (keep_ok oB)) (by omega)
  have J2 := join_facts B A hA oA (good_each hB oB) hs
  have hc0 : ∀ j, countP [] j = 0 := fun j => rfl
  by_cases eA : A = []
  · subst eA
    have e1 : joinP (keepP m []) (keepP m B) = keepP m B := good_ext J1.good (keep_good hB) fun j => by rw [J1.cnt, keep_nil, hc0, Int.zero_add]
    have e2 : joinP [] B = B := good_ext J2.good hB fun j => by rw [J2.cnt, hc0, Int.zero_add]
    rw [e1, e2, keep_idem hm hB]
  · by_cases eB : B = []
    · subst eB
      rw [keep_nil, join_nil, join_nil, keep_idem hm hA]
    · have cA := count_end hA eA
      have cB := count_end hB eB
      have f1 : endP (joinP (keepP m A) (keepP m B)) = max (endP A) (endP B) := by
        refine end_uniq J1.good ?_ fun j hj => ?_
        · rw [J1.cnt, keep_count, keep_count]
          rcases lt_or_geI (endP A) (endP B) with h | h
          · rw [Int.max_eq_right (by omega), if_pos (show endP B - m < endP B by omega)]
            have := cnt_pos hA (endP B); split <;> omega
          · rw [Int.max_eq_left h, if_pos (show endP A - m < endP A by omega)]
            have := cnt_pos hB (endP A); split <;> omega
        · rw [J1.cnt, keep_count, keep_count, count_past hA (by omega), count_past hB (by omega)]
          split <;> split <;> rfl
      have f2 : endP (joinP A B) = max (endP A) (endP B) := by
        refine end_uniq J2.good ?_ fun j hj => ?_
        · rw [J2.cnt]
          rcases lt_or_geI (endP A) (endP B) with h | h
          · rw [Int.max_eq_right (by omega)]; have := cnt_pos hA (endP B); omega
          · rw [Int.max_eq_left h]; have := cnt_pos hB (endP A); omega
        · rw [J2.cnt, count_past hA (by omega), count_past hB (by omega)]; rfl
      refine keep_ext J1.good J2.good (f1.trans f2.symm) fun j hj => ?_
      rw [f1] at hj
      rw [J1.cnt, J2.cnt, keep_count, keep_count, if_pos (by omega), if_pos (by omega)]
/-- In whatever order a row is gone over. -/
theorem countP_rev (L : List PairV) (j : Int) : countP L.reverse j = countP L j := by
  induction L with
  | nil => rfl
  | cons p r ih => rw [List.reverse_cons, countP_app, ih, countP_one, count_cons]; omega
theorem sumP_rev (L : List PairV) : sumP L.reverse = sumP L := by
  induction L with
  | nil => rfl
  | cons p r ih => rw [List.reverse_cons, sumP_app, ih, sumP_one, sumP_cons]; omega
theorem join_rev {A B : List PairV} (hA : GoodP A) (oA : ∀ p, p ∈ A → okP p) (oB : ∀ p, p ∈ B → okP p ∧ 0 < p.2) (hs : sumP A + sumP B ≤ 9223372036854775807) : joinP A B.reverse = joinP A B := by
  have J1 := join_facts B.reverse A hA oA (fun p hp => oB p (List.mem_reverse.1 hp)) (by rw [sumP_rev]; exact hs)
  have J2 := join_facts B A hA oA oB hs
  exact good_ext J1.good J2.good fun j => by rw [J1.cnt, J2.cnt, countP_rev]

/-- The lost ones stand ahead of those that are kept. -/
theorem part_at {L : List PairV} (x : Int) (hg : GoodP L) : (L.filter fun p => decide (p.1 ≤ x)) ++ highP L x = L := by
  have hC : ∀ j, countP (L.filter fun p => decide (p.1 ≤ x)) j = if j ≤ x then countP L j else 0 := by
    intro j
    unfold countP
    rw [List.filter_filter]
    by_cases h : j ≤ x
    · rw [if_pos h]; congr 1
      refine List.filter_congr fun p _ => ?_
      by_cases e : p.1 = j
      · subst e; simp [h]
      · simp [e]
    · rw [if_neg h, List.filter_eq_nil_iff.2]; rfl
      intro p _
      simp only [Bool.and_eq_true, decide_eq_true_eq, beq_iff_eq, not_and]
      intro e; omega
  refine good_ext (good_mk (good_filter _ hg) (good_filter _ hg) fun p hp q hq => ?_) hg fun j => ?_
  · have h1 := (List.mem_filter.1 hp).2
    have h2 := (highP_mem hq).2
    simp at h1; omega
  · rw [countP_app, hC, count_high]
    by_cases h : j ≤ x
    · rw [if_pos h, if_neg (by omega), Int.add_zero]
    · rw [if_neg h, if_pos (by omega), Int.zero_add]
/-- Where the t-th one stands, ahead of a row's kept part or in it. -/
theorem seek_cons (t s : Int) (p : PairV) (r : List PairV) : seekP t s (p :: r) = if t ≤ s + p.2 then some p.1 else seekP t (s + p.2) r := rfl
theorem seek_app (t : Int) : ∀ (A B : List PairV) (s : Int), seekP t s (A ++ B) = match seekP t s A with | some x => some x | none => seekP t (s + sumP A) B := by
  intro A
  induction A with
  | nil => intro B s; rw [List.nil_append, sumP_nil, Int.add_zero]; rfl
  | cons p r ih =>
    intro B s
    rw [List.cons_append, seek_cons, seek_cons]
    by_cases h : t ≤ s + p.2
    · rw [if_pos h, if_pos h]
    · rw [if_neg h, if_neg h, ih, sumP_cons, ← Int.add_assoc]
theorem seek_shift (t d : Int) : ∀ (L : List PairV) (s : Int), seekP t (s + d) L = seekP (t - d) s L := by
  intro L
  induction L with
  | nil => intro s; rfl
  | cons p r ih =>
    intro s
    unfold seekP
    by_cases h : t ≤ s + d + p.2
    · rw [if_pos h, if_pos (by omega)]
    · rw [if_neg h, if_neg (by omega), show s + d + p.2 = s + p.2 + d by omega, ih]
theorem seek_some (t : Int) : ∀ (A : List PairV) (s : Int), t ≤ s + sumP A → A ≠ [] → ∃ x, seekP t s A = some x ∧ ∃ p, p ∈ A ∧ p.1 = x := by
  intro A
  induction A with
  | nil => intro s _ h; exact absurd rfl h
  | cons p r ih =>
    intro s h _
    unfold seekP
    by_cases hc : t ≤ s + p.2
    · rw [if_pos hc]; exact ⟨_, rfl, p, by simp, rfl⟩
    · rw [if_neg hc]
      rw [sumP_cons] at h
      by_cases hr : r = []
      · subst hr; rw [sumP_nil] at h; omega
      · obtain ⟨x, hx, q, hq, e⟩ := ih (s + p.2) (by omega) hr
        exact ⟨x, hx, q, List.mem_cons_of_mem _ hq, e⟩
/-- What Find of a lowcap tells: of those that are kept, so many being lost. -/
def findL (K : List PairV) (l t : Int) : Option Int := if t ≤ l then none else findP K (t - l)
/-- .. is what is asked for of all, unless it is lost. -/
theorem find_keep {m : Int} {A : List PairV} (hm : 0 < m) (hg : GoodP A) (t : Int) :
    findL (keepP m A) (sumP A - sumP (keepP m A)) t = match findP A t with | none => none | some x => if endP A - x < m then some x else none := by
  have hp := part_at (endP A - m) hg
  obtain ⟨D, hD⟩ : ∃ D, (A.filter fun p => decide (p.1 ≤ endP A - m)) = D := ⟨_, rfl⟩
  have hDm : ∀ p, p ∈ D → p.1 ≤ endP A - m := fun p h => by rw [← hD] at h; have := (List.mem_filter.1 h).2; simpa using this
  have hDp : 0 ≤ sumP D := sumP_pos fun p h => by rw [← hD] at h; have := hg.1 p (List.mem_filter.1 h).1; omega
  rw [hD] at hp
  obtain ⟨K, hK⟩ : ∃ K, keepP m A = K := ⟨_, rfl⟩
  have hp' : D ++ K = A := by rw [← hK]; exact hp
  have hs : sumP A - sumP K = sumP D := by have := sumP_app D K; rw [hp'] at this; omega
  have hKm : ∀ p, p ∈ K → endP A - p.1 < m := fun p h => by rw [← hK] at h; have := (keep_mem h).2; omega
  rw [hK, hs]
  unfold findL
  by_cases ht : t ≤ sumP D
  · rw [if_pos ht]
    unfold findP
    by_cases h0 : 0 < t
    · have hne : D ≠ [] := by rintro rfl; rw [sumP_nil] at ht; omega
      obtain ⟨x, hx, p, hpm, e⟩ := seek_some t D 0 (by omega) hne
      rw [if_pos h0, ← hp', seek_app, hx]
      have := hDm p hpm
      show none = if endP (D ++ K) - x < m then some x else none
      rw [hp', if_neg (by omega)]
    · rw [if_neg h0]
  · rw [if_neg ht]
    unfold findP
    have hn : seekP t 0 D = none := seek_none t D 0 (fun q hq => by rw [← hD] at hq; have := hg.1 q (List.mem_filter.1 hq).1; omega) (by omega)
    rw [if_pos (by omega), if_pos (by omega)]
    have e : seekP t 0 A = seekP (t - sumP D) 0 K := by
      rw [← hp', seek_app, hn]
      show seekP t (0 + sumP D) K = _
      rw [seek_shift]
    rw [e]
    cases hf : seekP (t - sumP D) 0 K with
    | none => rfl
    | some x =>
      have hx : ∃ p, p ∈ K ∧ p.1 = x := by
        have key : ∀ (L : List PairV) (s x : Int), seekP (t - sumP D) s L = some x → ∃ p, p ∈ L ∧ p.1 = x := by
          intro L
          induction L with
          | nil => intro s x h; cases h
          | cons p r ih =>
            intro s x h
            unfold seekP at h
            split at h
            · exact ⟨p, by simp, Option.some.inj h⟩
            · obtain ⟨q, hq, e⟩ := ih _ x h
              exact ⟨q, List.mem_cons_of_mem _ hq, e⟩
        exact key K 0 x hf
      obtain ⟨p, hpm, e⟩ := hx
      have := hKm p hpm
      show some x = if endP A - x < m then some x else none
      rw [if_pos (by omega)]
/-- How many there are up to an index: at least, and at most. -/
def lowB (m : Int) (K : List PairV) (l i : Int) : Int := if K ≠ [] ∧ m < endP K - i then 0 else l + belowP K i
def highB (m : Int) (K : List PairV) (l i : Int) : Int := if K ≠ [] ∧ m < endP K - i then l else l + belowP K i
theorem below_keep {m : Int} {A : List PairV} (hm : 0 < m) (hg : GoodP A) (i : Int) :
    lowB m (keepP m A) (sumP A - sumP (keepP m A)) i ≤ belowP A i ∧ belowP A i ≤ highB m (keepP m A) (sumP A - sumP (keepP m A)) i ∧
    (lowB m (keepP m A) (sumP A - sumP (keepP m A)) i = highB m (keepP m A) (sumP A - sumP (keepP m A)) i ∨ (A ≠ [] ∧ 0 < sumP A - sumP (keepP m A))) := by
  have hp := part_at (endP A - m) hg
  obtain ⟨D, hD⟩ : ∃ D, (A.filter fun p => decide (p.1 ≤ endP A - m)) = D := ⟨_, rfl⟩
  have hDm : ∀ p, p ∈ D → p.1 ≤ endP A - m := fun p h => by rw [← hD] at h; have := (List.mem_filter.1 h).2; simpa using this
  have hDq : ∀ p, p ∈ D → 0 ≤ p.2 := fun p h => by rw [← hD] at h; have := hg.1 p (List.mem_filter.1 h).1; omega
  have hDp : 0 ≤ sumP D := sumP_pos hDq
  rw [hD] at hp
  by_cases h : A = []
  · subst h
    have e : (keepP m [] : List PairV) = [] := rfl
    rw [e]
    unfold lowB highB
    simp [belowP, sumP]
  have hen := keep_end hm hg h
  have hkn := keep_ne hm h
  obtain ⟨K, hK⟩ : ∃ K, keepP m A = K := ⟨_, rfl⟩
  have hp' : D ++ K = A := by rw [← hK]; exact hp
  have hs : sumP A - sumP K = sumP D := by have := sumP_app D K; rw [hp'] at this; omega
  have hKm : ∀ p, p ∈ K → endP A - m < p.1 := fun p h => by rw [← hK] at h; exact (keep_mem h).2
  have hb : belowP A i = belowP D i + belowP K i := by rw [← hp']; exact below_app D K i
  rw [hK] at hen hkn ⊢
  rw [hs]
  have hb1 := below_le (L := D) i hDq
  have hb0 : 0 ≤ belowP D i := (sumP_filter _ hDq).1
  unfold lowB highB
  by_cases hc : m < endP K - i
  · rw [if_pos ⟨hkn, hc⟩, if_pos ⟨hkn, hc⟩]
    have hz : belowP K i = 0 := by
      unfold belowP
      rw [List.filter_eq_nil_iff.2 (fun p hp => by have := hKm p hp; simp; omega)]; rfl
    refine ⟨by omega, by omega, ?_⟩
    by_cases hz' : sumP D = 0
    · exact Or.inl hz'.symm
    · exact Or.inr ⟨h, by omega⟩
  · rw [if_neg (fun h => hc h.2), if_neg (fun h => hc h.2)]
    have hall : belowP D i = sumP D := by
      unfold belowP
      rw [List.filter_eq_self.2 (fun p hp => by have := hDm p hp; simp; omega)]
    exact ⟨by omega, by omega, Or.inl rfl⟩
end Go.Proofs.YtcijflakldggaaaGreat

namespace Go.Proofs.YtcijflakldggaaaGreat
set_option linter.unusedVariables false
set_option linter.unusedSimpArgs false
open Go.RowKit

/-- What a lowcap of m indexes can keep, T being all that was added. -/
structure Lwp (m : Int) (K : List PairV) (T : Int) : Prop where
  good : GoodP K
  ok : ∀ p, p ∈ K → okP p
  kept : keepP m K = K
  sum : sumP K ≤ T
  top : T ≤ 9223372036854775807
  m1 : 1 ≤ m
  m2 : m ≤ 4096
theorem Lwp.pos {m : Int} {K : List PairV} {T : Int} (h : Lwp m K T) : 0 ≤ sumP K := sumP_pos (ok_pos h.ok)
theorem Lwp.nil {m : Int} (h1 : 1 ≤ m) (h2 : m ≤ 4096) : Lwp m [] 0 := ⟨good_nil, fun p h => (by cases h), rfl, Int.le_refl _, by decide, h1, h2⟩
theorem Lwp.cnt {m : Int} {K : List PairV} {T : Int} (h : Lwp m K T) (i : Int) : 0 ≤ countP K i ∧ countP K i ≤ sumP K := count_le_sum i (ok_pos h.ok)
theorem Lwp.stp {m : Int} {K : List PairV} {T : Int} (h : Lwp m K T) : Stp m K :=
  ⟨h.good, h.ok, Int.le_trans h.sum h.top, by have := keep_len (m := m) (by have := h.m1; omega) h.good; rw [h.kept] at this; exact this⟩
theorem Lwp.add {m : Int} {K : List PairV} {T i c : Int} (h : Lwp m K T) (hi : I64 i) (hc : 0 < c) (hs : T + c ≤ 9223372036854775807) : Lwp m (keepP m (addP K i c)) (T + c) := by
  have h1 := h.cnt i
  have h2 := h.sum
  have h3 : 0 < m := by have := h.m1; omega
  have h4 := add_good h.good (i := i) (c := c) (by omega)
  have h5 := add_ok h.ok hi (c := c) (by omega)
  have h6 := add_sum (L := K) (i := i) (c := c) (by omega)
  have h7 := keep_sum m (ok_pos h5)
  exact ⟨keep_good h4, keep_ok h5, keep_idem h3 h4, by omega, hs, h.m1, h.m2⟩
theorem Lwp.join {m : Int} {K K' : List PairV} {T T' : Int} (h : Lwp m K T) (h' : Lwp m K' T') (hs : T + T' ≤ 9223372036854775807) : Lwp m (keepP m (joinP K K')) (T + T') := by
  have h2 := h.sum
  have h2' := h'.sum
  have h3 : 0 < m := by have := h.m1; omega
  have J := join_facts K' K h.good h.ok (good_each h'.good h'.ok) (by omega)
  have h7 := keep_sum m (ok_pos J.ok)
  exact ⟨keep_good J.good, keep_ok J.ok, keep_idem h3 J.good, by have := J.sum; omega, hs, h.m1, h.m2⟩
/-- Of all that was added. -/
theorem Lwp.of {m : Int} {A : List PairV} (hg : GoodP A) (ho : ∀ p, p ∈ A → okP p) (hs : sumP A ≤ 9223372036854775807) (h1 : 1 ≤ m) (h2 : m ≤ 4096) : Lwp m (keepP m A) (sumP A) :=
  ⟨keep_good hg, keep_ok ho, keep_idem (by omega) hg, (keep_sum m (ok_pos ho)).2, hs, h1, h2⟩

/-- What adding tells; what is kept then, and how many there are in all. -/
def lwErr (T c : Int) : Int := if c = 0 then 1 else if 9223372036854775807 - T < c then 6 else 0
def lwRow (m : Int) (K : List PairV) (T i c : Int) : List PairV := if lwErr T c = 0 then keepP m (addP K i c) else K
def lwSum (T c : Int) : Int := if lwErr T c = 0 then T + c else T
theorem lwErr_cases {T c : Int} (hc : Word c) : (c = 0 ∧ lwErr T c = 1) ∨ (0 < c ∧ 9223372036854775807 - T < c ∧ lwErr T c = 6) ∨ (0 < c ∧ c ≤ 9223372036854775807 - T ∧ lwErr T c = 0) := by
  unfold Word at hc
  unfold lwErr
  by_cases h0 : c = 0
  · exact Or.inl ⟨h0, by rw [if_pos h0]⟩
  · rw [if_neg h0]
    by_cases h1 : 9223372036854775807 - T < c
    · exact Or.inr (Or.inl ⟨by omega, h1, by rw [if_pos h1]⟩)
    · exact Or.inr (Or.inr ⟨by omega, by omega, by rw [if_neg h1]⟩)
/-- Whether such a row, and so many lost beside it, can be. -/
def loadB (m : Int) (L : List PairV) (l : Int) : Bool := goodB L && decide ((L.length : Int) ≤ m) && decide (L = [] → l = 0) && decide (sumP L + l ≤ 9223372036854775807) && decide (L ≠ [] → endP L - (firP L).1 < m)

/-- Lw w B S m K T: at block B lies a lowcap of m indexes that keeps K, of T in all; S are its blocks. -/
structure LowDoes (Lw : World → Nat → (Nat → Prop) → Int → List PairV → Int → Prop) : Prop where
  keep : ∀ (w w' : World) (B : Nat) (S : Nat → Prop) (m : Int) (K : List PairV) (T : Int), Lw w B S m K T → (∀ k, S k → w'.heap[k]? = w.heap[k]?) → Lw w' B S m K T
  lt : ∀ (w : World) (B : Nat) (S : Nat → Prop) (m : Int) (K : List PairV) (T : Int), Lw w B S m K T → ∀ k, S k → k < w.heap.size
  lwp : ∀ (w : World) (B : Nat) (S : Nat → Prop) (m : Int) (K : List PairV) (T : Int), Lw w B S m K T → Lwp m K T
  new : ∀ (w : World) (m : Int), 1 ≤ m → m ≤ 4096 → Calls Tryz.prog 105 #[.int .i64 m] w fun e w' => ∃ B S, e = .returned (.tuple #[.pointer (some ⟨B, 0, none⟩), .int .i64 0]) ∧ Lw w' B S m [] 0 ∧ (∀ k, S k → w.heap.size ≤ k) ∧ Below w.heap.size w w'
  bad : ∀ (w : World) (m : Int), I64 m → (m < 1 ∨ 4096 < m) → Calls Tryz.prog 105 #[.int .i64 m] w fun e w' => e = .returned (.tuple #[.pointer none, .int .i64 1]) ∧ Below w.heap.size w w'
  add : ∀ (w : World) (B : Nat) (S : Nat → Prop) (m : Int) (K : List PairV) (T i c : Int), Lw w B S m K T → K.length ≤ 700 → I64 i → Word c →
    Calls Tryz.prog 169 #[.pointer (some ⟨B, 0, none⟩), .int .i64 i, .int .u64 c] w fun e w' => ∃ S', e = .returned (.int .i64 (lwErr T c)) ∧ Lw w' B S' m (lwRow m K T i c) (lwSum T c) ∧ Keeps S w w' ∧ (∀ k, S' k → S k ∨ w.heap.size ≤ k)
  merge : ∀ (w : World) (B : Nat) (S : Nat → Prop) (m : Int) (K : List PairV) (T : Int) (B' : Nat) (S' : Nat → Prop) (K' : List PairV) (T' : Int), Lw w B S m K T → Lw w B' S' m K' T' → (B' = B ∨ ∀ k, S k → ¬ S' k) → K.length ≤ 300 → K'.length ≤ 300 → T + T' ≤ 9223372036854775807 →
    Calls Tryz.prog 89 #[.pointer (some ⟨B, 0, none⟩), .pointer (some ⟨B', 0, none⟩)] w fun e w' => ∃ S2, e = .returned (.int .i64 0) ∧ Lw w' B S2 m (keepP m (joinP K K')) (T + T') ∧ Keeps S w w' ∧ (∀ k, S2 k → S k ∨ w.heap.size ≤ k)
  other : ∀ (w : World) (B : Nat) (S : Nat → Prop) (m : Int) (K : List PairV) (T : Int) (B' : Nat) (S' : Nat → Prop) (m' : Int) (K' : List PairV) (T' : Int), Lw w B S m K T → Lw w B' S' m' K' T' → m ≠ m' →
    Calls Tryz.prog 89 #[.pointer (some ⟨B, 0, none⟩), .pointer (some ⟨B', 0, none⟩)] w fun e w' => e = .returned (.int .i64 8) ∧ Below w.heap.size w w'
  mnil : ∀ (w : World) (B : Nat) (S : Nat → Prop) (m : Int) (K : List PairV) (T : Int), Lw w B S m K T → Calls Tryz.prog 89 #[.pointer (some ⟨B, 0, none⟩), .pointer none] w fun e w' => e = .returned (.int .i64 2) ∧ Below w.heap.size w w'
  total : ∀ (w : World) (B : Nat) (S : Nat → Prop) (m : Int) (K : List PairV) (T : Int), Lw w B S m K T → K.length ≤ 700 →
    Calls Tryz.prog 98 #[.pointer (some ⟨B, 0, none⟩)] w fun e w' => e = .returned (.int .u64 T) ∧ Below w.heap.size w w'
  lost : ∀ (w : World) (B : Nat) (S : Nat → Prop) (m : Int) (K : List PairV) (T : Int), Lw w B S m K T →
    Calls Tryz.prog 110 #[.pointer (some ⟨B, 0, none⟩)] w fun e w' => e = .returned (.int .u64 (T - sumP K)) ∧ Below w.heap.size w w'
  pairs : ∀ (w : World) (B : Nat) (S : Nat → Prop) (m : Int) (K : List PairV) (T : Int), Lw w B S m K T → K.length ≤ 700 →
    Calls Tryz.prog 100 #[.pointer (some ⟨B, 0, none⟩)] w fun e w' => ∃ v, e = .returned v ∧ OwnP w' w.heap.size v K ∧ Below w.heap.size w w'
  most : ∀ (w : World) (B : Nat) (S : Nat → Prop) (m : Int) (K : List PairV) (T : Int), Lw w B S m K T →
    Calls Tryz.prog 172 #[.pointer (some ⟨B, 0, none⟩)] w fun e w' => e = .returned (.int .i64 m) ∧ Below w.heap.size w w'
  find : ∀ (w : World) (B : Nat) (S : Nat → Prop) (m : Int) (K : List PairV) (T t : Int), Lw w B S m K T → K.length ≤ 700 → Word t →
    Calls Tryz.prog 171 #[.pointer (some ⟨B, 0, none⟩), .int .u64 t] w fun e w' => e = .returned (.tuple #[.int .i64 ((findL K (T - sumP K) t).getD 0), .bool (findL K (T - sumP K) t).isSome]) ∧ Below w.heap.size w w'
  load : ∀ (w : World) (m : Int) (A : Option Addr) (cap : Nat) (L : List PairV) (l : Int), 1 ≤ m → m ≤ 4096 → Pairs w A L → L.length ≤ 300 → Word l → loadB m L l = true →
    Calls Tryz.prog 92 #[.int .i64 m, .slice A L.length cap, .int .u64 l] w fun e w' => ∃ B S, e = .returned (.tuple #[.pointer (some ⟨B, 0, none⟩), .int .i64 0]) ∧ Lw w' B S m L (sumP L + l) ∧ (∀ k, S k → w.heap.size ≤ k) ∧ Below w.heap.size w w'
  unfit : ∀ (w : World) (m : Int) (A : Option Addr) (cap : Nat) (L : List PairV) (l : Int), 1 ≤ m → m ≤ 4096 → Pairs w A L → L.length ≤ 300 → Word l → loadB m L l = false →
    Calls Tryz.prog 92 #[.int .i64 m, .slice A L.length cap, .int .u64 l] w fun e w' => e = .returned (.tuple #[.pointer none, .int .i64 1]) ∧ Below w.heap.size w w'
theorem LowDoes.call {Lw : World → Nat → (Nat → Prop) → Int → List PairV → Int → Prop} (D : LowDoes Lw) {w w' : World} {B : Nat} {S : Nat → Prop} {m : Int} {K : List PairV} {T : Int} (h : Lw w B S m K T) (hb : Below w.heap.size w w') : Lw w' B S m K T :=
  D.keep w w' B S m K T h fun k hk => hb.block k (D.lt _ _ _ _ _ _ h k hk)
theorem LowDoes.past {Lw : World → Nat → (Nat → Prop) → Int → List PairV → Int → Prop} (D : LowDoes Lw) {w w' : World} {B : Nat} {S S0 : Nat → Prop} {m : Int} {K : List PairV} {T : Int} (h : Lw w B S m K T) (hk : Keeps S0 w w') (hS : ∀ k, S k → ¬ S0 k) : Lw w' B S m K T :=
  D.keep w w' B S m K T h fun k hk' => hk.block k (D.lt _ _ _ _ _ _ h k hk') (hS k hk')

/-- A nil one. -/
structure LowNil : Prop where
  add : ∀ (w : World) (i c : Int), I64 i → Word c → Calls Tryz.prog 169 #[.pointer none, .int .i64 i, .int .u64 c] w fun e w' => e = .returned (.int .i64 2) ∧ Below w.heap.size w w'
  merge : ∀ (w : World), Calls Tryz.prog 89 #[.pointer none, .pointer none] w fun e w' => e = .returned (.int .i64 2) ∧ Below w.heap.size w w'
  total : ∀ (w : World), Calls Tryz.prog 98 #[.pointer none] w fun e w' => e = .returned (.int .u64 0) ∧ Below w.heap.size w w'
  lost : ∀ (w : World), Calls Tryz.prog 110 #[.pointer none] w fun e w' => e = .returned (.int .u64 0) ∧ Below w.heap.size w w'
  pairs : ∀ (w : World), Calls Tryz.prog 100 #[.pointer none] w fun e w' => ∃ A cap, e = .returned (.slice A 0 cap) ∧ Below w.heap.size w w'
  most : ∀ (w : World), Calls Tryz.prog 172 #[.pointer none] w fun e w' => e = .returned (.int .i64 0) ∧ Below w.heap.size w w'
  find : ∀ (w : World) (t : Int), Word t → Calls Tryz.prog 171 #[.pointer none, .int .u64 t] w fun e w' => e = .returned (.tuple #[.int .i64 0, .bool false]) ∧ Below w.heap.size w w'
end Go.Proofs.YtcijflakldggaaaGreat
