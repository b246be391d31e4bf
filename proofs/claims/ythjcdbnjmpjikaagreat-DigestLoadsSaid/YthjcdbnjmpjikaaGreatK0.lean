/-
  Texts joined, in build order: Math, SignM, QuillM, PairM, TreeM, DigM, DigN, DigO, DigQ, Two, SignA, PairS, QuillC, Obj, Ref7b.
-/
import Derived.Below
import Derived.Lib.Hide
import Derived.WalkKit
import Derived.Laws.BitsLemmas
import Derived.Laws.Bits64
import Derived.Laws.Bits64b
import Derived.Lib.Strings
import Derived.Lib.AppendStr
import Derived.Laws.Concat
import Derived.Laws.Shifts
import Derived.Test.YthjcdbnjmpjikaaGreatRows
import Derived.WalkSpells
import Derived.WalkLawsBesides
import Derived.RowKit3
import Derived.WalkMore
import Derived.LoopTactic
import Derived.OwnWalk
import Derived.OneCell
import Derived.Outline
import Derived.Deep.Slices
import Derived.Deep.Fields
import Derived.SizedLaws
import Derived.Carry
import Derived.Laws.AppendOwnNone
import Derived.StillTailTactics
import Derived.Deep.QuietTactic
import Derived.BigQuiet
import Derived.Laws.BytesArg
import Derived.Deep.Onto
/-
  Plain mathematics of numbers of 64 and of 128 bits: no program in sight.
-/
namespace Go.Proofs.YthjcdbnjmpjikaaGreat
set_option linter.unusedVariables false

/-- A number that fits 64 bits without a sign. -/
def Word (x : Int) : Prop := 0 ≤ x ∧ x < 18446744073709551616
/-- The number that two words tell. -/
def wval (h l : Int) : Int := h * 18446744073709551616 + l
/-- The upper and the lower word of a number, modulo 2^128. -/
def hiW (n : Int) : Int := n / 18446744073709551616 % 18446744073709551616
def loW (n : Int) : Int := n % 18446744073709551616
/-- Whether a sum has no room in 128 bits; whether a difference is below 0. -/
def carryB (n : Int) : Bool := decide (340282366920938463463374607431768211456 ≤ n)
def belowB (n : Int) : Bool := decide (n < 0)

theorem word_hi (n : Int) : Word (hiW n) := by unfold Word hiW; omega
theorem word_lo (n : Int) : Word (loW n) := by unfold Word loW; omega
theorem wval_bd {h l : Int} (wh : Word h) (wl : Word l) : 0 ≤ wval h l ∧ wval h l < 340282366920938463463374607431768211456 := by
  unfold Word at *; unfold wval; omega
theorem hi_wval {h l : Int} (wh : Word h) (wl : Word l) : hiW (wval h l) = h := by
  unfold Word at *; unfold hiW wval; omega
theorem lo_wval {h l : Int} (wl : Word l) : loW (wval h l) = l := by
  unfold Word at *; unfold loW wval; omega
theorem wval_split {n : Int} (h0 : 0 ≤ n) (h1 : n < 340282366920938463463374607431768211456) : wval (hiW n) (loW n) = n := by
  unfold wval hiW loW; omega
theorem wval_mod (n : Int) : wval (hiW n) (loW n) = n % 340282366920938463463374607431768211456 := by
  unfold wval hiW loW; omega
theorem word_small {x : Int} (h0 : 0 ≤ x) (h1 : x ≤ 18446744073709551615) : Word x := ⟨h0, by omega⟩

/-- The borrow, under a name. -/
def bor (x y : Int) : Int := if x < y then 1 else 0
theorem bor_bd (x y : Int) : 0 ≤ bor x y ∧ bor x y ≤ 1 := by unfold bor; split <;> omega

/-- Add, word by word. -/
theorem add_lo (ah al bh bl : Int) : (al + bl) % 18446744073709551616 = loW (wval ah al + wval bh bl) := by
  unfold loW wval; omega
theorem add_hi (ah al bh bl : Int) : (ah + bh + (al + bl) / 18446744073709551616) % 18446744073709551616 = hiW (wval ah al + wval bh bl) := by
  unfold hiW wval; omega
theorem sub_lo (ah al bh bl : Int) : (al - bl) % 18446744073709551616 = loW (wval ah al - wval bh bl) := by
  unfold loW wval; omega
theorem sub_hi (ah al bh bl : Int) (wa : Word al) (wb : Word bl) : (ah - bh - bor al bl) % 18446744073709551616 = hiW (wval ah al - wval bh bl) := by
  unfold Word at *; unfold hiW wval bor; split <;> omega
theorem sub_below (ah al bh bl : Int) (wa : Word al) (wb : Word bl) : decide (ah < bh + bor al bl) = belowB (wval ah al - wval bh bl) := by
  unfold Word at *; unfold belowB wval bor; split <;> (apply decide_eq_decide.2; omega)

theorem less_lo (ah al bl : Int) : belowB (wval ah al - wval ah bl) = decide (al < bl) := by
  unfold belowB wval; apply decide_eq_decide.2; omega
theorem less_hi (ah al bh bl : Int) (wa : Word al) (wb : Word bl) (h : ¬ ah = bh) : belowB (wval ah al - wval bh bl) = decide (ah < bh) := by
  unfold Word at *; unfold belowB wval; apply decide_eq_decide.2; omega
theorem sub_bor (ah al bh bl : Int) (wa : Word al) (wb : Word bl) : (bor ah (bh + bor al bl) != 0) = belowB (wval ah al - wval bh bl) := by
  have h := sub_below ah al bh bl wa wb
  rw [← h]
  generalize bor al bl = k
  unfold bor
  split <;> simp_all

/-- Add by halves, as the reference does it: three ways. -/
theorem radd_lo (ah al bh bl : Int) : IntKind.u64.wrap (al + bl) = loW (wval ah al + wval bh bl) := by
  rw [IntKind.wrap_u64]; unfold loW wval; omega
theorem radd_hiA {ah al bh bl : Int} (wa : Word al) (wb : Word bl) (h : ¬ IntKind.u64.wrap (al + bl) < al) : IntKind.u64.wrap (ah + bh) = hiW (wval ah al + wval bh bl) := by
  rw [IntKind.wrap_u64] at *; unfold Word at *; unfold hiW wval; omega
theorem radd_cA {ah al bh bl : Int} (w1 : Word ah) (wa : Word al) (w3 : Word bh) (wb : Word bl) (h : ¬ IntKind.u64.wrap (al + bl) < al) : decide (IntKind.u64.wrap (ah + bh) < ah) = carryB (wval ah al + wval bh bl) := by
  rw [IntKind.wrap_u64] at *; unfold Word at *; unfold carryB wval; apply decide_eq_decide.2; omega
theorem radd_hiB {ah al bh bl : Int} (wa : Word al) (wb : Word bl) (h : IntKind.u64.wrap (al + bl) < al) : IntKind.u64.wrap (IntKind.u64.wrap (ah + bh) + 1) = hiW (wval ah al + wval bh bl) := by
  simp only [IntKind.wrap_u64] at *; unfold Word at *; unfold hiW wval; omega
theorem radd_cB1 {ah al bh bl : Int} (w1 : Word ah) (wa : Word al) (w3 : Word bh) (wb : Word bl) (h : IntKind.u64.wrap (al + bl) < al) (h2 : IntKind.u64.wrap (ah + bh) < ah) : true = carryB (wval ah al + wval bh bl) := by
  simp only [IntKind.wrap_u64] at *; unfold Word at *; unfold carryB wval; symm; apply decide_eq_true; omega
theorem radd_cB2 {ah al bh bl : Int} (w1 : Word ah) (wa : Word al) (w3 : Word bh) (wb : Word bl) (h : IntKind.u64.wrap (al + bl) < al) (h2 : ¬ IntKind.u64.wrap (ah + bh) < ah) : (IntKind.u64.wrap (IntKind.u64.wrap (ah + bh) + 1) == 0) = carryB (wval ah al + wval bh bl) := by
  simp only [IntKind.wrap_u64] at *; unfold Word at *; unfold carryB wval
  rw [Bool.eq_iff_iff]; simp only [beq_iff_eq, decide_eq_true_eq]; omega

/-- What is left, by the complement. -/
def compW (b : Int) : Int := 340282366920938463463374607431768211455 - b
theorem comp_wval (bh bl : Int) : wval (18446744073709551615 - bh) (18446744073709551615 - bl) = compW (wval bh bl) := by unfold wval compW; omega
theorem rsub_hi (a b : Int) : hiW (wval (hiW (a + compW b)) (loW (a + compW b)) + wval 0 1) = hiW (a - b) := by
  unfold hiW loW wval compW; omega
theorem rsub_lo (a b : Int) : loW (wval (hiW (a + compW b)) (loW (a + compW b)) + wval 0 1) = loW (a - b) := by
  unfold hiW loW wval compW; omega

/-- -1, 0 or 1. -/
def cmpW (a b : Int) : Int := if a < b then -1 else if a = b then 0 else 1
theorem cmp_eq (a : Int) : cmpW a a = 0 := by unfold cmpW; simp
theorem cmp_lt {ah al bh bl : Int} (h : wval ah al < wval bh bl) : cmpW (wval ah al) (wval bh bl) = -1 := by unfold cmpW; rw [if_pos h]
theorem cmp_gt {ah al bh bl : Int} (h : wval bh bl < wval ah al) : cmpW (wval ah al) (wval bh bl) = 1 := by
  unfold cmpW; rw [if_neg (by omega), if_neg (by omega)]
theorem wval_lt {ah al bh bl : Int} (wa : Word al) (wb : Word bl) : wval ah al < wval bh bl ↔ ah < bh ∨ ah = bh ∧ al < bl := by
  unfold Word at *; unfold wval; omega
theorem wval_inj {ah al bh bl : Int} (wa : Word al) (wb : Word bl) (h : wval ah al = wval bh bl) : ah = bh ∧ al = bl := by
  unfold Word at *; unfold wval at h; omega

open Go.RowKit in
/-- Behind a callee that makes memory: all old cells, and all old marks, read as before. -/
theorem bcell {W w1 : World} (hb : Below W.heap.size W w1) : (∀ b o, b < W.heap.size → w1.cell? ⟨b, o, none⟩ = W.cell? ⟨b, o, none⟩) ∧ (∀ b o, b < W.heap.size → w1.frozen? ⟨b, o, none⟩ = W.frozen? ⟨b, o, none⟩) :=
  ⟨fun b o h => hb.cell (p := ⟨b, o, none⟩) h, fun b o h => hb.frozen (p := ⟨b, o, none⟩) h⟩
theorem ret_int {k : IntKind} {a b : Int} (h : a = b) : Ending.returned (.int k a) = .returned (.int k b) := by rw [h]
theorem ret_bool {a b : Bool} (h : a = b) : Ending.returned (.bool a) = .returned (.bool b) := by rw [h]
theorem word_comp {b : Int} (h : Word b) : Word (18446744073709551615 - b) := by unfold Word at *; omega

/-- The sum of a row of numbers of two words. -/
def sumW : List (Int × Int) → Int
  | [] => 0
  | x :: r => wval x.1 x.2 + sumW r
theorem sumW_app (a b : List (Int × Int)) : sumW (a ++ b) = sumW a + sumW b := by
  induction a with
  | nil => simp [sumW]
  | cons x r ih => simp only [List.cons_append, sumW, ih]; omega
theorem sumW_take {xs : List (Int × Int)} {k : Nat} {x : Int × Int} (h : xs[k]? = some x) : sumW (xs.take (k + 1)) = sumW (xs.take k) + wval x.1 x.2 := by
  have hk : k < xs.length := by
    rcases Nat.lt_or_ge k xs.length with h' | h'
    · exact h'
    · rw [List.getElem?_eq_none h'] at h; cases h
  rw [List.take_succ_eq_append_getElem hk, sumW_app]
  have : xs[k] = x := by rw [List.getElem?_eq_getElem hk] at h; exact Option.some.inj h
  rw [this]; simp [sumW]
theorem sumW_nonneg {xs : List (Int × Int)} (h : ∀ x ∈ xs, Word x.1 ∧ Word x.2) : 0 ≤ sumW xs := by
  induction xs with
  | nil => simp [sumW]
  | cons x r ih =>
    have h1 := wval_bd (h x (by simp)).1 (h x (by simp)).2
    have h2 := ih (fun y hy => h y (by simp [hy]))
    simp only [sumW]; omega
/-- One step of a sum that goes round. -/
theorem sum_lo (S bh bl : Int) : (loW S + bl) % 18446744073709551616 = loW (S + wval bh bl) := by unfold loW wval; omega
theorem sum_hi (S bh bl : Int) : (hiW S + bh + (loW S + bl) / 18446744073709551616) % 18446744073709551616 = hiW (S + wval bh bl) := by
  unfold hiW loW wval; omega
theorem sum_carry {S bh bl : Int} (h0 : 0 ≤ S) (w1 : Word bh) (w2 : Word bl) : (carryB S || (hiW S + bh + (loW S + bl) / 18446744073709551616) / 18446744073709551616 != 0) = carryB (S + wval bh bl) := by
  unfold Word at *; unfold carryB hiW loW wval
  rw [Bool.eq_iff_iff]; simp only [Bool.or_eq_true, decide_eq_true_eq, bne_iff_ne]; omega

/-- Products of halves of 32 bits. -/
theorem half_mul {x y : Int} (hx : 0 ≤ x) (hx' : x < 4294967296) (hy : 0 ≤ y) (hy' : y < 4294967296) : 0 ≤ x * y ∧ x * y ≤ 18446744065119617025 := by
  refine ⟨Int.mul_nonneg hx hy, ?_⟩
  have h := Int.mul_le_mul (show x ≤ 4294967295 by omega) (show y ≤ 4294967295 by omega) hy (by omega)
  omega
theorem halves_mul (ah al bh bl : Int) : wval (ah * bh) (al * bl) + (ah * bl) * 4294967296 + (al * bh) * 4294967296 = (ah * 4294967296 + al) * (bh * 4294967296 + bl) := by
  unfold wval
  rw [Int.add_mul, Int.mul_add, Int.mul_add]
  have e1 : ah * 4294967296 * (bh * 4294967296) = ah * bh * 18446744073709551616 := by
    rw [Int.mul_assoc ah, ← Int.mul_assoc 4294967296 bh, Int.mul_comm 4294967296 bh, Int.mul_assoc bh, ← Int.mul_assoc]; rfl
  have e2 : ah * 4294967296 * bl = ah * bl * 4294967296 := by rw [Int.mul_assoc, Int.mul_comm 4294967296, ← Int.mul_assoc]
  have e3 : al * (bh * 4294967296) = al * bh * 4294967296 := by rw [Int.mul_assoc]
  rw [e1, e2, e3]; omega
theorem times_parts (a b : Int) : wval (a / 4294967296 * (b / 4294967296)) (a % 4294967296 * (b % 4294967296)) + (a / 4294967296 * (b % 4294967296)) * 4294967296 + (a % 4294967296 * (b / 4294967296)) * 4294967296 = a * b := by
  rw [halves_mul]
  congr 1 <;> omega
theorem shift_wval {m : Int} : wval (m / 4294967296) (m % 4294967296 * 4294967296) = m * 4294967296 := by unfold wval; omega
theorem hi_add (s v : Int) : hiW (wval (hiW s) (loW s) + v) = hiW (s + v) := by unfold hiW loW wval; omega
theorem lo_add (s v : Int) : loW (wval (hiW s) (loW s) + v) = loW (s + v) := by unfold hiW loW wval; omega

/-- The sum of a row of numbers. -/
def sumI : List Int → Int
  | [] => 0
  | x :: r => x + sumI r
theorem sumI_app (a b : List Int) : sumI (a ++ b) = sumI a + sumI b := by
  induction a with
  | nil => simp [sumI]
  | cons x r ih => simp only [List.cons_append, sumI, ih]; omega
theorem sumI_take {xs : List Int} {k : Nat} {x : Int} (h : xs[k]? = some x) : sumI (xs.take (k + 1)) = sumI (xs.take k) + x := by
  have hk : k < xs.length := by
    rcases Nat.lt_or_ge k xs.length with h' | h'
    · exact h'
    · rw [List.getElem?_eq_none h'] at h; cases h
  rw [List.take_succ_eq_append_getElem hk, sumI_app]
  have : xs[k] = x := by rw [List.getElem?_eq_getElem hk] at h; exact Option.some.inj h
  rw [this]; simp [sumI]
theorem sumI_nonneg {xs : List Int} (h : ∀ x ∈ xs, 0 ≤ x) : 0 ≤ sumI xs := by
  induction xs with
  | nil => simp [sumI]
  | cons x r ih =>
    have h1 := h x (by simp)
    have h2 := ih (fun y hy => h y (by simp [hy]))
    simp only [sumI]; omega
theorem sumI_mono {xs : List Int} (h : ∀ x ∈ xs, 0 ≤ x) (k : Nat) : sumI (xs.take k) ≤ sumI xs := by
  have e := sumI_app (xs.take k) (xs.drop k)
  rw [List.take_append_drop] at e
  have := sumI_nonneg (xs := xs.drop k) (fun x hx => h x (List.mem_of_mem_drop hx))
  omega
/-- A sum of counts. -/
def plB (xs : List Int) : Bool := decide (sumI xs ≤ 9223372036854775807)
def plQ (xs : List Int) : Int := if plB xs = true then sumI xs else 0

theorem mul_bd {a b : Int} (wa : Word a) (wb : Word b) : 0 ≤ a * b ∧ a * b < 340282366920938463463374607431768211456 := by
  obtain ⟨a0, a1⟩ := wa; obtain ⟨b0, b1⟩ := wb
  refine ⟨Int.mul_nonneg a0 b0, ?_⟩
  have := Int.mul_le_mul (show a ≤ 18446744073709551615 by omega) (show b ≤ 18446744073709551615 by omega) b0 (by omega)
  omega

end Go.Proofs.YthjcdbnjmpjikaaGreat

/-
  Plain mathematics of numbers of 64 bits with a sign: no program in sight.
-/
namespace Go.Proofs.YthjcdbnjmpjikaaGreat
set_option linter.unusedVariables false

/-- A number that fits 64 bits with a sign. -/
def I64 (x : Int) : Prop := -9223372036854775808 ≤ x ∧ x ≤ 9223372036854775807
theorem i64_of_wf {x : Int} (h : (Lit.int .i64 x).wf = true) : I64 x := by
  simp [Lit.wf, IntKind.min, IntKind.max, IntKind.signed, IntKind.bits] at h
  exact ⟨by omega, by omega⟩
/-- How far a number is from 0; how far two are from one another. -/
def mag (x : Int) : Int := if x < 0 then -x else x
def gap (a b : Int) : Int := if a < b then b - a else a - b
/-- Numbers with a sign as such without. -/
def zig (x : Int) : Int := if x < 0 then -2 * x - 1 else 2 * x
def zag (u : Int) : Int := if u % 2 = 1 then -(u / 2) - 1 else u / 2
def key (x : Int) : Int := x + 9223372036854775808
def back (u : Int) : Int := u - 9223372036854775808
/-- Whether there is a value of such a magnitude, and which one. -/
def canB (m : Int) (below : Bool) : Bool := decide (m < 9223372036854775808) || (below && decide (m = 9223372036854775808))
def valI (m : Int) (below : Bool) : Int := if canB m below = true then (if below = true then -m else m) else 0
/-- Whether one lies close to another one. -/
def nearB (r x n d : Int) : Bool := decide (gap r x * d ≤ n * mag x)

theorem mag_word {x : Int} (h : I64 x) : Word (mag x) := by unfold I64 at h; unfold Word mag; split <;> omega
theorem mag_bd {x : Int} (h : I64 x) : 0 ≤ mag x ∧ mag x ≤ 9223372036854775808 := by unfold I64 at h; unfold mag; split <;> omega
theorem gap_word {a b : Int} (ha : I64 a) (hb : I64 b) : Word (gap a b) := by unfold I64 at *; unfold Word gap; split <;> omega
theorem zig_word {x : Int} (h : I64 x) : Word (zig x) := by unfold I64 at h; unfold Word zig; split <;> omega
theorem zag_i64 {u : Int} (h : Word u) : I64 (zag u) := by unfold Word at h; unfold I64 zag; split <;> omega
theorem key_word {x : Int} (h : I64 x) : Word (key x) := by unfold I64 at h; unfold Word key; omega
theorem back_i64 {u : Int} (h : Word u) : I64 (back u) := by unfold Word at h; unfold I64 back; omega
theorem zag_zig {x : Int} : zag (zig x) = x := by unfold zag zig; split <;> split <;> omega
theorem zig_zag {u : Int} (h : Word u) : zig (zag u) = u := by unfold Word at h; unfold zag zig; split <;> split <;> omega
theorem back_key (x : Int) : back (key x) = x := by unfold back key; omega
theorem key_back (u : Int) : key (back u) = u := by unfold back key; omega
theorem valI_i64 {m : Int} {b : Bool} (h : Word m) : I64 (valI m b) := by
  unfold Word at h; unfold I64 valI canB
  cases b <;> simp <;> split <;> omega
theorem valI_mag {x : Int} (h : I64 x) : canB (mag x) (decide (x < 0)) = true ∧ valI (mag x) (decide (x < 0)) = x := by
  have e : canB (mag x) (decide (x < 0)) = true := by
    unfold I64 at h; unfold canB mag
    by_cases h0 : x < 0
    · simp [h0]; omega
    · simp [h0]; omega
  refine ⟨e, ?_⟩
  unfold valI; rw [if_pos e]
  unfold mag
  by_cases h0 : x < 0 <;> simp [h0]
theorem mag_valI {m : Int} {b : Bool} (h : Word m) (hc : canB m b = true) : mag (valI m b) = m := by
  unfold valI; rw [if_pos hc]; unfold Word at h; unfold mag
  cases b <;> simp <;> omega
theorem neg_valI {m : Int} {b : Bool} (h : Word m) (hc : canB m b = true) : decide (valI m b < 0) = (b && decide (0 < m)) := by
  unfold valI; rw [if_pos hc]; unfold Word at h
  cases b <;> simp <;> omega
theorem valI_no {m : Int} {b : Bool} (hc : canB m b = false) : valI m b = 0 := by unfold valI; rw [hc]; rfl
theorem gap_comm (a b : Int) : gap a b = gap b a := by unfold gap; split <;> split <;> omega
theorem gap_zero (a b : Int) : (gap a b == 0) = (a == b) := by
  rw [Bool.eq_iff_iff]; simp only [beq_iff_eq]; unfold gap; split <;> omega
theorem gap_tri (a b c : Int) : gap a b ≤ gap a c + gap c b := by unfold gap; split <;> split <;> split <;> omega
theorem gap_one {a b : Int} (h : decide (a < 0) = decide (b < 0)) : gap a b = max (mag a) (mag b) - min (mag a) (mag b) := by
  have : (a < 0 ↔ b < 0) := by simpa using h
  unfold gap mag; split <;> split <;> split <;> omega
theorem gap_two {a b : Int} (h : ¬ (a < 0 ↔ b < 0)) : gap a b = mag a + mag b := by
  unfold gap mag; split <;> split <;> split <;> omega
theorem zig_neg {x : Int} (h : x < 0) : zig x = 2 * (mag x - 1) + 1 := by unfold zig mag; rw [if_pos h, if_pos h]; omega
theorem zig_pos {x : Int} (h : ¬ x < 0) : zig x = 2 * mag x := by unfold zig mag; rw [if_neg h, if_neg h]
theorem not_i64 {x : Int} (h : I64 x) : bits .xor .i64 (-1) x = -x - 1 := by
  unfold I64 at h
  show IntKind.i64.wrap ((BitVec.ofInt 64 (-1) ^^^ BitVec.ofInt 64 x).toNat : Int) = _
  have e : BitVec.ofInt 64 (-1) = BitVec.allOnes 64 := by decide
  have e2 : (BitVec.ofInt 64 x).toNat = (x % 18446744073709551616).toNat := by rw [BitVec.toNat_ofInt]; rfl
  rw [e, BitVec.allOnes_xor, BitVec.toNat_not, e2, IntKind.wrap_i64]
  omega
theorem or_one {x : Int} (h0 : 0 ≤ x) (h1 : x < 18446744073709551616) (h2 : x % 2 = 0) : bits .or .u64 x 1 = x + 1 :=
  bits_join .u64 64 (by decide) (fun n a b => by rw [IntKind.wrap_u64]; omega) 1 x 1 h0 (by simpa using h2) (by omega) (by decide) (by decide) (by decide)
theorem and_one {x : Int} (h0 : 0 ≤ x) (h1 : x < 18446744073709551616) : bits .and .u64 x 1 = x % 2 := by
  have h := bits_mask .u64 64 (by decide) (fun n a b => by rw [IntKind.wrap_u64]; omega) 1 (by decide) x h0 (by omega)
  simpa using h
end Go.Proofs.YthjcdbnjmpjikaaGreat

/-
  Plain mathematics of numbers as bytes, seven bits in each: no program in sight.
-/
namespace Go.Proofs.YthjcdbnjmpjikaaGreat
set_option linter.unusedVariables false
set_option linter.unusedSimpArgs false

/-- A number's bytes, with fuel; a number's bytes. -/
def natF : Nat → Nat → List UInt8
  | 0, n => [UInt8.ofNat n]
  | k + 1, n => if n < 128 then [UInt8.ofNat n] else UInt8.ofNat (n % 128 + 128) :: natF k (n / 128)
def natB (n : Nat) : List UInt8 := natF n n
theorem natF_fuel : ∀ (k j n : Nat), n ≤ k → n ≤ j → natF k n = natF j n := by
  intro k
  induction k with
  | zero => intro j n h1 h2; obtain rfl : n = 0 := by omega
            cases j <;> simp [natF]
  | succ k ih =>
    intro j n h1 h2
    cases j with
    | zero => obtain rfl : n = 0 := by omega
              simp [natF]
    | succ j =>
      unfold natF
      split
      · rfl
      · rw [ih j (n / 128) (by omega) (by omega)]
theorem natB_lt {n : Nat} (h : n < 128) : natB n = [UInt8.ofNat n] := by
  unfold natB
  cases n with
  | zero => rfl
  | succ n => unfold natF; rw [if_pos h]
theorem natB_ge {n : Nat} (h : ¬ n < 128) : natB n = UInt8.ofNat (n % 128 + 128) :: natB (n / 128) := by
  unfold natB
  cases n with
  | zero => omega
  | succ n =>
    rw [show natF (n + 1) (n + 1) = UInt8.ofNat ((n + 1) % 128 + 128) :: natF n ((n + 1) / 128) from by rw [natF, if_neg h]]
    rw [natF_fuel n ((n + 1) / 128) _ (by omega) (Nat.le_refl _)]
theorem natB_300 : natB 300 = [172, 2] := by
  rw [natB_ge (by omega), natB_lt (by omega)]; rfl

/-- The number that bytes tell. -/
def valL : List UInt8 → Nat
  | [] => 0
  | b :: r => b.toNat % 128 + 128 * valL r
theorem toNat_low {n : Nat} (h : n < 256) : (UInt8.ofNat n).toNat = n := by
  rw [UInt8.toNat_ofNat']; omega
theorem valL_nat : ∀ (k n : Nat), n ≤ k → valL (natB n) = n := by
  intro k
  induction k with
  | zero => intro n h; obtain rfl : n = 0 := by omega
            rw [natB_lt (by omega)]; rfl
  | succ k ih =>
    intro n h
    by_cases hn : n < 128
    · rw [natB_lt hn]; unfold valL valL; rw [toNat_low (by omega)]; omega
    · rw [natB_ge hn]; unfold valL; rw [toNat_low (by omega), ih (n / 128) (by omega)]; omega
theorem valL_natB (n : Nat) : valL (natB n) = n := valL_nat n n (Nat.le_refl _)

/-- Whether a byte tells that others follow. -/
def hiB (b : UInt8) : Bool := decide (128 ≤ b.toNat)
/-- The place of the first byte that tells that none follows. -/
def stopAt : List UInt8 → Option Nat
  | [] => none
  | b :: r => if hiB b then (stopAt r).map (· + 1) else some 0
/-- The number at the beginning, and how many bytes it has; 0: there is none. -/
def firstS (l : List UInt8) : Nat × Nat :=
  match stopAt l with
  | none => (0, 0)
  | some j => if j < 10 ∧ valL (l.take (j + 1)) < 18446744073709551616 ∧ (j = 0 ∨ (l.getD j 0).toNat ≠ 0) then (valL (l.take (j + 1)), j + 1) else (0, 0)
/-- Likewise, of at most so much. -/
def takS (l : List UInt8) (most : Nat) : Nat × Nat := if (firstS l).2 = 0 ∨ most < (firstS l).1 then (0, 0) else firstS l

theorem stopAt_none : ∀ {l : List UInt8}, l.all hiB = true → stopAt l = none := by
  intro l
  induction l with
  | nil => intro _; rfl
  | cons b r ih =>
    intro h
    simp only [List.all_cons, Bool.and_eq_true] at h
    unfold stopAt; rw [if_pos h.1, ih h.2]; rfl
theorem stopAt_some : ∀ {l : List UInt8} {k : Nat} {b : UInt8}, (l.take k).all hiB = true → l[k]? = some b → hiB b = false → stopAt l = some k := by
  intro l
  induction l with
  | nil => intro k b _ h _; simp at h
  | cons c r ih =>
    intro k b h1 h2 h3
    cases k with
    | zero => simp at h2; subst h2; unfold stopAt; rw [h3]; rfl
    | succ k =>
      simp only [List.take_succ_cons, List.all_cons, Bool.and_eq_true] at h1
      unfold stopAt
      rw [if_pos h1.1, ih h1.2 (by simpa using h2) h3]; rfl
theorem stopAt_ge : ∀ {l : List UInt8} {k j : Nat}, (l.take k).all hiB = true → stopAt l = some j → k ≤ l.length → k ≤ j := by
  intro l
  induction l with
  | nil => intro k j _ h _; cases h
  | cons c r ih =>
    intro k j h1 h2 hk
    cases k with
    | zero => omega
    | succ k =>
      simp only [List.take_succ_cons, List.all_cons, Bool.and_eq_true] at h1
      unfold stopAt at h2
      rw [if_pos h1.1] at h2
      cases hs : stopAt r with
      | none => rw [hs] at h2; cases h2
      | some i =>
        rw [hs] at h2
        have := ih h1.2 hs (by simpa using hk)
        simp at h2
        omega
theorem firstS_end {l : List UInt8} (h : l.all hiB = true) : firstS l = (0, 0) := by unfold firstS; rw [stopAt_none h]
theorem firstS_far {l : List UInt8} (h : (l.take 10).all hiB = true) (hl : 10 ≤ l.length) : firstS l = (0, 0) := by
  unfold firstS
  cases hs : stopAt l with
  | none => rfl
  | some j =>
    have := stopAt_ge h hs hl
    show (if j < 10 ∧ valL (l.take (j + 1)) < 18446744073709551616 ∧ (j = 0 ∨ (l.getD j 0).toNat ≠ 0) then (valL (l.take (j + 1)), j + 1) else (0, 0)) = (0, 0)
    rw [if_neg (by omega)]
theorem firstS_at {l : List UInt8} {k : Nat} {b : UInt8} (h1 : (l.take k).all hiB = true) (h2 : l[k]? = some b) (h3 : hiB b = false) :
    firstS l = if k < 10 ∧ valL (l.take (k + 1)) < 18446744073709551616 ∧ (k = 0 ∨ b.toNat ≠ 0) then (valL (l.take (k + 1)), k + 1) else (0, 0) := by
  unfold firstS
  rw [stopAt_some h1 h2 h3]
  have : l.getD k 0 = b := by simp [List.getD, h2]
  show (if k < 10 ∧ valL (l.take (k + 1)) < 18446744073709551616 ∧ (k = 0 ∨ (l.getD k 0).toNat ≠ 0) then (valL (l.take (k + 1)), k + 1) else (0, 0)) = _
  rw [this]
theorem lt_of_some {l : List UInt8} {k : Nat} {b : UInt8} (h : l[k]? = some b) : k < l.length := by
  rcases Nat.lt_or_ge k l.length with h' | h'
  · exact h'
  · rw [List.getElem?_eq_none h'] at h; cases h
theorem take_some {l : List UInt8} {k : Nat} {b : UInt8} (h : l[k]? = some b) : l.take (k + 1) = l.take k ++ [b] := by
  have hk := lt_of_some h
  rw [List.take_succ_eq_append_getElem hk]
  rw [List.getElem?_eq_getElem hk] at h
  rw [Option.some.inj h]
theorem allH_take {l : List UInt8} {k : Nat} {b : UInt8} (h : l[k]? = some b) : (l.take (k + 1)).all hiB = ((l.take k).all hiB && hiB b) := by
  rw [take_some h]; simp
theorem valL_app : ∀ (l : List UInt8) (b : UInt8), valL (l ++ [b]) = valL l + b.toNat % 128 * 128 ^ l.length := by
  intro l b
  induction l with
  | nil => simp [valL]
  | cons c r ih =>
    rw [List.cons_append]; unfold valL; rw [ih, List.length_cons, Nat.pow_succ, Nat.mul_add]
    have : b.toNat % 128 * (128 ^ r.length * 128) = 128 * (b.toNat % 128 * 128 ^ r.length) := by
      rw [Nat.mul_comm 128 (b.toNat % 128 * 128 ^ r.length), Nat.mul_assoc]
    omega
theorem valL_lt : ∀ (l : List UInt8), valL l < 128 ^ l.length := by
  intro l
  induction l with
  | nil => simp [valL]
  | cons c r ih => unfold valL; rw [List.length_cons, Nat.pow_succ]; have := Nat.mod_lt c.toNat (show 0 < 128 by decide); omega
theorem valL_take {l : List UInt8} {k : Nat} {b : UInt8} (h : l[k]? = some b) : valL (l.take (k + 1)) = valL (l.take k) + b.toNat % 128 * 128 ^ k := by
  rw [take_some h, valL_app, List.length_take, Nat.min_eq_left (Nat.le_of_lt (lt_of_some h))]
theorem valL_take_lt (l : List UInt8) (k : Nat) : valL (l.take k) < 128 ^ k := by
  refine Nat.lt_of_lt_of_le (valL_lt _) (Nat.pow_le_pow_right (by decide) ?_)
  rw [List.length_take]; omega

/-- A number's bytes: all but the last one tell that others follow; none is over. -/
theorem natB_shape : ∀ (k n : Nat), n ≤ k → ∃ p b, natB n = p ++ [b] ∧ p.all hiB = true ∧ hiB b = false ∧ (p.length = 0 ∨ b.toNat ≠ 0) := by
  intro k
  induction k with
  | zero => intro n h; obtain rfl : n = 0 := by omega
            exact ⟨[], 0, by rw [natB_lt (by omega)]; rfl, rfl, rfl, Or.inl rfl⟩
  | succ k ih =>
    intro n h
    by_cases hn : n < 128
    · exact ⟨[], UInt8.ofNat n, by rw [natB_lt hn]; rfl, rfl, by unfold hiB; rw [toNat_low (by omega)]; simp; omega, Or.inl rfl⟩
    · obtain ⟨p, b, e, h1, h2, h3⟩ := ih (n / 128) (by omega)
      refine ⟨UInt8.ofNat (n % 128 + 128) :: p, b, by rw [natB_ge hn, e]; rfl, ?_, h2, Or.inr ?_⟩
      · rw [List.all_cons, h1]; unfold hiB; rw [toNat_low (by omega)]; simp
      · rcases h3 with h3 | h3
        · have hp : p = [] := List.eq_nil_of_length_eq_zero h3
          subst hp
          have hv := valL_natB (n / 128)
          rw [e] at hv
          simp only [List.nil_append, valL] at hv
          intro h0
          rw [h0] at hv; omega
        · exact h3
theorem natB_len : ∀ (k n : Nat), n < 128 ^ (k + 1) → (natB n).length ≤ k + 1 := by
  intro k
  induction k with
  | zero => intro n h; rw [natB_lt (by simpa using h)]; simp
  | succ k ih =>
    intro n h
    by_cases hn : n < 128
    · rw [natB_lt hn]; simp
    · rw [natB_ge hn, List.length_cons]
      have := ih (n / 128) (by rw [Nat.pow_succ] at h; omega)
      omega
theorem natB_len10 {n : Nat} (h : n < 18446744073709551616) : (natB n).length ≤ 10 := by
  by_cases h9 : n < 128 ^ 9
  · have := natB_len 8 n h9; omega
  · exact natB_len 9 n (Nat.lt_of_lt_of_le h (by decide))
theorem natB_pos (n : Nat) : 1 ≤ (natB n).length := by
  obtain ⟨p, b, e, _⟩ := natB_shape n n (Nat.le_refl _)
  rw [e, List.length_append]; simp

/-- A number's bytes, whatever stands behind, are read as the number. -/
theorem firstS_nat {n : Nat} (h : n < 18446744073709551616) (r : List UInt8) : firstS (natB n ++ r) = (n, (natB n).length) := by
  have hl := natB_len10 h
  have hv := valL_natB n
  obtain ⟨p, b, e, h1, h2, h3⟩ := natB_shape n n (Nat.le_refl _)
  rw [e] at hv hl ⊢
  have hk : (p ++ [b] ++ r)[p.length]? = some b := by
    rw [List.append_assoc, List.getElem?_append_right (Nat.le_refl _)]; simp
  have ht : (p ++ [b] ++ r).take p.length = p := by
    rw [List.append_assoc]; exact List.take_left
  have ht1 : (p ++ [b] ++ r).take (p.length + 1) = p ++ [b] := by
    rw [take_some hk, ht]
  rw [firstS_at (by rw [ht]; exact h1) hk h2, ht1, hv]
  rw [List.length_append] at hl
  simp only [List.length_singleton] at hl
  rw [if_pos ⟨by omega, h, h3⟩]
  simp
/-- The bytes of a number that is read are its own. -/
theorem natB_of {p : List UInt8} {b : UInt8} (h1 : p.all hiB = true) (h2 : hiB b = false) (h3 : p.length = 0 ∨ b.toNat ≠ 0) : natB (valL (p ++ [b])) = p ++ [b] := by
  induction p with
  | nil =>
    unfold hiB at h2
    simp only [decide_eq_false_iff_not] at h2
    simp only [List.nil_append, valL]
    rw [natB_lt (by omega)]
    have : b.toNat % 128 + 128 * 0 = b.toNat := by omega
    rw [this, UInt8.ofNat_toNat]
  | cons c r ih =>
    simp only [List.all_cons, Bool.and_eq_true] at h1
    obtain ⟨hc, hr⟩ := h1
    unfold hiB at hc
    simp only [decide_eq_true_eq] at hc
    have hb : b.toNat ≠ 0 := by
      rcases h3 with h3 | h3
      · simp at h3
      · exact h3
    have hlo : b.toNat < 128 := by
      unfold hiB at h2
      simp only [decide_eq_false_iff_not] at h2; omega
    have hpos : 1 ≤ valL (r ++ [b]) := by
      rw [valL_app]
      have := Nat.pow_pos (n := r.length) (show 0 < 128 by decide)
      have : 1 * 1 ≤ b.toNat % 128 * 128 ^ r.length := Nat.mul_le_mul (by omega) this
      omega
    have ih' := ih hr (Or.inr hb)
    rw [List.cons_append]
    have e : valL (c :: (r ++ [b])) = c.toNat % 128 + 128 * valL (r ++ [b]) := rfl
    rw [e, natB_ge (by omega)]
    have e1 : (c.toNat % 128 + 128 * valL (r ++ [b])) % 128 + 128 = c.toNat := by
      have := c.toNat_lt; omega
    have e2 : (c.toNat % 128 + 128 * valL (r ++ [b])) / 128 = valL (r ++ [b]) := by omega
    rw [e1, e2, ih', UInt8.ofNat_toNat]
/-- Whether the bytes up to the first one that ends are those of what they tell modulo 2^64. -/
theorem natB_iff {p : List UInt8} {b : UInt8} (h1 : p.all hiB = true) (h2 : hiB b = false) :
    natB (valL (p ++ [b]) % 18446744073709551616) = p ++ [b] ↔ (valL (p ++ [b]) < 18446744073709551616 ∧ (p.length = 0 ∨ b.toNat ≠ 0)) := by
  constructor
  · intro h
    have hv := valL_natB (valL (p ++ [b]) % 18446744073709551616)
    rw [h] at hv
    refine ⟨by omega, ?_⟩
    obtain ⟨p', b', e, _, _, h3⟩ := natB_shape _ (valL (p ++ [b]) % 18446744073709551616) (Nat.le_refl _)
    rw [e] at h
    obtain ⟨rfl, h⟩ := List.append_inj' h rfl
    simp at h
    subst h
    exact h3
  · rintro ⟨hv, h3⟩
    rw [Nat.mod_eq_of_lt hv]
    exact natB_of h1 h2 h3
theorem firstS_lt (l : List UInt8) : (firstS l).1 < 18446744073709551616 := by
  unfold firstS
  cases stopAt l with
  | none => simp
  | some j =>
    show (if j < 10 ∧ valL (l.take (j + 1)) < 18446744073709551616 ∧ (j = 0 ∨ (l.getD j 0).toNat ≠ 0) then (valL (l.take (j + 1)), j + 1) else (0, 0)).1 < 18446744073709551616
    split
    · exact (by assumption : _ ∧ _ ∧ _).2.1
    · simp
theorem stopAt_lt : ∀ {l : List UInt8} {j : Nat}, stopAt l = some j → j < l.length := by
  intro l
  induction l with
  | nil => intro j h; cases h
  | cons c r ih =>
    intro j h
    unfold stopAt at h
    split at h
    · cases hs : stopAt r with
      | none => rw [hs] at h; cases h
      | some i => rw [hs] at h; have := ih hs; simp at h; rw [List.length_cons]; omega
    · have h := Option.some.inj h; rw [List.length_cons]; omega
theorem firstS_le (l : List UInt8) : (firstS l).2 ≤ l.length := by
  unfold firstS
  cases hs : stopAt l with
  | none => simp
  | some j =>
    have := stopAt_lt hs
    show (if j < 10 ∧ valL (l.take (j + 1)) < 18446744073709551616 ∧ (j = 0 ∨ (l.getD j 0).toNat ≠ 0) then (valL (l.take (j + 1)), j + 1) else (0, 0)).2 ≤ l.length
    split
    · exact this
    · simp
theorem takS_lt (l : List UInt8) (m : Nat) : (takS l m).1 < 18446744073709551616 := by
  unfold takS; split
  · simp
  · exact firstS_lt l
theorem takS_le (l : List UInt8) (m : Nat) : (takS l m).2 ≤ l.length := by
  unfold takS; split
  · simp
  · exact firstS_le l
theorem takS_most (l : List UInt8) (m : Nat) : (takS l m).1 ≤ m := by
  unfold takS; split
  · simp
  · omega
theorem takS_zero {l : List UInt8} {m : Nat} (h : (takS l m).2 = 0) : (takS l m).1 = 0 := by
  unfold takS at h ⊢; split
  · rfl
  · rename_i h'; rw [if_neg h'] at h; omega
theorem takS_nat {n m : Nat} (h : n < 18446744073709551616) (hm : n ≤ m) (r : List UInt8) : takS (natB n ++ r) m = (n, (natB n).length) := by
  unfold takS
  rw [firstS_nat h r]
  have := natB_pos n
  rw [if_neg (by simp only []; omega)]
theorem takS_over {n m : Nat} (h : n < 18446744073709551616) (hm : m < n) (r : List UInt8) : takS (natB n ++ r) m = (0, 0) := by
  unfold takS
  rw [firstS_nat h r, if_pos (Or.inr hm)]

/-- Bytes as cells. -/
def bcs (l : List UInt8) : List Value := l.map fun b => Value.int .u8 (b.toNat : Int)
theorem bcs_str (s : ByteArray) : Lib.strCells s = bcs s.data.toList := rfl
theorem bcs_append (a b : List UInt8) : bcs (a ++ b) = bcs a ++ bcs b := List.map_append
theorem bcs_length (a : List UInt8) : (bcs a).length = a.length := List.length_map _
theorem or_more {x : Int} (h0 : 0 ≤ x) (h1 : x < 18446744073709551616) : bits .or .u8 (IntKind.u8.wrap x) 128 = x % 128 + 128 := by
  have e : IntKind.u8.wrap x = x % 256 := by simp [IntKind.wrap, IntKind.signed, IntKind.bits]
  have key : ∀ y : Fin 256, bits .or .u8 ((y.val : Nat) : Int) 128 = ((y.val % 128 + 128 : Nat) : Int) := by decide +kernel
  rw [e]
  have := key ⟨(x % 256).toNat, by omega⟩
  simp only at this
  rw [Int.toNat_of_nonneg (by omega)] at this
  rw [this]; omega
theorem wrap_u8 (x : Int) : IntKind.u8.wrap x = x % 256 := by simp [IntKind.wrap, IntKind.signed, IntKind.bits]
/-- The part of a number that a byte tells, at its place, modulo 2^64; back again. -/
def partI (k : Nat) (d : Int) : Int := IntKind.u64.wrap (d * 2 ^ min (7 * (k : Int)).toNat IntKind.u64.bits)
def backI (k : Nat) (x : Int) : Int := x / 2 ^ min (7 * (k : Int)).toNat IntKind.u64.bits
theorem shl_run (k : Nat) (d : Int) : Op.shift .shl .u64 d .i64 (7 * (k : Int)) = pure (.int .u64 (partI k d)) := shift_shl_any _ _ _ _ (by omega)
theorem shr_run (k : Nat) (d : Int) : Op.shift .shr .u64 d .i64 (7 * (k : Int)) = pure (.int .u64 (backI k d)) := shift_shr_any _ _ _ _ (by omega)
theorem pow_seven (k : Nat) : (2 : Int) ^ (7 * k) = ((128 ^ k : Nat) : Int) := by
  rw [Int.pow_mul, Int.natCast_pow]; rfl
theorem u64_bits : IntKind.u64.bits = 64 := rfl
theorem part_small {k d : Nat} (hk : k ≤ 8) (hd : d < 128) : partI k d = ((d * 128 ^ k : Nat) : Int) ∧ backI k ((d * 128 ^ k : Nat) : Int) = d := by
  have e : min (7 * (k : Int)).toNat IntKind.u64.bits = 7 * k := by rw [u64_bits]; omega
  have hp : 128 ^ k ≤ 128 ^ 8 := Nat.pow_le_pow_right (by decide) hk
  have hp0 : 0 < 128 ^ k := Nat.pow_pos (by decide)
  have hm : d * 128 ^ k ≤ 127 * 128 ^ 8 := Nat.mul_le_mul (by omega) hp
  unfold partI backI
  rw [e, pow_seven, IntKind.wrap_u64, ← Int.natCast_mul]
  refine ⟨?_, ?_⟩
  · generalize d * 128 ^ k = z at *
    omega
  · rw [← Int.natCast_ediv, Nat.mul_div_cancel _ hp0]
theorem part_nine {d : Nat} (hd : d < 128) : partI 9 d = ((d % 2 * 9223372036854775808 : Nat) : Int) ∧ backI 9 ((d % 2 * 9223372036854775808 : Nat) : Int) = ((d % 2 : Nat) : Int) := by
  have e : min (7 * ((9 : Nat) : Int)).toNat IntKind.u64.bits = 63 := by rw [u64_bits]; omega
  have e2 : (2 : Int) ^ 63 = 9223372036854775808 := by decide
  unfold partI backI
  rw [e, e2, IntKind.wrap_u64]
  omega
theorem part_far {k d : Nat} (hk : 10 ≤ k) : partI k d = 0 ∧ backI k 0 = 0 := by
  have e : min (7 * (k : Int)).toNat IntKind.u64.bits = 64 := by rw [u64_bits]; omega
  have e2 : (2 : Int) ^ 64 = 18446744073709551616 := by decide
  unfold partI backI
  rw [e, e2, IntKind.wrap_u64]
  omega
theorem or_word (x y : Int) : Word (bits .or .u64 x y) := by
  have h : ∃ n, bits .or .u64 x y = IntKind.u64.wrap n := ⟨_, rfl⟩
  obtain ⟨n, h⟩ := h
  rw [h, IntKind.wrap_u64]; unfold Word; omega
theorem or_comm_u64 (x y : Int) : bits .or .u64 x y = bits .or .u64 y x := by
  show IntKind.u64.wrap ((BitVec.ofInt 64 x ||| BitVec.ofInt 64 y).toNat : Int) = IntKind.u64.wrap ((BitVec.ofInt 64 y ||| BitVec.ofInt 64 x).toNat : Int)
  rw [BitVec.or_comm]
theorem or_sum {m d k : Nat} (hm : m < 128 ^ k) (hs : d * 128 ^ k < 18446744073709551616) (hm' : m < 18446744073709551616) :
    bits .or .u64 (m : Int) ((d * 128 ^ k : Nat) : Int) = ((m + d * 128 ^ k : Nat) : Int) := by
  rw [or_comm_u64]
  have h := bits_join .u64 64 (by decide) (fun n a b => by rw [IntKind.wrap_u64]; omega) (7 * k) ((d * 128 ^ k : Nat) : Int) (m : Int)
    (by omega) (by rw [pow_seven, ← Int.natCast_emod, Nat.mul_mod_left]; rfl) (by generalize d * 128 ^ k = z at *; omega) (by omega) (by rw [pow_seven]; exact Int.ofNat_lt.2 hm) (by omega)
  rw [h, ← Int.natCast_add, Nat.add_comm]

/-- One round: what a byte is good for. -/
theorem round_cases {l : List UInt8} {k : Nat} {b : UInt8} {m : Int} (hx : l[k]? = some b) (hA : (l.take k).all hiB = true) (hv : k ≤ 9 → m = ((valL (l.take k) : Nat) : Int)) :
    ∃ P Q R : Int, Word P ∧ Word R ∧ partI k ((b.toNat : Int) % 128) = P ∧ backI k P = Q ∧ bits .or .u64 m P = R ∧
      ((¬ Q = (b.toNat : Int) % 128 ∧ firstS l = (0, 0)) ∨
       (Q = (b.toNat : Int) % 128 ∧ 128 ≤ (b.toNat : Int) ∧ (k + 1 ≤ 9 → R = ((valL (l.take (k + 1)) : Nat) : Int)) ∧ (l.take (k + 1)).all hiB = true) ∨
       (Q = (b.toNat : Int) % 128 ∧ (b.toNat : Int) < 128 ∧ (b.toNat : Int) % 128 = 0 ∧ 0 < k ∧ firstS l = (0, 0)) ∨
       (Q = (b.toNat : Int) % 128 ∧ (b.toNat : Int) < 128 ∧ (¬ (b.toNat : Int) % 128 = 0 ∨ k = 0) ∧ ((firstS l).1 : Int) = R ∧ (firstS l).2 = k + 1)) := by
  have hb := b.toNat_lt
  have ec : (b.toNat : Int) % 128 = ((b.toNat % 128 : Nat) : Int) := by omega
  have hlow : b.toNat % 128 < 128 := Nat.mod_lt _ (by decide)
  have hvt := valL_take hx
  have hvl := valL_take_lt l k
  have hat := allH_take hx
  rw [hA, Bool.true_and] at hat
  have hhi : 128 ≤ b.toNat → hiB b = true := fun h => by unfold hiB; simpa using h
  have hlo : b.toNat < 128 → hiB b = false := fun h => by unfold hiB; simpa using h
  refine ⟨_, _, _, ?_, or_word _ _, rfl, rfl, rfl, ?_⟩
  · have h : ∃ n, partI k ((b.toNat : Int) % 128) = IntKind.u64.wrap n := ⟨_, rfl⟩
    obtain ⟨n, h⟩ := h
    rw [h, IntKind.wrap_u64]; unfold Word; omega
  · rw [ec]
    by_cases h8 : k ≤ 8
    · obtain ⟨p1, p2⟩ := part_small h8 hlow
      have hm := hv (by omega)
      have h9 : 128 ^ k ≤ 128 ^ 8 := Nat.pow_le_pow_right (by decide) h8
      have h10 : b.toNat % 128 * 128 ^ k ≤ 127 * 128 ^ 8 := Nat.mul_le_mul (by omega) h9
      have ho := or_sum (d := b.toNat % 128) hvl (by omega) (by omega)
      rw [p1, p2, hm, ho, ← hvt]
      by_cases hb8 : b.toNat < 128
      · have hf := firstS_at hA hx (hlo hb8)
        by_cases hz : b.toNat % 128 = 0 ∧ 0 < k
        · right; right; left
          refine ⟨rfl, by omega, by omega, hz.2, ?_⟩
          rw [hf, if_neg (by omega)]
        · right; right; right
          have hlt := valL_take_lt l (k + 1)
          have h11 : 128 ^ (k + 1) ≤ 128 ^ 9 := Nat.pow_le_pow_right (by decide) (by omega)
          rw [if_pos ⟨by omega, by omega, by omega⟩] at hf
          rw [hf]
          exact ⟨rfl, by omega, by omega, rfl, rfl⟩
      · right; left
        exact ⟨rfl, by omega, fun _ => rfl, by rw [hat]; exact hhi (by omega)⟩
    · by_cases h9 : k = 9
      · subst h9
        obtain ⟨p1, p2⟩ := part_nine hlow
        have hm := hv (by omega)
        have e9 : 128 ^ 9 = 9223372036854775808 := by decide
        rw [e9] at hvl hvt
        by_cases hs : b.toNat % 128 < 2
        · have e2 : b.toNat % 128 % 2 = b.toNat % 128 := by omega
          rw [e2] at p1 p2
          have ho := or_sum (m := valL (l.take 9)) (d := b.toNat % 128) (k := 9) (by rw [e9]; omega) (by rw [e9]; omega) (by omega)
          rw [e9] at ho
          rw [p1, p2, hm, ho, ← hvt]
          by_cases hb8 : b.toNat < 128
          · have hf := firstS_at hA hx (hlo hb8)
            by_cases hz : b.toNat % 128 = 0
            · right; right; left
              refine ⟨rfl, by omega, by omega, by omega, ?_⟩
              rw [hf, if_neg (by omega)]
            · right; right; right
              rw [if_pos ⟨by omega, by omega, by omega⟩] at hf
              rw [hf]
              exact ⟨rfl, by omega, by omega, rfl, rfl⟩
          · right; left
            exact ⟨rfl, by omega, fun _ => rfl, by rw [hat]; exact hhi (by omega)⟩
        · left
          rw [p1, p2]
          refine ⟨by omega, ?_⟩
          by_cases hb8 : b.toNat < 128
          · rw [firstS_at hA hx (hlo hb8), if_neg (by omega)]
          · exact firstS_far (by rw [hat]; exact hhi (by omega)) (lt_of_some hx)
      · obtain ⟨p1, p2⟩ := part_far (k := k) (d := b.toNat % 128) (by omega)
        have hfar : firstS l = (0, 0) := by
          refine firstS_far ?_ (by have := lt_of_some hx; omega)
          have : l.take 10 = (l.take k).take 10 := by rw [List.take_take, Nat.min_eq_left (by omega)]
          rw [this]
          exact List.all_eq_true.2 fun x hx' => List.all_eq_true.1 hA x (List.mem_of_mem_take hx')
        rw [p1, p2]
        by_cases hz : b.toNat % 128 = 0
        · by_cases hb8 : b.toNat < 128
          · right; right; left
            exact ⟨by omega, by omega, by omega, by omega, hfar⟩
          · right; left
            exact ⟨by omega, by omega, fun h => by omega, by rw [hat]; exact hhi (by omega)⟩
        · left
          exact ⟨by omega, hfar⟩
end Go.Proofs.YthjcdbnjmpjikaaGreat

/-
  Plain mathematics of rows of pairs (an index, a count): no program in sight.
-/
namespace Go.Proofs.YthjcdbnjmpjikaaGreat
set_option linter.unusedVariables false
set_option linter.unusedSimpArgs false

/-- An index, and how many. -/
abbrev PairV := Int × Int
def okP (p : PairV) : Prop := I64 p.1 ∧ Word p.2
def maxC : Int := 9223372036854775807
/-- A row that can be. -/
def GoodP (L : List PairV) : Prop := (∀ p, p ∈ L → 1 ≤ p.2 ∧ p.2 ≤ 9223372036854775807) ∧ L.Pairwise fun p q => p.1 < q.1
instance (L : List PairV) : Decidable (GoodP L) := by unfold GoodP; infer_instance
def goodB (L : List PairV) : Bool := decide (GoodP L)
theorem goodB_true {L : List PairV} : goodB L = true ↔ GoodP L := by unfold goodB; exact decide_eq_true_iff
theorem goodB_false {L : List PairV} : goodB L = false ↔ ¬ GoodP L := by unfold goodB; exact decide_eq_false_iff_not
theorem good_nil : GoodP [] := ⟨fun p h => (by cases h), List.Pairwise.nil⟩
theorem good_app {A B : List PairV} (h : GoodP (A ++ B)) : GoodP A ∧ GoodP B ∧ ∀ p, p ∈ A → ∀ q, q ∈ B → p.1 < q.1 := by
  obtain ⟨h1, h2⟩ := h
  obtain ⟨h3, h4, h5⟩ := List.pairwise_append.1 h2
  exact ⟨⟨fun p hp => h1 p (List.mem_append_left _ hp), h3⟩, ⟨fun p hp => h1 p (List.mem_append_right _ hp), h4⟩, h5⟩
theorem good_mk {A B : List PairV} (h1 : GoodP A) (h2 : GoodP B) (h3 : ∀ p, p ∈ A → ∀ q, q ∈ B → p.1 < q.1) : GoodP (A ++ B) :=
  ⟨fun p hp => (List.mem_append.1 hp).elim (h1.1 p) (h2.1 p), List.pairwise_append.2 ⟨h1.2, h2.2, h3⟩⟩
theorem good_one {p : PairV} (h : 1 ≤ p.2 ∧ p.2 ≤ 9223372036854775807) : GoodP [p] := ⟨fun q hq => (by simp at hq; subst hq; exact h), List.pairwise_singleton _ _⟩
/-- A row's beginning and one more: by the last one of the beginning. -/
theorem good_snoc {A : List PairV} {p : PairV} : GoodP (A ++ [p]) ↔ GoodP A ∧ (1 ≤ p.2 ∧ p.2 ≤ 9223372036854775807) ∧ ∀ q, A.getLast? = some q → q.1 < p.1 := by
  constructor
  · intro h
    obtain ⟨h1, h2, h3⟩ := good_app h
    exact ⟨h1, h2.1 p (by simp), fun q hq => h3 q (List.mem_of_getLast? hq) p (by simp)⟩
  · rintro ⟨h1, h2, h3⟩
    refine good_mk h1 (good_one h2) fun q hq r hr => ?_
    simp at hr; subst hr
    cases hl : A.getLast? with
    | none => rw [List.getLast?_eq_none_iff] at hl; subst hl; cases hq
    | some z =>
      have hz := h3 z hl
      obtain ⟨B, rfl⟩ := List.getLast?_eq_some_iff.1 hl
      rcases List.mem_append.1 hq with h | h
      · have := (List.pairwise_append.1 h1.2).2.2 q h z (by simp); omega
      · simp at h; subst h; exact hz
theorem take_snocP {α : Type} {L : List α} {k : Nat} {p : α} (h : L[k]? = some p) : L.take (k + 1) = L.take k ++ [p] := by
  have hk : k < L.length := by
    rcases Nat.lt_or_ge k L.length with h' | h'
    · exact h'
    · rw [List.getElem?_eq_none h'] at h; cases h
  rw [List.take_succ_eq_append_getElem hk]
  rw [List.getElem?_eq_getElem hk] at h
  rw [Option.some.inj h]
theorem last_take {α : Type} {L : List α} {k : Nat} (hk : k < L.length) : (L.take (k + 1)).getLast? = L[k]? := by
  rw [take_snocP (List.getElem?_eq_getElem hk), List.getLast?_concat, List.getElem?_eq_getElem hk]
theorem good_take {L : List PairV} (k : Nat) (h : GoodP L) : GoodP (L.take k) := (good_app (A := L.take k) (B := L.drop k) (by rw [List.take_append_drop]; exact h)).1
theorem good_drop {L : List PairV} (k : Nat) (h : GoodP L) : GoodP (L.drop k) := (good_app (A := L.take k) (B := L.drop k) (by rw [List.take_append_drop]; exact h)).2.1
/-- Whether the row up to one more is good: by that one and the one ahead. -/
theorem good_step {L : List PairV} {k : Nat} {p : PairV} (h : L[k]? = some p) (hg : GoodP (L.take k)) :
    GoodP (L.take (k + 1)) ↔ (1 ≤ p.2 ∧ p.2 ≤ 9223372036854775807) ∧ (0 < k → ∀ q, L[k - 1]? = some q → q.1 < p.1) := by
  rw [take_snocP h, good_snoc]
  have hk : k < L.length := by
    rcases Nat.lt_or_ge k L.length with h' | h'
    · exact h'
    · rw [List.getElem?_eq_none h'] at h; cases h
  cases k with
  | zero => simp [good_nil]
  | succ j =>
    rw [last_take (by omega)]
    simp [hg]

/-- All counts of a row. -/
def sumP (L : List PairV) : Int := (L.map fun p => p.2).sum
theorem sumP_app (A B : List PairV) : sumP (A ++ B) = sumP A + sumP B := by unfold sumP; rw [List.map_append, List.sum_append]
theorem sumP_one (p : PairV) : sumP [p] = p.2 := by unfold sumP; simp
theorem sumP_cons (p : PairV) (r : List PairV) : sumP (p :: r) = p.2 + sumP r := by unfold sumP; simp
theorem sumP_nil : sumP [] = 0 := rfl
theorem sumP_pos {L : List PairV} (h : ∀ p, p ∈ L → 0 ≤ p.2) : 0 ≤ sumP L := by
  induction L with
  | nil => exact Int.le_refl _
  | cons p r ih =>
    rw [sumP_cons]
    have := h p (by simp); have := ih fun q hq => h q (List.mem_cons_of_mem _ hq)
    omega
theorem sumP_take {L : List PairV} (k : Nat) (h : ∀ p, p ∈ L → 0 ≤ p.2) : 0 ≤ sumP (L.take k) ∧ sumP (L.take k) ≤ sumP L := by
  have e := sumP_app (L.take k) (L.drop k)
  rw [List.take_append_drop] at e
  have h1 := sumP_pos (L := L.take k) fun p hp => h p (List.mem_of_mem_take hp)
  have h2 := sumP_pos (L := L.drop k) fun p hp => h p (List.mem_of_mem_drop hp)
  omega
def fitsB (L : List PairV) : Bool := decide (sumP L ≤ 9223372036854775807)
def totalP (L : List PairV) : Int := if fitsB L then sumP L else 0

/-- How many of an index. -/
def countP (L : List PairV) (i : Int) : Int := sumP (L.filter fun p => p.1 == i)
theorem countP_app (A B : List PairV) (i : Int) : countP (A ++ B) i = countP A i + countP B i := by unfold countP; rw [List.filter_append, sumP_app]
theorem countP_one (p : PairV) (i : Int) : countP [p] i = if p.1 = i then p.2 else 0 := by
  unfold countP
  by_cases h : p.1 = i
  · rw [if_pos h, List.filter_cons_of_pos (by simpa using h)]; simp [sumP_one]
  · rw [if_neg h, List.filter_cons_of_neg (by simpa using h)]; rfl
theorem countP_take {L : List PairV} (k : Nat) (i : Int) (h : ∀ p, p ∈ L → 0 ≤ p.2) : 0 ≤ countP (L.take k) i ∧ countP (L.take k) i ≤ countP L i := by
  have e := countP_app (L.take k) (L.drop k) i
  rw [List.take_append_drop] at e
  have h1 : 0 ≤ countP (L.take k) i := sumP_pos fun p hp => h p (List.mem_of_mem_take (List.mem_filter.1 hp).1)
  have h2 : 0 ≤ countP (L.drop k) i := sumP_pos fun p hp => h p (List.mem_of_mem_drop (List.mem_filter.1 hp).1)
  omega
/-- A row with so many more of an index. -/
def lowP (L : List PairV) (i : Int) : List PairV := L.filter fun p => decide (p.1 < i)
def highP (L : List PairV) (i : Int) : List PairV := L.filter fun p => decide (i < p.1)
def midP (i n : Int) : List PairV := if 0 < n then [(i, n)] else []
def addP (L : List PairV) (i c : Int) : List PairV := lowP L i ++ (midP i (countP L i + c) ++ highP L i)
theorem lowP_mem {L : List PairV} {i : Int} {p : PairV} (h : p ∈ lowP L i) : p ∈ L ∧ p.1 < i := by
  have := List.mem_filter.1 h; exact ⟨this.1, by simpa using this.2⟩
theorem highP_mem {L : List PairV} {i : Int} {p : PairV} (h : p ∈ highP L i) : p ∈ L ∧ i < p.1 := by
  have := List.mem_filter.1 h; exact ⟨this.1, by simpa using this.2⟩
theorem good_filter {L : List PairV} (f : PairV → Bool) (h : GoodP L) : GoodP (L.filter f) :=
  ⟨fun p hp => h.1 p (List.mem_filter.1 hp).1, h.2.filter _⟩
/-- The row stays one that can be. -/
theorem add_good {L : List PairV} {i c : Int} (h : GoodP L) (hn : countP L i + c ≤ 9223372036854775807) : GoodP (addP L i c) := by
  unfold addP
  refine good_mk (good_filter _ h) (good_mk ?_ (good_filter _ h) ?_) ?_
  · unfold midP
    split
    · exact good_one ⟨by simp only; omega, hn⟩
    · exact good_nil
  · intro p hp q hq
    unfold midP at hp
    split at hp
    · simp at hp; subst hp; exact (highP_mem hq).2
    · cases hp
  · intro p hp q hq
    have h1 := (lowP_mem hp).2
    rcases List.mem_append.1 hq with h2 | h2
    · unfold midP at h2
      split at h2
      · simp at h2; subst h2; exact h1
      · cases h2
    · have := (highP_mem h2).2; omega
/-- A good row, parted at an index. -/
theorem good_part : ∀ {L : List PairV} (i : Int), GoodP L → (∃ n, lowP L i ++ ((i, n) :: highP L i) = L ∧ countP L i = n ∧ 1 ≤ n) ∨ (lowP L i ++ highP L i = L ∧ countP L i = 0) := by
  intro L
  induction L with
  | nil => intro i _; exact Or.inr ⟨rfl, rfl⟩
  | cons p r ih =>
    intro i h
    have hr : GoodP r := good_drop 1 h
    have hlt : ∀ q, q ∈ r → p.1 < q.1 := (List.pairwise_cons.1 h.2).1
    have hp := h.1 p (by simp)
    rcases Int.lt_trichotomy p.1 i with h1 | h1 | h1
    · have el : lowP (p :: r) i = p :: lowP r i := by unfold lowP; rw [List.filter_cons_of_pos (by simpa using h1)]
      have eh : highP (p :: r) i = highP r i := by unfold highP; rw [List.filter_cons_of_neg (by simp; omega)]
      have ec : countP (p :: r) i = countP r i := by unfold countP; rw [List.filter_cons_of_neg (by simp; omega)]
      rw [el, eh, ec]
      rcases ih i hr with ⟨n, e1, e2, e3⟩ | ⟨e1, e2⟩
      · exact Or.inl ⟨n, by rw [List.cons_append, e1], e2, e3⟩
      · exact Or.inr ⟨by rw [List.cons_append, e1], e2⟩
    · have hall : ∀ q, q ∈ r → i < q.1 := fun q hq => by have := hlt q hq; omega
      have el : lowP (p :: r) i = [] := by
        unfold lowP; rw [List.filter_eq_nil_iff]; intro q hq
        rcases List.mem_cons.1 hq with rfl | hq
        · simp; omega
        · have := hall q hq; simp; omega
      have eh : highP (p :: r) i = r := by
        unfold highP; rw [List.filter_cons_of_neg (by simp; omega), List.filter_eq_self]
        intro q hq; simpa using hall q hq
      have ec : countP (p :: r) i = p.2 := by
        unfold countP
        rw [List.filter_cons_of_pos (by simpa using h1), List.filter_eq_nil_iff.2 (fun q hq => by have := hall q hq; simp; omega), sumP_one]
      rw [el, eh, ec]
      exact Or.inl ⟨p.2, by rw [← h1]; rfl, rfl, hp.1⟩
    · have hall : ∀ q, q ∈ r → i < q.1 := fun q hq => by have := hlt q hq; omega
      have el : lowP (p :: r) i = [] := by
        unfold lowP; rw [List.filter_eq_nil_iff]; intro q hq
        rcases List.mem_cons.1 hq with rfl | hq
        · simp; omega
        · have := hall q hq; simp; omega
      have eh : highP (p :: r) i = p :: r := by
        unfold highP; rw [List.filter_eq_self]
        intro q hq
        rcases List.mem_cons.1 hq with rfl | hq
        · simpa using h1
        · simpa using hall q hq
      have ec : countP (p :: r) i = 0 := by
        unfold countP
        rw [List.filter_eq_nil_iff.2 (fun q hq => by
          rcases List.mem_cons.1 hq with rfl | hq
          · simp; omega
          · have := hall q hq; simp; omega)]; rfl
      rw [el, eh, ec]
      exact Or.inr ⟨rfl, rfl⟩
theorem add_none {L : List PairV} {i : Int} (h : GoodP L) : addP L i 0 = L := by
  unfold addP
  rcases good_part i h with ⟨n, e1, e2, e3⟩ | ⟨e1, e2⟩
  · rw [e2, Int.add_zero]; unfold midP; rw [if_pos (by omega)]; exact e1
  · rw [e2, Int.add_zero]; unfold midP; rw [if_neg (by omega)]; exact e1

/-- How far an index lies behind another one, less 1, as a number. -/
def farP (a b : Int) : Nat := ((b - a - 1) % 18446744073709551616).toNat
theorem farP_lt (a b : Int) : farP a b < 18446744073709551616 := by unfold farP; omega
theorem farP_of {a b : Int} (ha : I64 a) (hb : I64 b) (h : a < b) : (farP a b : Int) = b - a - 1 := by unfold I64 at ha hb; unfold farP; omega
theorem farP_inj {a b c : Int} (ha : I64 a) (hb : I64 b) (hc : I64 c) (h1 : a < b) (h2 : a < c) (h : farP a b = farP a c) : b = c := by
  have e1 := farP_of ha hb h1
  have e2 := farP_of ha hc h2
  omega
/-- The bytes of a row, behind an index; of a whole row. -/
def tailB : Int → List PairV → List UInt8
  | _, [] => []
  | a, p :: r => natB (farP a p.1) ++ (natB p.2.toNat ++ tailB p.1 r)
def bodyB : List PairV → List UInt8
  | [] => []
  | p :: r => natB (zig p.1).toNat ++ (natB p.2.toNat ++ tailB p.1 r)
def rowB (L : List PairV) : List UInt8 := natB L.length ++ bodyB L
theorem tail_snoc : ∀ (A : List PairV) (a : Int) (p : PairV), tailB a (A ++ [p]) = tailB a A ++ (natB (farP (match A.getLast? with | none => a | some q => q.1) p.1) ++ natB p.2.toNat) := by
  intro A
  induction A with
  | nil => intro a p; simp [tailB]
  | cons q r ih =>
    intro a p
    have e : (match (q :: r).getLast? with | none => a | some z => z.1) = (match r.getLast? with | none => q.1 | some z => z.1) := by
      cases r with
      | nil => rfl
      | cons z t => rw [List.getLast?_cons_cons]; cases h : (z :: t).getLast? with
        | none => simp at h
        | some y => rfl
    rw [e, List.cons_append]
    show natB (farP a q.1) ++ (natB q.2.toNat ++ tailB q.1 (r ++ [p])) = _
    rw [ih]
    show _ = natB (farP a q.1) ++ (natB q.2.toNat ++ tailB q.1 r) ++ _
    simp only [List.append_assoc]
theorem body_first (p : PairV) : bodyB ([] ++ [p]) = bodyB [] ++ (natB (zig p.1).toNat ++ natB p.2.toNat) := by simp [bodyB, tailB]
theorem body_snoc {A : List PairV} {q p : PairV} (h : A.getLast? = some q) : bodyB (A ++ [p]) = bodyB A ++ (natB (farP q.1 p.1) ++ natB p.2.toNat) := by
  cases A with
  | nil => cases h
  | cons z r =>
    rw [List.cons_append]
    show natB (zig z.1).toNat ++ (natB z.2.toNat ++ tailB z.1 (r ++ [p])) = natB (zig z.1).toNat ++ (natB z.2.toNat ++ tailB z.1 r) ++ _
    rw [tail_snoc]
    have e : (match r.getLast? with | none => z.1 | some y => y.1) = q.1 := by
      cases r with
      | nil => simp at h; subst h; rfl
      | cons y t => rw [List.getLast?_cons_cons] at h; rw [h]
    rw [e]
    simp only [List.append_assoc]
/-- The index of a pair that stands there. -/
def idxAt (L : List PairV) (j : Nat) : Int := ((L[j]?).map fun p => p.1).getD 0
/-- Step by step: the bytes of the first k pairs and of one more. -/
theorem body_step {L : List PairV} {k : Nat} {p : PairV} (h : L[k]? = some p) : bodyB (L.take (k + 1)) = bodyB (L.take k) ++ ((if k = 0 then natB (zig p.1).toNat else natB (farP (idxAt L (k - 1)) p.1)) ++ natB p.2.toNat) := by
  have hk : k < L.length := by
    rcases Nat.lt_or_ge k L.length with h' | h'
    · exact h'
    · rw [List.getElem?_eq_none h'] at h; cases h
  rw [take_snocP h]
  cases k with
  | zero => rw [if_pos rfl]; exact body_first p
  | succ j =>
    rw [if_neg (by omega)]
    have hl := last_take (L := L) (k := j) (by omega)
    have hj := List.getElem?_eq_getElem (l := L) (i := j) (by omega)
    rw [hj] at hl
    rw [body_snoc hl, Nat.add_sub_cancel]
    unfold idxAt
    rw [hj]; rfl
theorem tailB_len : ∀ (L : List PairV) (a : Int), (∀ p, p ∈ L → Word p.2) → (tailB a L).length ≤ 20 * L.length := by
  intro L
  induction L with
  | nil => intro a _; exact Nat.zero_le _
  | cons p r ih =>
    intro a h
    have h1 := natB_len10 (farP_lt a p.1)
    have h2 := natB_len10 (n := p.2.toNat) (by have := h p (by simp); unfold Word at this; omega)
    have h3 := ih p.1 fun q hq => h q (List.mem_cons_of_mem _ hq)
    simp only [tailB, List.length_append, List.length_cons]
    omega
theorem bodyB_len {L : List PairV} (h : ∀ p, p ∈ L → okP p) : (bodyB L).length ≤ 20 * L.length := by
  cases L with
  | nil => exact Nat.zero_le _
  | cons p r =>
    have hp := h p (by simp)
    have h1 := natB_len10 (n := (zig p.1).toNat) (by have := zig_word hp.1; unfold Word at this; omega)
    have h2 := natB_len10 (n := p.2.toNat) (by have := hp.2; unfold Word at this; omega)
    have h3 := tailB_len r p.1 fun q hq => (h q (List.mem_cons_of_mem _ hq)).2
    simp only [bodyB, List.length_append, List.length_cons]
    omega
/-- A number ahead of other bytes is read as what it is. -/
theorem nat_split {n m : Nat} {r r' : List UInt8} (hn : n < 18446744073709551616) (hm : m < 18446744073709551616) (h : natB n ++ r = natB m ++ r') : n = m ∧ r = r' := by
  have f := firstS_nat hn r
  rw [h, firstS_nat hm r'] at f
  have e : m = n := congrArg Prod.fst f
  subst e
  exact ⟨rfl, List.append_cancel_left h⟩
theorem tail_inj : ∀ (L L' : List PairV) (a : Int) (r r' : List UInt8), I64 a → (∀ p, p ∈ L → okP p ∧ a < p.1) → (∀ p, p ∈ L' → okP p ∧ a < p.1) → GoodP L → GoodP L' → L.length = L'.length → tailB a L ++ r = tailB a L' ++ r' → L = L' ∧ r = r' := by
  intro L
  induction L with
  | nil =>
    intro L' a r r' _ _ _ _ _ hl h
    cases L' with
    | nil => exact ⟨rfl, h⟩
    | cons _ _ => simp at hl
  | cons p t ih =>
    intro L' a r r' ha h1 h2 g1 g2 hl h
    cases L' with
    | nil => simp at hl
    | cons q u =>
      obtain ⟨⟨p1, p2⟩, p3⟩ := h1 p (by simp)
      obtain ⟨⟨q1, q2⟩, q3⟩ := h2 q (by simp)
      simp only [tailB, List.append_assoc] at h
      obtain ⟨e1, h'⟩ := nat_split (farP_lt _ _) (farP_lt _ _) h
      obtain ⟨e2, h''⟩ := nat_split (by unfold Word at p2; omega) (by unfold Word at q2; omega) h'
      have e3 : p.1 = q.1 := farP_inj ha p1 q1 p3 q3 e1
      have e4 : p.2 = q.2 := by unfold Word at p2 q2; omega
      have hp := (List.pairwise_cons.1 g1.2).1
      have hq := (List.pairwise_cons.1 g2.2).1
      rw [← e3] at h'' hq
      obtain ⟨e5, e6⟩ := ih u p.1 r r' p1 (fun z hz => ⟨(h1 z (List.mem_cons_of_mem _ hz)).1, hp z hz⟩) (fun z hz => ⟨(h2 z (List.mem_cons_of_mem _ hz)).1, hq z hz⟩) (good_drop 1 g1) (good_drop 1 g2) (by simpa using hl) h''
      exact ⟨by rw [e5, Prod.ext e3 e4], e6⟩
/-- Rows' bytes tell the rows. -/
theorem row_inj {L L' : List PairV} {r r' : List UInt8} (o : ∀ p, p ∈ L → okP p) (o' : ∀ p, p ∈ L' → okP p) (g : GoodP L) (g' : GoodP L') (hl : L.length < 18446744073709551616) (hl' : L'.length < 18446744073709551616)
    (h : rowB L ++ r = rowB L' ++ r') : L = L' ∧ r = r' := by
  unfold rowB at h
  simp only [List.append_assoc] at h
  obtain ⟨e1, h1⟩ := nat_split hl hl' h
  cases L with
  | nil => cases L' with
    | nil => exact ⟨rfl, h1⟩
    | cons _ _ => simp at e1
  | cons p t =>
    cases L' with
    | nil => simp at e1
    | cons q u =>
      obtain ⟨p1, p2⟩ := o p (by simp)
      obtain ⟨q1, q2⟩ := o' q (by simp)
      simp only [bodyB, List.append_assoc] at h1
      have w1 := zig_word p1
      have w2 := zig_word q1
      obtain ⟨e2, h2⟩ := nat_split (by unfold Word at w1; omega) (by unfold Word at w2; omega) h1
      obtain ⟨e3, h3⟩ := nat_split (by unfold Word at p2; omega) (by unfold Word at q2; omega) h2
      have e4 : zig p.1 = zig q.1 := by unfold Word at w1 w2; omega
      have e5 : p.1 = q.1 := by rw [← zag_zig (x := p.1), e4, zag_zig]
      have e6 : p.2 = q.2 := by unfold Word at p2 q2; omega
      have hp := (List.pairwise_cons.1 g.2).1
      have hq := (List.pairwise_cons.1 g'.2).1
      rw [← e5] at h3 hq
      obtain ⟨e7, e8⟩ := tail_inj t u p.1 r r' p1 (fun z hz => ⟨o z (List.mem_cons_of_mem _ hz), hp z hz⟩) (fun z hz => ⟨o' z (List.mem_cons_of_mem _ hz), hq z hz⟩) (good_drop 1 g) (good_drop 1 g') (by simpa using e1) h3
      exact ⟨by rw [e7, Prod.ext e5 e6], e8⟩

theorem low_high_len (L : List PairV) (i : Int) : (lowP L i).length + (highP L i).length ≤ L.length := by
  induction L with
  | nil => exact Nat.le_refl _
  | cons p r ih =>
    unfold lowP highP at *
    rw [List.filter_cons, List.filter_cons]
    by_cases h1 : p.1 < i
    · have h2 : ¬ i < p.1 := by omega
      simp only [h1, h2, decide_true, decide_false, if_true, Bool.false_eq_true, if_false, List.length_cons]; omega
    · by_cases h2 : i < p.1
      · simp only [h1, h2, decide_true, decide_false, if_true, Bool.false_eq_true, if_false, List.length_cons]; omega
      · simp only [h1, h2, decide_false, Bool.false_eq_true, if_false, List.length_cons]; omega
theorem add_len (L : List PairV) (i c : Int) : (addP L i c).length ≤ L.length + 1 := by
  unfold addP
  have h := low_high_len L i
  have h2 : (midP i (countP L i + c)).length ≤ 1 := by unfold midP; split <;> simp
  rw [List.length_append, List.length_append]; omega
theorem add_ok {L : List PairV} {i c : Int} (h : ∀ p, p ∈ L → okP p) (hi : I64 i) (hn : countP L i + c < 18446744073709551616) : ∀ p, p ∈ addP L i c → okP p := by
  intro p hp
  unfold addP at hp
  rcases List.mem_append.1 hp with hp | hp
  · exact h p (lowP_mem hp).1
  · rcases List.mem_append.1 hp with hp | hp
    · unfold midP at hp
      split at hp
      · simp at hp; subst hp; exact ⟨hi, by unfold Word; omega⟩
      · cases hp
    · exact h p (highP_mem hp).1
theorem count_low (L : List PairV) (i j : Int) : countP (lowP L i) j = if j < i then countP L j else 0 := by
  unfold countP lowP
  rw [List.filter_filter]
  by_cases h : j < i
  · rw [if_pos h]
    congr 1
    apply List.filter_congr
    intro p _
    by_cases e : p.1 = j
    · subst e; simp [h]
    · simp [e]
  · rw [if_neg h, List.filter_eq_nil_iff.2]; rfl
    intro p _
    simp only [Bool.and_eq_true, decide_eq_true_eq, beq_iff_eq, not_and]
    intro e; omega
theorem count_high (L : List PairV) (i j : Int) : countP (highP L i) j = if i < j then countP L j else 0 := by
  unfold countP highP
  rw [List.filter_filter]
  by_cases h : i < j
  · rw [if_pos h]
    congr 1
    apply List.filter_congr
    intro p _
    by_cases e : p.1 = j
    · subst e; simp [h]
    · simp [e]
  · rw [if_neg h, List.filter_eq_nil_iff.2]; rfl
    intro p _
    simp only [Bool.and_eq_true, decide_eq_true_eq, beq_iff_eq, not_and]
    intro e; omega
/-- How many of each index there are behind an addition. -/
theorem count_add {L : List PairV} {i c : Int} (h0 : 0 ≤ countP L i + c) (j : Int) : countP (addP L i c) j = countP L j + if j = i then c else 0 := by
  unfold addP
  rw [countP_app, countP_app, count_low, count_high]
  have hm : countP (midP i (countP L i + c)) j = if j = i then countP L i + c else 0 := by
    unfold midP
    by_cases hn : 0 < countP L i + c
    · rw [if_pos hn, countP_one]
      by_cases e : j = i
      · rw [if_pos e, if_pos e.symm]
      · rw [if_neg e, if_neg (fun h => e h.symm)]
    · rw [if_neg hn]
      by_cases e : j = i
      · rw [if_pos e, show countP [] j = 0 from rfl]; omega
      · rw [if_neg e]; rfl
  rw [hm]
  by_cases e : j = i
  · subst e
    simp only [Int.lt_irrefl, if_true, if_false]; omega
  · rw [if_neg e, if_neg e]
    by_cases h1 : j < i
    · rw [if_pos h1, if_neg (by omega)]; omega
    · rw [if_neg h1, if_pos (by omega)]; omega
/-- All pairs of a row, added one by one. -/
def foldP (L : List PairV) : List PairV := L.foldl (fun R p => addP R p.1 p.2) []
theorem fold_snoc (L : List PairV) (p : PairV) : foldP (L ++ [p]) = addP (foldP L) p.1 p.2 := by unfold foldP; rw [List.foldl_append]; rfl
/-- What is kept while small counts are added. -/
structure Sums (R : List PairV) (k : Nat) : Prop where
  good : GoodP R
  ok : ∀ p, p ∈ R → okP p
  len : R.length ≤ k
  cnt : ∀ j, 0 ≤ countP R j ∧ countP R j ≤ k * 1099511627776
theorem Sums.nil : Sums [] 0 := ⟨good_nil, fun p h => (by cases h), Nat.le_refl _, fun j => ⟨Int.le_refl _, Int.le_refl _⟩⟩
theorem Sums.add {R : List PairV} {k : Nat} (h : Sums R k) {p : PairV} (hp : okP p) (hc : p.2 ≤ 1099511627776) (hk : k ≤ 1000) : Sums (addP R p.1 p.2) (k + 1) := by
  have h0 := h.cnt p.1
  have hw := hp.2
  unfold Word at hw
  refine ⟨add_good h.good (by omega), add_ok h.ok hp.1 (by omega), Nat.le_trans (add_len _ _ _) (by have := h.len; omega), fun j => ?_⟩
  rw [count_add (by omega)]
  have := h.cnt j
  split <;> omega

/-- A good row hangs on its counts alone. -/
theorem count_cons (p : PairV) (r : List PairV) (j : Int) : countP (p :: r) j = (if p.1 = j then p.2 else 0) + countP r j := by
  have := countP_app [p] r j
  rw [countP_one] at this
  exact this
theorem count_above {L : List PairV} {j : Int} (h : ∀ q, q ∈ L → j < q.1) : countP L j = 0 := by
  unfold countP
  rw [List.filter_eq_nil_iff.2 (fun q hq => by have := h q hq; simp; omega)]; rfl
theorem good_ext : ∀ {L M : List PairV}, GoodP L → GoodP M → (∀ j, countP L j = countP M j) → L = M := by
  intro L
  induction L with
  | nil =>
    intro M _ hM h
    cases M with
    | nil => rfl
    | cons q s =>
      have h1 := h q.1
      rw [count_cons, if_pos rfl, count_above (L := s) (fun z hz => (List.pairwise_cons.1 hM.2).1 z hz)] at h1
      have h2 := hM.1 q (by simp)
      have h3 : countP [] q.1 = 0 := rfl
      omega
  | cons p r ih =>
    intro M hL hM h
    have hp := hL.1 p (by simp)
    have hr := (List.pairwise_cons.1 hL.2).1
    cases M with
    | nil =>
      have h1 := h p.1
      rw [count_cons, if_pos rfl, count_above (L := r) hr] at h1
      have h3 : countP [] p.1 = 0 := rfl
      omega
    | cons q s =>
      have hq := hM.1 q (by simp)
      have hs := (List.pairwise_cons.1 hM.2).1
      have e1 : p.1 = q.1 := by
        rcases Int.lt_trichotomy p.1 q.1 with hc | hc | hc
        · have h1 := h p.1
          rw [count_cons, if_pos rfl, count_above (L := r) hr, count_cons, if_neg (by omega), count_above (L := s) (fun z hz => by have := hs z hz; omega)] at h1
          omega
        · exact hc
        · have h1 := h q.1
          rw [count_cons, if_neg (by omega), count_above (L := r) (fun z hz => by have := hr z hz; omega), count_cons, if_pos rfl, count_above (L := s) hs] at h1
          omega
      have e2 : p.2 = q.2 := by
        have h1 := h p.1
        rw [count_cons, if_pos rfl, count_above (L := r) hr, count_cons, if_pos e1.symm, count_above (L := s) (fun z hz => by have := hs z hz; omega)] at h1
        omega
      have e3 : r = s := ih (good_drop 1 hL) (good_drop 1 hM) fun j => by
        have h1 := h j
        rw [count_cons, count_cons, e1, e2] at h1
        omega
      rw [e3, Prod.ext e1 e2]
theorem fold_app (A B : List PairV) : foldP (A ++ B) = B.foldl (fun R p => addP R p.1 p.2) (foldP A) := by unfold foldP; rw [List.foldl_append]
/-- What all pairs added one by one come to: good, and with all counts. -/
theorem fold_sums : ∀ (L : List PairV), (∀ p, p ∈ L → okP p ∧ p.2 ≤ 1099511627776) → L.length ≤ 1000 → Sums (foldP L) L.length ∧ ∀ j, countP (foldP L) j = countP L j := by
  have key : ∀ (n : Nat) (L : List PairV), L.length = n → (∀ p, p ∈ L → okP p ∧ p.2 ≤ 1099511627776) → L.length ≤ 1000 → Sums (foldP L) L.length ∧ ∀ j, countP (foldP L) j = countP L j := by
    intro n
    induction n with
    | zero =>
      intro L h0 _ _
      have : L = [] := List.eq_nil_of_length_eq_zero h0
      subst this
      exact ⟨Sums.nil, fun j => rfl⟩
    | succ n ih =>
      intro L h0 h hl
      rcases List.eq_nil_or_concat L with rfl | ⟨A, p, rfl⟩
      · cases h0
      rw [List.concat_eq_append] at *
      rw [List.length_append, List.length_singleton] at hl h0
      obtain ⟨h1, h2⟩ := ih A (by omega) (fun q hq => h q (List.mem_append_left _ hq)) (by omega)
      have hp := h p (by simp)
      rw [fold_snoc, List.length_append, List.length_singleton]
      refine ⟨h1.add hp.1 hp.2 (by omega), fun j => ?_⟩
      have h3 := h1.cnt p.1
      have hw := hp.1.2
      unfold Word at hw
      rw [count_add (by omega), h2, countP_app, countP_one]
      by_cases e : j = p.1
      · subst e; rw [if_pos rfl]
      · rw [if_neg e, if_neg (fun h => e h.symm)]
  exact fun L => key L.length L rfl
end Go.Proofs.YthjcdbnjmpjikaaGreat

/-
  Plain mathematics of a tree over values, by numbers: no program in sight.
-/
namespace Go.Proofs.YthjcdbnjmpjikaaGreat
set_option linter.unusedVariables false
set_option linter.unusedSimpArgs false

/-- How many nodes lie above one: v's level; 2 ^ level ≤ v < 2 ^ (level + 1). -/
def lvlT (v : Nat) : Nat := Nat.log2 v
theorem lvl_bd {v : Nat} (h : 1 ≤ v) : 2 ^ lvlT v ≤ v ∧ v < 2 ^ (lvlT v + 1) := ⟨Nat.log2_self_le (by omega), Nat.lt_log2_self⟩
theorem lvl_is {v l : Nat} (h1 : 2 ^ l ≤ v) (h2 : v < 2 ^ (l + 1)) : lvlT v = l := by
  have hv : 1 ≤ v := Nat.le_trans (Nat.pos_of_ne_zero (by have := Nat.pow_pos (n := l) (show 0 < 2 by omega); omega)) h1
  obtain ⟨a, b⟩ := lvl_bd hv
  have c1 : ¬ l < lvlT v := fun h => by
    have := Nat.pow_le_pow_right (show 0 < 2 by omega) (show l + 1 ≤ lvlT v by omega); omega
  have c2 : ¬ lvlT v < l := fun h => by
    have := Nat.pow_le_pow_right (show 0 < 2 by omega) (show lvlT v + 1 ≤ l by omega); omega
  omega
theorem lvl_le {v b : Nat} (h : 1 ≤ v) (h2 : v < 2 ^ (b + 1)) : lvlT v ≤ b := by
  obtain ⟨a, _⟩ := lvl_bd h
  by_cases c : lvlT v ≤ b
  · exact c
  · have := Nat.pow_le_pow_right (show 0 < 2 by omega) (show b + 1 ≤ lvlT v by omega); omega
theorem lvl_one : lvlT 1 = 0 := lvl_is (by decide) (by decide)
theorem lvl_up {v : Nat} (h : 2 ≤ v) : lvlT v = lvlT (v / 2) + 1 := by
  obtain ⟨a, b⟩ := lvl_bd (show 1 ≤ v / 2 by omega)
  refine lvl_is ?_ ?_
  · rw [Nat.pow_succ]; omega
  · rw [Nat.pow_succ]; omega
theorem lvl_down {v : Nat} (h : 1 ≤ v) : lvlT (2 * v) = lvlT v + 1 ∧ lvlT (2 * v + 1) = lvlT v + 1 := by
  have a := lvl_up (v := 2 * v) (by omega)
  have b := lvl_up (v := 2 * v + 1) (by omega)
  rw [show 2 * v / 2 = v by omega] at a
  rw [show (2 * v + 1) / 2 = v by omega] at b
  exact ⟨a, b⟩
theorem lvl_div {v : Nat} (k : Nat) (h : 1 ≤ v) (hk : k ≤ lvlT v) : 1 ≤ v / 2 ^ k ∧ lvlT (v / 2 ^ k) = lvlT v - k := by
  obtain ⟨a, b⟩ := lvl_bd h
  have hp := Nat.pow_pos (n := k) (show 0 < 2 by omega)
  have e1 : 2 ^ (lvlT v - k) * 2 ^ k = 2 ^ lvlT v := by rw [← Nat.pow_add]; congr 1; omega
  have e2 : 2 ^ (lvlT v - k + 1) * 2 ^ k = 2 ^ (lvlT v + 1) := by rw [← Nat.pow_add]; congr 1; omega
  have l1 : 2 ^ (lvlT v - k) ≤ v / 2 ^ k := (Nat.le_div_iff_mul_le hp).2 (by rw [e1]; exact a)
  have l2 : v / 2 ^ k < 2 ^ (lvlT v - k + 1) := (Nat.div_lt_iff_lt_mul hp).2 (by rw [e2]; exact b)
  have p1 := Nat.pow_pos (n := lvlT v - k) (show 0 < 2 by omega)
  exact ⟨by omega, lvl_is l1 l2⟩

/-- The least and the greatest of the values below a node, counted on from 2 ^ b (the values' own nodes). -/
def loT (b v : Nat) : Nat := v * 2 ^ (b - lvlT v)
def upT (b v : Nat) : Nat := (v + 1) * 2 ^ (b - lvlT v)
theorem range_in {b v : Nat} (h : 1 ≤ v) (h2 : v < 2 ^ (b + 1)) : 2 ^ b ≤ loT b v ∧ loT b v < upT b v ∧ upT b v ≤ 2 ^ (b + 1) := by
  have hl := lvl_le h h2
  obtain ⟨a, c⟩ := lvl_bd h
  have hp := Nat.pow_pos (n := b - lvlT v) (show 0 < 2 by omega)
  have e1 : 2 ^ lvlT v * 2 ^ (b - lvlT v) = 2 ^ b := by rw [← Nat.pow_add]; congr 1; omega
  have e2 : 2 ^ (lvlT v + 1) * 2 ^ (b - lvlT v) = 2 ^ (b + 1) := by rw [← Nat.pow_add]; congr 1; omega
  unfold loT upT
  refine ⟨by rw [← e1]; exact Nat.mul_le_mul_right _ a, by rw [Nat.add_mul]; omega, by rw [← e2]; exact Nat.mul_le_mul_right _ (by omega)⟩
/-- A node that lies above another one, or is it. -/
def aboveT (v w : Nat) : Prop := lvlT v ≤ lvlT w ∧ w / 2 ^ (lvlT w - lvlT v) = v
instance (v w : Nat) : Decidable (aboveT v w) := by unfold aboveT; infer_instance
theorem above_self (v : Nat) : aboveT v v := ⟨Nat.le_refl _, by simp⟩
/-- What lies at a level: below it the same values. -/
theorem range_div {b w k : Nat} (h : 1 ≤ w) (h2 : w < 2 ^ (b + 1)) (hk : k ≤ lvlT w) : loT b (w / 2 ^ k) ≤ loT b w ∧ upT b w ≤ upT b (w / 2 ^ k) := by
  obtain ⟨u1, u2⟩ := lvl_div k h hk
  have hl := lvl_le h h2
  have hp := Nat.pow_pos (n := k) (show 0 < 2 by omega)
  have e : 2 ^ (b - lvlT (w / 2 ^ k)) = 2 ^ k * 2 ^ (b - lvlT w) := by rw [u2, ← Nat.pow_add]; congr 1; omega
  have d1 := Nat.div_mul_le_self w (2 ^ k)
  have d2 : w < (w / 2 ^ k + 1) * 2 ^ k := by
    have := Nat.lt_div_mul_add (a := w) hp
    rw [Nat.add_mul]; omega
  unfold loT upT
  rw [e]
  constructor
  · rw [← Nat.mul_assoc]; exact Nat.mul_le_mul_right _ d1
  · rw [← Nat.mul_assoc]; exact Nat.mul_le_mul_right _ d2
theorem above_range {b v w : Nat} (hw : 1 ≤ w) (hw2 : w < 2 ^ (b + 1)) (h : aboveT v w) : loT b v ≤ loT b w ∧ upT b w ≤ upT b v := by
  have := range_div (k := lvlT w - lvlT v) hw hw2 (by omega)
  rwa [h.2] at this
/-- Of one level: apart, or the same. -/
theorem same_level {b v w : Nat} (he : lvlT v = lvlT w) (h : v < w) : upT b v ≤ loT b w := by
  unfold upT loT; rw [he]; exact Nat.mul_le_mul_right _ h
/-- Of two nodes one lies above the other one, or no value lies below both. -/
theorem above_or {b v w : Nat} (hv : 1 ≤ v) (hv2 : v < 2 ^ (b + 1)) (hw : 1 ≤ w) (hw2 : w < 2 ^ (b + 1)) :
    (upT b v ≤ loT b w ∨ upT b w ≤ loT b v) ↔ ¬ (aboveT v w ∨ aboveT w v) := by
  obtain ⟨a1, a2, a3⟩ := range_in hv hv2
  obtain ⟨b1, b2, b3⟩ := range_in hw hw2
  constructor
  · rintro h (k | k)
    · have := above_range hw hw2 k; omega
    · have := above_range hv hv2 k; omega
  · intro h
    have key : ∀ x y : Nat, 1 ≤ x → x < 2 ^ (b + 1) → 1 ≤ y → y < 2 ^ (b + 1) → lvlT x ≤ lvlT y → ¬ aboveT x y → upT b x ≤ loT b y ∨ upT b y ≤ loT b x := by
      intro x y hx hx2 hy hy2 hl hn
      obtain ⟨u1, u2⟩ := lvl_div (lvlT y - lvlT x) hy (by omega)
      have hr := range_div (b := b) (k := lvlT y - lvlT x) hy hy2 (by omega)
      have hne : y / 2 ^ (lvlT y - lvlT x) ≠ x := fun e => hn ⟨hl, e⟩
      have hle : lvlT (y / 2 ^ (lvlT y - lvlT x)) = lvlT x := by omega
      rcases Nat.lt_or_gt_of_ne hne with c | c
      · have := same_level (b := b) hle c; exact Or.inr (by omega)
      · have := same_level (b := b) hle.symm c; exact Or.inl (by omega)
    rcases Nat.le_total (lvlT v) (lvlT w) with c | c
    · exact key v w hv hv2 hw hw2 c (fun k => h (Or.inl k))
    · rcases key w v hw hw2 hv hv2 c (fun k => h (Or.inr k)) with k | k
      · exact Or.inr k
      · exact Or.inl k
/-- Told ahead. -/
def beforeT (b v w : Nat) : Bool := decide (upT b v < upT b w) || (decide (upT b v = upT b w) && decide (lvlT w < lvlT v))
theorem before_or {b v w : Nat} (hv : 1 ≤ v) (hw : 1 ≤ w) : (beforeT b v w || beforeT b w v) = !(v == w) ∧ (beforeT b v w && beforeT b w v) = false := by
  by_cases e : v = w
  · subst e; unfold beforeT; simp
  · have hne : (v == w) = false := by simp [e]
    rw [hne]
    unfold beforeT
    rcases Nat.lt_trichotomy (upT b v) (upT b w) with c | c | c
    · have : ¬ upT b w < upT b v := by omega
      have d : ¬ upT b w = upT b v := by omega
      simp [c, this, d]
    · have hl : lvlT v ≠ lvlT w := fun hl => by
        rcases Nat.lt_or_gt_of_ne e with k | k
        · have := same_level (b := b) hl k
          have hp := Nat.pow_pos (n := b - lvlT w) (show 0 < 2 by omega)
          have : loT b w < upT b w := by unfold loT upT; rw [Nat.add_mul]; omega
          omega
        · have := same_level (b := b) hl.symm k
          have hp := Nat.pow_pos (n := b - lvlT v) (show 0 < 2 by omega)
          have : loT b v < upT b v := by unfold loT upT; rw [Nat.add_mul]; omega
          omega
      rcases Nat.lt_or_gt_of_ne hl with k | k
      · have : ¬ lvlT w < lvlT v := by omega
        simp [c, k, this]
      · have : ¬ lvlT v < lvlT w := by omega
        simp [c, k, this]
    · have : ¬ upT b v < upT b w := by omega
      have d : ¬ upT b v = upT b w := by omega
      simp [c, this, d]
theorem before_trans {b v w x : Nat} (h : beforeT b v w = true) (k : beforeT b w x = true) : beforeT b v x = true := by
  unfold beforeT at *
  simp only [Bool.or_eq_true, Bool.and_eq_true, decide_eq_true_eq] at *
  omega
/-- Both nodes below one. -/
theorem halves {b v : Nat} (h : 1 ≤ v) (hb : lvlT v < b) : loT b (2 * v) = loT b v ∧ upT b (2 * v) = loT b (2 * v + 1) ∧ upT b (2 * v + 1) = upT b v := by
  obtain ⟨d1, d2⟩ := lvl_down h
  have e : 2 ^ (b - lvlT v) = 2 * 2 ^ (b - (lvlT v + 1)) := by rw [← Nat.pow_succ']; congr 1; omega
  unfold loT upT
  rw [d1, d2, e]
  refine ⟨?_, rfl, ?_⟩
  · rw [Nat.mul_comm 2 v, Nat.mul_assoc]
  · rw [show 2 * v + 1 + 1 = (v + 1) * 2 by omega, Nat.mul_assoc]
/-- A value's own node. -/
theorem leaf_is {b x : Nat} (h : x < 2 ^ b) : lvlT (2 ^ b + x) = b ∧ loT b (2 ^ b + x) = 2 ^ b + x ∧ upT b (2 ^ b + x) = 2 ^ b + x + 1 := by
  have hl : lvlT (2 ^ b + x) = b := lvl_is (by omega) (by rw [Nat.pow_succ]; omega)
  unfold loT upT
  rw [hl, Nat.sub_self, Nat.pow_zero, Nat.mul_one, Nat.mul_one]
  exact ⟨rfl, rfl, rfl⟩
/-- The nodes down to one: the last k of them. -/
def pathT (v k : Nat) : List Nat := (List.range k).map fun i => v / 2 ^ (k - 1 - i)
theorem path_len (v k : Nat) : (pathT v k).length = k := by unfold pathT; simp
theorem path_succ (v k : Nat) : pathT v (k + 1) = (v / 2 ^ k) :: pathT v k := by
  unfold pathT
  rw [List.range_succ_eq_map, List.map_cons, List.map_map]
  congr 1
  refine List.map_congr_left fun i hi => ?_
  show v / 2 ^ (k + 1 - 1 - (i + 1)) = v / 2 ^ (k - 1 - i)
  congr 2
  omega
theorem path_at (v k i : Nat) (h : i < k) : (pathT v k)[i]? = some (v / 2 ^ (k - 1 - i)) := by
  unfold pathT
  rw [List.getElem?_map, List.getElem?_range h]; rfl
theorem path_above {v w : Nat} (hw : 1 ≤ w) : v ∈ pathT w (lvlT w + 1) ↔ aboveT v w := by
  unfold pathT
  rw [List.mem_map]
  constructor
  · rintro ⟨i, hi, rfl⟩
    have hi := List.mem_range.1 hi
    obtain ⟨a, b⟩ := lvl_div (lvlT w + 1 - 1 - i) hw (by omega)
    refine ⟨by omega, ?_⟩
    rw [b, show lvlT w - (lvlT w - (lvlT w + 1 - 1 - i)) = lvlT w + 1 - 1 - i by omega]
  · rintro ⟨hl, e⟩
    refine ⟨lvlT v, List.mem_range.2 (by omega), ?_⟩
    rw [show lvlT w + 1 - 1 - lvlT v = lvlT w - lvlT v by omega]; exact e
theorem path_ends {v : Nat} (h : 1 ≤ v) {k : Nat} : 1 ≤ v / 2 ^ k ↔ k ≤ lvlT v := by
  obtain ⟨a, b⟩ := lvl_bd h
  constructor
  · intro hk
    by_cases c : k ≤ lvlT v
    · exact c
    · exfalso
      have := Nat.pow_le_pow_right (show 0 < 2 by omega) (show lvlT v + 1 ≤ k by omega)
      rw [Nat.div_eq_of_lt (by omega)] at hk; omega
  · intro hk; exact (lvl_div k h hk).1
/-- One node further down: the least value below it. -/
theorem range_step {b i u t : Nat} (h : i < b) : (2 * u + t) * 2 ^ (b - (i + 1)) = u * 2 ^ (b - i) + t * 2 ^ (b - (i + 1)) := by
  have e : 2 ^ (b - i) = 2 * 2 ^ (b - (i + 1)) := by rw [← Nat.pow_succ']; congr 1; omega
  rw [e, Nat.add_mul, ← Nat.mul_assoc, Nat.mul_comm u 2]
theorem div_step (v k : Nat) : v / 2 ^ k = 2 * (v / 2 ^ (k + 1)) + v / 2 ^ k % 2 := by
  have : v / 2 ^ (k + 1) = v / 2 ^ k / 2 := by rw [Nat.pow_succ, Nat.div_div_eq_div_mul]
  omega
end Go.Proofs.YthjcdbnjmpjikaaGreat

/-
  Plain mathematics of a digest by a tree: no program in sight.
-/
namespace Go.Proofs.YthjcdbnjmpjikaaGreat
set_option linter.unusedVariables false
set_option linter.unusedSimpArgs false

/-- What a row counts where a test holds. -/
def whereP (f : Int → Bool) (L : List PairV) : Int := sumP (L.filter fun p => f p.1)
theorem where_nil (f : Int → Bool) : whereP f [] = 0 := rfl
theorem where_cons (f : Int → Bool) (p : PairV) (r : List PairV) : whereP f (p :: r) = (if f p.1 = true then p.2 else 0) + whereP f r := by
  unfold whereP
  cases h : f p.1 with
  | true => rw [List.filter_cons_of_pos (by simpa using h), sumP_cons]; simp
  | false => rw [List.filter_cons_of_neg (by simp [h])]; simp
theorem where_app (f : Int → Bool) (A B : List PairV) : whereP f (A ++ B) = whereP f A + whereP f B := by unfold whereP; rw [List.filter_append, sumP_app]
theorem where_one (L : List PairV) (i : Int) : whereP (fun j => j == i) L = countP L i := rfl
theorem where_all (L : List PairV) : whereP (fun _ => true) L = sumP L := by
  unfold whereP; rw [List.filter_eq_self.2 (fun p _ => rfl)]
theorem where_pos {f : Int → Bool} {L : List PairV} (h : ∀ p, p ∈ L → 0 ≤ p.2) : 0 ≤ whereP f L := sumP_pos fun p hp => h p (List.mem_filter.1 hp).1
theorem where_le {f g : Int → Bool} {L : List PairV} (h : ∀ p, p ∈ L → 0 ≤ p.2) (k : ∀ p, p ∈ L → f p.1 = true → g p.1 = true) : whereP f L ≤ whereP g L := by
  induction L with
  | nil => exact Int.le_refl _
  | cons p r ih =>
    rw [where_cons, where_cons]
    have h1 := ih (fun q hq => h q (List.mem_cons_of_mem _ hq)) (fun q hq => k q (List.mem_cons_of_mem _ hq))
    have h2 := h p List.mem_cons_self
    have h3 := k p List.mem_cons_self
    cases hf : f p.1 with
    | true => rw [h3 hf]; simp; omega
    | false => simp only [Bool.false_eq_true, if_false]; split <;> omega
theorem where_sum {f : Int → Bool} {L : List PairV} (h : ∀ p, p ∈ L → 0 ≤ p.2) : whereP f L ≤ sumP L := by
  rw [← where_all]; exact where_le h fun _ _ _ => rfl
theorem where_add {L : List PairV} (f : Int → Bool) {i c : Int} (h : GoodP L) (h0 : 0 ≤ c) : whereP f (addP L i c) = whereP f L + if f i = true then c else 0 := by
  unfold addP
  rw [where_app, where_app]
  have hm : ∀ n : Int, 0 ≤ n → whereP f (midP i n) = if f i = true then n else 0 := fun n hn => by
    unfold midP
    by_cases c0 : 0 < n
    · rw [if_pos c0, where_cons, where_nil]; simp
    · rw [if_neg c0, where_nil]; split <;> omega
  rcases good_part i h with ⟨n, e, hc, h1⟩ | ⟨e, hc⟩
  · rw [hc, hm _ (by omega)]
    conv => rhs; rw [← e]
    rw [where_app, where_cons]
    split <;> omega
  · rw [hc, hm _ (by omega)]
    conv => rhs; rw [← e]
    rw [where_app]
    split <;> omega
/-- Three indices put aside. -/
def restD (L : List PairV) (a b c : Int) : List PairV := L.filter fun p => !(p.1 == a) && !(p.1 == b) && !(p.1 == c)
theorem where_rest (f : Int → Bool) {a b c : Int} (hab : a ≠ b) (hac : a ≠ c) (hbc : b ≠ c) (L : List PairV) :
    whereP f L = whereP f (restD L a b c) + (if f a = true then countP L a else 0) + (if f b = true then countP L b else 0) + (if f c = true then countP L c else 0) := by
  induction L with
  | nil => simp [restD, where_nil, countP, sumP_nil]
  | cons p r ih =>
    obtain ⟨i, n⟩ := p
    rw [where_cons, count_cons, count_cons, count_cons, ih]
    unfold restD
    simp only
    by_cases ea : i = a
    · subst ea
      rw [List.filter_cons_of_neg (by simp)]
      rw [if_pos rfl, if_neg hab, if_neg hac]
      cases f i <;> cases f b <;> cases f c <;> simp <;> omega
    · by_cases eb : i = b
      · subst eb
        rw [List.filter_cons_of_neg (by simp)]
        rw [if_neg ea, if_pos rfl, if_neg hbc]
        cases f i <;> cases f a <;> cases f c <;> simp <;> omega
      · by_cases ec : i = c
        · subst ec
          rw [List.filter_cons_of_neg (by simp)]
          rw [if_neg ea, if_neg eb, if_pos rfl]
          cases f i <;> cases f a <;> cases f b <;> simp <;> omega
        · rw [List.filter_cons_of_pos (by simp [ea, eb, ec]), where_cons, if_neg ea, if_neg eb, if_neg ec]
          simp only
          cases f i <;> cases f a <;> cases f b <;> cases f c <;> simp <;> omega
/-- The node beside one. -/
def sibD (v : Int) : Int := if v % 2 = 1 then v - 1 else v + 1
theorem sib_apart {v : Int} (h : 2 ≤ v) : v ≠ sibD v ∧ v ≠ v / 2 ∧ sibD v ≠ v / 2 ∧ sibD v / 2 = v / 2 ∧ 2 ≤ sibD v := by unfold sibD; split <;> omega
/-- A node, the one beside it, the one above: their counts. -/
def triD (R : List PairV) (v : Int) : Int := countP R v + countP R (sibD v) + countP R (v / 2)
def liftB (q : Int) (R : List PairV) (v : Int) : Bool := !(v == 1) && !(countP R v == 0) && decide (triD R v ≤ q)
/-- Counts that go up from a node. -/
def liftD (q : Int) (R : List PairV) (v : Int) : List PairV := if liftB q R v = true then addP (restD R v (sibD v) (v / 2)) (v / 2) (triD R v) else R
theorem lift_no {q : Int} {R : List PairV} {v : Int} (h : liftB q R v = false) : liftD q R v = R := by unfold liftD; rw [h]; rfl
theorem count_posD {L : List PairV} (h : GoodP L) (i : Int) : 0 ≤ countP L i := sumP_pos fun p hp => by have := h.1 p (List.mem_filter.1 hp).1; omega
theorem tri_pos {L : List PairV} (h : GoodP L) (v : Int) : 0 ≤ triD L v := by
  unfold triD
  have := count_posD h v; have := count_posD h (sibD v); have := count_posD h (v / 2); omega
theorem count_rest (L : List PairV) {a b c : Int} : countP (restD L a b c) c = 0 := by
  unfold countP restD
  rw [List.filter_filter, List.filter_eq_nil_iff.2, sumP_nil]
  intro p _
  simp
  intro h; simp [h]
theorem liftB_is {q : Int} {R : List PairV} {v : Int} (h : liftB q R v = true) : v ≠ 1 ∧ countP R v ≠ 0 ∧ triD R v ≤ q := by
  unfold liftB at h
  simpa [and_assoc] using h
/-- What a lift does to a sum. -/
theorem lift_where {q : Int} {R : List PairV} {v : Int} (f : Int → Bool) (hg : GoodP R) (hv : 1 ≤ v) (h : liftB q R v = true) :
    whereP f (liftD q R v) = whereP f R + ((if f (v / 2) = true then countP R v else 0) - (if f v = true then countP R v else 0)) + ((if f (v / 2) = true then countP R (sibD v) else 0) - (if f (sibD v) = true then countP R (sibD v) else 0)) := by
  obtain ⟨h1, _, _⟩ := liftB_is h
  obtain ⟨a, b, c, _, _⟩ := sib_apart (show 2 ≤ v by omega)
  unfold liftD
  rw [if_pos h, where_add f (show GoodP (restD R v (sibD v) (v / 2)) from good_filter _ hg) (tri_pos hg v), where_rest f a b c R]
  unfold triD
  cases f v <;> cases f (sibD v) <;> cases f (v / 2) <;> simp <;> omega
theorem lift_sum {q : Int} {R : List PairV} {v : Int} (hg : GoodP R) (hv : 1 ≤ v) : sumP (liftD q R v) = sumP R := by
  cases h : liftB q R v with
  | false => rw [lift_no h]
  | true => rw [← where_all, lift_where _ hg hv h, where_all]; simp
theorem lift_up {q : Int} {R : List PairV} {v : Int} {f : Int → Bool} (hg : GoodP R) (hv : 1 ≤ v) (h1 : f v = true → f (v / 2) = true) (h2 : f (sibD v) = true → f (v / 2) = true) : whereP f R ≤ whereP f (liftD q R v) := by
  cases h : liftB q R v with
  | false => rw [lift_no h]; exact Int.le_refl _
  | true =>
    rw [lift_where _ hg hv h]
    have c1 := count_posD hg v
    have c2 := count_posD hg (sibD v)
    cases e : f (v / 2) with
    | true => simp; split <;> split <;> omega
    | false =>
      have n1 : f v = false := by cases k : f v with | false => rfl | true => rw [h1 k] at e; cases e
      have n2 : f (sibD v) = false := by cases k : f (sibD v) with | false => rfl | true => rw [h2 k] at e; cases e
      rw [n1, n2]; simp
theorem lift_down {q : Int} {R : List PairV} {v : Int} {f : Int → Bool} (hg : GoodP R) (hv : 1 ≤ v) (h1 : f (v / 2) = true → f v = true ∧ f (sibD v) = true) : whereP f (liftD q R v) ≤ whereP f R := by
  cases h : liftB q R v with
  | false => rw [lift_no h]; exact Int.le_refl _
  | true =>
    rw [lift_where _ hg hv h]
    have c1 := count_posD hg v
    have c2 := count_posD hg (sibD v)
    cases e : f (v / 2) with
    | true => rw [(h1 e).1, (h1 e).2]; simp
    | false => simp; split <;> split <;> omega
theorem lift_good {q : Int} {R : List PairV} {v : Int} (hg : GoodP R) (hs : sumP R ≤ 9223372036854775807) (hv : 1 ≤ v) : GoodP (liftD q R v) := by
  cases h : liftB q R v with
  | false => rw [lift_no h]; exact hg
  | true =>
    obtain ⟨h1, _, _⟩ := liftB_is h
    obtain ⟨a, b, c, _, _⟩ := sib_apart (show 2 ≤ v by omega)
    unfold liftD
    rw [if_pos h]
    refine add_good (good_filter _ hg) ?_
    have hw := where_rest (fun _ => true) a b c R
    rw [where_all, where_all] at hw
    have hp : 0 ≤ sumP (restD R v (sibD v) (v / 2)) := sumP_pos fun p hp => by have := hg.1 p (List.mem_filter.1 hp).1; omega
    have hc := count_rest R (a := v) (b := sibD v) (c := v / 2)
    simp at hw
    show countP (restD R v (sibD v) (v / 2)) (v / 2) + triD R v ≤ _
    rw [hc]
    unfold triD; omega
theorem add_memD {L : List PairV} {i c : Int} {p : PairV} (h : p ∈ addP L i c) : p ∈ L ∨ (p.1 = i ∧ p.2 = countP L i + c) := by
  unfold addP at h
  rcases List.mem_append.1 h with h | h
  · exact Or.inl (lowP_mem h).1
  · rcases List.mem_append.1 h with h | h
    · unfold midP at h
      split at h
      · have := List.mem_singleton.1 h; subst this; exact Or.inr ⟨rfl, rfl⟩
      · cases h
    · exact Or.inl (highP_mem h).1
/-- Where a lift's pairs come from. -/
theorem lift_mem {q : Int} {R : List PairV} {v : Int} {p : PairV} (h : p ∈ liftD q R v) : p ∈ R ∨ (p.1 = v / 2 ∧ p.2 ≤ q ∧ liftB q R v = true) := by
  cases hb : liftB q R v with
  | false => rw [lift_no hb] at h; exact Or.inl h
  | true =>
    unfold liftD at h
    rw [if_pos hb] at h
    rcases add_memD h with h | ⟨h1, h2⟩
    · exact Or.inl (List.mem_filter.1 h).1
    · have := count_rest R (a := v) (b := sibD v) (c := v / 2)
      rw [this] at h2
      exact Or.inr ⟨h1, by have := (liftB_is hb).2.2; omega, rfl⟩
/-- What goes down with each lift. -/
def idxSum (L : List PairV) : Int := (L.map fun p => p.1).sum
theorem idx_cons (p : PairV) (r : List PairV) : idxSum (p :: r) = p.1 + idxSum r := by unfold idxSum; simp
theorem idx_app (A B : List PairV) : idxSum (A ++ B) = idxSum A + idxSum B := by unfold idxSum; rw [List.map_append, List.sum_append]
theorem idx_pos {L : List PairV} (h : ∀ p, p ∈ L → 0 ≤ p.1) : 0 ≤ idxSum L := by
  induction L with
  | nil => exact Int.le_refl _
  | cons p r ih => rw [idx_cons]; have := h p List.mem_cons_self; have := ih fun q hq => h q (List.mem_cons_of_mem _ hq); omega
theorem idx_le {L : List PairV} (f : PairV → Bool) (h : ∀ p, p ∈ L → 0 ≤ p.1) : idxSum (L.filter f) ≤ idxSum L := by
  induction L with
  | nil => exact Int.le_refl _
  | cons p r ih =>
    have h0 := h p List.mem_cons_self
    have h1 := ih fun q hq => h q (List.mem_cons_of_mem _ hq)
    rw [List.filter_cons]
    split
    · rw [idx_cons, idx_cons]; omega
    · rw [idx_cons]; omega
theorem idx_filter {L : List PairV} (f : PairV → Bool) (h : ∀ p, p ∈ L → 0 ≤ p.1) {v : PairV} (hv : v ∈ L) (hf : f v = false) : idxSum (L.filter f) + v.1 ≤ idxSum L := by
  induction L with
  | nil => cases hv
  | cons p r ih =>
    have h' := fun q hq => h q (List.mem_cons_of_mem p hq)
    have h0 := h p List.mem_cons_self
    have hle := idx_le (L := r) f h'
    rcases List.mem_cons.1 hv with e | e
    · subst e
      rw [List.filter_cons_of_neg (by simp [hf]), idx_cons]; omega
    · have := ih h' e
      rw [List.filter_cons]
      split
      · rw [idx_cons, idx_cons]; omega
      · rw [idx_cons]; omega
theorem idx_low (L : List PairV) (i : Int) (hc : ∀ p, p ∈ L → p.1 ≠ i) : idxSum (lowP L i) + idxSum (highP L i) = idxSum L := by
  induction L with
  | nil => rfl
  | cons p r ih =>
    have h := ih fun q hq => hc q (List.mem_cons_of_mem _ hq)
    have h0 := hc p List.mem_cons_self
    unfold lowP highP at *
    by_cases c : p.1 < i
    · rw [List.filter_cons_of_pos (by simpa using c), List.filter_cons_of_neg (by simp; omega), idx_cons, idx_cons]; omega
    · rw [List.filter_cons_of_neg (by simpa using c), List.filter_cons_of_pos (by simp; omega), idx_cons, idx_cons]; omega
theorem count_memD {L : List PairV} {i : Int} (h : countP L i ≠ 0) : ∃ p, p ∈ L ∧ p.1 = i := by
  unfold countP at h
  cases e : L.filter fun p => p.1 == i with
  | nil => rw [e] at h; exact absurd rfl h
  | cons p r =>
    have : p ∈ L.filter fun p => p.1 == i := by rw [e]; exact List.mem_cons_self
    obtain ⟨a, b⟩ := List.mem_filter.1 this
    exact ⟨p, a, by simpa using b⟩
theorem lift_idx {q : Int} {R : List PairV} {v : Int} (hi : ∀ p, p ∈ R → 1 ≤ p.1) (hv : 1 ≤ v) (h : liftB q R v = true) : idxSum (liftD q R v) < idxSum R := by
  obtain ⟨h1, h2, _⟩ := liftB_is h
  obtain ⟨⟨i, n⟩, hp, e⟩ := count_memD h2
  simp only at e
  subst e
  have hf := idx_filter (fun p : PairV => !(p.1 == i) && !(p.1 == sibD i) && !(p.1 == i / 2)) (fun p hp => by have := hi p hp; omega) hp (by simp)
  unfold liftD
  rw [if_pos h]
  unfold addP
  have hr := idx_low (restD R i (sibD i) (i / 2)) (i / 2) (fun p hp => by
    have := (List.mem_filter.1 hp).2
    simp at this
    exact this.2)
  have hm : idxSum (midP (i / 2) (countP (restD R i (sibD i) (i / 2)) (i / 2) + triD R i)) ≤ i / 2 := by
    unfold midP; split
    · rw [idx_cons]; show i / 2 + 0 ≤ i / 2; omega
    · show (0 : Int) ≤ i / 2; omega
  rw [idx_app, idx_app]
  have hf' : idxSum (restD R i (sibD i) (i / 2)) + i ≤ idxSum R := hf
  omega
end Go.Proofs.YthjcdbnjmpjikaaGreat

/-
  Plain mathematics of a digest: squeezing ends, and leaves few nodes: no program in sight.
-/
namespace Go.Proofs.YthjcdbnjmpjikaaGreat
set_option linter.unusedVariables false
set_option linter.unusedSimpArgs false

/-- One node of a sweep. -/
def stepD (q : Int) (s : Bool × List PairV) (v : Int) : Bool × List PairV := (s.1 || liftB q s.2 v, liftD q s.2 v)
def sweepD (q : Int) (L : List Int) (R : List PairV) : Bool × List PairV := L.foldl (stepD q) (false, R)
/-- The nodes of a row, the greatest number first. -/
def idxD (R : List PairV) : List Int := (R.map fun p => p.1).reverse
def tidyD (q : Int) : Nat → List PairV → List PairV
  | 0, R => R
  | n + 1, R => if (sweepD q (idxD R) R).1 = true then tidyD q n (sweepD q (idxD R) R).2 else R
def fuelD (R : List PairV) : Nat := (idxSum R).toNat + 1
/-- Too many nodes are squeezed. -/
def squeezeD (most : Nat) (q : Int) (R : List PairV) : List PairV := if R.length ≤ most then R else tidyD q (fuelD R) R
theorem sweep_take (q : Int) (L : List Int) (R : List PairV) {k : Nat} {v : Int} (h : L[k]? = some v) : sweepD q (L.take (k + 1)) R = stepD q (sweepD q (L.take k) R) v := by
  unfold sweepD
  rw [take_snocP h, List.foldl_append]; rfl
theorem sweep_nil (q : Int) (R : List PairV) : sweepD q [] R = (false, R) := rfl
/-- What each lift keeps a sweep keeps. -/
theorem sweep_keeps {q : Int} {P : List PairV → Prop} (hP : ∀ R v, P R → 1 ≤ v → P (liftD q R v)) : ∀ (L : List Int) (s : Bool × List PairV), (∀ v, v ∈ L → 1 ≤ v) → P s.2 → P (L.foldl (stepD q) s).2
  | [], s, _, h => h
  | v :: r, s, hv, h => by
    rw [List.foldl_cons]
    exact sweep_keeps hP r _ (fun u hu => hv u (List.mem_cons_of_mem _ hu)) (hP _ _ h (hv v List.mem_cons_self))
theorem sweep_still {q : Int} : ∀ (L : List Int) (s : Bool × List PairV), (L.foldl (stepD q) s).1 = false → s.1 = false ∧ (L.foldl (stepD q) s).2 = s.2 ∧ ∀ v, v ∈ L → liftB q s.2 v = false
  | [], s, h => ⟨h, rfl, fun v hv => by cases hv⟩
  | v :: r, s, h => by
    rw [List.foldl_cons] at h ⊢
    obtain ⟨h1, h2, h3⟩ := sweep_still r _ h
    have hs : (s.1 || liftB q s.2 v) = false := h1
    rw [Bool.or_eq_false_iff] at hs
    have hn : liftD q s.2 v = s.2 := lift_no hs.2
    have e2 : (stepD q s v).2 = s.2 := hn
    rw [e2] at h2 h3
    refine ⟨hs.1, h2, fun u hu => ?_⟩
    rcases List.mem_cons.1 hu with e | e
    · rw [e]; exact hs.2
    · exact h3 u e
/-- The indices of a row stand from 1 on. -/
def NodesP (R : List PairV) : Prop := ∀ p, p ∈ R → 1 ≤ p.1
theorem lift_nodes {q : Int} {R : List PairV} {v : Int} (h : NodesP R) (hv : 1 ≤ v) : NodesP (liftD q R v) := fun p hp => by
  rcases lift_mem hp with h1 | ⟨h1, _, h2⟩
  · exact h p h1
  · have := (liftB_is h2).1; omega
theorem sweep_idx {q : Int} : ∀ (L : List Int) (s : Bool × List PairV), NodesP s.2 → (∀ v, v ∈ L → 1 ≤ v) → idxSum (L.foldl (stepD q) s).2 ≤ idxSum s.2 ∧ (s.1 = false → (L.foldl (stepD q) s).1 = true → idxSum (L.foldl (stepD q) s).2 < idxSum s.2)
  | [], s, hn, _ => ⟨Int.le_refl _, fun h k => by rw [List.foldl_nil] at k; rw [h] at k; cases k⟩
  | v :: r, s, hn, hv => by
    have h1 := hv v List.mem_cons_self
    obtain ⟨i1, i2⟩ := sweep_idx (q := q) r (stepD q s v) (lift_nodes hn h1) (fun u hu => hv u (List.mem_cons_of_mem _ hu))
    rw [List.foldl_cons]
    cases hb : liftB q s.2 v with
    | true =>
      have := lift_idx hn h1 hb
      have e : (stepD q s v).2 = liftD q s.2 v := rfl
      rw [e] at i1
      exact ⟨by omega, fun _ _ => by omega⟩
    | false =>
      have e : (stepD q s v).2 = s.2 := lift_no hb
      rw [e] at i1 i2
      refine ⟨i1, fun h k => i2 ?_ k⟩
      show (s.1 || liftB q s.2 v) = false
      rw [h, hb]; rfl
theorem idxD_pos {R : List PairV} (h : NodesP R) : ∀ v, v ∈ idxD R → 1 ≤ v := fun v hv => by
  unfold idxD at hv
  obtain ⟨p, hp, rfl⟩ := List.mem_map.1 (List.mem_reverse.1 hv)
  exact h p hp
theorem sweep_nodes {q : Int} {R : List PairV} (h : NodesP R) {L : List Int} (hv : ∀ v, v ∈ L → 1 ≤ v) : NodesP (sweepD q L R).2 :=
  sweep_keeps (P := NodesP) (fun R v h hv => lift_nodes h hv) L (false, R) hv h
/-- Squeezed to the end, nothing goes up any more. -/
theorem tidy_still {q : Int} : ∀ (n : Nat) (R : List PairV), NodesP R → idxSum R < n → ∀ p, p ∈ tidyD q n R → liftB q (tidyD q n R) p.1 = false
  | 0, R, hn, h => fun p hp => by
    have := idx_pos (L := R) fun p hp => (show (0 : Int) ≤ p.1 by have := hn p hp; omega)
    exfalso; omega
  | n + 1, R, hn, h => by
    unfold tidyD
    have hv := idxD_pos hn
    cases hs : (sweepD q (idxD R) R).1 with
    | true =>
      rw [if_pos rfl]
      have := (sweep_idx (q := q) (idxD R) (false, R) hn hv).2 rfl hs
      exact tidy_still n _ (sweep_nodes hn hv) (by show idxSum (sweepD q (idxD R) R).2 < n; unfold sweepD; simp only at this; omega)
    | false =>
      rw [if_neg (by simp)]
      obtain ⟨_, _, h3⟩ := sweep_still (q := q) (idxD R) (false, R) hs
      intro p hp
      exact h3 p.1 (List.mem_reverse.2 (List.mem_map.2 ⟨p, hp, rfl⟩))
theorem tidy_keeps {q : Int} {P : List PairV → Prop} (hP : ∀ R v, P R → 1 ≤ v → P (liftD q R v)) : ∀ (n : Nat) (R : List PairV), NodesP R → P R → P (tidyD q n R)
  | 0, R, _, h => h
  | n + 1, R, hn, h => by
    unfold tidyD
    split
    · exact tidy_keeps hP n _ (sweep_nodes hn (idxD_pos hn)) (sweep_keeps hP (idxD R) (false, R) (idxD_pos hn) h)
    · exact h
theorem squeeze_keeps {q : Int} {P : List PairV → Prop} (hP : ∀ R v, P R → 1 ≤ v → P (liftD q R v)) {most : Nat} {R : List PairV} (hn : NodesP R) (h : P R) : P (squeezeD most q R) := by
  unfold squeezeD
  split
  · exact h
  · exact tidy_keeps hP _ R hn h

/-! ### Few nodes are left -/
theorem where_next (L : List PairV) (i : Int) : whereP (fun j => decide (j < i + 1)) L = whereP (fun j => decide (j < i)) L + countP L i := by
  induction L with
  | nil => rfl
  | cons p r ih =>
    rw [where_cons, where_cons, count_cons, ih]
    rcases Int.lt_trichotomy p.1 i with c | c | c
    · rw [decide_eq_true (by omega : p.1 < i + 1), decide_eq_true c, if_neg (by omega : ¬ p.1 = i)]; simp; omega
    · rw [decide_eq_true (by omega : p.1 < i + 1), decide_eq_false (by omega : ¬ p.1 < i), if_pos c]; simp; omega
    · rw [decide_eq_false (by omega : ¬ p.1 < i + 1), decide_eq_false (by omega : ¬ p.1 < i), if_neg (by omega : ¬ p.1 = i)]; simp
def lenD (R : List PairV) (i : Int) : Int := ((R.filter fun p => decide (p.1 < i)).length : Nat)
def oneD (R : List PairV) (i : Int) : Int := if countP R i ≠ 0 then 1 else 0
theorem len_next {R : List PairV} (h : GoodP R) (i : Int) : lenD R (i + 1) ≤ lenD R i + oneD R i := by
  have hfl : ∀ A : List PairV, (∀ p, p ∈ A → p.1 < i) → (A.filter fun p => decide (p.1 < i + 1)) = A ∧ (A.filter fun p => decide (p.1 < i)) = A := fun A hA =>
    ⟨List.filter_eq_self.2 fun p hp => by have := hA p hp; simp; omega, List.filter_eq_self.2 fun p hp => by have := hA p hp; simpa using this⟩
  have hfh : ∀ A : List PairV, (∀ p, p ∈ A → i < p.1) → (A.filter fun p => decide (p.1 < i + 1)) = [] ∧ (A.filter fun p => decide (p.1 < i)) = [] := fun A hA =>
    ⟨List.filter_eq_nil_iff.2 fun p hp => by have := hA p hp; simp; omega, List.filter_eq_nil_iff.2 fun p hp => by have := hA p hp; simp; omega⟩
  have h1 := hfl (lowP R i) fun p hp => (lowP_mem hp).2
  have h2 := hfh (highP R i) fun p hp => (highP_mem hp).2
  unfold lenD oneD
  rcases good_part i h with ⟨n, e, hc, hn⟩ | ⟨e, hc⟩
  · rw [if_pos (by omega)]
    conv => lhs; rw [← e]
    conv => rhs; rw [← e]
    rw [List.filter_append, List.filter_append, List.filter_cons, List.filter_cons, h1.1, h1.2, h2.1, h2.2, if_pos (by simp; omega), if_neg (by simp)]
    simp
  · conv => lhs; rw [← e]
    conv => rhs; rw [← e]
    rw [List.filter_append, List.filter_append, h1.1, h1.2, h2.1, h2.2]
    split <;> simp <;> omega
/-- Of the nodes up to one those below which one of both has a count. -/
def hasD (R : List PairV) : Nat → Int
  | 0 => 0
  | m + 1 => hasD R m + if m ≠ 0 ∧ (countP R (2 * m) ≠ 0 ∨ countP R (2 * m + 1) ≠ 0) then 1 else 0
theorem has_sum {R : List PairV} {q : Int} (hg : GoodP R) (hf : ∀ v, 2 ≤ v → countP R v ≠ 0 → q < triD R v) : ∀ m : Nat, (q + 1) * hasD R m ≤ whereP (fun j => decide (j < 2 * m)) R + whereP (fun j => decide (j < m)) R
  | 0 => by
    unfold hasD
    have hp : ∀ p, p ∈ R → 0 ≤ p.2 := fun p hp => by have := hg.1 p hp; omega
    have := where_pos (f := fun j => decide (j < 2 * ((0 : Nat) : Int))) hp
    have := where_pos (f := fun j => decide (j < ((0 : Nat) : Int))) hp
    rw [Int.mul_zero]; omega
  | m + 1 => by
    have ih := has_sum hg hf m
    have a1 := where_next R (2 * m)
    have a2 := where_next R (2 * m + 1)
    have a3 := where_next R m
    have c1 := count_posD hg (2 * m)
    have c2 := count_posD hg (2 * m + 1)
    have c3 := count_posD hg m
    have e1 : (2 * ((m + 1 : Nat) : Int)) = 2 * (m : Int) + 1 + 1 := by omega
    have e2 : (((m + 1 : Nat) : Int)) = (m : Int) + 1 := by omega
    rw [e1, e2, a2, a1, a3]
    unfold hasD
    by_cases c : m ≠ 0 ∧ (countP R (2 * m) ≠ 0 ∨ countP R (2 * m + 1) ≠ 0)
    · rw [if_pos c, Int.mul_add, Int.mul_one]
      have hS : q < countP R (2 * m) + countP R (2 * m + 1) + countP R m := by
        rcases c.2 with k | k
        · have := hf (2 * m) (by omega) k
          unfold triD sibD at this
          rw [if_neg (by omega), show (2 * (m : Int)) / 2 = m by omega] at this; omega
        · have := hf (2 * m + 1) (by omega) k
          unfold triD sibD at this
          rw [if_pos (by omega), show (2 * (m : Int) + 1) / 2 = m by omega, show (2 * (m : Int) + 1) - 1 = 2 * m by omega] at this; omega
      omega
    · rw [if_neg c, Int.add_zero]; omega
theorem has_len {R : List PairV} (hg : GoodP R) (hn : NodesP R) : ∀ m : Nat, lenD R (2 * ((m : Int) + 1)) ≤ 1 + 2 * hasD R (m + 1)
  | 0 => by
    have l0 : lenD R 1 = 0 := by
      unfold lenD
      rw [List.filter_eq_nil_iff.2 fun p hp => by have := hn p hp; simp; omega]; rfl
    have hx := len_next hg 1
    rw [show (1 : Int) + 1 = 2 from rfl] at hx
    have ho : oneD R 1 ≤ 1 := by unfold oneD; split <;> omega
    have e : (2 * (((0 : Nat) : Int) + 1)) = 2 := by omega
    rw [e]
    unfold hasD hasD
    simp; omega
  | m + 1 => by
    have ih := has_len hg hn m
    have a1 := len_next hg (2 * ((m : Int) + 1))
    have a2 := len_next hg (2 * ((m : Int) + 1) + 1)
    have e : (2 * (((m + 1 : Nat) : Int) + 1)) = 2 * ((m : Int) + 1) + 1 + 1 := by omega
    rw [e]
    have e3 : hasD R (m + 1 + 1) = hasD R (m + 1) + if m + 1 ≠ 0 ∧ (countP R (2 * ((m + 1 : Nat) : Int)) ≠ 0 ∨ countP R (2 * ((m + 1 : Nat) : Int) + 1) ≠ 0) then 1 else 0 := by rw [hasD]
    rw [e3]
    have e4 : (((m + 1 : Nat) : Int)) = (m : Int) + 1 := by omega
    rw [e4]
    have o1 : oneD R (2 * ((m : Int) + 1)) + oneD R (2 * ((m : Int) + 1) + 1) ≤ 2 * (if m + 1 ≠ 0 ∧ (countP R (2 * ((m : Int) + 1)) ≠ 0 ∨ countP R (2 * ((m : Int) + 1) + 1) ≠ 0) then 1 else 0) := by
      unfold oneD
      by_cases k1 : countP R (2 * ((m : Int) + 1)) ≠ 0 <;> by_cases k2 : countP R (2 * ((m : Int) + 1) + 1) ≠ 0 <;> simp [k1, k2] <;> omega
    omega
/-- WHERE NOTHING GOES UP ANY MORE THERE ARE FEW NODES. -/
theorem few_nodes {R : List PairV} {q k : Int} (hg : GoodP R) (hn : NodesP R) (hq : 0 ≤ q) (hk : 1 ≤ k) (hs : sumP R < k * (q + 1)) (hf : ∀ p, p ∈ R → liftB q R p.1 = false) : (R.length : Int) ≤ 4 * k - 1 := by
  have hf' : ∀ v, 2 ≤ v → countP R v ≠ 0 → q < triD R v := fun v hv hc => by
    obtain ⟨p, hp, rfl⟩ := count_memD hc
    have := hf p hp
    unfold liftB at this
    simp [hc] at this
    omega
  obtain ⟨M, hM⟩ : ∃ M : Nat, ∀ p, p ∈ R → p.1 < 2 * ((M : Int) + 1) := by
    clear hf hf' hs
    refine ⟨(idxSum R).toNat, fun p hp => ?_⟩
    have h1 := idx_filter (L := R) (fun _ => false) (fun p hp => by have := hn p hp; omega) hp rfl
    have h2 : idxSum (R.filter fun _ => false) = 0 := by rw [List.filter_eq_nil_iff.2 (fun _ _ => by simp)]; rfl
    have := hn p hp
    omega
  have hl := has_len hg hn M
  have hh := has_sum hg hf' (M + 1)
  have hp : ∀ p, p ∈ R → 0 ≤ p.2 := fun p hp => by have := hg.1 p hp; omega
  have w1 := where_sum (f := fun j => decide (j < 2 * ((M + 1 : Nat) : Int))) hp
  have w2 := where_sum (f := fun j => decide (j < ((M + 1 : Nat) : Int))) hp
  have e : lenD R (2 * ((M : Int) + 1)) = R.length := by
    unfold lenD
    rw [List.filter_eq_self.2 fun p hp => by have := hM p hp; simpa using this]
  rw [e] at hl
  have hlt : (q + 1) * hasD R (M + 1) < (q + 1) * (2 * k) := by
    have : (q + 1) * (2 * k) = 2 * (k * (q + 1)) := by rw [Int.mul_comm k, ← Int.mul_assoc, ← Int.mul_assoc, Int.mul_comm 2]
    omega
  have := Int.lt_of_mul_lt_mul_left hlt (by omega)
  omega
end Go.Proofs.YthjcdbnjmpjikaaGreat

/-
  Plain mathematics of a digest: what its counts say of the values that were put, and how close Quantile is: no program in sight.
-/
namespace Go.Proofs.YthjcdbnjmpjikaaGreat
set_option linter.unusedVariables false
set_option linter.unusedSimpArgs false

/-- The greatest and the least value below a node. -/
def hiD (b : Nat) (v : Int) : Int := (upT b v.toNat : Int) - 2 ^ b - 1
def loD (b : Nat) (v : Int) : Int := (loT b v.toNat : Int) - 2 ^ b
def nodeD (b : Nat) (v : Int) : Prop := 1 ≤ v ∧ v < ((2 ^ (b + 1) : Nat) : Int)
theorem node_nat {b : Nat} {v : Int} (h : nodeD b v) : ∃ n : Nat, v = n ∧ 1 ≤ n ∧ n < 2 ^ (b + 1) := ⟨v.toNat, by have := h.1; omega, by have := h.1; omega, by have := h.1; have := h.2; omega⟩
theorem lvl_lt {b n : Nat} (h1 : 1 ≤ n) (h2 : n < 2 ^ b) : lvlT n < b := by
  obtain ⟨a, c⟩ := lvl_bd h1
  apply Classical.byContradiction
  intro hc
  have := Nat.pow_le_pow_right (show 0 < 2 by omega) (show b ≤ lvlT n by omega)
  omega
/-- One up: the values below are those below both. -/
theorem up_range {b : Nat} {v : Int} (h : nodeD b v) (h2 : 2 ≤ v) : loD b (v / 2) ≤ loD b v ∧ hiD b v ≤ hiD b (v / 2) ∧ nodeD b (v / 2) ∧ v / 2 < ((2 ^ b : Nat) : Int) := by
  obtain ⟨n, rfl, n1, n2⟩ := node_nat h
  have e : ((n : Int) / 2).toNat = n / 2 := by omega
  have hb : n / 2 < 2 ^ b := by rw [Nat.pow_succ] at n2; omega
  have hh : 1 ≤ n / 2 := by omega
  obtain ⟨a1, a2, a3⟩ := halves hh (lvl_lt hh hb)
  have r1 := range_in (b := b) (v := 2 * (n / 2)) (by omega) (by omega)
  have r2 := range_in (b := b) (v := n) n1 n2
  unfold loD hiD nodeD
  rw [e]
  simp only [Int.toNat_natCast]
  have hp : 2 ^ b ≤ 2 ^ (b + 1) := Nat.pow_le_pow_right (by omega) (by omega)
  rcases Nat.mod_two_eq_zero_or_one n with c | c
  · have en : 2 * (n / 2) = n := by omega
    rw [en] at a1 a2 r1
    have r3 := range_in (b := b) (v := 2 * (n / 2) + 1) (by omega) (by rw [Nat.pow_succ] at n2 ⊢; omega)
    rw [en] at r3 a3
    exact ⟨by omega, by omega, ⟨by omega, by omega⟩, by omega⟩
  · have en : 2 * (n / 2) + 1 = n := by omega
    rw [en] at a2 a3
    exact ⟨by omega, by omega, ⟨by omega, by omega⟩, by omega⟩
theorem sib_node {b : Nat} {v : Int} (h : nodeD b v) (h2 : 2 ≤ v) : nodeD b (sibD v) := by
  obtain ⟨_, _, _, _, h3⟩ := sib_apart h2
  refine ⟨by omega, ?_⟩
  have := h.2
  have e : 2 ^ (b + 1) = 2 * 2 ^ b := by rw [Nat.pow_succ]; omega
  unfold sibD
  split <;> omega
/-- What is true of a digest's counts, of the values that were put. -/
structure DigP (b : Nat) (k : Int) (R vals : List PairV) : Prop where
  good : GoodP R
  node : ∀ p, p ∈ R → nodeD b p.1
  pos : ∀ p, p ∈ vals → 0 ≤ p.2
  sum : sumP R = sumP vals
  small : ∀ p, p ∈ R → p.1 < ((2 ^ b : Nat) : Int) → p.2 ≤ sumP R / k
  low : ∀ x, whereP (fun v => decide (hiD b v ≤ x)) R ≤ whereP (fun y => decide (y ≤ x)) vals
  high : ∀ x, whereP (fun y => decide (y ≤ x)) vals ≤ whereP (fun v => decide (loD b v ≤ x)) R
theorem DigP.nil (b : Nat) (k : Int) : DigP b k [] [] := ⟨good_nil, fun p h => (by cases h), fun p h => (by cases h), rfl, fun p h => (by cases h), fun x => Int.le_refl _, fun x => Int.le_refl _⟩
theorem DigP.nodes {b : Nat} {k : Int} {R vals : List PairV} (h : DigP b k R vals) : NodesP R := fun p hp => (h.node p hp).1
theorem DigP.lift {b : Nat} {k : Int} {R vals : List PairV} (h : DigP b k R vals) (hs : sumP R ≤ 9223372036854775807) {v : Int} (hv : 1 ≤ v) : DigP b k (liftD (sumP R / k) R v) vals := by
  cases hb : liftB (sumP R / k) R v with
  | false => rw [lift_no hb]; exact h
  | true =>
    obtain ⟨h1, hc, ht⟩ := liftB_is hb
    obtain ⟨p, hp, rfl⟩ := count_memD hc
    have hn := h.node p hp
    have h2 : 2 ≤ p.1 := by omega
    obtain ⟨s1, s2, s3, s4, s5⟩ := sib_apart h2
    obtain ⟨u1, u2, u3, u4⟩ := up_range hn h2
    obtain ⟨w1, w2, _, _⟩ := up_range (sib_node hn h2) s5
    rw [s4] at w1 w2
    have hsum := lift_sum (q := sumP R / k) (v := p.1) h.good hv
    refine ⟨lift_good h.good hs hv, fun r hr => ?_, h.pos, by rw [hsum]; exact h.sum, fun r hr hl => ?_, fun x => ?_, fun x => ?_⟩
    · rcases lift_mem hr with k1 | ⟨k1, _, _⟩
      · exact h.node r k1
      · rw [k1]; exact u3
    · rw [hsum]
      rcases lift_mem hr with k1 | ⟨k1, k2, _⟩
      · exact h.small r k1 hl
      · exact k2
    · refine Int.le_trans (lift_down h.good hv fun e => ?_) (h.low x)
      simp only [decide_eq_true_eq] at e ⊢
      omega
    · refine Int.le_trans (h.high x) (lift_up h.good hv (fun e => ?_) (fun e => ?_))
      · simp only [decide_eq_true_eq] at e ⊢; omega
      · simp only [decide_eq_true_eq] at e ⊢; omega
theorem DigP.squeeze {b : Nat} {k : Int} {R vals : List PairV} (h : DigP b k R vals) (hs : sumP R ≤ 9223372036854775807) (most : Nat) : DigP b k (squeezeD most (sumP R / k) R) vals := by
  have := squeeze_keeps (q := sumP R / k) (P := fun S => DigP b k S vals ∧ sumP S = sumP R) (fun S v hS hv => by
    have e := hS.2
    have := hS.1.lift (by omega) hv
    rw [e] at this
    exact ⟨this, by rw [lift_sum hS.1.good hv]; exact e⟩) (most := most) h.nodes ⟨h, rfl⟩
  exact this.1
/-- Behind a squeeze there are few nodes. -/
theorem DigP.few {b : Nat} {k : Int} {R vals : List PairV} (h : DigP b k R vals) (hs : sumP R ≤ 9223372036854775807) (hk : 1 ≤ k) {most : Nat} (hm : (most : Int) = 4 * k) : (squeezeD most (sumP R / k) R).length ≤ most := by
  have hp := h.squeeze hs most
  have hsum : sumP (squeezeD most (sumP R / k) R) = sumP R := hp.sum.trans h.sum.symm
  have h0 := sumP_pos (L := R) fun p hp => by have := h.good.1 p hp; omega
  unfold squeezeD at *
  by_cases c : R.length ≤ most
  · rw [if_pos c]; exact c
  · rw [if_neg c] at hp hsum ⊢
    have hi : idxSum R < (fuelD R : Nat) := by unfold fuelD; omega
    have hdiv : sumP R < k * (sumP R / k + 1) := by
      have := Int.emod_add_mul_ediv (sumP R) k
      have := Int.emod_lt_of_pos (sumP R) (show 0 < k by omega)
      rw [Int.mul_add, Int.mul_one]; omega
    have := few_nodes (q := sumP R / k) (k := k) hp.good hp.nodes (Int.ediv_nonneg h0 (by omega)) hk (by rw [hsum]; exact hdiv) (tidy_still (q := sumP R / k) (fuelD R) R h.nodes hi)
    omega
/-- A value's own node. -/
theorem leaf_node {b : Nat} {x : Int} (h0 : 0 ≤ x) (h1 : x < ((2 ^ b : Nat) : Int)) : nodeD b (((2 ^ b : Nat) : Int) + x) ∧ loD b (((2 ^ b : Nat) : Int) + x) = x ∧ hiD b (((2 ^ b : Nat) : Int) + x) = x := by
  obtain ⟨n, rfl⟩ : ∃ n : Nat, x = n := ⟨x.toNat, by omega⟩
  obtain ⟨a, c, e⟩ := leaf_is (b := b) (x := n) (by omega)
  have e2 : ((((2 ^ b : Nat) : Int) + (n : Int))).toNat = 2 ^ b + n := by omega
  have e3 : ((2 ^ b : Nat) : Int) = 2 ^ b := by rw [Int.natCast_pow]; rfl
  have e4 : 2 ^ (b + 1) = 2 * 2 ^ b := by rw [Nat.pow_succ]; omega
  unfold nodeD loD hiD
  rw [e2, c, e]
  exact ⟨⟨by omega, by omega⟩, by omega, by omega⟩
theorem sum_snocD (A : List PairV) (p : PairV) : sumP (A ++ [p]) = sumP A + p.2 := by rw [sumP_app, sumP_one]
theorem add_sumD {L : List PairV} {i c : Int} (h : GoodP L) (h0 : 0 ≤ c) : sumP (addP L i c) = sumP L + c := by
  have := where_add (fun _ => true) (i := i) h h0
  rw [where_all, where_all] at this; simpa using this
theorem mem_countD {L : List PairV} (h : ∀ p, p ∈ L → 0 ≤ p.2) {p : PairV} (hp : p ∈ L) : p.2 ≤ countP L p.1 := by
  induction L with
  | nil => cases hp
  | cons a r ih =>
    have hr := fun q hq => h q (List.mem_cons_of_mem a hq)
    rw [count_cons]
    have h1 : 0 ≤ countP r p.1 := sumP_pos fun q hq => hr q (List.mem_filter.1 hq).1
    have h2 := h a List.mem_cons_self
    rcases List.mem_cons.1 hp with e | e
    · subst e; rw [if_pos rfl]; omega
    · have := ih hr e; split <;> omega
theorem count_leD {L : List PairV} (h : ∀ p, p ∈ L → 0 ≤ p.2) (i : Int) : countP L i ≤ sumP L := by rw [← where_one]; exact where_sum h
theorem count_ofD {L : List PairV} (h : GoodP L) {p : PairV} (hp : p ∈ L) : countP L p.1 = p.2 := by
  obtain ⟨A, B, rfl⟩ := List.append_of_mem hp
  obtain ⟨_, h2, h3⟩ := good_app h
  have ha : countP A p.1 = 0 := by
    unfold countP
    rw [List.filter_eq_nil_iff.2, sumP_nil]
    intro q hq
    have := h3 q hq p List.mem_cons_self
    simp; omega
  have hb : countP B p.1 = 0 := count_above fun q hq => (List.pairwise_cons.1 h2.2).1 q hq
  rw [countP_app, count_cons, if_pos rfl, ha, hb]; omega
/-- A value that comes. -/
theorem DigP.put {b : Nat} {k : Int} {R vals : List PairV} (h : DigP b k R vals) (hk : 1 ≤ k) {x c : Int} (h0 : 0 ≤ x) (h1 : x < ((2 ^ b : Nat) : Int)) (hc : 0 < c) (hs : sumP R + c ≤ 9223372036854775807) :
    DigP b k (addP R (((2 ^ b : Nat) : Int) + x) c) (vals ++ [(x, c)]) := by
  obtain ⟨l1, l2, l3⟩ := leaf_node h0 h1
  have hpos : ∀ p, p ∈ R → 0 ≤ p.2 := fun p hp => by have := h.good.1 p hp; omega
  have hcl := count_leD hpos (((2 ^ b : Nat) : Int) + x)
  have hsum := add_sumD (i := ((2 ^ b : Nat) : Int) + x) h.good (by omega : 0 ≤ c)
  have hone : ∀ y, whereP (fun j => decide (j ≤ y)) [((x, c) : PairV)] = if x ≤ y then c else 0 := fun y => by
    rw [where_cons, where_nil]
    by_cases e : x ≤ y
    · rw [decide_eq_true e, if_pos e]; simp
    · rw [decide_eq_false e, if_neg e]; simp
  refine ⟨add_good h.good (by omega), fun p hp => ?_, fun p hp => ?_, by rw [hsum, sum_snocD, h.sum], fun p hp hl => ?_, fun y => ?_, fun y => ?_⟩
  · rcases add_memD hp with h2 | ⟨h2, _⟩
    · exact h.node p h2
    · rw [h2]; exact l1
  · rcases List.mem_append.1 hp with h2 | h2
    · exact h.pos p h2
    · rw [List.mem_singleton.1 h2]; show 0 ≤ c; omega
  · rw [hsum]
    rcases add_memD hp with h2 | ⟨h2, _⟩
    · have h3 := h.small p h2 hl
      have h4 := Int.ediv_le_ediv (show 0 < k by omega) (show sumP R ≤ sumP R + c by omega)
      omega
    · omega
  · rw [where_add _ h.good (by omega), where_app, hone]
    have := h.low y
    rw [l3]
    by_cases e : x ≤ y
    · rw [decide_eq_true e, if_pos e]; simp; exact this
    · rw [decide_eq_false e, if_neg e]; simp; exact this
  · rw [where_add _ h.good (by omega), where_app, hone]
    have := h.high y
    rw [l2]
    by_cases e : x ≤ y
    · rw [decide_eq_true e, if_pos e]; simp; exact this
    · rw [decide_eq_false e, if_neg e]; simp; exact this
/-- All counts of another one. -/
def joinD (R S : List PairV) : List PairV := S.foldl (fun A p => addP A p.1 p.2) R
theorem join_factsD : ∀ (S R : List PairV), GoodP R → (∀ p, p ∈ S → 1 ≤ p.2) → sumP R + sumP S ≤ 9223372036854775807 →
    GoodP (joinD R S) ∧ (∀ f, whereP f (joinD R S) = whereP f R + whereP f S) ∧ ∀ p, p ∈ joinD R S → (∃ q, q ∈ R ∧ q.1 = p.1) ∨ ∃ q, q ∈ S ∧ q.1 = p.1
  | [], R, hg, _, _ => ⟨hg, fun f => by rw [where_nil, Int.add_zero]; rfl, fun p hp => Or.inl ⟨p, hp, rfl⟩⟩
  | a :: r, R, hg, hp, hs => by
    have ha := hp a List.mem_cons_self
    have hr := fun q hq => hp q (List.mem_cons_of_mem a hq)
    have hr0 := sumP_pos (L := r) fun q hq => by have := hr q hq; omega
    rw [sumP_cons] at hs
    have hcl := count_leD (L := R) (fun p hp => by have := hg.1 p hp; omega) a.1
    have hsum := add_sumD (i := a.1) hg (by omega : 0 ≤ a.2)
    obtain ⟨g, w, m⟩ := join_factsD r (addP R a.1 a.2) (add_good hg (by omega)) hr (by omega)
    refine ⟨g, fun f => ?_, fun p hpm => ?_⟩
    · show whereP f (joinD (addP R a.1 a.2) r) = _
      rw [w f, where_add f hg (by omega), where_cons]; omega
    · rcases m p hpm with ⟨q, hq, e⟩ | ⟨q, hq, e⟩
      · rcases add_memD hq with h2 | ⟨h2, _⟩
        · exact Or.inl ⟨q, h2, e⟩
        · exact Or.inr ⟨a, List.mem_cons_self, by rw [← h2, e]⟩
      · exact Or.inr ⟨q, List.mem_cons_of_mem _ hq, e⟩
theorem div_addD {a c k : Int} (hk : 0 < k) : a / k + c / k ≤ (a + c) / k := by
  apply Int.le_ediv_of_mul_le hk
  have h1 := Int.ediv_mul_le a (show k ≠ 0 by omega)
  have h2 := Int.ediv_mul_le c (show k ≠ 0 by omega)
  rw [Int.add_mul]; omega
theorem DigP.count_small {b : Nat} {k : Int} {R vals : List PairV} (h : DigP b k R vals) (hk : 1 ≤ k) {v : Int} (hl : v < ((2 ^ b : Nat) : Int)) : countP R v ≤ sumP R / k := by
  have h0 : 0 ≤ sumP R := sumP_pos fun p hp => by have := h.good.1 p hp; omega
  by_cases c : countP R v = 0
  · rw [c]; exact Int.ediv_nonneg h0 (by omega)
  · obtain ⟨p, hp, rfl⟩ := count_memD c
    rw [count_ofD h.good hp]; exact h.small p hp hl
theorem DigP.join {b : Nat} {k : Int} {R vals S more : List PairV} (h : DigP b k R vals) (g : DigP b k S more) (hk : 1 ≤ k) (hs : sumP R + sumP S ≤ 9223372036854775807) : DigP b k (joinD R S) (vals ++ more) := by
  obtain ⟨j1, j2, j3⟩ := join_factsD S R h.good (fun p hp => (g.good.1 p hp).1) hs
  have hsum : sumP (joinD R S) = sumP R + sumP S := by have := j2 (fun _ => true); rw [where_all, where_all, where_all] at this; exact this
  refine ⟨j1, fun p hp => ?_, fun p hp => ?_, by rw [hsum, sumP_app, h.sum, g.sum], fun p hp hl => ?_, fun x => ?_, fun x => ?_⟩
  · rcases j3 p hp with ⟨q, hq, e⟩ | ⟨q, hq, e⟩
    · rw [← e]; exact h.node q hq
    · rw [← e]; exact g.node q hq
  · rcases List.mem_append.1 hp with h2 | h2
    · exact h.pos p h2
    · exact g.pos p h2
  · rw [← count_ofD j1 hp, ← where_one, j2, where_one, where_one, hsum]
    have c1 := h.count_small hk hl
    have c2 := g.count_small hk hl
    have := div_addD (a := sumP R) (c := sumP S) (k := k) (by omega)
    omega
  · rw [j2, where_app]; have := h.low x; have := g.low x; omega
  · rw [j2, where_app]; have := h.high x; have := g.high x; omega
end Go.Proofs.YthjcdbnjmpjikaaGreat

/-
  Plain mathematics of a digest: the node that a place asks for, and how close its greatest value is: no program in sight.
-/
namespace Go.Proofs.YthjcdbnjmpjikaaGreat
set_option linter.unusedVariables false
set_option linter.unusedSimpArgs false

/-- Is one node told ahead of another one? -/
def befD (b : Nat) (u v : Int) : Bool := beforeT b u.toNat v.toNat
/-- What those have that are told ahead of a node. -/
def aheadD (b : Nat) (R : List PairV) (v : Int) : Int := whereP (fun u => befD b u v) R
theorem bef_hi {b : Nat} {u v : Int} (h : befD b u v = true) : hiD b u ≤ hiD b v := by
  unfold befD beforeT at h
  simp only [Bool.or_eq_true, Bool.and_eq_true, decide_eq_true_eq] at h
  unfold hiD; omega
theorem hi_bef {b : Nat} {u v : Int} (h : hiD b u < hiD b v) : befD b u v = true := by
  unfold befD beforeT
  unfold hiD at h
  rw [decide_eq_true (by omega)]; rfl
theorem bef_self (b : Nat) (v : Int) : befD b v v = false := by unfold befD beforeT; simp
theorem bef_or {b : Nat} {u v : Int} (hu : nodeD b u) (hv : nodeD b v) (hne : u ≠ v) : (befD b u v = true ∧ befD b v u = false) ∨ (befD b v u = true ∧ befD b u v = false) := by
  obtain ⟨n, rfl, n1, n2⟩ := node_nat hu
  obtain ⟨m, rfl, m1, m2⟩ := node_nat hv
  obtain ⟨a, c⟩ := before_or (b := b) n1 m1
  have e : (n == m) = false := by simp; omega
  rw [e] at a
  unfold befD
  simp only [Int.toNat_natCast]
  cases h1 : beforeT b n m <;> cases h2 : beforeT b m n <;> rw [h1, h2] at a c <;> simp at a c ⊢
theorem bef_trans {b : Nat} {u v w : Int} (h : befD b u v = true) (k : befD b v w = true) : befD b u w = true := before_trans h k
theorem where_two {f g : Int → Bool} {i : Int} {L : List PairV} (h : ∀ p, p ∈ L → 0 ≤ p.2) (hi : f i = false) (hg : g i = true) (hfg : ∀ p, p ∈ L → f p.1 = true → g p.1 = true) : whereP f L + countP L i ≤ whereP g L := by
  induction L with
  | nil => exact Int.le_refl _
  | cons p r ih =>
    have h1 := ih (fun q hq => h q (List.mem_cons_of_mem _ hq)) (fun q hq => hfg q (List.mem_cons_of_mem _ hq))
    have h2 := h p List.mem_cons_self
    have h3 := hfg p List.mem_cons_self
    rw [where_cons, where_cons, count_cons]
    by_cases e : p.1 = i
    · rw [e, hi, hg, if_pos rfl]; simp; omega
    · rw [if_neg e]
      cases hf : f p.1 with
      | true => rw [h3 hf]; simp; omega
      | false => simp only [Bool.false_eq_true, if_false]; split <;> omega
theorem where_cover {R : List PairV} (h : ∀ p, p ∈ R → 0 ≤ p.2) (g : Nat → Int) (c : Int) : ∀ (m : Nat) (f : Int → Bool), (∀ p, p ∈ R → f p.1 = true → ∃ j, j < m ∧ p.1 = g j) → (∀ j, j < m → countP R (g j) ≤ c) → whereP f R ≤ m * c
  | 0, f, hf, _ => by
    have : whereP f R = 0 := by
      unfold whereP
      rw [List.filter_eq_nil_iff.2, sumP_nil]
      intro p hp hh
      obtain ⟨j, hj, _⟩ := hf p hp hh
      omega
    rw [this]; simp
  | m + 1, f, hf, hc => by
    have ih := where_cover h g c m (fun u => f u && !(u == g m)) (fun p hp hh => by
      simp only [Bool.and_eq_true, Bool.not_eq_true', beq_eq_false_iff_ne] at hh
      obtain ⟨j, hj, e⟩ := hf p hp hh.1
      exact ⟨j, by (rcases Nat.lt_or_ge j m with k | k; exact k; exact absurd (by rw [e]; congr 1; omega) hh.2), e⟩) (fun j hj => hc j (by omega))
    have hm := hc m (by omega)
    have hle : whereP f R ≤ whereP (fun u => f u && !(u == g m)) R + countP R (g m) := by
      clear ih hf hc hm
      induction R with
      | nil => exact Int.le_refl _
      | cons p r ih2 =>
        have i2 := ih2 (fun q hq => h q (List.mem_cons_of_mem _ hq))
        have h2 := h p List.mem_cons_self
        rw [where_cons, where_cons, count_cons]
        by_cases e : p.1 = g m
        · rw [if_pos e, e]; simp; split <;> omega
        · rw [if_neg e]
          have : (p.1 == g m) = false := by simpa using e
          rw [this]; simp; omega
    have e : ((m + 1 : Nat) : Int) * c = (m : Int) * c + c := by rw [show ((m + 1 : Nat) : Int) = (m : Int) + 1 by omega, Int.add_mul, Int.one_mul]
    rw [e]; omega
/-- A node that holds a value and one below it lies above the value's node. -/
theorem above_leaf {b : Nat} {u w : Int} (hu : nodeD b u) (h0 : 0 ≤ w) (hw : w < ((2 ^ b : Nat) : Int)) (h1 : loD b u ≤ w - 1) (h2 : w ≤ hiD b u) : ∃ j, j < b ∧ u = (((2 ^ b + w.toNat) / 2 ^ (j + 1) : Nat) : Int) ∧ u < ((2 ^ b : Nat) : Int) := by
  obtain ⟨n, rfl, n1, n2⟩ := node_nat hu
  obtain ⟨x, rfl⟩ : ∃ x : Nat, w = x := ⟨w.toNat, by omega⟩
  obtain ⟨l1, l2, l3⟩ := leaf_is (b := b) (x := x) (by omega)
  have e4 : 2 ^ (b + 1) = 2 * 2 ^ b := by rw [Nat.pow_succ]; omega
  have e3 : ((2 ^ b : Nat) : Int) = 2 ^ b := by rw [Int.natCast_pow]; rfl
  unfold loD at h1
  unfold hiD at h2
  simp only [Int.toNat_natCast] at h1 h2 ⊢
  have hx1 : 1 ≤ 2 ^ b + x := by have := Nat.two_pow_pos b; omega
  have hno := above_or (b := b) (v := n) (w := 2 ^ b + x) n1 n2 hx1 (by omega)
  have hab : aboveT n (2 ^ b + x) ∨ aboveT (2 ^ b + x) n := by
    apply Classical.byContradiction
    intro hc
    have := hno.2 hc
    rw [l2, l3] at this
    omega
  have hlt : lvlT n < b := by
    have hle := lvl_le n1 n2
    rcases Nat.lt_or_ge (lvlT n) b with c | c
    · exact c
    · exfalso
      have hb : lvlT n = b := by omega
      unfold loT upT at *
      rw [hb, Nat.sub_self] at h1 h2
      omega
  have habv : aboveT n (2 ^ b + x) := by
    rcases hab with c | c
    · exact c
    · exfalso; have := c.1; rw [l1] at this; omega
  obtain ⟨_, e⟩ := habv
  rw [l1] at e
  refine ⟨b - lvlT n - 1, by omega, by rw [show b - lvlT n - 1 + 1 = b - lvlT n by omega, e], ?_⟩
  have := (lvl_bd n1).2
  have hp := Nat.pow_le_pow_right (show 0 < 2 by omega) (show lvlT n + 1 ≤ b by omega)
  omega
theorem hi_in {b : Nat} {v : Int} (h : nodeD b v) : 0 ≤ hiD b v ∧ hiD b v < ((2 ^ b : Nat) : Int) := by
  obtain ⟨n, rfl, n1, n2⟩ := node_nat h
  obtain ⟨a1, a2, a3⟩ := range_in n1 n2
  have e4 : 2 ^ (b + 1) = 2 * 2 ^ b := by rw [Nat.pow_succ]; omega
  have e3 : ((2 ^ b : Nat) : Int) = 2 ^ b := by rw [Int.natCast_pow]; rfl
  unfold hiD
  simp only [Int.toNat_natCast]
  omega
/-- HOW CLOSE THE ANSWER IS. -/
theorem DigP.close {b : Nat} {k : Int} {R vals : List PairV} (h : DigP b k R vals) (hk : 1 ≤ k) {p : PairV} (hp : p ∈ R) {t : Int} (h1 : aheadD b R p.1 < t) (h2 : t ≤ aheadD b R p.1 + p.2) :
    t ≤ whereP (fun y => decide (y ≤ hiD b p.1)) vals ∧ whereP (fun y => decide (y ≤ hiD b p.1 - 1)) vals ≤ t + b * (sumP R / k) := by
  have hpos : ∀ p, p ∈ R → 0 ≤ p.2 := fun p hp => by have := h.good.1 p hp; omega
  have hn := h.node p hp
  obtain ⟨w0, w1⟩ := hi_in hn
  constructor
  · refine Int.le_trans ?_ (h.low _)
    have := where_two (f := fun u => befD b u p.1) (g := fun v => decide (hiD b v ≤ hiD b p.1)) (i := p.1) hpos (bef_self b _) (by simp) (fun q hq e => decide_eq_true (bef_hi e))
    rw [count_ofD h.good hp] at this
    unfold aheadD at h2
    omega
  · refine Int.le_trans (h.high _) ?_
    have hA : whereP (fun v => decide (loD b v ≤ hiD b p.1 - 1)) R ≤ whereP (fun u => befD b u p.1) R + whereP (fun v => decide (loD b v ≤ hiD b p.1 - 1) && decide (hiD b p.1 ≤ hiD b v)) R := by
      have hb : ∀ q, q ∈ R → hiD b q.1 < hiD b p.1 → befD b q.1 p.1 = true := fun q hq e => hi_bef e
      generalize hiD b p.1 = w at *
      clear h h1 h2 hp hn w0 w1
      induction R with
      | nil => exact Int.le_refl _
      | cons a r ih =>
        have i2 := ih (fun q hq => hpos q (List.mem_cons_of_mem _ hq)) (fun q hq => hb q (List.mem_cons_of_mem _ hq))
        have a2 := hpos a List.mem_cons_self
        have ab := hb a List.mem_cons_self
        rw [where_cons, where_cons, where_cons]
        by_cases c : loD b a.1 ≤ w - 1
        · by_cases e : w ≤ hiD b a.1
          · rw [decide_eq_true c, decide_eq_true e]; simp; split <;> omega
          · rw [decide_eq_true c, ab (by omega), decide_eq_false e]; simp; omega
        · rw [decide_eq_false c]; simp; split <;> omega
    have hB := where_cover hpos (fun j => (((2 ^ b + (hiD b p.1).toNat) / 2 ^ (j + 1) : Nat) : Int)) (sumP R / k) b (fun v => decide (loD b v ≤ hiD b p.1 - 1) && decide (hiD b p.1 ≤ hiD b v)) (fun q hq e => by
      simp only [Bool.and_eq_true, decide_eq_true_eq] at e
      obtain ⟨j, j1, j2, _⟩ := above_leaf (h.node q hq) w0 w1 e.1 e.2
      exact ⟨j, j1, j2⟩) (fun j hj => by
      refine h.count_small hk ?_
      have hx : 2 ^ b + (hiD b p.1).toNat < 2 ^ (b + 1) := by rw [Nat.pow_succ]; omega
      have : (2 ^ b + (hiD b p.1).toNat) / 2 ^ (j + 1) ≤ (2 ^ b + (hiD b p.1).toNat) / 2 := by
        rw [Nat.pow_succ, Nat.mul_comm, ← Nat.div_div_eq_div_mul]; exact Nat.div_le_self _ _
      rw [Nat.pow_succ] at hx
      omega)
    unfold aheadD at h1
    omega
/-- Of some nodes one is told behind all others. -/
theorem last_told {b : Nat} : ∀ {F : List PairV}, F ≠ [] → (∀ p, p ∈ F → nodeD b p.1) → ∃ m, m ∈ F ∧ ∀ p, p ∈ F → p.1 = m.1 ∨ befD b p.1 m.1 = true
  | [], h, _ => absurd rfl h
  | a :: r, _, hn => by
    by_cases c : r = []
    · subst c
      exact ⟨a, List.mem_cons_self, fun p hp => Or.inl (by rw [List.mem_singleton.1 hp])⟩
    · obtain ⟨m, hm, h2⟩ := last_told (F := r) c (fun p hp => hn p (List.mem_cons_of_mem _ hp))
      have na := hn a List.mem_cons_self
      have nm := hn m (List.mem_cons_of_mem _ hm)
      by_cases e : a.1 = m.1
      · refine ⟨m, List.mem_cons_of_mem _ hm, fun p hp => ?_⟩
        rcases List.mem_cons.1 hp with k | k
        · rw [k]; exact Or.inl e
        · exact h2 p k
      · rcases bef_or na nm e with ⟨k1, _⟩ | ⟨k1, _⟩
        · refine ⟨m, List.mem_cons_of_mem _ hm, fun p hp => ?_⟩
          rcases List.mem_cons.1 hp with k | k
          · rw [k]; exact Or.inr k1
          · exact h2 p k
        · refine ⟨a, List.mem_cons_self, fun p hp => ?_⟩
          rcases List.mem_cons.1 hp with k | k
          · rw [k]; exact Or.inl rfl
          · rcases h2 p k with e2 | e2
            · rw [e2]; exact Or.inr k1
            · exact Or.inr (bef_trans e2 k1)
theorem where_cong {f g : Int → Bool} {L : List PairV} (h : ∀ p, p ∈ L → f p.1 = g p.1) : whereP f L = whereP g L := by
  unfold whereP
  rw [List.filter_congr fun p hp => h p hp]
theorem where_or {f : Int → Bool} {i : Int} {L : List PairV} (hi : f i = false) : whereP (fun u => f u || u == i) L = whereP f L + countP L i := by
  induction L with
  | nil => rfl
  | cons p r ih =>
    rw [where_cons, where_cons, count_cons, ih]
    by_cases e : p.1 = i
    · rw [e, hi, if_pos rfl]; simp; omega
    · have : (p.1 == i) = false := by simpa using e
      rw [this, if_neg e, Bool.or_false]; omega
/-- THE NODE THAT A PLACE ASKS FOR: there is one .. -/
theorem ahead_ex {b : Nat} {R : List PairV} (hg : GoodP R) (hn : ∀ p, p ∈ R → nodeD b p.1) {t : Int} (h1 : 1 ≤ t) : ∀ (n : Nat) (f : Int → Bool), (R.filter fun p => f p.1).length ≤ n → t ≤ whereP f R → (∀ p q, p ∈ R → q ∈ R → f q.1 = true → befD b p.1 q.1 = true → f p.1 = true) → ∃ p, p ∈ R ∧ aheadD b R p.1 < t ∧ t ≤ aheadD b R p.1 + p.2
  | n, f, hl, ht, hd => by
    have hne : (R.filter fun p => f p.1) ≠ [] := fun e => by unfold whereP at ht; rw [e, sumP_nil] at ht; omega
    obtain ⟨m, hm, hlast⟩ := last_told (b := b) hne (fun p hp => hn p (List.mem_filter.1 hp).1)
    obtain ⟨hmR, hmf⟩ := List.mem_filter.1 hm
    have hmf : f m.1 = true := hmf
    have hw : whereP f R = aheadD b R m.1 + m.2 := by
      rw [← count_ofD hg hmR]
      unfold aheadD
      rw [← where_or (f := fun u => befD b u m.1) (bef_self b m.1)]
      refine where_cong fun p hp => ?_
      cases hf : f p.1 with
      | true =>
        rcases hlast p (List.mem_filter.2 ⟨hp, hf⟩) with e | e
        · rw [e]; simp
        · rw [e]; rfl
      | false =>
        have h2 : befD b p.1 m.1 = false := by
          cases e : befD b p.1 m.1 with
          | false => rfl
          | true => rw [hd p m hp hmR hmf e] at hf; cases hf
        have h3 : (p.1 == m.1) = false := by
          simp
          intro e; rw [e, hmf] at hf; cases hf
        rw [h2, h3]; rfl
    by_cases c : aheadD b R m.1 < t
    · exact ⟨m, hmR, c, by omega⟩
    · cases n with
      | zero =>
        exfalso
        exact hne (List.eq_nil_of_length_eq_zero (by omega))
      | succ n =>
        refine ahead_ex hg hn h1 n (fun u => befD b u m.1) ?_ (by unfold aheadD at c; omega) (fun p q _ _ hq hpq => bef_trans hpq hq)
        have hsub : (R.filter fun p => befD b p.1 m.1) = (R.filter fun p => f p.1).filter fun p => befD b p.1 m.1 := by
          rw [List.filter_filter]
          refine List.filter_congr fun p hp => ?_
          cases e : befD b p.1 m.1 with
          | false => rfl
          | true => rw [hd p m hp hmR hmf e]; rfl
        rw [hsub]
        have hlt : ((R.filter fun p => f p.1).filter fun p => befD b p.1 m.1).length < (R.filter fun p => f p.1).length := by
          rw [List.length_filter_lt_length_iff_exists]
          exact ⟨m, hm, by rw [bef_self]; simp⟩
        omega
/-- .. and no other one. -/
theorem ahead_one {b : Nat} {R : List PairV} (hg : GoodP R) (hn : ∀ p, p ∈ R → nodeD b p.1) {t : Int} {p q : PairV} (hp : p ∈ R) (hq : q ∈ R) (p1 : aheadD b R p.1 < t) (p2 : t ≤ aheadD b R p.1 + p.2) (q1 : aheadD b R q.1 < t) (q2 : t ≤ aheadD b R q.1 + q.2) : p = q := by
  have hpos : ∀ p, p ∈ R → 0 ≤ p.2 := fun p hp => by have := hg.1 p hp; omega
  have key : ∀ x y : PairV, x ∈ R → y ∈ R → befD b x.1 y.1 = true → aheadD b R x.1 + x.2 ≤ aheadD b R y.1 := fun x y hx hy hb => by
    have := where_two (f := fun u => befD b u x.1) (g := fun u => befD b u y.1) (i := x.1) hpos (bef_self b _) hb (fun r _ e => bef_trans e hb)
    rw [count_ofD hg hx] at this
    exact this
  by_cases e : p.1 = q.1
  · have := count_ofD hg hp
    have h2 := count_ofD hg hq
    rw [e] at this
    exact Prod.ext e (by omega)
  · rcases bef_or (hn p hp) (hn q hq) e with ⟨k, _⟩ | ⟨k, _⟩
    · have := key p q hp hq k; omega
    · have := key q p hq hp k; omega
end Go.Proofs.YthjcdbnjmpjikaaGreat

/-
  A block of two cells that may be written: what is carried from world to world.
-/
namespace Go.Proofs.YthjcdbnjmpjikaaGreat
set_option linter.unusedVariables false
open Go.RowKit

structure Two (w : World) (B : Nat) (x y : Value) : Prop where
  c0 : w.cell? ⟨B, 0, none⟩ = some x
  c1 : w.cell? ⟨B, 1, none⟩ = some y
  f0 : w.frozen? ⟨B, 0, none⟩ = false
  f1 : w.frozen? ⟨B, 1, none⟩ = false
theorem Two.lt {w : World} {B : Nat} {x y : Value} (h : Two w B x y) : B < w.heap.size := World.block_lt_of_cell? (a := ⟨B, 0, none⟩) w h.c0
theorem Two.call {w w' : World} {B : Nat} {x y : Value} (h : Two w B x y) (hb : Below w.heap.size w w') : Two w' B x y :=
  ⟨cell_later hb h.c0, cell_later hb h.c1, ((bcell hb).2 _ _ h.lt).trans h.f0, ((bcell hb).2 _ _ h.lt).trans h.f1⟩
theorem Two.alloc {w : World} {B : Nat} {x y : Value} (h : Two w B x y) (o : Obj) : Two (w.alloc o) B x y :=
  h.call ((Below.refl _ _).alloc (Nat.le_refl _) _)
theorem Two.drew {w : World} {B : Nat} {x y : Value} (h : Two w B x y) : Two w.drew B x y :=
  h.call (Below.refl _ _).drew
theorem Two.new (w : World) (x y : Value) (t : TypeId) : Two (w.alloc (.cells #[x, y] t)) w.heap.size x y := by
  refine ⟨?_, ?_, ?_, ?_⟩
  · go_simp
  · go_simp
  · go_simp
  · go_simp
theorem two_far {b o b' o' : Nat} (h : b ≠ b') : (⟨b, o, none⟩ : Addr) ≠ ⟨b', o', none⟩ := fun e => h (Addr.mk.inj e).1
theorem two_off {b o o' : Nat} (h : o ≠ o') : (⟨b, o, none⟩ : Addr) ≠ ⟨b, o', none⟩ := fun e => h (Addr.mk.inj e).2.1
/-- Both cells written. -/
theorem Two.put {w : World} {B : Nat} {x y : Value} (h : Two w B x y) (x' y' : Value) : Two ((w.setCell ⟨B, 0, none⟩ x').setCell ⟨B, 1, none⟩ y') B x' y' := by
  refine ⟨?_, ?_, ?_, ?_⟩
  · rw [World.cell?_setCell_other _ _ _ _ (two_off (by omega))]; exact World.cell?_setCell_same _ _ _ h.c0
  · have e : (w.setCell ⟨B, 0, none⟩ x').cell? ⟨B, 1, none⟩ = some y := by
      rw [World.cell?_setCell_other _ _ _ _ (two_off (by omega))]; exact h.c1
    exact World.cell?_setCell_same _ _ _ e
  · rw [World.frozen?_setCell, World.frozen?_setCell]; exact h.f0
  · rw [World.frozen?_setCell, World.frozen?_setCell]; exact h.f1
/-- Another block written. -/
theorem Two.past {w : World} {B B' : Nat} {x y : Value} (h : Two w B x y) (hB : B' ≠ B) (x' y' : Value) : Two ((w.setCell ⟨B', 0, none⟩ x').setCell ⟨B', 1, none⟩ y') B x y := by
  refine ⟨?_, ?_, ?_, ?_⟩
  · rw [World.cell?_setCell_other _ _ _ _ (two_far hB), World.cell?_setCell_other _ _ _ _ (two_far hB)]; exact h.c0
  · rw [World.cell?_setCell_other _ _ _ _ (two_far hB), World.cell?_setCell_other _ _ _ _ (two_far hB)]; exact h.c1
  · rw [World.frozen?_setCell, World.frozen?_setCell]; exact h.f0
  · rw [World.frozen?_setCell, World.frozen?_setCell]; exact h.f1
theorem below_put {w0 w : World} {n B : Nat} (h : Below n w0 w) (hB : n ≤ B) (x y : Value) : Below n w0 ((w.setCell ⟨B, 0, none⟩ x).setCell ⟨B, 1, none⟩ y) :=
  (h.setCell (p := ⟨B, 0, none⟩) hB _).setCell (p := ⟨B, 1, none⟩) hB _
theorem size_put (w : World) (B : Nat) (x y : Value) : ((w.setCell ⟨B, 0, none⟩ x).setCell ⟨B, 1, none⟩ y).heap.size = w.heap.size := by
  simp [World.setCell]
end Go.Proofs.YthjcdbnjmpjikaaGreat

/-
  Walks: package sign's calls, and the reference's of layer 2.
-/
namespace Go.Proofs.YthjcdbnjmpjikaaGreat
set_option linter.unusedVariables false
open Go.RowKit

theorem ret_pair {k : IntKind} {a b : Int} {c d : Bool} (h : a = b) (h' : c = d) : Ending.returned (.tuple #[.int k a, .bool c]) = .returned (.tuple #[.int k b, .bool d]) := by rw [h, h']

end Go.Proofs.YthjcdbnjmpjikaaGreat
/-
  Rows of pairs in memory: as they are read; as rows of the call's own; appended to.
  Walks: the reference's Count, Same, Good of rows of pairs.
  Walks: the reference's Add of rows of pairs.
-/
namespace Go.Proofs.YthjcdbnjmpjikaaGreat
set_option linter.unusedVariables false
set_option linter.unusedSimpArgs false
open Go.RowKit

/-- A row of pairs in memory. -/
structure Pairs (w : World) (A : Option Addr) (L : List PairV) : Prop where
  ok : ∀ p, p ∈ L → okP p
  at_ : ∀ (i : Nat) (p : PairV), L[i]? = some p → ∃ b off, A = some ⟨b, off, none⟩ ∧ b < w.heap.size ∧ w.cell? ⟨b, off + i * 2, none⟩ = some (.int .i64 p.1) ∧ w.cell? ⟨b, off + i * 2 + 1, none⟩ = some (.int .u64 p.2)
theorem Pairs.call {w w' : World} {A : Option Addr} {L : List PairV} (h : Pairs w A L) (hb : Below w.heap.size w w') : Pairs w' A L :=
  ⟨h.ok, fun i it hi => by
    obtain ⟨b, off, hA, hlt, c0, c1⟩ := h.at_ i it hi
    exact ⟨b, off, hA, Nat.lt_of_lt_of_le hlt hb.size, cell_later hb c0, cell_later hb c1⟩⟩
theorem Pairs.nil (w : World) : Pairs w none [] := ⟨fun p h => (by cases h), fun i p h => by simp at h⟩
/-- A row's cells. -/
def cellsP (p : PairV) : List Value := [.int .i64 p.1, .int .u64 p.2]
def cellsQ (L : List PairV) : List Value := L.flatMap cellsP
theorem cellsQ_cons (p : PairV) (r : List PairV) : cellsQ (p :: r) = cellsP p ++ cellsQ r := by unfold cellsQ; rw [List.flatMap_cons]
theorem cellsQ_app (a b : List PairV) : cellsQ (a ++ b) = cellsQ a ++ cellsQ b := by unfold cellsQ; rw [List.flatMap_append]
theorem cellsQ_one' (p : PairV) : cellsQ [p] = [.int .i64 p.1, .int .u64 p.2] := by unfold cellsQ cellsP; simp
theorem cellsQ_len (L : List PairV) : (cellsQ L).length = L.length * 2 := by
  induction L with
  | nil => rfl
  | cons p r ih => rw [cellsQ_cons, List.length_append, ih, List.length_cons]; simp [cellsP]; omega
theorem cellsQ_one (L : List PairV) : ∀ u ∈ cellsQ L, u.oneCell' = true := by
  intro u hu
  unfold cellsQ at hu
  obtain ⟨p, _, h⟩ := List.mem_flatMap.1 hu
  simp only [cellsP, List.mem_cons, List.not_mem_nil, or_false] at h
  rcases h with rfl | rfl <;> rfl
theorem cellsQ_at : ∀ (L : List PairV) (i : Nat) (p : PairV), L[i]? = some p → (cellsQ L)[i * 2]? = some (.int .i64 p.1) ∧ (cellsQ L)[i * 2 + 1]? = some (.int .u64 p.2) := by
  intro L
  induction L with
  | nil => intro i p h; simp at h
  | cons q r ih =>
    intro i p h
    rw [cellsQ_cons]
    cases i with
    | zero => simp at h; subst h; simp [cellsP]
    | succ i =>
      have hr := ih i p (by simpa using h)
      have e : ∀ j, (cellsP q ++ cellsQ r)[(i + 1) * 2 + j]? = (cellsQ r)[i * 2 + j]? := by
        intro j
        rw [List.getElem?_append_right (by simp [cellsP]; omega)]
        congr 1
        simp [cellsP]; omega
      exact ⟨(e 0).trans hr.1, (e 1).trans hr.2⟩
theorem add_flat (b off j : Nat) : (⟨b, off, none⟩ : Addr).add j = ⟨b, off + j, none⟩ := by unfold Addr.add; split <;> simp_all
theorem own_pairs {w : World} {base : Nat} {v : Value} {L : List PairV} (h : w.ownsRow base 61 2 v L.length (cellsQ L)) (hok : ∀ p, p ∈ L → okP p) :
    ∃ A cap, v = .slice A L.length cap ∧ Pairs w A L := by
  have hh := h
  rcases h.2 with ⟨rfl, h0⟩ | ⟨g, cap, cur, rfl, _, hg, _⟩
  · have e : L = [] := List.eq_nil_of_length_eq_zero h0
    subst e
    exact ⟨none, 0, rfl, hok, fun i p hi => by simp at hi⟩
  · refine ⟨some ⟨g, 0, none⟩, cap, rfl, hok, fun i p hi => ?_⟩
    have hc := hh.cells (g := g) rfl
    obtain ⟨c0, c1⟩ := cellsQ_at L i p hi
    refine ⟨g, 0, rfl, lt_of_block hg, ?_, ?_⟩
    · rw [← add_flat]; exact hc _ _ c0
    · rw [Nat.add_assoc, ← add_flat]; exact hc _ _ c1
theorem Tryz.infoPair : (Tryz.prog.info? 61).map (fun i => (i.zero, i.size, i.bytes)) = some (some (.agg #[.int .i64 0, .int .u64 0]), 2, 16) := by kernel_rfl

/-- A row of the call's own that holds pairs. -/
def OwnP (w : World) (base : Nat) (v : Value) (L : List PairV) : Prop := w.ownsRow base 61 2 v L.length (cellsQ L)
theorem OwnP.nil (w : World) (base : Nat) : OwnP w base (.slice none 0 0) [] := World.ownsRow_nil _ _ _ _
theorem OwnP.call {w w' : World} {base : Nat} {v : Value} {L : List PairV} (h : OwnP w base v L) (hb : Below w.heap.size w w') : OwnP w' base v L :=
  World.ownsRow.kept (row := none) h ⟨hb.os, hb.tape, hb.output, hb.size, fun i hi _ => hb.block i hi⟩ (by cases v.ownBlock <;> simp)
theorem OwnP.other {w w' : World} {base : Nat} {v : Value} {L : List PairV} {r : Option Nat} (h : OwnP w base v L) (hg : w.grownBy w' r) (hne : v.ownBlock = none ∨ v.ownBlock ≠ r) : OwnP w' base v L := World.ownsRow.kept h hg hne
theorem OwnP.pairs {w : World} {base : Nat} {v : Value} {L : List PairV} (h : OwnP w base v L) (hok : ∀ p, p ∈ L → okP p) : ∃ A cap, v = .slice A L.length cap ∧ Pairs w A L := own_pairs h hok
theorem OwnP.lt {w : World} {base : Nat} {v : Value} {L : List PairV} (h : OwnP w base v L) : ∀ k, v.ownBlock = some k → base ≤ k ∧ k < w.heap.size := World.ownsRow.lt h
theorem OwnP.form {w : World} {base : Nat} {v : Value} {L : List PairV} (h : OwnP w base v L) : ∃ A cap, v = .slice A L.length cap := by
  have h' : w.ownsRow base 61 2 v L.length (cellsQ L) := h
  rcases h'.2 with ⟨rfl, h0⟩ | ⟨g, cap, cur, rfl, _⟩
  · exact ⟨none, 0, by rw [h0]⟩
  · exact ⟨_, _, rfl⟩
/-- Appending one pair, that lies in a block of its own, to such a row. -/
theorem wpList_append_pair {w : World} {ops : Array Oper} {rest : List Oper} {o : Oper} {a : Act} {Q : Exit → Act → World → Prop} (hgd : o.guard = none) (s x : Operand)
    (ho : o.op = .call { callee := .builtin .append, args := #[s, x], argTypes := #[46, 46] })
    (base : Nat) (v : Value) (L : List PairV) (g : Nat) (p : PairV) (hs : a.eval s = v) (hown : OwnP w base v L)
    (hx : a.eval x = .slice (some ⟨g, 0, none⟩) 1 1) (h0 : w.cell? ⟨g, 0, none⟩ = some (.int .i64 p.1)) (h1 : w.cell? ⟨g, 1, none⟩ = some (.int .u64 p.2)) (hn : L.length ≤ 100000) (hbase : base ≤ w.heap.size)
    (h : ∀ v' w', OwnP w' base v' (L ++ [p]) → w.grownBy w' v.ownBlock → wpList Tryz.prog ops Q rest (a.put o.dst v') w') : wpList Tryz.prog ops Q (o :: rest) a w := by
  obtain ⟨i0, hi, hz0, hz1, hz2⟩ := info_parts Tryz.infoPair
  refine wpList_append_own w hgd s x _ ho base _ i0 _ 2 16 Tryz.underlying46 hi hz0 hz1 hz2 rfl (by decide) v L.length (cellsQ L) hs hown ⟨g, 0, none⟩ 1 1 (cellsQ [p]) hx (cellsQ_len [p]) ?_ (cellsQ_one [p])
      (by unfold maxLen; omega) (by omega) hbase (fun v' w' h1 h2 _ => h v' w' ?_ h2)
  · intro j u hu
    rw [cellsQ_one'] at hu
    rw [add_flat]
    match j, hu with
    | 0, hu => simp at hu; subst hu; exact h0
    | 1, hu => simp at hu; subst hu; exact h1
  · unfold OwnP
    rw [cellsQ_app, List.length_append]
    exact h1
end Go.Proofs.YthjcdbnjmpjikaaGreat

namespace Go.Proofs.YthjcdbnjmpjikaaGreat
set_option linter.unusedVariables false
set_option linter.unusedSimpArgs false
open Go.RowKit

theorem count_step {L : List PairV} {k : Nat} {p : PairV} (h : L[k]? = some p) (i : Int) : countP (L.take (k + 1)) i = countP (L.take k) i + if p.1 = i then p.2 else 0 := by
  rw [take_snocP h, countP_app, countP_one]
theorem ok_pos {L : List PairV} (h : ∀ p, p ∈ L → okP p) : ∀ p, p ∈ L → 0 ≤ p.2 := fun p hp => (h p hp).2.1

set_option maxRecDepth 100000 in
set_option maxHeartbeats 1000000 in
theorem rcount_any (w : World) (A : Option Addr) (cap : Nat) (L : List PairV) (i n : Int) (h : Pairs w A L) (hl : L.length ≤ 1000) (hi : I64 i) (hn : countP L i = n) (hb : n < 18446744073709551616) :
    Calls Tryz.prog 75 #[.slice A L.length cap, .int .i64 i] w fun e w' => e = .returned (.int .u64 n) ∧ Below w.heap.size w w' := by
  have HI := Lib.hid h
  have HN := Lib.hid hn
  have HP := Lib.hid (fun k => countP_take (L := L) k i (ok_pos h.ok))
  obtain ⟨i0, i1⟩ := hi
  clear h hn
  go_enter Tryz.func75, Tryz.ntmps75
  go_wp2_with fail
  go_loopw [5, 10] (fun s j wr => ∃ (k : Nat) (m : Int), k ≤ L.length ∧ j = .int .i64 k ∧ s = .int .u64 m ∧ m = countP (L.take k) i ∧ Below w.heap.size w wr) (fun _ j _ => L.length - (intOf j).toNat)
  case atStart => exact ⟨0, 0, Nat.zero_le _, rfl, rfl, rfl, Below.refl _ _⟩
  case round =>
    obtain ⟨k, m, hk, rfl, rfl, hm, hb2⟩ := hrel
    have HM := Lib.hid hm
    by_cases hlt : k < L.length
    · have kk : (k : Int) < L.length := by omega
      have hxk : L[k]? = some L[k] := List.getElem?_eq_getElem hlt
      generalize hit : L[k] = p at *
      obtain ⟨px, pc⟩ := p
      obtain ⟨b, off, rfl, hbl, c0, c1⟩ := (HI.out.call hb2).at_ k _ hxk
      have HS := Lib.hid (count_step hxk i)
      have hok := HI.out.ok _ (List.mem_of_getElem? hxk)
      have p1 := HP.out (k + 1)
      have p0 := HP.out k
      rw [HN.out] at p1
      rw [HS.out] at p1
      rw [← hm] at p0 p1
      have hbs := hb2.size
      obtain ⟨⟨o1, o2⟩, o3, o4⟩ := hok
      simp only at c0 c1 o1 o2 o3 o4 p1 HS
      clear hxk hit hm
      by_cases he : px = i
      · subst he
        rw [if_pos rfl] at p1 HS
        obtain ⟨p2, p3⟩ := p1
        obtain ⟨p4, _⟩ := p0
        have e1 : (px == px) = true := by simp
        go_wp2_with fail
        go_roundw
        case rel => exact ⟨k + 1, m + pc, by omega, by go_num, rfl, by rw [HS.out, HM.out], hb2.alloc hbs _⟩
        case measure => simp [intOf]; omega
      · rw [if_neg he] at p1 HS
        have e1 : (px == i) = false := by simpa using he
        clear p0 p1 he
        go_wp2_with fail
        go_roundw
        case rel => exact ⟨k + 1, m, by omega, by go_num, rfl, by rw [HS.out, HM.out, Int.add_zero], hb2.alloc hbs _⟩
        case measure => simp [intOf]; omega
    · obtain rfl : k = L.length := by omega
      rw [List.take_length, HN.out] at HM
      have kk : ¬ (L.length : Int) < L.length := by omega
      clear hm
      go_wp2_with fail
      go_ret
      exact ⟨ret_int HM.out, hb2⟩

theorem below_drewM {B : Nat} {a w : World} (h : Below B a w) (n : Nat) : Below B a (w.drewN n) := by
  induction n with
  | zero => exact h
  | succ n ih => exact ih.drew
theorem pair_neq (a b c d : Int) (w : World) : (binOp .neq 61 (.agg #[.int .i64 a, .int .u64 b]) (.agg #[.int .i64 c, .int .u64 d])).run Tryz.prog w = .ok (.bool (!(a == c && b == d))) w := by
  by_cases h : a = c
  · subst h
    by_cases h' : b = d
    · subst h'; simp [go_sem]
    · have : (b == d) = false := by simp [h']
      simp [go_sem, this]
  · have : (a == c) = false := by simp [h]
    simp [go_sem, this]
theorem ne_at {L M : List PairV} {k : Nat} {p q : PairV} (hp : L[k]? = some p) (hq : M[k]? = some q) (h : p ≠ q) : L ≠ M := by
  rintro rfl; rw [hp] at hq; exact h (Option.some.inj hq)
theorem same_take {L M : List PairV} {k : Nat} {p q : PairV} (hp : L[k]? = some p) (hq : M[k]? = some q) (h : p = q) (ht : L.take k = M.take k) : L.take (k + 1) = M.take (k + 1) := by
  rw [take_snocP hp, take_snocP hq, ht, h]

set_option maxRecDepth 100000 in
set_option maxHeartbeats 1000000 in
theorem same_any (w : World) (A A' : Option Addr) (cap cap' : Nat) (L M : List PairV) (b : Bool) (hbb : decide (L = M) = b) (h : Pairs w A L) (h' : Pairs w A' M) (hl : L.length ≤ 1000) (hl' : M.length ≤ 1000) :
    Calls Tryz.prog 17 #[.slice A L.length cap, .slice A' M.length cap'] w fun e w' => e = .returned (.bool b) ∧ Below w.heap.size w w' := by
  have HB := Lib.hid hbb
  have HI := Lib.hid h
  have HJ := Lib.hid h'
  clear hbb h h'
  by_cases hlen : L.length = M.length
  · have e1 : ((L.length : Int) == (M.length : Int)) = true := by simp [hlen]
    have e2 : (!(L.length : Int) == (M.length : Int)) = false := by rw [e1]; rfl
    have HL := Lib.hid hlen
    clear hlen
    go_enter Tryz.func17, Tryz.ntmps17
    go_wp2_with fail
    go_loopw [13] (fun j wr => ∃ k : Nat, k ≤ L.length ∧ j = .int .i64 k ∧ L.take k = M.take k ∧ Below w.heap.size w wr) (fun j _ => L.length - (intOf j).toNat)
    case atStart => exact ⟨0, Nat.zero_le _, rfl, rfl, Below.refl _ _⟩
    case round =>
      obtain ⟨k, hk, rfl, ht, hb2⟩ := hrel
      have HT := Lib.hid ht
      clear ht
      by_cases hlt : k < L.length
      · have kk : (k : Int) < L.length := by omega
        have hlt' : k < M.length := by have := HL.out; omega
        have kk' : (k : Int) < M.length := by omega
        have hxk : L[k]? = some L[k] := List.getElem?_eq_getElem hlt
        have hyk : M[k]? = some M[k] := List.getElem?_eq_getElem hlt'
        generalize hit : L[k] = p at *
        generalize hjt : M[k] = q at *
        obtain ⟨px, pc⟩ := p
        obtain ⟨qx, qc⟩ := q
        obtain ⟨b0, off, rfl, hbl, c0, c1⟩ := (HI.out.call hb2).at_ k _ hxk
        obtain ⟨b1, off', rfl, hbl', d0, d1⟩ := (HJ.out.call hb2).at_ k _ hyk
        simp only at c0 c1 d0 d1
        have hcmp := pair_neq px pc qx qc
        have HXK := Lib.hid hxk
        have HYK := Lib.hid hyk
        clear hxk hyk hit hjt
        by_cases hc : px = qx ∧ pc = qc
        · have e3 : (!(px == qx && pc == qc)) = false := by simp [hc.1, hc.2]
          rw [e3] at hcmp
          have HC := Lib.hid hc
          clear hc e3
          go_wp2_with fail
          go_quiet (fail)
          go_wp2_with fail
          go_roundw
          case rel => exact ⟨k + 1, by omega, by go_num, same_take HXK.out HYK.out (Prod.ext HC.out.1 HC.out.2) HT.out, below_drewM hb2 _⟩
          case measure => simp [intOf]; omega
        · have e3 : (!(px == qx && pc == qc)) = true := by
            by_cases h1 : px = qx
            · have h2 : ¬ pc = qc := fun h => hc ⟨h1, h⟩
              simp [h2]
            · simp [h1]
          rw [e3] at hcmp
          have HE : Hid (b = false) := Lib.hid (by rw [← HB.out]; exact decide_eq_false (ne_at HXK.out HYK.out (fun h => hc ⟨(Prod.mk.inj h).1, (Prod.mk.inj h).2⟩)))
          clear hc e3
          go_wp2_with fail
          go_quiet (fail)
          go_wp2_with fail
          go_ret
          exact ⟨by rw [HE.out]; rfl, below_drewM hb2 _⟩
      · obtain rfl : k = L.length := by omega
        have HE : Hid (b = true) := Lib.hid (by
          have h1 := HT.out
          rw [List.take_length, HL.out, List.take_length] at h1
          rw [← HB.out]; exact decide_eq_true h1)
        have kk : ¬ (L.length : Int) < L.length := by omega
        go_wp2_with fail
        go_ret
        exact ⟨by rw [HE.out]; rfl, hb2⟩
  · have e1 : ((L.length : Int) == (M.length : Int)) = false := by simp; omega
    have e2 : (!(L.length : Int) == (M.length : Int)) = true := by rw [e1]; rfl
    have HE : Hid (b = false) := Lib.hid (by rw [← HB.out]; exact decide_eq_false (fun h => hlen (by rw [h])))
    clear hlen
    go_enter Tryz.func17, Tryz.ntmps17
    go_wp2_with fail
    go_ret
    exact ⟨by rw [HE.out]; rfl, Below.refl _ _⟩

set_option maxRecDepth 100000 in
set_option maxHeartbeats 1000000 in
theorem rgood_row (w : World) (A : Option Addr) (cap : Nat) (L : List PairV) (b : Bool) (hbb : goodB L = b) (h : Pairs w A L) (hl : L.length ≤ 140737488351232) :
    Calls Tryz.prog 25 #[.slice A L.length cap] w fun e w' => e = .returned (.bool b) ∧ Below w.heap.size w w' := by
  have HB := Lib.hid hbb
  have HI := Lib.hid h
  clear hbb h
  go_enter Tryz.func25, Tryz.ntmps25
  go_wp2_with fail
  go_loopw [6] (fun j wr => ∃ k : Nat, k ≤ L.length ∧ j = .int .i64 k ∧ GoodP (L.take k) ∧ Below w.heap.size w wr) (fun j _ => L.length - (intOf j).toNat)
  case atStart => exact ⟨0, Nat.zero_le _, rfl, good_nil, Below.refl _ _⟩
  case round =>
    obtain ⟨k, hk, rfl, hg, hb2⟩ := hrel
    by_cases hlt : k < L.length
    · have kk : (k : Int) < L.length := by omega
      have hxk : L[k]? = some L[k] := List.getElem?_eq_getElem hlt
      generalize hit : L[k] = p at *
      have hst := good_step hxk hg
      obtain ⟨px, pc⟩ := p
      obtain ⟨b0, off, rfl, hbl, c0, c1⟩ := (HI.out.call hb2).at_ k _ hxk
      have hok := HI.out.ok _ (List.mem_of_getElem? hxk)
      obtain ⟨⟨o1, o2⟩, o3, o4⟩ := hok
      have HST := Lib.hid hst
      have hneg : ∀ k : Nat, ¬ GoodP (L.take k) → ¬ GoodP L := fun k h hg => h (good_take _ hg)
      have HN := Lib.hid hneg
      simp only at c0 c1 o1 o2 o3 o4 HST
      clear hxk hit hg hst hneg
      by_cases h1 : pc < 1
      · have HE : Hid (b = false) := Lib.hid (by rw [← HB.out]; exact goodB_false.2 (HN.out (k + 1) (fun hg => by have := (HST.out.1 hg).1; omega)))
        go_wp2_with fail
        go_ret
        exact ⟨by rw [HE.out]; rfl, hb2⟩
      · by_cases h2 : 9223372036854775807 < pc
        · have HE : Hid (b = false) := Lib.hid (by rw [← HB.out]; exact goodB_false.2 (HN.out (k + 1) (fun hg => by have := (HST.out.1 hg).1; omega)))
          go_wp2_with fail
          go_ret
          exact ⟨by rw [HE.out]; rfl, hb2⟩
        · by_cases h0 : k = 0
          · subst h0
            have HG : Hid (GoodP (L.take (0 + 1))) := Lib.hid (HST.out.2 ⟨⟨by omega, by omega⟩, fun h => by omega⟩)
            go_wp2_with fail
            go_quiet (fail)
            go_wp2_with fail
            go_roundw
            case rel => exact ⟨1, by omega, by go_num, HG.out, below_drewM hb2 _⟩
            case measure => simp [intOf]; omega
          · obtain ⟨u, hu⟩ : ∃ u, k = u + 1 := ⟨k - 1, by omega⟩
            have hxu : L[u]? = some L[u] := List.getElem?_eq_getElem (by omega)
            generalize hiu : L[u] = q at *
            obtain ⟨qx, qc⟩ := q
            obtain ⟨b1, off1, ea, hbl1, d0, d1⟩ := (HI.out.call hb2).at_ u _ hxu
            obtain ⟨rfl, rfl⟩ : b0 = b1 ∧ off = off1 := by
              have := Option.some.inj ea
              exact ⟨(Addr.mk.inj this).1, (Addr.mk.inj this).2.1⟩
            simp only at d0 d1
            have u1 : IntKind.i64.wrap ((k : Int) - 1) = (u : Int) := by rw [IntKind.wrap_i64]; omega
            have u2 : (k : Int) - 1 = (u : Int) := by omega
            have u3 : (u : Int) < L.length := by omega
            have k0 : 0 < k := by omega
            have k0d : decide (0 < k) = true := decide_eq_true k0
            have HU : Hid (L[k - 1]? = some (qx, qc)) := Lib.hid (by rw [hu, Nat.add_sub_cancel]; exact hxu)
            have HK := Lib.hid hu
            have hok := HI.out.ok _ (List.mem_of_getElem? hxu)
            clear ea hxu hiu h0 hu
            by_cases h3 : qx < px
            · have HG : Hid (GoodP (L.take (k + 1))) := Lib.hid (HST.out.2 ⟨⟨by omega, by omega⟩, fun h z hz => by rw [HU.out] at hz; have := Option.some.inj hz; rw [← this]; exact h3⟩)
              have h3' : decide (qx < px) = true := decide_eq_true h3
              go_wp2_with fail
              go_quiet (fail)
              go_wp2_with fail
              go_roundw
              case rel => exact ⟨k + 1, by omega, by go_num, HG.out, below_drewM hb2 _⟩
              case measure => simp [intOf]; omega
            · have HE : Hid (b = false) := Lib.hid (by rw [← HB.out]; exact goodB_false.2 (HN.out (k + 1) (fun hg => h3 ((HST.out.1 hg).2 (by omega) _ HU.out))))
              have h3' : decide (qx < px) = false := decide_eq_false h3
              go_wp2_with fail
              go_quiet (fail)
              go_wp2_with fail
              go_ret
              exact ⟨by rw [HE.out]; rfl, below_drewM hb2 _⟩
    · obtain rfl : k = L.length := by omega
      rw [List.take_length] at hg
      have HE : Hid (b = true) := Lib.hid (by rw [← HB.out]; exact goodB_true.2 hg)
      have kk : ¬ (L.length : Int) < L.length := by omega
      clear hg
      go_wp2_with fail
      go_ret
      exact ⟨by rw [HE.out]; rfl, hb2⟩
end Go.Proofs.YthjcdbnjmpjikaaGreat

namespace Go.Proofs.YthjcdbnjmpjikaaGreat
set_option linter.unusedVariables false
set_option linter.unusedSimpArgs false
open Go.RowKit

theorem low_step {L : List PairV} {k : Nat} {p : PairV} (h : L[k]? = some p) (i : Int) : lowP (L.take (k + 1)) i = lowP (L.take k) i ++ (if p.1 < i then [p] else []) := by
  rw [take_snocP h]; unfold lowP; rw [List.filter_append]
  congr 1
  by_cases hc : p.1 < i
  · rw [if_pos hc, List.filter_cons_of_pos (by simpa using hc)]; rfl
  · rw [if_neg hc, List.filter_cons_of_neg (by simpa using hc)]; rfl
theorem high_step {L : List PairV} {k : Nat} {p : PairV} (h : L[k]? = some p) (i : Int) : highP (L.take (k + 1)) i = highP (L.take k) i ++ (if i < p.1 then [p] else []) := by
  rw [take_snocP h]; unfold highP; rw [List.filter_append]
  congr 1
  by_cases hc : i < p.1
  · rw [if_pos hc, List.filter_cons_of_pos (by simpa using hc)]; rfl
  · rw [if_neg hc, List.filter_cons_of_neg (by simpa using hc)]; rfl
theorem low_len (L : List PairV) (i : Int) (k : Nat) : (lowP (L.take k) i).length ≤ L.length := Nat.le_trans (List.length_filter_le _ _) (List.length_take_le' _ _)
theorem high_len (L : List PairV) (i : Int) (k : Nat) : (highP (L.take k) i).length ≤ L.length := Nat.le_trans (List.length_filter_le _ _) (List.length_take_le' _ _)
theorem OwnP.alloc {w : World} {base : Nat} {v : Value} {L : List PairV} (h : OwnP w base v L) (o : Obj) : OwnP (w.alloc o) base v L := World.ownsRow.alloc h o
theorem OwnP.below {a w w' : World} {base : Nat} {v : Value} {L : List PairV} (h : OwnP w base v L) (hb : Below base a w) (hg : w.grownBy w' v.ownBlock) (hs : base ≤ w.heap.size) : Below base a w' := hb.grown hg hs (fun k hk => (h.lt k hk).1)

set_option maxRecDepth 100000 in
set_option maxHeartbeats 2000000 in
theorem radd_any (w : World) (A : Option Addr) (cap : Nat) (L : List PairV) (i c n : Int) (h : Pairs w A L) (hl : L.length ≤ 1000) (hi : I64 i) (hc : Word c) (hn : countP L i + c = n) (hb : n < 18446744073709551616) :
    Calls Tryz.prog 48 #[.slice A L.length cap, .int .i64 i, .int .u64 c] w fun e w' => ∃ v, e = .returned v ∧ OwnP w' w.heap.size v (addP L i c) ∧ Below w.heap.size w w' := by
  have HI := Lib.hid h
  have HIX := Lib.hid hi
  obtain ⟨i0, i1⟩ := hi
  obtain ⟨c0', c1'⟩ := hc
  obtain ⟨m, hm⟩ : ∃ m, countP L i = m := ⟨_, rfl⟩
  have hm0 := (countP_take (L := L) L.length i (ok_pos h.ok)).1
  rw [List.take_length, hm] at hm0
  rw [hm] at hn
  have HM := Lib.hid hm
  have HN := Lib.hid hn
  have hmn : m + c < 18446744073709551616 := by omega
  have HADD : Hid (addP L i c = lowP L i ++ (midP i n ++ highP L i)) := Lib.hid (by unfold addP; rw [hm, hn])
  clear h hm
  go_enter Tryz.func48, Tryz.ntmps48
  go_wp2_with fail
  go_loopw [7, 15] (fun s j wr => ∃ (k : Nat), k ≤ L.length ∧ j = .int .i64 k ∧ OwnP wr w.heap.size s (lowP (L.take k) i) ∧ Below w.heap.size w wr) (fun _ j _ => L.length - (intOf j).toNat)
  case atStart => exact ⟨0, Nat.zero_le _, rfl, OwnP.nil _ _, Below.refl _ _⟩
  case round =>
    obtain ⟨k, hk, rfl, hown, hb2⟩ := hrel
    have hbs := hb2.size
    by_cases hlt : k < L.length
    · have kk : (k : Int) < L.length := by omega
      have hxk : L[k]? = some L[k] := List.getElem?_eq_getElem hlt
      generalize hit : L[k] = p at *
      obtain ⟨px, pc⟩ := p
      obtain ⟨b0, off, rfl, hbl, c0, c1⟩ := (HI.out.call hb2).at_ k _ hxk
      simp only at c0 c1
      have HS := Lib.hid (low_step hxk i)
      have HLL := Lib.hid (low_len L i k)
      have hok := HI.out.ok _ (List.mem_of_getElem? hxk)
      obtain ⟨⟨o1, o2⟩, o3, o4⟩ := hok
      simp only at HS
      clear hxk hit
      by_cases hc : px < i
      · rw [if_pos hc] at HS
        obtain ⟨vA, vk, rfl⟩ := hown.form
        have HO := Lib.hid hown
        clear hown
        go_wp2_with (at_builtin; refine wpList_append_pair rfl _ _ rfl w.heap.size _ _ (wr.heap.size + 1) (px, pc) rfl ((HO.out.alloc _).alloc _) rfl ?c1 ?c2 ?c3 ?c4 ?_)
        case c3 => have := HLL.out; omega
        case c4 => first | omega | (simp; omega)
        intro v' w1 hown' hgrow
        have hb3 := OwnP.below ((HO.out.alloc _).alloc _) ((hb2.alloc hbs _).alloc (by simp; omega) _) hgrow (by simp; omega)
        rw [← HS.out] at hown'
        clear hgrow
        go_wp2_with fail
        go_roundw
        case rel => exact ⟨k + 1, by omega, by go_num, hown', hb3⟩
        case measure => simp [intOf]; omega
      · rw [if_neg hc, List.append_nil] at HS
        rw [← HS.out] at hown
        go_wp2_with fail
        go_roundw
        case rel => exact ⟨k + 1, by omega, by go_num, hown.alloc _, hb2.alloc hbs _⟩
        case measure => simp [intOf]; omega
    · obtain rfl : k = L.length := by omega
      rw [List.take_length] at hown
      have kk : ¬ (L.length : Int) < L.length := by omega
      have HLL := Lib.hid (low_len L i L.length)
      rw [List.take_length] at HLL
      have HO := Lib.hid hown
      clear hown
      go_wp2_with fail
      refine (rcount_any _ A cap L i m (HI.out.call hb2) hl HIX.out HM.out (by omega)).mono ?_
      rintro e w3 ⟨rfl, hb3'⟩
      have hb3 := hb2.trans (hb3'.mono hbs)
      have hbs3 := hb3.size
      have HO3 := Lib.hid (HO.out.call hb3')
      have HML : Hid ((lowP L i ++ midP i n).length ≤ 1001) := Lib.hid (by
        rw [List.length_append]; have := HLL.out
        have : (midP i n).length ≤ 1 := by unfold midP; split <;> simp
        omega)
      clear hb3' hb2 hbs HO
      by_cases h0 : 0 < n
      · have HMID : Hid (lowP L i ++ [(i, n)] = lowP L i ++ midP i n) := Lib.hid (by unfold midP; rw [if_pos h0])
        obtain ⟨vA, vk, rfl⟩ := HO3.out.form
        go_wp2_with (at_builtin; refine wpList_append_pair rfl _ _ rfl w.heap.size _ _ w3.heap.size (i, n) rfl (HO3.out.alloc _) rfl ?d1 ?d2 ?d3 ?d4 ?_)
        case d3 => have := HLL.out; omega
        case d4 => first | omega | (simp; omega)
        intro v5 w5 hown5 hgrow
        have hb5 := OwnP.below (HO3.out.alloc _) (hb3.alloc hbs3 _) hgrow (by simp; omega)
        rw [HMID.out] at hown5
        have hbs5 := hb5.size
        clear hgrow hb3 hbs3 HO3 HLL
        go_wp2_with fail
        go_loopw [7, 43] (fun s j wr => ∃ (k : Nat), k ≤ L.length ∧ j = .int .i64 k ∧ OwnP wr w.heap.size s (lowP L i ++ midP i n ++ highP (L.take k) i) ∧ Below w.heap.size w wr) (fun _ j _ => L.length - (intOf j).toNat)
        case atStart => exact ⟨0, Nat.zero_le _, rfl, by rw [List.take_zero, show highP [] i = [] from rfl, List.append_nil]; exact hown5, hb5⟩
        case round =>
          clear hown5 hb5 hbs5
          obtain ⟨k, hk, rfl, hown, hb2⟩ := hrel
          have hbs := hb2.size
          by_cases hlt : k < L.length
          · have kk : (k : Int) < L.length := by omega
            have hxk : L[k]? = some L[k] := List.getElem?_eq_getElem hlt
            generalize hit : L[k] = p at *
            obtain ⟨px, pc⟩ := p
            obtain ⟨b0, off, rfl, hbl, c0, c1⟩ := (HI.out.call hb2).at_ k _ hxk
            simp only at c0 c1
            have HS := Lib.hid (high_step hxk i)
            have HHL := Lib.hid (high_len L i k)
            have hok := HI.out.ok _ (List.mem_of_getElem? hxk)
            obtain ⟨⟨o1, o2⟩, o3, o4⟩ := hok
            simp only at HS
            clear hxk hit
            by_cases hc : i < px
            · rw [if_pos hc] at HS
              obtain ⟨R, hR⟩ : ∃ R, lowP L i ++ midP i n ++ highP (L.take k) i = R := ⟨_, rfl⟩
              have HRL : Hid (R.length ≤ 3000) := Lib.hid (by rw [← hR, List.length_append]; have := HML.out; have := HHL.out; omega)
              have HSR : Hid (R ++ [(px, pc)] = lowP L i ++ midP i n ++ highP (L.take (k + 1)) i) := Lib.hid (by rw [HS.out, ← List.append_assoc, hR])
              rw [hR] at hown
              clear hR
              obtain ⟨vA, vk, rfl⟩ := hown.form
              have HO := Lib.hid hown
              clear hown
              go_wp2_with (at_builtin; refine wpList_append_pair rfl _ _ rfl w.heap.size _ _ (wr.heap.size + 1) (px, pc) rfl ((HO.out.alloc _).alloc _) rfl ?e1 ?e2 ?e3 ?e4 ?_)
              case e3 => have := HRL.out; omega
              case e4 => first | omega | (simp; omega)
              intro v' w1 hown' hgrow
              have hb3 := OwnP.below ((HO.out.alloc _).alloc _) ((hb2.alloc hbs _).alloc (by simp; omega) _) hgrow (by simp; omega)
              rw [HSR.out] at hown'
              clear hgrow
              go_wp2_with fail
              go_roundw
              case rel => exact ⟨k + 1, by omega, by go_num, hown', hb3⟩
              case measure => simp [intOf]; omega
            · rw [if_neg hc, List.append_nil] at HS
              rw [← HS.out] at hown
              go_wp2_with fail
              go_roundw
              case rel => exact ⟨k + 1, by omega, by go_num, hown.alloc _, hb2.alloc hbs _⟩
              case measure => simp [intOf]; omega
          · obtain rfl : k = L.length := by omega
            rw [List.take_length, List.append_assoc, ← HADD.out] at hown
            have kk : ¬ (L.length : Int) < L.length := by omega
            have HO := Lib.hid hown
            clear hown
            go_wp2_with fail
            go_ret
            exact ⟨_, rfl, HO.out, hb2⟩
      · have HMID : Hid (lowP L i = lowP L i ++ midP i n) := Lib.hid (by unfold midP; rw [if_neg h0, List.append_nil])
        have hown5 := HO3.out
        rw [HMID.out] at hown5
        have hb5 := hb3
        have hbs5 := hbs3
        clear hb3 hbs3 HO3 HLL
        go_wp2_with fail
        go_loopw [7, 43] (fun s j wr => ∃ (k : Nat), k ≤ L.length ∧ j = .int .i64 k ∧ OwnP wr w.heap.size s (lowP L i ++ midP i n ++ highP (L.take k) i) ∧ Below w.heap.size w wr) (fun _ j _ => L.length - (intOf j).toNat)
        case atStart => exact ⟨0, Nat.zero_le _, rfl, by rw [List.take_zero, show highP [] i = [] from rfl, List.append_nil]; exact hown5, hb5⟩
        case round =>
          clear hown5 hb5 hbs5
          obtain ⟨k, hk, rfl, hown, hb2⟩ := hrel
          have hbs := hb2.size
          by_cases hlt : k < L.length
          · have kk : (k : Int) < L.length := by omega
            have hxk : L[k]? = some L[k] := List.getElem?_eq_getElem hlt
            generalize hit : L[k] = p at *
            obtain ⟨px, pc⟩ := p
            obtain ⟨b0, off, rfl, hbl, c0, c1⟩ := (HI.out.call hb2).at_ k _ hxk
            simp only at c0 c1
            have HS := Lib.hid (high_step hxk i)
            have HHL := Lib.hid (high_len L i k)
            have hok := HI.out.ok _ (List.mem_of_getElem? hxk)
            obtain ⟨⟨o1, o2⟩, o3, o4⟩ := hok
            simp only at HS
            clear hxk hit
            by_cases hc : i < px
            · rw [if_pos hc] at HS
              obtain ⟨R, hR⟩ : ∃ R, lowP L i ++ midP i n ++ highP (L.take k) i = R := ⟨_, rfl⟩
              have HRL : Hid (R.length ≤ 3000) := Lib.hid (by rw [← hR, List.length_append]; have := HML.out; have := HHL.out; omega)
              have HSR : Hid (R ++ [(px, pc)] = lowP L i ++ midP i n ++ highP (L.take (k + 1)) i) := Lib.hid (by rw [HS.out, ← List.append_assoc, hR])
              rw [hR] at hown
              clear hR
              obtain ⟨vA, vk, rfl⟩ := hown.form
              have HO := Lib.hid hown
              clear hown
              go_wp2_with (at_builtin; refine wpList_append_pair rfl _ _ rfl w.heap.size _ _ (wr.heap.size + 1) (px, pc) rfl ((HO.out.alloc _).alloc _) rfl ?f1 ?f2 ?f3 ?f4 ?_)
              case f3 => have := HRL.out; omega
              case f4 => first | omega | (simp; omega)
              intro v' w1 hown' hgrow
              have hb3 := OwnP.below ((HO.out.alloc _).alloc _) ((hb2.alloc hbs _).alloc (by simp; omega) _) hgrow (by simp; omega)
              rw [HSR.out] at hown'
              clear hgrow
              go_wp2_with fail
              go_roundw
              case rel => exact ⟨k + 1, by omega, by go_num, hown', hb3⟩
              case measure => simp [intOf]; omega
            · rw [if_neg hc, List.append_nil] at HS
              rw [← HS.out] at hown
              go_wp2_with fail
              go_roundw
              case rel => exact ⟨k + 1, by omega, by go_num, hown.alloc _, hb2.alloc hbs _⟩
              case measure => simp [intOf]; omega
          · obtain rfl : k = L.length := by omega
            rw [List.take_length, List.append_assoc, ← HADD.out] at hown
            have kk : ¬ (L.length : Int) < L.length := by omega
            have HO := Lib.hid hown
            clear hown
            go_wp2_with fail
            go_ret
            exact ⟨_, rfl, HO.out, hb2⟩
end Go.Proofs.YthjcdbnjmpjikaaGreat

/-
  Walks: an eye: On, Bad, Left, Over, Shut, and the number at the beginning.
  Walks: the number at the beginning of a text.
  Walks: an eye's Raw, Nat, Int, Small, Count.
  A quill in memory: what it holds, what writing leaves alone; walks: a quill's Nat, Int, Raw, Text.
-/
namespace Go.Proofs.YthjcdbnjmpjikaaGreat
set_option linter.unusedVariables false
set_option linter.unusedSimpArgs false
open Go.RowKit

/-- An eye at block B: what is left, and whether it is bad (then nothing is left). -/
structure Eye (w : World) (B : Nat) (s : ByteArray) (bad : Bool) : Prop where
  two : Two w B (.string s) (.bool bad)
  non : bad = true → s = ⟨#[]⟩
theorem Eye.call {w w' : World} {B : Nat} {s : ByteArray} {bad : Bool} (h : Eye w B s bad) (hb : Below w.heap.size w w') : Eye w' B s bad := ⟨h.two.call hb, h.non⟩
theorem two_only {w w' : World} {B B' : Nat} {x y : Value} (h : Two w B x y) (hg : w.grownBy w' (some B')) (hne : B ≠ B') : Two w' B x y := by
  have hlt := h.lt
  have hb := hg.block B hlt (fun e => hne (Option.some.inj e))
  exact ⟨(World.cell?_of_block (a := ⟨B, 0, none⟩) hb).trans h.c0, (World.cell?_of_block (a := ⟨B, 1, none⟩) hb).trans h.c1, (World.frozen?_of_block (a := ⟨B, 0, none⟩) hb).trans h.f0, (World.frozen?_of_block (a := ⟨B, 1, none⟩) hb).trans h.f1⟩
theorem grown_refl (w : World) (r : Option Nat) : w.grownBy w r := ⟨rfl, rfl, rfl, Nat.le_refl _, fun _ _ _ => rfl⟩
theorem grown_trans {a b c : World} {r : Option Nat} (h : a.grownBy b r) (k : b.grownBy c r) : a.grownBy c r :=
  ⟨k.os.trans h.os, k.tape.trans h.tape, k.output.trans h.output, Nat.le_trans h.size k.size, fun i hi hr => (k.block i (Nat.lt_of_lt_of_le hi h.size) hr).trans (h.block i hi hr)⟩
theorem grown_setCell (w : World) (B o : Nat) (v : Value) : w.grownBy (w.setCell ⟨B, o, none⟩ v) (some B) :=
  ⟨rfl, rfl, rfl, by simp [World.setCell], fun k hk hr => Below.heap_setCell _ _ _ _ (fun e => hr (by rw [e]))⟩
theorem grown_below {a b : World} {B n : Nat} (h : a.grownBy b (some B)) (hn : n ≤ B) (hs : n ≤ a.heap.size) : Below n a b :=
  ⟨h.os, h.tape, h.output, h.size, fun k hk => h.block k (by omega) (fun e => by have := Option.some.inj e; omega)⟩
theorem Two.low {w : World} {B : Nat} {x y : Value} (h : Two w B x y) (v : Value) : Two (w.setCell ⟨B, 0, none⟩ v) B v y := by
  refine ⟨?_, ?_, ?_, ?_⟩
  · exact World.cell?_setCell_same _ _ _ h.c0
  · rw [World.cell?_setCell_other _ _ _ _ (two_off (by omega))]; exact h.c1
  · rw [World.frozen?_setCell]; exact h.f0
  · rw [World.frozen?_setCell]; exact h.f1

end Go.Proofs.YthjcdbnjmpjikaaGreat

namespace Go.Proofs.YthjcdbnjmpjikaaGreat
set_option linter.unusedVariables false
set_option linter.unusedSimpArgs false
open Go.RowKit

theorem byte_atA (s : ByteArray) (k : Nat) (h : k < s.size) : s.data.toList[k]? = some (s[k]'h) := by
  obtain ⟨⟨l⟩⟩ := s
  exact List.getElem?_eq_getElem h

end Go.Proofs.YthjcdbnjmpjikaaGreat

namespace Go.Proofs.YthjcdbnjmpjikaaGreat
set_option linter.unusedVariables false
set_option linter.unusedSimpArgs false
open Go.RowKit

/-- What an eye tells, and what it is behind it, that is asked for a number of at most so much. -/
def gone (s : ByteArray) (bad : Bool) (most : Nat) : Bool := bad || decide ((takS s.data.toList most).2 = 0)
def nV (s : ByteArray) (bad : Bool) (most : Nat) : Int := if gone s bad most then 0 else ((takS s.data.toList most).1 : Nat)
def nS (s : ByteArray) (bad : Bool) (most : Nat) : ByteArray := if gone s bad most then ⟨#[]⟩ else s.extract (takS s.data.toList most).2 s.size
theorem nV_word (s : ByteArray) (bad : Bool) (most : Nat) : Word (nV s bad most) := by
  unfold nV Word; have := takS_lt s.data.toList most
  split <;> omega
theorem nV_most (s : ByteArray) (bad : Bool) (most : Nat) : nV s bad most ≤ most := by
  unfold nV; have := takS_most s.data.toList most
  split <;> omega
theorem nS_size (s : ByteArray) (bad : Bool) (most : Nat) : (nS s bad most).size ≤ s.size := by
  unfold nS; split
  · exact Nat.zero_le _
  · rw [Lib.size_eq, Lib.size_eq, ← Lib.toList_data, Lib.extract_toList, List.length_take, List.length_drop]; omega
theorem eye_nS {w : World} {B : Nat} {s : ByteArray} {bad : Bool} {most : Nat} (h : gone s bad most = true) (k : Eye w B ⟨#[]⟩ true) : Eye w B (nS s bad most) (gone s bad most) := by
  unfold nS; rw [h]; exact k

/-- Small's most. -/
def sm (n : Int) : Nat := n.toNat

/-- Count's answers. -/
def cgone (s : ByteArray) (bad : Bool) : Bool := gone s bad 9223372036854775807 || nV s bad 9223372036854775807 == 0
def cS (s : ByteArray) (bad : Bool) : ByteArray := if cgone s bad then ⟨#[]⟩ else nS s bad 9223372036854775807

/-- Raw's answers. -/
def rgone (s : ByteArray) (bad : Bool) (n : Int) : Bool := bad || decide (n < 0) || decide ((s.size : Int) < n)
def rV (s : ByteArray) (bad : Bool) (n : Int) : ByteArray := if rgone s bad n then ⟨#[]⟩ else s.extract 0 n.toNat
def rS (s : ByteArray) (bad : Bool) (n : Int) : ByteArray := if rgone s bad n then ⟨#[]⟩ else s.extract n.toNat s.size
theorem rS_size (s : ByteArray) (bad : Bool) (n : Int) : (rS s bad n).size ≤ s.size := by
  unfold rS; split
  · exact Nat.zero_le _
  · rw [Lib.size_eq, Lib.size_eq, ← Lib.toList_data, Lib.extract_toList, List.length_take, List.length_drop]; omega

end Go.Proofs.YthjcdbnjmpjikaaGreat

namespace Go.Proofs.YthjcdbnjmpjikaaGreat
set_option linter.unusedVariables false
set_option linter.unusedSimpArgs false
open Go.RowKit

/-- Numbers' bytes, one behind the other. -/
def natsB (xs : List Int) : List UInt8 := xs.flatMap fun x => natB x.toNat
theorem natsB_snoc (xs : List Int) (k : Nat) (x : Int) (h : xs[k]? = some x) : natsB (xs.take (k + 1)) = natsB (xs.take k) ++ natB x.toNat := by
  have hk : k < xs.length := by
    rcases Nat.lt_or_ge k xs.length with h' | h'
    · exact h'
    · rw [List.getElem?_eq_none h'] at h; cases h
  rw [List.take_succ_eq_append_getElem hk]
  rw [List.getElem?_eq_getElem hk] at h
  rw [Option.some.inj h]
  unfold natsB
  rw [List.flatMap_append]; simp
theorem natsB_len (xs : List Int) (h : ∀ x ∈ xs, Word x) : (natsB xs).length ≤ 10 * xs.length := by
  induction xs with
  | nil => simp [natsB]
  | cons x r ih =>
    have h1 := ih fun y hy => h y (List.mem_cons_of_mem _ hy)
    have h2 := natB_len10 (n := x.toNat) (by have := h x (List.mem_cons_self); unfold Word at this; omega)
    unfold natsB at *
    rw [List.flatMap_cons, List.length_append, List.length_cons]; omega

theorem natsB_one (x : Int) : natsB [x] = natB x.toNat := by unfold natsB; simp

end Go.Proofs.YthjcdbnjmpjikaaGreat
/-
  Things that keep blocks of their own: what a call on one leaves alone.
-/
namespace Go.Proofs.YthjcdbnjmpjikaaGreat
set_option linter.unusedVariables false
set_option linter.unusedSimpArgs false
open Go.RowKit

/-- All blocks but those of S are as they were. -/
structure Keeps (S : Nat → Prop) (w w' : World) : Prop where
  os : w'.os = w.os
  tape : w'.tape = w.tape
  output : w'.output = w.output
  size : w.heap.size ≤ w'.heap.size
  block : ∀ k, k < w.heap.size → ¬ S k → w'.heap[k]? = w.heap[k]?
theorem Keeps.refl (S : Nat → Prop) (w : World) : Keeps S w w := ⟨rfl, rfl, rfl, Nat.le_refl _, fun _ _ _ => rfl⟩
theorem Keeps.of_below {S : Nat → Prop} {w w' : World} (h : Below w.heap.size w w') : Keeps S w w' := ⟨h.os, h.tape, h.output, h.size, fun k hk _ => h.block k hk⟩
/-- Behind a call on a thing whose blocks are all new since a: all that a had is as it was. -/
theorem Keeps.below {S : Nat → Prop} {n : Nat} {a w w' : World} (h : Below n a w) (k : Keeps S w w') (hn : n ≤ w.heap.size) (hS : ∀ i, S i → n ≤ i) : Below n a w' :=
  ⟨k.os.trans h.os, k.tape.trans h.tape, k.output.trans h.output, Nat.le_trans h.size k.size, fun i hi => (k.block i (by omega) (fun hs => by have := hS i hs; omega)).trans (h.block i hi)⟩
theorem Keeps.cell {S : Nat → Prop} {w w' : World} (k : Keeps S w w') {b o : Nat} {v : Value} (hb : ¬ S b) (h : w.cell? ⟨b, o, none⟩ = some v) : w'.cell? ⟨b, o, none⟩ = some v := by
  have hlt := World.block_lt_of_cell? (a := ⟨b, o, none⟩) w h
  exact (World.cell?_of_block (a := ⟨b, o, none⟩) (k.block b hlt hb)).trans h
theorem Keeps.own {S : Nat → Prop} {w w' : World} (k : Keeps S w w') {base : Nat} {v : Value} {L : List PairV} (h : OwnP w base v L) (hv : ∀ g, v.ownBlock = some g → ¬ S g) : OwnP w' base v L := by
  refine ⟨h.1, ?_⟩
  rcases h.2 with hn | ⟨g, cap, cur, rfl, hb, hgg, rest⟩
  · exact .inl hn
  · refine .inr ⟨g, cap, cur, rfl, hb, ?_, rest⟩
    rw [k.block g (lt_of_block hgg) (hv g rfl)]
    exact hgg
end Go.Proofs.YthjcdbnjmpjikaaGreat

/-
  Walks: layer 7's reference: Total, Find, Below of a row.
  Walks: layer 7's reference: Add of a crate.
-/
namespace Go.Proofs.YthjcdbnjmpjikaaGreat
set_option linter.unusedVariables false
set_option linter.unusedSimpArgs false
open Go.RowKit

theorem sum_step' {L : List PairV} {k : Nat} {p : PairV} (h : L[k]? = some p) : sumP (L.take (k + 1)) = sumP (L.take k) + p.2 := by rw [take_snocP h, sumP_app, sumP_one]

set_option maxRecDepth 100000 in
set_option maxHeartbeats 1000000 in
theorem rtotal_any (w : World) (A : Option Addr) (cap : Nat) (L : List PairV) (n : Int) (h : Pairs w A L) (hl : L.length ≤ 1000) (hn : sumP L = n) (hb : n < 18446744073709551616) :
    Calls Tryz.prog 26 #[.slice A L.length cap] w fun e w' => e = .returned (.int .u64 n) ∧ Below w.heap.size w w' := by
  have HI := Lib.hid h
  have HN := Lib.hid hn
  have HP := Lib.hid (fun k => sumP_take (L := L) k (ok_pos h.ok))
  clear h hn
  go_enter Tryz.func26, Tryz.ntmps26
  go_wp2_with fail
  go_loopw [3, 8] (fun s j wr => ∃ (k : Nat) (m : Int), k ≤ L.length ∧ j = .int .i64 k ∧ s = .int .u64 m ∧ m = sumP (L.take k) ∧ Below w.heap.size w wr) (fun _ j _ => L.length - (intOf j).toNat)
  case atStart => exact ⟨0, 0, Nat.zero_le _, rfl, rfl, rfl, Below.refl _ _⟩
  case round =>
    obtain ⟨k, m, hk, rfl, rfl, hm, hb2⟩ := hrel
    have HM := Lib.hid hm
    by_cases hlt : k < L.length
    · have kk : (k : Int) < L.length := by omega
      have hxk : L[k]? = some L[k] := List.getElem?_eq_getElem hlt
      generalize hit : L[k] = p at *
      obtain ⟨px, pc⟩ := p
      obtain ⟨b, off, rfl, hbl, c0, c1⟩ := (HI.out.call hb2).at_ k _ hxk
      have HS := Lib.hid (sum_step' hxk)
      have hok := HI.out.ok _ (List.mem_of_getElem? hxk)
      have p1 := HP.out (k + 1)
      have p0 := HP.out k
      rw [HN.out] at p1
      rw [HS.out] at p1
      rw [← hm] at p0 p1
      have hbs := hb2.size
      obtain ⟨⟨o1, o2⟩, o3, o4⟩ := hok
      simp only at c0 c1 o1 o2 o3 o4 p1 HS
      obtain ⟨p2, p3⟩ := p1
      obtain ⟨p4, _⟩ := p0
      clear hxk hit hm
      go_wp2_with fail
      go_roundw
      case rel => exact ⟨k + 1, m + pc, by omega, by go_num, rfl, by rw [HS.out, HM.out], hb2.alloc hbs _⟩
      case measure => simp [intOf]; omega
    · obtain rfl : k = L.length := by omega
      rw [List.take_length, HN.out] at HM
      have kk : ¬ (L.length : Int) < L.length := by omega
      clear hm
      go_wp2_with fail
      go_ret
      exact ⟨ret_int HM.out, hb2⟩

/-- How many there are up to an index. -/
def belowP (L : List PairV) (i : Int) : Int := sumP (L.filter fun p => decide (p.1 ≤ i))
theorem below_app (A B : List PairV) (i : Int) : belowP (A ++ B) i = belowP A i + belowP B i := by unfold belowP; rw [List.filter_append, sumP_app]
theorem below_one (p : PairV) (i : Int) : belowP [p] i = if p.1 ≤ i then p.2 else 0 := by
  unfold belowP
  by_cases h : p.1 ≤ i
  · rw [if_pos h, List.filter_cons_of_pos (by simpa using h)]; simp [sumP_one]
  · rw [if_neg h, List.filter_cons_of_neg (by simpa using h)]; rfl
theorem below_step {L : List PairV} {k : Nat} {p : PairV} (h : L[k]? = some p) (i : Int) : belowP (L.take (k + 1)) i = belowP (L.take k) i + if p.1 ≤ i then p.2 else 0 := by
  rw [take_snocP h, below_app, below_one]
theorem below_take {L : List PairV} (k : Nat) (i : Int) (h : ∀ p, p ∈ L → 0 ≤ p.2) : 0 ≤ belowP (L.take k) i ∧ belowP (L.take k) i ≤ belowP L i := by
  have e := below_app (L.take k) (L.drop k) i
  rw [List.take_append_drop] at e
  have h1 : 0 ≤ belowP (L.take k) i := sumP_pos fun p hp => h p (List.mem_of_mem_take (List.mem_filter.1 hp).1)
  have h2 : 0 ≤ belowP (L.drop k) i := sumP_pos fun p hp => h p (List.mem_of_mem_drop (List.mem_filter.1 hp).1)
  omega
theorem below_le : ∀ {L : List PairV} (i : Int), (∀ p, p ∈ L → 0 ≤ p.2) → belowP L i ≤ sumP L := by
  intro L
  induction L with
  | nil => intro i _; exact Int.le_refl _
  | cons p r ih =>
    intro i h
    have h1 := h p (by simp)
    have h2 := ih i fun q hq => h q (List.mem_cons_of_mem _ hq)
    have e := below_app [p] r i
    rw [below_one] at e
    rw [sumP_cons]
    show belowP ([p] ++ r) i ≤ _
    rw [e]; split <;> omega

/-- The index of the t-th one, from some count on. -/
def seekP (t : Int) : Int → List PairV → Option Int
  | _, [] => none
  | s, p :: r => if t ≤ s + p.2 then some p.1 else seekP t (s + p.2) r
def findP (L : List PairV) (t : Int) : Option Int := if 0 < t then seekP t 0 L else none
theorem seek_at (t : Int) : ∀ (L : List PairV) (s : Int) (k : Nat) (p : PairV), (∀ q, q ∈ L → 0 ≤ q.2) → L[k]? = some p → s + sumP (L.take k) < t → t ≤ s + sumP (L.take k) + p.2 → seekP t s L = some p.1 := by
  intro L
  induction L with
  | nil => intro s k p _ h; simp at h
  | cons q r ih =>
    intro s k p hp h h1 h2
    cases k with
    | zero =>
      simp at h; subst h
      rw [List.take_zero, sumP_nil] at h1 h2
      unfold seekP; rw [if_pos (by omega)]
    | succ k =>
      rw [List.take_succ_cons, sumP_cons] at h1 h2
      have hq := hp q (by simp)
      have hr := sumP_take (L := r) k fun z hz => hp z (List.mem_cons_of_mem _ hz)
      unfold seekP
      rw [if_neg (by omega)]
      exact ih (s + q.2) k p (fun z hz => hp z (List.mem_cons_of_mem _ hz)) (by simpa using h) (by omega) (by omega)
theorem seek_none (t : Int) : ∀ (L : List PairV) (s : Int), (∀ q, q ∈ L → 0 ≤ q.2) → s + sumP L < t → seekP t s L = none := by
  intro L
  induction L with
  | nil => intro s _ _; rfl
  | cons q r ih =>
    intro s hp h
    rw [sumP_cons] at h
    have hr := sumP_pos (L := r) fun z hz => hp z (List.mem_cons_of_mem _ hz)
    unfold seekP
    rw [if_neg (by omega)]
    exact ih (s + q.2) (fun z hz => hp z (List.mem_cons_of_mem _ hz)) (by omega)

end Go.Proofs.YthjcdbnjmpjikaaGreat

namespace Go.Proofs.YthjcdbnjmpjikaaGreat
set_option linter.unusedVariables false
set_option linter.unusedSimpArgs false
open Go.RowKit

def headP (R : List PairV) : Int := ((R.head?).map fun p => p.1).getD 0
def lastP (R : List PairV) : Int := ((R.getLast?).map fun p => p.1).getD 0
/-- How far apart a row's ends lie. -/
def spreadP (R : List PairV) : Int := lastP R - headP R
theorem good_ends {R : List PairV} (h : GoodP R) : headP R ≤ lastP R := by
  cases R with
  | nil => exact Int.le_refl _
  | cons p r =>
    cases hl : (p :: r).getLast? with
    | none => simp at hl
    | some z =>
      have hz := List.mem_of_getLast? hl
      unfold headP lastP
      rw [hl]
      show p.1 ≤ z.1
      rcases List.mem_cons.1 hz with rfl | hz
      · exact Int.le_refl _
      · have := (List.pairwise_cons.1 h.2).1 z hz; omega
theorem head_i64 {R : List PairV} (h : ∀ p, p ∈ R → okP p) : I64 (headP R) := by
  cases R with
  | nil => exact ⟨by decide, by decide⟩
  | cons p r => exact (h p (by simp)).1
theorem last_i64 {R : List PairV} (h : ∀ p, p ∈ R → okP p) : I64 (lastP R) := by
  unfold lastP
  cases hl : R.getLast? with
  | none => exact ⟨by decide, by decide⟩
  | some z => exact (h z (List.mem_of_getLast? hl)).1
/-- What adding to a crate tells; what is kept then. -/
def crErr (L : List PairV) (i c : Int) : Int := if c = 0 then 1 else if 9223372036854775807 - sumP L < c then 6 else if 4095 < spreadP (addP L i c) then 6 else 0
def crRow (L : List PairV) (i c : Int) : List PairV := if crErr L i c = 0 then addP L i c else L
theorem add_pos {L : List PairV} {i c : Int} (h0 : 0 ≤ countP L i) (hc : 0 < c) : 0 < (addP L i c).length := by
  unfold addP midP; rw [if_pos (by omega)]; simp; omega
theorem sum_part (L : List PairV) (i : Int) : sumP (lowP L i) + (countP L i + sumP (highP L i)) = sumP L := by
  induction L with
  | nil => rfl
  | cons p r ih =>
    rw [sumP_cons, count_cons]
    unfold lowP highP at *
    rw [List.filter_cons, List.filter_cons]
    rcases Int.lt_trichotomy p.1 i with h | h | h
    · have h2 : ¬ i < p.1 := by omega
      have h3 : ¬ p.1 = i := by omega
      simp only [h, h2, h3, decide_true, decide_false, if_true, Bool.false_eq_true, if_false, sumP_cons]; omega
    · have h1 : ¬ p.1 < i := by omega
      have h2 : ¬ i < p.1 := by omega
      simp only [h, h1, h2, Int.lt_irrefl, decide_false, Bool.false_eq_true, if_true, if_false]; omega
    · have h1 : ¬ p.1 < i := by omega
      have h3 : ¬ p.1 = i := by omega
      simp only [h, h1, h3, decide_true, decide_false, if_true, Bool.false_eq_true, if_false, sumP_cons]; omega
theorem add_sum {L : List PairV} {i c : Int} (h0 : 0 ≤ countP L i + c) : sumP (addP L i c) = sumP L + c := by
  unfold addP
  rw [sumP_app, sumP_app]
  have hm : sumP (midP i (countP L i + c)) = countP L i + c := by
    unfold midP
    split
    · rw [sumP_one]
    · rw [sumP_nil]; omega
  have := sum_part L i
  rw [hm]; omega
theorem count_le_sum {L : List PairV} (i : Int) (h : ∀ p, p ∈ L → 0 ≤ p.2) : 0 ≤ countP L i ∧ countP L i ≤ sumP L := by
  have h1 := sum_part L i
  have h2 : 0 ≤ sumP (lowP L i) := sumP_pos fun p hp => h p (lowP_mem hp).1
  have h3 : 0 ≤ sumP (highP L i) := sumP_pos fun p hp => h p (highP_mem hp).1
  have h4 : 0 ≤ countP L i := sumP_pos fun p hp => h p (List.mem_filter.1 hp).1
  omega
/-- A row that a crate can have. -/
structure Crt (L : List PairV) : Prop where
  good : GoodP L
  ok : ∀ p, p ∈ L → okP p
  sum : sumP L ≤ 9223372036854775807
  far : spreadP L ≤ 4095
theorem Crt.nil : Crt [] := ⟨good_nil, fun p h => (by cases h), by decide, by decide⟩
theorem Crt.cnt {L : List PairV} (h : Crt L) (i : Int) : 0 ≤ countP L i ∧ countP L i ≤ sumP L := count_le_sum i (ok_pos h.ok)
theorem crErr_cases {L : List PairV} {i c : Int} (hc : Word c) : (c = 0 ∧ crErr L i c = 1) ∨ (0 < c ∧ 9223372036854775807 - sumP L < c ∧ crErr L i c = 6) ∨
    (0 < c ∧ c ≤ 9223372036854775807 - sumP L ∧ 4095 < spreadP (addP L i c) ∧ crErr L i c = 6) ∨ (0 < c ∧ c ≤ 9223372036854775807 - sumP L ∧ spreadP (addP L i c) ≤ 4095 ∧ crErr L i c = 0) := by
  unfold Word at hc
  unfold crErr
  by_cases h0 : c = 0
  · exact Or.inl ⟨h0, by rw [if_pos h0]⟩
  · rw [if_neg h0]
    by_cases h1 : 9223372036854775807 - sumP L < c
    · exact Or.inr (Or.inl ⟨by omega, h1, by rw [if_pos h1]⟩)
    · rw [if_neg h1]
      by_cases h2 : 4095 < spreadP (addP L i c)
      · exact Or.inr (Or.inr (Or.inl ⟨by omega, by omega, h2, by rw [if_pos h2]⟩))
      · exact Or.inr (Or.inr (Or.inr ⟨by omega, by omega, by omega, by rw [if_neg h2]⟩))
theorem crt_add {L : List PairV} {i c : Int} (h : Crt L) (hi : I64 i) (hc : Word c) : Crt (crRow L i c) := by
  have hw := hc
  unfold Word at hw
  unfold crRow
  rcases crErr_cases (L := L) (i := i) hc with ⟨_, e⟩ | ⟨_, _, e⟩ | ⟨_, _, _, e⟩ | ⟨h1, h2, h3, e⟩
  · rw [if_neg (by omega)]; exact h
  · rw [if_neg (by omega)]; exact h
  · rw [if_neg (by omega)]; exact h
  · rw [if_pos e]
    have h4 := h.cnt i
    exact ⟨add_good h.good (by omega), add_ok h.ok hi (by omega), by rw [add_sum (by omega)]; omega, h3⟩
theorem crRow_len (L : List PairV) (i c : Int) : (crRow L i c).length ≤ L.length + 1 := by
  unfold crRow
  split
  · exact add_len L i c
  · omega

end Go.Proofs.YthjcdbnjmpjikaaGreat