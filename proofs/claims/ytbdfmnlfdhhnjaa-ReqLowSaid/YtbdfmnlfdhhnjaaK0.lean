/-
  Texts joined, in build order: Math, SignM, QuillM, PairM, TupM, TupN, Two, Three, SignA, TupA, TupJ, GwA, ReqA, TupO, TupP, GwM.
-/
import Derived.Below
import Derived.Lib.Hide
import Derived.WalkKit
import Derived.Laws.BitsLemmas
import Derived.Laws.Bits64
import Derived.Laws.Bits64b
import Derived.Lib.Strings
import Derived.Lib.AppendStr
import Derived.Laws.Concat
import Derived.Laws.Shifts
import Derived.WalkSpells
import Derived.WalkLawsBesides
import Derived.RowKit3
import Derived.Test.YtbdfmnlfdhhnjaaRows
import Derived.WalkMore
import Derived.LoopTactic
import Derived.OwnWalk
import Derived.OneCell
import Derived.Outline
import Derived.Deep.Slices
import Derived.Deep.Fields
import Derived.SizedLaws
import Derived.Carry
import Derived.Laws.AppendOwnNone
import Derived.StillTailTactics
import Derived.Deep.QuietTactic
import Derived.BigQuiet
import Derived.Lib.AppendZerosOnto
import Derived.Laws.OwnMore
import Derived.Deep.AppendLies
import Derived.Deep.Onto
import Derived.Deep.RegionLaw
/-
  Plain mathematics of numbers of 64 and of 128 bits: no program in sight.
-/
namespace Go.Proofs.Ytbdfmnlfdhhnjaa
set_option linter.unusedVariables false

/-- A number that fits 64 bits without a sign. -/
def Word (x : Int) : Prop := 0 ≤ x ∧ x < 18446744073709551616
/-- The number that two words tell. -/
def wval (h l : Int) : Int := h * 18446744073709551616 + l
/-- The upper and the lower word of a number, modulo 2^128. -/
def hiW (n : Int) : Int := n / 18446744073709551616 % 18446744073709551616
def loW (n : Int) : Int := n % 18446744073709551616
/-- Whether a sum has no room in 128 bits; whether a difference is below 0. -/
def carryB (n : Int) : Bool := decide (340282366920938463463374607431768211456 ≤ n)
def belowB (n : Int) : Bool := decide (n < 0)

theorem word_hi (n : Int) : Word (hiW n) := by unfold Word hiW; omega
theorem word_lo (n : Int) : Word (loW n) := by unfold Word loW; omega
theorem wval_bd {h l : Int} (wh : Word h) (wl : Word l) : 0 ≤ wval h l ∧ wval h l < 340282366920938463463374607431768211456 := by
  unfold Word at *; unfold wval; omega
theorem hi_wval {h l : Int} (wh : Word h) (wl : Word l) : hiW (wval h l) = h := by
  unfold Word at *; unfold hiW wval; omega
theorem lo_wval {h l : Int} (wl : Word l) : loW (wval h l) = l := by
  unfold Word at *; unfold loW wval; omega
theorem wval_split {n : Int} (h0 : 0 ≤ n) (h1 : n < 340282366920938463463374607431768211456) : wval (hiW n) (loW n) = n := by
  unfold wval hiW loW; omega
theorem wval_mod (n : Int) : wval (hiW n) (loW n) = n % 340282366920938463463374607431768211456 := by
  unfold wval hiW loW; omega
theorem word_small {x : Int} (h0 : 0 ≤ x) (h1 : x ≤ 18446744073709551615) : Word x := ⟨h0, by omega⟩

/-- The borrow, under a name. -/
def bor (x y : Int) : Int := if x < y then 1 else 0
theorem bor_bd (x y : Int) : 0 ≤ bor x y ∧ bor x y ≤ 1 := by unfold bor; split <;> omega

/-- Add, word by word. -/
theorem add_lo (ah al bh bl : Int) : (al + bl) % 18446744073709551616 = loW (wval ah al + wval bh bl) := by
  unfold loW wval; omega
theorem add_hi (ah al bh bl : Int) : (ah + bh + (al + bl) / 18446744073709551616) % 18446744073709551616 = hiW (wval ah al + wval bh bl) := by
  unfold hiW wval; omega
theorem sub_lo (ah al bh bl : Int) : (al - bl) % 18446744073709551616 = loW (wval ah al - wval bh bl) := by
  unfold loW wval; omega
theorem sub_hi (ah al bh bl : Int) (wa : Word al) (wb : Word bl) : (ah - bh - bor al bl) % 18446744073709551616 = hiW (wval ah al - wval bh bl) := by
  unfold Word at *; unfold hiW wval bor; split <;> omega
theorem sub_below (ah al bh bl : Int) (wa : Word al) (wb : Word bl) : decide (ah < bh + bor al bl) = belowB (wval ah al - wval bh bl) := by
  unfold Word at *; unfold belowB wval bor; split <;> (apply decide_eq_decide.2; omega)

theorem less_lo (ah al bl : Int) : belowB (wval ah al - wval ah bl) = decide (al < bl) := by
  unfold belowB wval; apply decide_eq_decide.2; omega
theorem less_hi (ah al bh bl : Int) (wa : Word al) (wb : Word bl) (h : ¬ ah = bh) : belowB (wval ah al - wval bh bl) = decide (ah < bh) := by
  unfold Word at *; unfold belowB wval; apply decide_eq_decide.2; omega
theorem sub_bor (ah al bh bl : Int) (wa : Word al) (wb : Word bl) : (bor ah (bh + bor al bl) != 0) = belowB (wval ah al - wval bh bl) := by
  have h := sub_below ah al bh bl wa wb
  rw [← h]
  generalize bor al bl = k
  unfold bor
  split <;> simp_all

/-- Add by halves, as the reference does it: three ways. -/
theorem radd_lo (ah al bh bl : Int) : IntKind.u64.wrap (al + bl) = loW (wval ah al + wval bh bl) := by
  rw [IntKind.wrap_u64]; unfold loW wval; omega
theorem radd_hiA {ah al bh bl : Int} (wa : Word al) (wb : Word bl) (h : ¬ IntKind.u64.wrap (al + bl) < al) : IntKind.u64.wrap (ah + bh) = hiW (wval ah al + wval bh bl) := by
  rw [IntKind.wrap_u64] at *; unfold Word at *; unfold hiW wval; omega
theorem radd_cA {ah al bh bl : Int} (w1 : Word ah) (wa : Word al) (w3 : Word bh) (wb : Word bl) (h : ¬ IntKind.u64.wrap (al + bl) < al) : decide (IntKind.u64.wrap (ah + bh) < ah) = carryB (wval ah al + wval bh bl) := by
  rw [IntKind.wrap_u64] at *; unfold Word at *; unfold carryB wval; apply decide_eq_decide.2; omega
theorem radd_hiB {ah al bh bl : Int} (wa : Word al) (wb : Word bl) (h : IntKind.u64.wrap (al + bl) < al) : IntKind.u64.wrap (IntKind.u64.wrap (ah + bh) + 1) = hiW (wval ah al + wval bh bl) := by
  simp only [IntKind.wrap_u64] at *; unfold Word at *; unfold hiW wval; omega
theorem radd_cB1 {ah al bh bl : Int} (w1 : Word ah) (wa : Word al) (w3 : Word bh) (wb : Word bl) (h : IntKind.u64.wrap (al + bl) < al) (h2 : IntKind.u64.wrap (ah + bh) < ah) : true = carryB (wval ah al + wval bh bl) := by
  simp only [IntKind.wrap_u64] at *; unfold Word at *; unfold carryB wval; symm; apply decide_eq_true; omega
theorem radd_cB2 {ah al bh bl : Int} (w1 : Word ah) (wa : Word al) (w3 : Word bh) (wb : Word bl) (h : IntKind.u64.wrap (al + bl) < al) (h2 : ¬ IntKind.u64.wrap (ah + bh) < ah) : (IntKind.u64.wrap (IntKind.u64.wrap (ah + bh) + 1) == 0) = carryB (wval ah al + wval bh bl) := by
  simp only [IntKind.wrap_u64] at *; unfold Word at *; unfold carryB wval
  rw [Bool.eq_iff_iff]; simp only [beq_iff_eq, decide_eq_true_eq]; omega

/-- What is left, by the complement. -/
def compW (b : Int) : Int := 340282366920938463463374607431768211455 - b
theorem comp_wval (bh bl : Int) : wval (18446744073709551615 - bh) (18446744073709551615 - bl) = compW (wval bh bl) := by unfold wval compW; omega
theorem rsub_hi (a b : Int) : hiW (wval (hiW (a + compW b)) (loW (a + compW b)) + wval 0 1) = hiW (a - b) := by
  unfold hiW loW wval compW; omega
theorem rsub_lo (a b : Int) : loW (wval (hiW (a + compW b)) (loW (a + compW b)) + wval 0 1) = loW (a - b) := by
  unfold hiW loW wval compW; omega

/-- -1, 0 or 1. -/
def cmpW (a b : Int) : Int := if a < b then -1 else if a = b then 0 else 1
theorem cmp_eq (a : Int) : cmpW a a = 0 := by unfold cmpW; simp
theorem cmp_lt {ah al bh bl : Int} (h : wval ah al < wval bh bl) : cmpW (wval ah al) (wval bh bl) = -1 := by unfold cmpW; rw [if_pos h]
theorem cmp_gt {ah al bh bl : Int} (h : wval bh bl < wval ah al) : cmpW (wval ah al) (wval bh bl) = 1 := by
  unfold cmpW; rw [if_neg (by omega), if_neg (by omega)]
theorem wval_lt {ah al bh bl : Int} (wa : Word al) (wb : Word bl) : wval ah al < wval bh bl ↔ ah < bh ∨ ah = bh ∧ al < bl := by
  unfold Word at *; unfold wval; omega
theorem wval_inj {ah al bh bl : Int} (wa : Word al) (wb : Word bl) (h : wval ah al = wval bh bl) : ah = bh ∧ al = bl := by
  unfold Word at *; unfold wval at h; omega

open Go.RowKit in
/-- Behind a callee that makes memory: all old cells, and all old marks, read as before. -/
theorem bcell {W w1 : World} (hb : Below W.heap.size W w1) : (∀ b o, b < W.heap.size → w1.cell? ⟨b, o, none⟩ = W.cell? ⟨b, o, none⟩) ∧ (∀ b o, b < W.heap.size → w1.frozen? ⟨b, o, none⟩ = W.frozen? ⟨b, o, none⟩) :=
  ⟨fun b o h => hb.cell (p := ⟨b, o, none⟩) h, fun b o h => hb.frozen (p := ⟨b, o, none⟩) h⟩
theorem ret_int {k : IntKind} {a b : Int} (h : a = b) : Ending.returned (.int k a) = .returned (.int k b) := by rw [h]
theorem ret_bool {a b : Bool} (h : a = b) : Ending.returned (.bool a) = .returned (.bool b) := by rw [h]
theorem word_comp {b : Int} (h : Word b) : Word (18446744073709551615 - b) := by unfold Word at *; omega

/-- The sum of a row of numbers of two words. -/
def sumW : List (Int × Int) → Int
  | [] => 0
  | x :: r => wval x.1 x.2 + sumW r
theorem sumW_app (a b : List (Int × Int)) : sumW (a ++ b) = sumW a + sumW b := by
  induction a with
  | nil => simp [sumW]
  | cons x r ih => simp only [List.cons_append, sumW, ih]; omega
theorem sumW_take {xs : List (Int × Int)} {k : Nat} {x : Int × Int} (h : xs[k]? = some x) : sumW (xs.take (k + 1)) = sumW (xs.take k) + wval x.1 x.2 := by
  have hk : k < xs.length := by
    rcases Nat.lt_or_ge k xs.length with h' | h'
    · exact h'
    · rw [List.getElem?_eq_none h'] at h; cases h
  rw [List.take_succ_eq_append_getElem hk, sumW_app]
  have : xs[k] = x := by rw [List.getElem?_eq_getElem hk] at h; exact Option.some.inj h
  rw [this]; simp [sumW]
theorem sumW_nonneg {xs : List (Int × Int)} (h : ∀ x ∈ xs, Word x.1 ∧ Word x.2) : 0 ≤ sumW xs := by
  induction xs with
  | nil => simp [sumW]
  | cons x r ih =>
    have h1 := wval_bd (h x (by simp)).1 (h x (by simp)).2
    have h2 := ih (fun y hy => h y (by simp [hy]))
    simp only [sumW]; omega
/-- One step of a sum that goes round. -/
theorem sum_lo (S bh bl : Int) : (loW S + bl) % 18446744073709551616 = loW (S + wval bh bl) := by unfold loW wval; omega
theorem sum_hi (S bh bl : Int) : (hiW S + bh + (loW S + bl) / 18446744073709551616) % 18446744073709551616 = hiW (S + wval bh bl) := by
  unfold hiW loW wval; omega
theorem sum_carry {S bh bl : Int} (h0 : 0 ≤ S) (w1 : Word bh) (w2 : Word bl) : (carryB S || (hiW S + bh + (loW S + bl) / 18446744073709551616) / 18446744073709551616 != 0) = carryB (S + wval bh bl) := by
  unfold Word at *; unfold carryB hiW loW wval
  rw [Bool.eq_iff_iff]; simp only [Bool.or_eq_true, decide_eq_true_eq, bne_iff_ne]; omega

/-- Products of halves of 32 bits. -/
theorem half_mul {x y : Int} (hx : 0 ≤ x) (hx' : x < 4294967296) (hy : 0 ≤ y) (hy' : y < 4294967296) : 0 ≤ x * y ∧ x * y ≤ 18446744065119617025 := by
  refine ⟨Int.mul_nonneg hx hy, ?_⟩
  have h := Int.mul_le_mul (show x ≤ 4294967295 by omega) (show y ≤ 4294967295 by omega) hy (by omega)
  omega
theorem halves_mul (ah al bh bl : Int) : wval (ah * bh) (al * bl) + (ah * bl) * 4294967296 + (al * bh) * 4294967296 = (ah * 4294967296 + al) * (bh * 4294967296 + bl) := by
  unfold wval
  rw [Int.add_mul, Int.mul_add, Int.mul_add]
  have e1 : ah * 4294967296 * (bh * 4294967296) = ah * bh * 18446744073709551616 := by
    rw [Int.mul_assoc ah, ← Int.mul_assoc 4294967296 bh, Int.mul_comm 4294967296 bh, Int.mul_assoc bh, ← Int.mul_assoc]; rfl
  have e2 : ah * 4294967296 * bl = ah * bl * 4294967296 := by rw [Int.mul_assoc, Int.mul_comm 4294967296, ← Int.mul_assoc]
  have e3 : al * (bh * 4294967296) = al * bh * 4294967296 := by rw [Int.mul_assoc]
  rw [e1, e2, e3]; omega
theorem times_parts (a b : Int) : wval (a / 4294967296 * (b / 4294967296)) (a % 4294967296 * (b % 4294967296)) + (a / 4294967296 * (b % 4294967296)) * 4294967296 + (a % 4294967296 * (b / 4294967296)) * 4294967296 = a * b := by
  rw [halves_mul]
  congr 1 <;> omega
theorem shift_wval {m : Int} : wval (m / 4294967296) (m % 4294967296 * 4294967296) = m * 4294967296 := by unfold wval; omega
theorem hi_add (s v : Int) : hiW (wval (hiW s) (loW s) + v) = hiW (s + v) := by unfold hiW loW wval; omega
theorem lo_add (s v : Int) : loW (wval (hiW s) (loW s) + v) = loW (s + v) := by unfold hiW loW wval; omega

/-- The sum of a row of numbers. -/
def sumI : List Int → Int
  | [] => 0
  | x :: r => x + sumI r
theorem sumI_app (a b : List Int) : sumI (a ++ b) = sumI a + sumI b := by
  induction a with
  | nil => simp [sumI]
  | cons x r ih => simp only [List.cons_append, sumI, ih]; omega
theorem sumI_take {xs : List Int} {k : Nat} {x : Int} (h : xs[k]? = some x) : sumI (xs.take (k + 1)) = sumI (xs.take k) + x := by
  have hk : k < xs.length := by
    rcases Nat.lt_or_ge k xs.length with h' | h'
    · exact h'
    · rw [List.getElem?_eq_none h'] at h; cases h
  rw [List.take_succ_eq_append_getElem hk, sumI_app]
  have : xs[k] = x := by rw [List.getElem?_eq_getElem hk] at h; exact Option.some.inj h
  rw [this]; simp [sumI]
theorem sumI_nonneg {xs : List Int} (h : ∀ x ∈ xs, 0 ≤ x) : 0 ≤ sumI xs := by
  induction xs with
  | nil => simp [sumI]
  | cons x r ih =>
    have h1 := h x (by simp)
    have h2 := ih (fun y hy => h y (by simp [hy]))
    simp only [sumI]; omega
theorem sumI_mono {xs : List Int} (h : ∀ x ∈ xs, 0 ≤ x) (k : Nat) : sumI (xs.take k) ≤ sumI xs := by
  have e := sumI_app (xs.take k) (xs.drop k)
  rw [List.take_append_drop] at e
  have := sumI_nonneg (xs := xs.drop k) (fun x hx => h x (List.mem_of_mem_drop hx))
  omega
/-- A sum of counts. -/
def plB (xs : List Int) : Bool := decide (sumI xs ≤ 9223372036854775807)
def plQ (xs : List Int) : Int := if plB xs = true then sumI xs else 0

theorem mul_bd {a b : Int} (wa : Word a) (wb : Word b) : 0 ≤ a * b ∧ a * b < 340282366920938463463374607431768211456 := by
  obtain ⟨a0, a1⟩ := wa; obtain ⟨b0, b1⟩ := wb
  refine ⟨Int.mul_nonneg a0 b0, ?_⟩
  have := Int.mul_le_mul (show a ≤ 18446744073709551615 by omega) (show b ≤ 18446744073709551615 by omega) b0 (by omega)
  omega

end Go.Proofs.Ytbdfmnlfdhhnjaa

/-
  Plain mathematics of numbers of 64 bits with a sign: no program in sight.
-/
namespace Go.Proofs.Ytbdfmnlfdhhnjaa
set_option linter.unusedVariables false

/-- A number that fits 64 bits with a sign. -/
def I64 (x : Int) : Prop := -9223372036854775808 ≤ x ∧ x ≤ 9223372036854775807
theorem i64_of_wf {x : Int} (h : (Lit.int .i64 x).wf = true) : I64 x := by
  simp [Lit.wf, IntKind.min, IntKind.max, IntKind.signed, IntKind.bits] at h
  exact ⟨by omega, by omega⟩
/-- How far a number is from 0; how far two are from one another. -/
def mag (x : Int) : Int := if x < 0 then -x else x
def gap (a b : Int) : Int := if a < b then b - a else a - b
/-- Numbers with a sign as such without. -/
def zig (x : Int) : Int := if x < 0 then -2 * x - 1 else 2 * x
def zag (u : Int) : Int := if u % 2 = 1 then -(u / 2) - 1 else u / 2
def key (x : Int) : Int := x + 9223372036854775808
def back (u : Int) : Int := u - 9223372036854775808
/-- Whether there is a value of such a magnitude, and which one. -/
def canB (m : Int) (below : Bool) : Bool := decide (m < 9223372036854775808) || (below && decide (m = 9223372036854775808))
def valI (m : Int) (below : Bool) : Int := if canB m below = true then (if below = true then -m else m) else 0
/-- Whether one lies close to another one. -/
def nearB (r x n d : Int) : Bool := decide (gap r x * d ≤ n * mag x)

theorem mag_word {x : Int} (h : I64 x) : Word (mag x) := by unfold I64 at h; unfold Word mag; split <;> omega
theorem mag_bd {x : Int} (h : I64 x) : 0 ≤ mag x ∧ mag x ≤ 9223372036854775808 := by unfold I64 at h; unfold mag; split <;> omega
theorem gap_word {a b : Int} (ha : I64 a) (hb : I64 b) : Word (gap a b) := by unfold I64 at *; unfold Word gap; split <;> omega
theorem zig_word {x : Int} (h : I64 x) : Word (zig x) := by unfold I64 at h; unfold Word zig; split <;> omega
theorem zag_i64 {u : Int} (h : Word u) : I64 (zag u) := by unfold Word at h; unfold I64 zag; split <;> omega
theorem key_word {x : Int} (h : I64 x) : Word (key x) := by unfold I64 at h; unfold Word key; omega
theorem back_i64 {u : Int} (h : Word u) : I64 (back u) := by unfold Word at h; unfold I64 back; omega
theorem zag_zig {x : Int} : zag (zig x) = x := by unfold zag zig; split <;> split <;> omega
theorem zig_zag {u : Int} (h : Word u) : zig (zag u) = u := by unfold Word at h; unfold zag zig; split <;> split <;> omega
theorem back_key (x : Int) : back (key x) = x := by unfold back key; omega
theorem key_back (u : Int) : key (back u) = u := by unfold back key; omega
theorem valI_i64 {m : Int} {b : Bool} (h : Word m) : I64 (valI m b) := by
  unfold Word at h; unfold I64 valI canB
  cases b <;> simp <;> split <;> omega
theorem valI_mag {x : Int} (h : I64 x) : canB (mag x) (decide (x < 0)) = true ∧ valI (mag x) (decide (x < 0)) = x := by
  have e : canB (mag x) (decide (x < 0)) = true := by
    unfold I64 at h; unfold canB mag
    by_cases h0 : x < 0
    · simp [h0]; omega
    · simp [h0]; omega
  refine ⟨e, ?_⟩
  unfold valI; rw [if_pos e]
  unfold mag
  by_cases h0 : x < 0 <;> simp [h0]
theorem mag_valI {m : Int} {b : Bool} (h : Word m) (hc : canB m b = true) : mag (valI m b) = m := by
  unfold valI; rw [if_pos hc]; unfold Word at h; unfold mag
  cases b <;> simp <;> omega
theorem neg_valI {m : Int} {b : Bool} (h : Word m) (hc : canB m b = true) : decide (valI m b < 0) = (b && decide (0 < m)) := by
  unfold valI; rw [if_pos hc]; unfold Word at h
  cases b <;> simp <;> omega
theorem valI_no {m : Int} {b : Bool} (hc : canB m b = false) : valI m b = 0 := by unfold valI; rw [hc]; rfl
theorem gap_comm (a b : Int) : gap a b = gap b a := by unfold gap; split <;> split <;> omega
theorem gap_zero (a b : Int) : (gap a b == 0) = (a == b) := by
  rw [Bool.eq_iff_iff]; simp only [beq_iff_eq]; unfold gap; split <;> omega
theorem gap_tri (a b c : Int) : gap a b ≤ gap a c + gap c b := by unfold gap; split <;> split <;> split <;> omega
theorem gap_one {a b : Int} (h : decide (a < 0) = decide (b < 0)) : gap a b = max (mag a) (mag b) - min (mag a) (mag b) := by
  have : (a < 0 ↔ b < 0) := by simpa using h
  unfold gap mag; split <;> split <;> split <;> omega
theorem gap_two {a b : Int} (h : ¬ (a < 0 ↔ b < 0)) : gap a b = mag a + mag b := by
  unfold gap mag; split <;> split <;> split <;> omega
theorem zig_neg {x : Int} (h : x < 0) : zig x = 2 * (mag x - 1) + 1 := by unfold zig mag; rw [if_pos h, if_pos h]; omega
theorem zig_pos {x : Int} (h : ¬ x < 0) : zig x = 2 * mag x := by unfold zig mag; rw [if_neg h, if_neg h]
theorem not_i64 {x : Int} (h : I64 x) : bits .xor .i64 (-1) x = -x - 1 := by
  unfold I64 at h
  show IntKind.i64.wrap ((BitVec.ofInt 64 (-1) ^^^ BitVec.ofInt 64 x).toNat : Int) = _
  have e : BitVec.ofInt 64 (-1) = BitVec.allOnes 64 := by decide
  have e2 : (BitVec.ofInt 64 x).toNat = (x % 18446744073709551616).toNat := by rw [BitVec.toNat_ofInt]; rfl
  rw [e, BitVec.allOnes_xor, BitVec.toNat_not, e2, IntKind.wrap_i64]
  omega
theorem or_one {x : Int} (h0 : 0 ≤ x) (h1 : x < 18446744073709551616) (h2 : x % 2 = 0) : bits .or .u64 x 1 = x + 1 :=
  bits_join .u64 64 (by decide) (fun n a b => by rw [IntKind.wrap_u64]; omega) 1 x 1 h0 (by simpa using h2) (by omega) (by decide) (by decide) (by decide)
theorem and_one {x : Int} (h0 : 0 ≤ x) (h1 : x < 18446744073709551616) : bits .and .u64 x 1 = x % 2 := by
  have h := bits_mask .u64 64 (by decide) (fun n a b => by rw [IntKind.wrap_u64]; omega) 1 (by decide) x h0 (by omega)
  simpa using h
end Go.Proofs.Ytbdfmnlfdhhnjaa

/-
  Plain mathematics of numbers as bytes, seven bits in each: no program in sight.
-/
namespace Go.Proofs.Ytbdfmnlfdhhnjaa
set_option linter.unusedVariables false
set_option linter.unusedSimpArgs false

/-- A number's bytes, with fuel; a number's bytes. -/
def natF : Nat → Nat → List UInt8
  | 0, n => [UInt8.ofNat n]
  | k + 1, n => if n < 128 then [UInt8.ofNat n] else UInt8.ofNat (n % 128 + 128) :: natF k (n / 128)
def natB (n : Nat) : List UInt8 := natF n n
theorem natF_fuel : ∀ (k j n : Nat), n ≤ k → n ≤ j → natF k n = natF j n := by
  intro k
  induction k with
  | zero => intro j n h1 h2; obtain rfl : n = 0 := by omega
            cases j <;> simp [natF]
  | succ k ih =>
    intro j n h1 h2
    cases j with
    | zero => obtain rfl : n = 0 := by omega
              simp [natF]
    | succ j =>
      unfold natF
      split
      · rfl
      · rw [ih j (n / 128) (by omega) (by omega)]
theorem natB_lt {n : Nat} (h : n < 128) : natB n = [UInt8.ofNat n] := by
  unfold natB
  cases n with
  | zero => rfl
  | succ n => unfold natF; rw [if_pos h]
theorem natB_ge {n : Nat} (h : ¬ n < 128) : natB n = UInt8.ofNat (n % 128 + 128) :: natB (n / 128) := by
  unfold natB
  cases n with
  | zero => omega
  | succ n =>
    rw [show natF (n + 1) (n + 1) = UInt8.ofNat ((n + 1) % 128 + 128) :: natF n ((n + 1) / 128) from by rw [natF, if_neg h]]
    rw [natF_fuel n ((n + 1) / 128) _ (by omega) (Nat.le_refl _)]
theorem natB_300 : natB 300 = [172, 2] := by
  rw [natB_ge (by omega), natB_lt (by omega)]; rfl

/-- The number that bytes tell. -/
def valL : List UInt8 → Nat
  | [] => 0
  | b :: r => b.toNat % 128 + 128 * valL r
theorem toNat_low {n : Nat} (h : n < 256) : (UInt8.ofNat n).toNat = n := by
  rw [UInt8.toNat_ofNat']; omega
theorem valL_nat : ∀ (k n : Nat), n ≤ k → valL (natB n) = n := by
  intro k
  induction k with
  | zero => intro n h; obtain rfl : n = 0 := by omega
            rw [natB_lt (by omega)]; rfl
  | succ k ih =>
    intro n h
    by_cases hn : n < 128
    · rw [natB_lt hn]; unfold valL valL; rw [toNat_low (by omega)]; omega
    · rw [natB_ge hn]; unfold valL; rw [toNat_low (by omega), ih (n / 128) (by omega)]; omega
theorem valL_natB (n : Nat) : valL (natB n) = n := valL_nat n n (Nat.le_refl _)

/-- Whether a byte tells that others follow. -/
def hiB (b : UInt8) : Bool := decide (128 ≤ b.toNat)
/-- The place of the first byte that tells that none follows. -/
def stopAt : List UInt8 → Option Nat
  | [] => none
  | b :: r => if hiB b then (stopAt r).map (· + 1) else some 0
/-- The number at the beginning, and how many bytes it has; 0: there is none. -/
def firstS (l : List UInt8) : Nat × Nat :=
  match stopAt l with
  | none => (0, 0)
  | some j => if j < 10 ∧ valL (l.take (j + 1)) < 18446744073709551616 ∧ (j = 0 ∨ (l.getD j 0).toNat ≠ 0) then (valL (l.take (j + 1)), j + 1) else (0, 0)
/-- Likewise, of at most so much. -/
def takS (l : List UInt8) (most : Nat) : Nat × Nat := if (firstS l).2 = 0 ∨ most < (firstS l).1 then (0, 0) else firstS l

theorem stopAt_none : ∀ {l : List UInt8}, l.all hiB = true → stopAt l = none := by
  intro l
  induction l with
  | nil => intro _; rfl
  | cons b r ih =>
    intro h
    simp only [List.all_cons, Bool.and_eq_true] at h
    unfold stopAt; rw [if_pos h.1, ih h.2]; rfl
theorem stopAt_some : ∀ {l : List UInt8} {k : Nat} {b : UInt8}, (l.take k).all hiB = true → l[k]? = some b → hiB b = false → stopAt l = some k := by
  intro l
  induction l with
  | nil => intro k b _ h _; simp at h
  | cons c r ih =>
    intro k b h1 h2 h3
    cases k with
    | zero => simp at h2; subst h2; unfold stopAt; rw [h3]; rfl
    | succ k =>
      simp only [List.take_succ_cons, List.all_cons, Bool.and_eq_true] at h1
      unfold stopAt
      rw [if_pos h1.1, ih h1.2 (by simpa using h2) h3]; rfl
theorem stopAt_ge : ∀ {l : List UInt8} {k j : Nat}, (l.take k).all hiB = true → stopAt l = some j → k ≤ l.length → k ≤ j := by
  intro l
  induction l with
  | nil => intro k j _ h _; cases h
  | cons c r ih =>
    intro k j h1 h2 hk
    cases k with
    | zero => omega
    | succ k =>
      simp only [List.take_succ_cons, List.all_cons, Bool.and_eq_true] at h1
      unfold stopAt at h2
      rw [if_pos h1.1] at h2
      cases hs : stopAt r with
      | none => rw [hs] at h2; cases h2
      | some i =>
        rw [hs] at h2
        have := ih h1.2 hs (by simpa using hk)
        simp at h2
        omega
theorem firstS_end {l : List UInt8} (h : l.all hiB = true) : firstS l = (0, 0) := by unfold firstS; rw [stopAt_none h]
theorem firstS_far {l : List UInt8} (h : (l.take 10).all hiB = true) (hl : 10 ≤ l.length) : firstS l = (0, 0) := by
  unfold firstS
  cases hs : stopAt l with
  | none => rfl
  | some j =>
    have := stopAt_ge h hs hl
    show (if j < 10 ∧ valL (l.take (j + 1)) < 18446744073709551616 ∧ (j = 0 ∨ (l.getD j 0).toNat ≠ 0) then (valL (l.take (j + 1)), j + 1) else (0, 0)) = (0, 0)
    rw [if_neg (by omega)]
theorem firstS_at {l : List UInt8} {k : Nat} {b : UInt8} (h1 : (l.take k).all hiB = true) (h2 : l[k]? = some b) (h3 : hiB b = false) :
    firstS l = if k < 10 ∧ valL (l.take (k + 1)) < 18446744073709551616 ∧ (k = 0 ∨ b.toNat ≠ 0) then (valL (l.take (k + 1)), k + 1) else (0, 0) := by
  unfold firstS
  rw [stopAt_some h1 h2 h3]
  have : l.getD k 0 = b := by simp [List.getD, h2]
  show (if k < 10 ∧ valL (l.take (k + 1)) < 18446744073709551616 ∧ (k = 0 ∨ (l.getD k 0).toNat ≠ 0) then (valL (l.take (k + 1)), k + 1) else (0, 0)) = _
  rw [this]
theorem lt_of_some {l : List UInt8} {k : Nat} {b : UInt8} (h : l[k]? = some b) : k < l.length := by
  rcases Nat.lt_or_ge k l.length with h' | h'
  · exact h'
  · rw [List.getElem?_eq_none h'] at h; cases h
theorem take_some {l : List UInt8} {k : Nat} {b : UInt8} (h : l[k]? = some b) : l.take (k + 1) = l.take k ++ [b] := by
  have hk := lt_of_some h
  rw [List.take_succ_eq_append_getElem hk]
  rw [List.getElem?_eq_getElem hk] at h
  rw [Option.some.inj h]
theorem allH_take {l : List UInt8} {k : Nat} {b : UInt8} (h : l[k]? = some b) : (l.take (k + 1)).all hiB = ((l.take k).all hiB && hiB b) := by
  rw [take_some h]; simp
theorem valL_app : ∀ (l : List UInt8) (b : UInt8), valL (l ++ [b]) = valL l + b.toNat % 128 * 128 ^ l.length := by
  intro l b
  induction l with
  | nil => simp [valL]
  | cons c r ih =>
    rw [List.cons_append]; unfold valL; rw [ih, List.length_cons, Nat.pow_succ, Nat.mul_add]
    have : b.toNat % 128 * (128 ^ r.length * 128) = 128 * (b.toNat % 128 * 128 ^ r.length) := by
      rw [Nat.mul_comm 128 (b.toNat % 128 * 128 ^ r.length), Nat.mul_assoc]
    omega
theorem valL_lt : ∀ (l : List UInt8), valL l < 128 ^ l.length := by
  intro l
  induction l with
  | nil => simp [valL]
  | cons c r ih => unfold valL; rw [List.length_cons, Nat.pow_succ]; have := Nat.mod_lt c.toNat (show 0 < 128 by decide); omega
theorem valL_take {l : List UInt8} {k : Nat} {b : UInt8} (h : l[k]? = some b) : valL (l.take (k + 1)) = valL (l.take k) + b.toNat % 128 * 128 ^ k := by
  rw [take_some h, valL_app, List.length_take, Nat.min_eq_left (Nat.le_of_lt (lt_of_some h))]
theorem valL_take_lt (l : List UInt8) (k : Nat) : valL (l.take k) < 128 ^ k := by
  refine Nat.lt_of_lt_of_le (valL_lt _) (Nat.pow_le_pow_right (by decide) ?_)
  rw [List.length_take]; omega

/-- A number's bytes: all but the last one tell that others follow; none is over. -/
theorem natB_shape : ∀ (k n : Nat), n ≤ k → ∃ p b, natB n = p ++ [b] ∧ p.all hiB = true ∧ hiB b = false ∧ (p.length = 0 ∨ b.toNat ≠ 0) := by
  intro k
  induction k with
  | zero => intro n h; obtain rfl : n = 0 := by omega
            exact ⟨[], 0, by rw [natB_lt (by omega)]; rfl, rfl, rfl, Or.inl rfl⟩
  | succ k ih =>
    intro n h
    by_cases hn : n < 128
    · exact ⟨[], UInt8.ofNat n, by rw [natB_lt hn]; rfl, rfl, by unfold hiB; rw [toNat_low (by omega)]; simp; omega, Or.inl rfl⟩
    · obtain ⟨p, b, e, h1, h2, h3⟩ := ih (n / 128) (by omega)
      refine ⟨UInt8.ofNat (n % 128 + 128) :: p, b, by rw [natB_ge hn, e]; rfl, ?_, h2, Or.inr ?_⟩
      · rw [List.all_cons, h1]; unfold hiB; rw [toNat_low (by omega)]; simp
      · rcases h3 with h3 | h3
        · have hp : p = [] := List.eq_nil_of_length_eq_zero h3
          subst hp
          have hv := valL_natB (n / 128)
          rw [e] at hv
          simp only [List.nil_append, valL] at hv
          intro h0
          rw [h0] at hv; omega
        · exact h3
theorem natB_len : ∀ (k n : Nat), n < 128 ^ (k + 1) → (natB n).length ≤ k + 1 := by
  intro k
  induction k with
  | zero => intro n h; rw [natB_lt (by simpa using h)]; simp
  | succ k ih =>
    intro n h
    by_cases hn : n < 128
    · rw [natB_lt hn]; simp
    · rw [natB_ge hn, List.length_cons]
      have := ih (n / 128) (by rw [Nat.pow_succ] at h; omega)
      omega
theorem natB_len10 {n : Nat} (h : n < 18446744073709551616) : (natB n).length ≤ 10 := by
  by_cases h9 : n < 128 ^ 9
  · have := natB_len 8 n h9; omega
  · exact natB_len 9 n (Nat.lt_of_lt_of_le h (by decide))
theorem natB_pos (n : Nat) : 1 ≤ (natB n).length := by
  obtain ⟨p, b, e, _⟩ := natB_shape n n (Nat.le_refl _)
  rw [e, List.length_append]; simp

/-- A number's bytes, whatever stands behind, are read as the number. -/
theorem firstS_nat {n : Nat} (h : n < 18446744073709551616) (r : List UInt8) : firstS (natB n ++ r) = (n, (natB n).length) := by
  have hl := natB_len10 h
  have hv := valL_natB n
  obtain ⟨p, b, e, h1, h2, h3⟩ := natB_shape n n (Nat.le_refl _)
  rw [e] at hv hl ⊢
  have hk : (p ++ [b] ++ r)[p.length]? = some b := by
    rw [List.append_assoc, List.getElem?_append_right (Nat.le_refl _)]; simp
  have ht : (p ++ [b] ++ r).take p.length = p := by
    rw [List.append_assoc]; exact List.take_left
  have ht1 : (p ++ [b] ++ r).take (p.length + 1) = p ++ [b] := by
    rw [take_some hk, ht]
  rw [firstS_at (by rw [ht]; exact h1) hk h2, ht1, hv]
  rw [List.length_append] at hl
  simp only [List.length_singleton] at hl
  rw [if_pos ⟨by omega, h, h3⟩]
  simp
/-- The bytes of a number that is read are its own. -/
theorem natB_of {p : List UInt8} {b : UInt8} (h1 : p.all hiB = true) (h2 : hiB b = false) (h3 : p.length = 0 ∨ b.toNat ≠ 0) : natB (valL (p ++ [b])) = p ++ [b] := by
  induction p with
  | nil =>
    unfold hiB at h2
    simp only [decide_eq_false_iff_not] at h2
    simp only [List.nil_append, valL]
    rw [natB_lt (by omega)]
    have : b.toNat % 128 + 128 * 0 = b.toNat := by omega
    rw [this, UInt8.ofNat_toNat]
  | cons c r ih =>
    simp only [List.all_cons, Bool.and_eq_true] at h1
    obtain ⟨hc, hr⟩ := h1
    unfold hiB at hc
    simp only [decide_eq_true_eq] at hc
    have hb : b.toNat ≠ 0 := by
      rcases h3 with h3 | h3
      · simp at h3
      · exact h3
    have hlo : b.toNat < 128 := by
      unfold hiB at h2
      simp only [decide_eq_false_iff_not] at h2; omega
    have hpos : 1 ≤ valL (r ++ [b]) := by
      rw [valL_app]
      have := Nat.pow_pos (n := r.length) (show 0 < 128 by decide)
      have : 1 * 1 ≤ b.toNat % 128 * 128 ^ r.length := Nat.mul_le_mul (by omega) this
      omega
    have ih' := ih hr (Or.inr hb)
    rw [List.cons_append]
    have e : valL (c :: (r ++ [b])) = c.toNat % 128 + 128 * valL (r ++ [b]) := rfl
    rw [e, natB_ge (by omega)]
    have e1 : (c.toNat % 128 + 128 * valL (r ++ [b])) % 128 + 128 = c.toNat := by
      have := c.toNat_lt; omega
    have e2 : (c.toNat % 128 + 128 * valL (r ++ [b])) / 128 = valL (r ++ [b]) := by omega
    rw [e1, e2, ih', UInt8.ofNat_toNat]
/-- Whether the bytes up to the first one that ends are those of what they tell modulo 2^64. -/
theorem natB_iff {p : List UInt8} {b : UInt8} (h1 : p.all hiB = true) (h2 : hiB b = false) :
    natB (valL (p ++ [b]) % 18446744073709551616) = p ++ [b] ↔ (valL (p ++ [b]) < 18446744073709551616 ∧ (p.length = 0 ∨ b.toNat ≠ 0)) := by
  constructor
  · intro h
    have hv := valL_natB (valL (p ++ [b]) % 18446744073709551616)
    rw [h] at hv
    refine ⟨by omega, ?_⟩
    obtain ⟨p', b', e, _, _, h3⟩ := natB_shape _ (valL (p ++ [b]) % 18446744073709551616) (Nat.le_refl _)
    rw [e] at h
    obtain ⟨rfl, h⟩ := List.append_inj' h rfl
    simp at h
    subst h
    exact h3
  · rintro ⟨hv, h3⟩
    rw [Nat.mod_eq_of_lt hv]
    exact natB_of h1 h2 h3
theorem firstS_lt (l : List UInt8) : (firstS l).1 < 18446744073709551616 := by
  unfold firstS
  cases stopAt l with
  | none => simp
  | some j =>
    show (if j < 10 ∧ valL (l.take (j + 1)) < 18446744073709551616 ∧ (j = 0 ∨ (l.getD j 0).toNat ≠ 0) then (valL (l.take (j + 1)), j + 1) else (0, 0)).1 < 18446744073709551616
    split
    · exact (by assumption : _ ∧ _ ∧ _).2.1
    · simp
theorem stopAt_lt : ∀ {l : List UInt8} {j : Nat}, stopAt l = some j → j < l.length := by
  intro l
  induction l with
  | nil => intro j h; cases h
  | cons c r ih =>
    intro j h
    unfold stopAt at h
    split at h
    · cases hs : stopAt r with
      | none => rw [hs] at h; cases h
      | some i => rw [hs] at h; have := ih hs; simp at h; rw [List.length_cons]; omega
    · have h := Option.some.inj h; rw [List.length_cons]; omega
theorem firstS_le (l : List UInt8) : (firstS l).2 ≤ l.length := by
  unfold firstS
  cases hs : stopAt l with
  | none => simp
  | some j =>
    have := stopAt_lt hs
    show (if j < 10 ∧ valL (l.take (j + 1)) < 18446744073709551616 ∧ (j = 0 ∨ (l.getD j 0).toNat ≠ 0) then (valL (l.take (j + 1)), j + 1) else (0, 0)).2 ≤ l.length
    split
    · exact this
    · simp
theorem takS_lt (l : List UInt8) (m : Nat) : (takS l m).1 < 18446744073709551616 := by
  unfold takS; split
  · simp
  · exact firstS_lt l
theorem takS_le (l : List UInt8) (m : Nat) : (takS l m).2 ≤ l.length := by
  unfold takS; split
  · simp
  · exact firstS_le l
theorem takS_most (l : List UInt8) (m : Nat) : (takS l m).1 ≤ m := by
  unfold takS; split
  · simp
  · omega
theorem takS_zero {l : List UInt8} {m : Nat} (h : (takS l m).2 = 0) : (takS l m).1 = 0 := by
  unfold takS at h ⊢; split
  · rfl
  · rename_i h'; rw [if_neg h'] at h; omega
theorem takS_nat {n m : Nat} (h : n < 18446744073709551616) (hm : n ≤ m) (r : List UInt8) : takS (natB n ++ r) m = (n, (natB n).length) := by
  unfold takS
  rw [firstS_nat h r]
  have := natB_pos n
  rw [if_neg (by simp only []; omega)]
theorem takS_over {n m : Nat} (h : n < 18446744073709551616) (hm : m < n) (r : List UInt8) : takS (natB n ++ r) m = (0, 0) := by
  unfold takS
  rw [firstS_nat h r, if_pos (Or.inr hm)]

/-- Bytes as cells. -/
def bcs (l : List UInt8) : List Value := l.map fun b => Value.int .u8 (b.toNat : Int)
theorem bcs_str (s : ByteArray) : Lib.strCells s = bcs s.data.toList := rfl
theorem bcs_append (a b : List UInt8) : bcs (a ++ b) = bcs a ++ bcs b := List.map_append
theorem bcs_length (a : List UInt8) : (bcs a).length = a.length := List.length_map _
theorem or_more {x : Int} (h0 : 0 ≤ x) (h1 : x < 18446744073709551616) : bits .or .u8 (IntKind.u8.wrap x) 128 = x % 128 + 128 := by
  have e : IntKind.u8.wrap x = x % 256 := by simp [IntKind.wrap, IntKind.signed, IntKind.bits]
  have key : ∀ y : Fin 256, bits .or .u8 ((y.val : Nat) : Int) 128 = ((y.val % 128 + 128 : Nat) : Int) := by decide +kernel
  rw [e]
  have := key ⟨(x % 256).toNat, by omega⟩
  simp only at this
  rw [Int.toNat_of_nonneg (by omega)] at this
  rw [this]; omega
theorem wrap_u8 (x : Int) : IntKind.u8.wrap x = x % 256 := by simp [IntKind.wrap, IntKind.signed, IntKind.bits]
/-- The part of a number that a byte tells, at its place, modulo 2^64; back again. -/
def partI (k : Nat) (d : Int) : Int := IntKind.u64.wrap (d * 2 ^ min (7 * (k : Int)).toNat IntKind.u64.bits)
def backI (k : Nat) (x : Int) : Int := x / 2 ^ min (7 * (k : Int)).toNat IntKind.u64.bits
theorem shl_run (k : Nat) (d : Int) : Op.shift .shl .u64 d .i64 (7 * (k : Int)) = pure (.int .u64 (partI k d)) := shift_shl_any _ _ _ _ (by omega)
theorem shr_run (k : Nat) (d : Int) : Op.shift .shr .u64 d .i64 (7 * (k : Int)) = pure (.int .u64 (backI k d)) := shift_shr_any _ _ _ _ (by omega)
theorem pow_seven (k : Nat) : (2 : Int) ^ (7 * k) = ((128 ^ k : Nat) : Int) := by
  rw [Int.pow_mul, Int.natCast_pow]; rfl
theorem u64_bits : IntKind.u64.bits = 64 := rfl
theorem part_small {k d : Nat} (hk : k ≤ 8) (hd : d < 128) : partI k d = ((d * 128 ^ k : Nat) : Int) ∧ backI k ((d * 128 ^ k : Nat) : Int) = d := by
  have e : min (7 * (k : Int)).toNat IntKind.u64.bits = 7 * k := by rw [u64_bits]; omega
  have hp : 128 ^ k ≤ 128 ^ 8 := Nat.pow_le_pow_right (by decide) hk
  have hp0 : 0 < 128 ^ k := Nat.pow_pos (by decide)
  have hm : d * 128 ^ k ≤ 127 * 128 ^ 8 := Nat.mul_le_mul (by omega) hp
  unfold partI backI
  rw [e, pow_seven, IntKind.wrap_u64, ← Int.natCast_mul]
  refine ⟨?_, ?_⟩
  · generalize d * 128 ^ k = z at *
    omega
  · rw [← Int.natCast_ediv, Nat.mul_div_cancel _ hp0]
theorem part_nine {d : Nat} (hd : d < 128) : partI 9 d = ((d % 2 * 9223372036854775808 : Nat) : Int) ∧ backI 9 ((d % 2 * 9223372036854775808 : Nat) : Int) = ((d % 2 : Nat) : Int) := by
  have e : min (7 * ((9 : Nat) : Int)).toNat IntKind.u64.bits = 63 := by rw [u64_bits]; omega
  have e2 : (2 : Int) ^ 63 = 9223372036854775808 := by decide
  unfold partI backI
  rw [e, e2, IntKind.wrap_u64]
  omega
theorem part_far {k d : Nat} (hk : 10 ≤ k) : partI k d = 0 ∧ backI k 0 = 0 := by
  have e : min (7 * (k : Int)).toNat IntKind.u64.bits = 64 := by rw [u64_bits]; omega
  have e2 : (2 : Int) ^ 64 = 18446744073709551616 := by decide
  unfold partI backI
  rw [e, e2, IntKind.wrap_u64]
  omega
theorem or_word (x y : Int) : Word (bits .or .u64 x y) := by
  have h : ∃ n, bits .or .u64 x y = IntKind.u64.wrap n := ⟨_, rfl⟩
  obtain ⟨n, h⟩ := h
  rw [h, IntKind.wrap_u64]; unfold Word; omega
theorem or_comm_u64 (x y : Int) : bits .or .u64 x y = bits .or .u64 y x := by
  show IntKind.u64.wrap ((BitVec.ofInt 64 x ||| BitVec.ofInt 64 y).toNat : Int) = IntKind.u64.wrap ((BitVec.ofInt 64 y ||| BitVec.ofInt 64 x).toNat : Int)
  rw [BitVec.or_comm]
theorem or_sum {m d k : Nat} (hm : m < 128 ^ k) (hs : d * 128 ^ k < 18446744073709551616) (hm' : m < 18446744073709551616) :
    bits .or .u64 (m : Int) ((d * 128 ^ k : Nat) : Int) = ((m + d * 128 ^ k : Nat) : Int) := by
  rw [or_comm_u64]
  have h := bits_join .u64 64 (by decide) (fun n a b => by rw [IntKind.wrap_u64]; omega) (7 * k) ((d * 128 ^ k : Nat) : Int) (m : Int)
    (by omega) (by rw [pow_seven, ← Int.natCast_emod, Nat.mul_mod_left]; rfl) (by generalize d * 128 ^ k = z at *; omega) (by omega) (by rw [pow_seven]; exact Int.ofNat_lt.2 hm) (by omega)
  rw [h, ← Int.natCast_add, Nat.add_comm]

/-- One round: what a byte is good for. -/
theorem round_cases {l : List UInt8} {k : Nat} {b : UInt8} {m : Int} (hx : l[k]? = some b) (hA : (l.take k).all hiB = true) (hv : k ≤ 9 → m = ((valL (l.take k) : Nat) : Int)) :
    ∃ P Q R : Int, Word P ∧ Word R ∧ partI k ((b.toNat : Int) % 128) = P ∧ backI k P = Q ∧ bits .or .u64 m P = R ∧
      ((¬ Q = (b.toNat : Int) % 128 ∧ firstS l = (0, 0)) ∨
       (Q = (b.toNat : Int) % 128 ∧ 128 ≤ (b.toNat : Int) ∧ (k + 1 ≤ 9 → R = ((valL (l.take (k + 1)) : Nat) : Int)) ∧ (l.take (k + 1)).all hiB = true) ∨
       (Q = (b.toNat : Int) % 128 ∧ (b.toNat : Int) < 128 ∧ (b.toNat : Int) % 128 = 0 ∧ 0 < k ∧ firstS l = (0, 0)) ∨
       (Q = (b.toNat : Int) % 128 ∧ (b.toNat : Int) < 128 ∧ (¬ (b.toNat : Int) % 128 = 0 ∨ k = 0) ∧ ((firstS l).1 : Int) = R ∧ (firstS l).2 = k + 1)) := by
  have hb := b.toNat_lt
  have ec : (b.toNat : Int) % 128 = ((b.toNat % 128 : Nat) : Int) := by omega
  have hlow : b.toNat % 128 < 128 := Nat.mod_lt _ (by decide)
  have hvt := valL_take hx
  have hvl := valL_take_lt l k
  have hat := allH_take hx
  rw [hA, Bool.true_and] at hat
  have hhi : 128 ≤ b.toNat → hiB b = true := fun h => by unfold hiB; simpa using h
  have hlo : b.toNat < 128 → hiB b = false := fun h => by unfold hiB; simpa using h
  refine ⟨_, _, _, ?_, or_word _ _, rfl, rfl, rfl, ?_⟩
  · have h : ∃ n, partI k ((b.toNat : Int) % 128) = IntKind.u64.wrap n := ⟨_, rfl⟩
    obtain ⟨n, h⟩ := h
    rw [h, IntKind.wrap_u64]; unfold Word; omega
  · rw [ec]
    by_cases h8 : k ≤ 8
    · obtain ⟨p1, p2⟩ := part_small h8 hlow
      have hm := hv (by omega)
      have h9 : 128 ^ k ≤ 128 ^ 8 := Nat.pow_le_pow_right (by decide) h8
      have h10 : b.toNat % 128 * 128 ^ k ≤ 127 * 128 ^ 8 := Nat.mul_le_mul (by omega) h9
      have ho := or_sum (d := b.toNat % 128) hvl (by omega) (by omega)
      rw [p1, p2, hm, ho, ← hvt]
      by_cases hb8 : b.toNat < 128
      · have hf := firstS_at hA hx (hlo hb8)
        by_cases hz : b.toNat % 128 = 0 ∧ 0 < k
        · right; right; left
          refine ⟨rfl, by omega, by omega, hz.2, ?_⟩
          rw [hf, if_neg (by omega)]
        · right; right; right
          have hlt := valL_take_lt l (k + 1)
          have h11 : 128 ^ (k + 1) ≤ 128 ^ 9 := Nat.pow_le_pow_right (by decide) (by omega)
          rw [if_pos ⟨by omega, by omega, by omega⟩] at hf
          rw [hf]
          exact ⟨rfl, by omega, by omega, rfl, rfl⟩
      · right; left
        exact ⟨rfl, by omega, fun _ => rfl, by rw [hat]; exact hhi (by omega)⟩
    · by_cases h9 : k = 9
      · subst h9
        obtain ⟨p1, p2⟩ := part_nine hlow
        have hm := hv (by omega)
        have e9 : 128 ^ 9 = 9223372036854775808 := by decide
        rw [e9] at hvl hvt
        by_cases hs : b.toNat % 128 < 2
        · have e2 : b.toNat % 128 % 2 = b.toNat % 128 := by omega
          rw [e2] at p1 p2
          have ho := or_sum (m := valL (l.take 9)) (d := b.toNat % 128) (k := 9) (by rw [e9]; omega) (by rw [e9]; omega) (by omega)
          rw [e9] at ho
          rw [p1, p2, hm, ho, ← hvt]
          by_cases hb8 : b.toNat < 128
          · have hf := firstS_at hA hx (hlo hb8)
            by_cases hz : b.toNat % 128 = 0
            · right; right; left
              refine ⟨rfl, by omega, by omega, by omega, ?_⟩
              rw [hf, if_neg (by omega)]
            · right; right; right
              rw [if_pos ⟨by omega, by omega, by omega⟩] at hf
              rw [hf]
              exact ⟨rfl, by omega, by omega, rfl, rfl⟩
          · right; left
            exact ⟨rfl, by omega, fun _ => rfl, by rw [hat]; exact hhi (by omega)⟩
        · left
          rw [p1, p2]
          refine ⟨by omega, ?_⟩
          by_cases hb8 : b.toNat < 128
          · rw [firstS_at hA hx (hlo hb8), if_neg (by omega)]
          · exact firstS_far (by rw [hat]; exact hhi (by omega)) (lt_of_some hx)
      · obtain ⟨p1, p2⟩ := part_far (k := k) (d := b.toNat % 128) (by omega)
        have hfar : firstS l = (0, 0) := by
          refine firstS_far ?_ (by have := lt_of_some hx; omega)
          have : l.take 10 = (l.take k).take 10 := by rw [List.take_take, Nat.min_eq_left (by omega)]
          rw [this]
          exact List.all_eq_true.2 fun x hx' => List.all_eq_true.1 hA x (List.mem_of_mem_take hx')
        rw [p1, p2]
        by_cases hz : b.toNat % 128 = 0
        · by_cases hb8 : b.toNat < 128
          · right; right; left
            exact ⟨by omega, by omega, by omega, by omega, hfar⟩
          · right; left
            exact ⟨by omega, by omega, fun h => by omega, by rw [hat]; exact hhi (by omega)⟩
        · left
          exact ⟨by omega, hfar⟩
end Go.Proofs.Ytbdfmnlfdhhnjaa

/-
  Plain mathematics of rows of pairs (an index, a count): no program in sight.
-/
namespace Go.Proofs.Ytbdfmnlfdhhnjaa
set_option linter.unusedVariables false
set_option linter.unusedSimpArgs false

/-- An index, and how many. -/
abbrev PairV := Int × Int
def okP (p : PairV) : Prop := I64 p.1 ∧ Word p.2
def maxC : Int := 9223372036854775807
/-- A row that can be. -/
def GoodP (L : List PairV) : Prop := (∀ p, p ∈ L → 1 ≤ p.2 ∧ p.2 ≤ 9223372036854775807) ∧ L.Pairwise fun p q => p.1 < q.1
instance (L : List PairV) : Decidable (GoodP L) := by unfold GoodP; infer_instance
def goodB (L : List PairV) : Bool := decide (GoodP L)
theorem goodB_true {L : List PairV} : goodB L = true ↔ GoodP L := by unfold goodB; exact decide_eq_true_iff
theorem goodB_false {L : List PairV} : goodB L = false ↔ ¬ GoodP L := by unfold goodB; exact decide_eq_false_iff_not
theorem good_nil : GoodP [] := ⟨fun p h => (by cases h), List.Pairwise.nil⟩
theorem good_app {A B : List PairV} (h : GoodP (A ++ B)) : GoodP A ∧ GoodP B ∧ ∀ p, p ∈ A → ∀ q, q ∈ B → p.1 < q.1 := by
  obtain ⟨h1, h2⟩ := h
  obtain ⟨h3, h4, h5⟩ := List.pairwise_append.1 h2
  exact ⟨⟨fun p hp => h1 p (List.mem_append_left _ hp), h3⟩, ⟨fun p hp => h1 p (List.mem_append_right _ hp), h4⟩, h5⟩
theorem good_mk {A B : List PairV} (h1 : GoodP A) (h2 : GoodP B) (h3 : ∀ p, p ∈ A → ∀ q, q ∈ B → p.1 < q.1) : GoodP (A ++ B) :=
  ⟨fun p hp => (List.mem_append.1 hp).elim (h1.1 p) (h2.1 p), List.pairwise_append.2 ⟨h1.2, h2.2, h3⟩⟩
theorem good_one {p : PairV} (h : 1 ≤ p.2 ∧ p.2 ≤ 9223372036854775807) : GoodP [p] := ⟨fun q hq => (by simp at hq; subst hq; exact h), List.pairwise_singleton _ _⟩
/-- A row's beginning and one more: by the last one of the beginning. -/
theorem good_snoc {A : List PairV} {p : PairV} : GoodP (A ++ [p]) ↔ GoodP A ∧ (1 ≤ p.2 ∧ p.2 ≤ 9223372036854775807) ∧ ∀ q, A.getLast? = some q → q.1 < p.1 := by
  constructor
  · intro h
    obtain ⟨h1, h2, h3⟩ := good_app h
    exact ⟨h1, h2.1 p (by simp), fun q hq => h3 q (List.mem_of_getLast? hq) p (by simp)⟩
  · rintro ⟨h1, h2, h3⟩
    refine good_mk h1 (good_one h2) fun q hq r hr => ?_
    simp at hr; subst hr
    cases hl : A.getLast? with
    | none => rw [List.getLast?_eq_none_iff] at hl; subst hl; cases hq
    | some z =>
      have hz := h3 z hl
      obtain ⟨B, rfl⟩ := List.getLast?_eq_some_iff.1 hl
      rcases List.mem_append.1 hq with h | h
      · have := (List.pairwise_append.1 h1.2).2.2 q h z (by simp); omega
      · simp at h; subst h; exact hz
theorem take_snocP {α : Type} {L : List α} {k : Nat} {p : α} (h : L[k]? = some p) : L.take (k + 1) = L.take k ++ [p] := by
  have hk : k < L.length := by
    rcases Nat.lt_or_ge k L.length with h' | h'
    · exact h'
    · rw [List.getElem?_eq_none h'] at h; cases h
  rw [List.take_succ_eq_append_getElem hk]
  rw [List.getElem?_eq_getElem hk] at h
  rw [Option.some.inj h]
theorem last_take {α : Type} {L : List α} {k : Nat} (hk : k < L.length) : (L.take (k + 1)).getLast? = L[k]? := by
  rw [take_snocP (List.getElem?_eq_getElem hk), List.getLast?_concat, List.getElem?_eq_getElem hk]
theorem good_take {L : List PairV} (k : Nat) (h : GoodP L) : GoodP (L.take k) := (good_app (A := L.take k) (B := L.drop k) (by rw [List.take_append_drop]; exact h)).1
theorem good_drop {L : List PairV} (k : Nat) (h : GoodP L) : GoodP (L.drop k) := (good_app (A := L.take k) (B := L.drop k) (by rw [List.take_append_drop]; exact h)).2.1
/-- Whether the row up to one more is good: by that one and the one ahead. -/
theorem good_step {L : List PairV} {k : Nat} {p : PairV} (h : L[k]? = some p) (hg : GoodP (L.take k)) :
    GoodP (L.take (k + 1)) ↔ (1 ≤ p.2 ∧ p.2 ≤ 9223372036854775807) ∧ (0 < k → ∀ q, L[k - 1]? = some q → q.1 < p.1) := by
  rw [take_snocP h, good_snoc]
  have hk : k < L.length := by
    rcases Nat.lt_or_ge k L.length with h' | h'
    · exact h'
    · rw [List.getElem?_eq_none h'] at h; cases h
  cases k with
  | zero => simp [good_nil]
  | succ j =>
    rw [last_take (by omega)]
    simp [hg]

/-- All counts of a row. -/
def sumP (L : List PairV) : Int := (L.map fun p => p.2).sum
theorem sumP_app (A B : List PairV) : sumP (A ++ B) = sumP A + sumP B := by unfold sumP; rw [List.map_append, List.sum_append]
theorem sumP_one (p : PairV) : sumP [p] = p.2 := by unfold sumP; simp
theorem sumP_cons (p : PairV) (r : List PairV) : sumP (p :: r) = p.2 + sumP r := by unfold sumP; simp
theorem sumP_nil : sumP [] = 0 := rfl
theorem sumP_pos {L : List PairV} (h : ∀ p, p ∈ L → 0 ≤ p.2) : 0 ≤ sumP L := by
  induction L with
  | nil => exact Int.le_refl _
  | cons p r ih =>
    rw [sumP_cons]
    have := h p (by simp); have := ih fun q hq => h q (List.mem_cons_of_mem _ hq)
    omega
theorem sumP_take {L : List PairV} (k : Nat) (h : ∀ p, p ∈ L → 0 ≤ p.2) : 0 ≤ sumP (L.take k) ∧ sumP (L.take k) ≤ sumP L := by
  have e := sumP_app (L.take k) (L.drop k)
  rw [List.take_append_drop] at e
  have h1 := sumP_pos (L := L.take k) fun p hp => h p (List.mem_of_mem_take hp)
  have h2 := sumP_pos (L := L.drop k) fun p hp => h p (List.mem_of_mem_drop hp)
  omega
def fitsB (L : List PairV) : Bool := decide (sumP L ≤ 9223372036854775807)
def totalP (L : List PairV) : Int := if fitsB L then sumP L else 0

/-- How many of an index. -/
def countP (L : List PairV) (i : Int) : Int := sumP (L.filter fun p => p.1 == i)
theorem countP_app (A B : List PairV) (i : Int) : countP (A ++ B) i = countP A i + countP B i := by unfold countP; rw [List.filter_append, sumP_app]
theorem countP_one (p : PairV) (i : Int) : countP [p] i = if p.1 = i then p.2 else 0 := by
  unfold countP
  by_cases h : p.1 = i
  · rw [if_pos h, List.filter_cons_of_pos (by simpa using h)]; simp [sumP_one]
  · rw [if_neg h, List.filter_cons_of_neg (by simpa using h)]; rfl
theorem countP_take {L : List PairV} (k : Nat) (i : Int) (h : ∀ p, p ∈ L → 0 ≤ p.2) : 0 ≤ countP (L.take k) i ∧ countP (L.take k) i ≤ countP L i := by
  have e := countP_app (L.take k) (L.drop k) i
  rw [List.take_append_drop] at e
  have h1 : 0 ≤ countP (L.take k) i := sumP_pos fun p hp => h p (List.mem_of_mem_take (List.mem_filter.1 hp).1)
  have h2 : 0 ≤ countP (L.drop k) i := sumP_pos fun p hp => h p (List.mem_of_mem_drop (List.mem_filter.1 hp).1)
  omega
/-- A row with so many more of an index. -/
def lowP (L : List PairV) (i : Int) : List PairV := L.filter fun p => decide (p.1 < i)
def highP (L : List PairV) (i : Int) : List PairV := L.filter fun p => decide (i < p.1)
def midP (i n : Int) : List PairV := if 0 < n then [(i, n)] else []
def addP (L : List PairV) (i c : Int) : List PairV := lowP L i ++ (midP i (countP L i + c) ++ highP L i)
theorem lowP_mem {L : List PairV} {i : Int} {p : PairV} (h : p ∈ lowP L i) : p ∈ L ∧ p.1 < i := by
  have := List.mem_filter.1 h; exact ⟨this.1, by simpa using this.2⟩
theorem highP_mem {L : List PairV} {i : Int} {p : PairV} (h : p ∈ highP L i) : p ∈ L ∧ i < p.1 := by
  have := List.mem_filter.1 h; exact ⟨this.1, by simpa using this.2⟩
theorem good_filter {L : List PairV} (f : PairV → Bool) (h : GoodP L) : GoodP (L.filter f) :=
  ⟨fun p hp => h.1 p (List.mem_filter.1 hp).1, h.2.filter _⟩
/-- The row stays one that can be. -/
theorem add_good {L : List PairV} {i c : Int} (h : GoodP L) (hn : countP L i + c ≤ 9223372036854775807) : GoodP (addP L i c) := by
  unfold addP
  refine good_mk (good_filter _ h) (good_mk ?_ (good_filter _ h) ?_) ?_
  · unfold midP
    split
    · exact good_one ⟨by simp only; omega, hn⟩
    · exact good_nil
  · intro p hp q hq
    unfold midP at hp
    split at hp
    · simp at hp; subst hp; exact (highP_mem hq).2
    · cases hp
  · intro p hp q hq
    have h1 := (lowP_mem hp).2
    rcases List.mem_append.1 hq with h2 | h2
    · unfold midP at h2
      split at h2
      · simp at h2; subst h2; exact h1
      · cases h2
    · have := (highP_mem h2).2; omega
/-- A good row, parted at an index. -/
theorem good_part : ∀ {L : List PairV} (i : Int), GoodP L → (∃ n, lowP L i ++ ((i, n) :: highP L i) = L ∧ countP L i = n ∧ 1 ≤ n) ∨ (lowP L i ++ highP L i = L ∧ countP L i = 0) := by
  intro L
  induction L with
  | nil => intro i _; exact Or.inr ⟨rfl, rfl⟩
  | cons p r ih =>
    intro i h
    have hr : GoodP r := good_drop 1 h
    have hlt : ∀ q, q ∈ r → p.1 < q.1 := (List.pairwise_cons.1 h.2).1
    have hp := h.1 p (by simp)
    rcases Int.lt_trichotomy p.1 i with h1 | h1 | h1
    · have el : lowP (p :: r) i = p :: lowP r i := by unfold lowP; rw [List.filter_cons_of_pos (by simpa using h1)]
      have eh : highP (p :: r) i = highP r i := by unfold highP; rw [List.filter_cons_of_neg (by simp; omega)]
      have ec : countP (p :: r) i = countP r i := by unfold countP; rw [List.filter_cons_of_neg (by simp; omega)]
      rw [el, eh, ec]
      rcases ih i hr with ⟨n, e1, e2, e3⟩ | ⟨e1, e2⟩
      · exact Or.inl ⟨n, by rw [List.cons_append, e1], e2, e3⟩
      · exact Or.inr ⟨by rw [List.cons_append, e1], e2⟩
    · have hall : ∀ q, q ∈ r → i < q.1 := fun q hq => by have := hlt q hq; omega
      have el : lowP (p :: r) i = [] := by
        unfold lowP; rw [List.filter_eq_nil_iff]; intro q hq
        rcases List.mem_cons.1 hq with rfl | hq
        · simp; omega
        · have := hall q hq; simp; omega
      have eh : highP (p :: r) i = r := by
        unfold highP; rw [List.filter_cons_of_neg (by simp; omega), List.filter_eq_self]
        intro q hq; simpa using hall q hq
      have ec : countP (p :: r) i = p.2 := by
        unfold countP
        rw [List.filter_cons_of_pos (by simpa using h1), List.filter_eq_nil_iff.2 (fun q hq => by have := hall q hq; simp; omega), sumP_one]
      rw [el, eh, ec]
      exact Or.inl ⟨p.2, by rw [← h1]; rfl, rfl, hp.1⟩
    · have hall : ∀ q, q ∈ r → i < q.1 := fun q hq => by have := hlt q hq; omega
      have el : lowP (p :: r) i = [] := by
        unfold lowP; rw [List.filter_eq_nil_iff]; intro q hq
        rcases List.mem_cons.1 hq with rfl | hq
        · simp; omega
        · have := hall q hq; simp; omega
      have eh : highP (p :: r) i = p :: r := by
        unfold highP; rw [List.filter_eq_self]
        intro q hq
        rcases List.mem_cons.1 hq with rfl | hq
        · simpa using h1
        · simpa using hall q hq
      have ec : countP (p :: r) i = 0 := by
        unfold countP
        rw [List.filter_eq_nil_iff.2 (fun q hq => by
          rcases List.mem_cons.1 hq with rfl | hq
          · simp; omega
          · have := hall q hq; simp; omega)]; rfl
      rw [el, eh, ec]
      exact Or.inr ⟨rfl, rfl⟩
theorem add_none {L : List PairV} {i : Int} (h : GoodP L) : addP L i 0 = L := by
  unfold addP
  rcases good_part i h with ⟨n, e1, e2, e3⟩ | ⟨e1, e2⟩
  · rw [e2, Int.add_zero]; unfold midP; rw [if_pos (by omega)]; exact e1
  · rw [e2, Int.add_zero]; unfold midP; rw [if_neg (by omega)]; exact e1

/-- How far an index lies behind another one, less 1, as a number. -/
def farP (a b : Int) : Nat := ((b - a - 1) % 18446744073709551616).toNat
theorem farP_lt (a b : Int) : farP a b < 18446744073709551616 := by unfold farP; omega
theorem farP_of {a b : Int} (ha : I64 a) (hb : I64 b) (h : a < b) : (farP a b : Int) = b - a - 1 := by unfold I64 at ha hb; unfold farP; omega
theorem farP_inj {a b c : Int} (ha : I64 a) (hb : I64 b) (hc : I64 c) (h1 : a < b) (h2 : a < c) (h : farP a b = farP a c) : b = c := by
  have e1 := farP_of ha hb h1
  have e2 := farP_of ha hc h2
  omega
/-- The bytes of a row, behind an index; of a whole row. -/
def tailB : Int → List PairV → List UInt8
  | _, [] => []
  | a, p :: r => natB (farP a p.1) ++ (natB p.2.toNat ++ tailB p.1 r)
def bodyB : List PairV → List UInt8
  | [] => []
  | p :: r => natB (zig p.1).toNat ++ (natB p.2.toNat ++ tailB p.1 r)
def rowB (L : List PairV) : List UInt8 := natB L.length ++ bodyB L
theorem tail_snoc : ∀ (A : List PairV) (a : Int) (p : PairV), tailB a (A ++ [p]) = tailB a A ++ (natB (farP (match A.getLast? with | none => a | some q => q.1) p.1) ++ natB p.2.toNat) := by
  intro A
  induction A with
  | nil => intro a p; simp [tailB]
  | cons q r ih =>
    intro a p
    have e : (match (q :: r).getLast? with | none => a | some z => z.1) = (match r.getLast? with | none => q.1 | some z => z.1) := by
      cases r with
      | nil => rfl
      | cons z t => rw [List.getLast?_cons_cons]; cases h : (z :: t).getLast? with
        | none => simp at h
        | some y => rfl
    rw [e, List.cons_append]
    show natB (farP a q.1) ++ (natB q.2.toNat ++ tailB q.1 (r ++ [p])) = _
    rw [ih]
    show _ = natB (farP a q.1) ++ (natB q.2.toNat ++ tailB q.1 r) ++ _
    simp only [List.append_assoc]
theorem body_first (p : PairV) : bodyB ([] ++ [p]) = bodyB [] ++ (natB (zig p.1).toNat ++ natB p.2.toNat) := by simp [bodyB, tailB]
theorem body_snoc {A : List PairV} {q p : PairV} (h : A.getLast? = some q) : bodyB (A ++ [p]) = bodyB A ++ (natB (farP q.1 p.1) ++ natB p.2.toNat) := by
  cases A with
  | nil => cases h
  | cons z r =>
    rw [List.cons_append]
    show natB (zig z.1).toNat ++ (natB z.2.toNat ++ tailB z.1 (r ++ [p])) = natB (zig z.1).toNat ++ (natB z.2.toNat ++ tailB z.1 r) ++ _
    rw [tail_snoc]
    have e : (match r.getLast? with | none => z.1 | some y => y.1) = q.1 := by
      cases r with
      | nil => simp at h; subst h; rfl
      | cons y t => rw [List.getLast?_cons_cons] at h; rw [h]
    rw [e]
    simp only [List.append_assoc]
/-- The index of a pair that stands there. -/
def idxAt (L : List PairV) (j : Nat) : Int := ((L[j]?).map fun p => p.1).getD 0
/-- Step by step: the bytes of the first k pairs and of one more. -/
theorem body_step {L : List PairV} {k : Nat} {p : PairV} (h : L[k]? = some p) : bodyB (L.take (k + 1)) = bodyB (L.take k) ++ ((if k = 0 then natB (zig p.1).toNat else natB (farP (idxAt L (k - 1)) p.1)) ++ natB p.2.toNat) := by
  have hk : k < L.length := by
    rcases Nat.lt_or_ge k L.length with h' | h'
    · exact h'
    · rw [List.getElem?_eq_none h'] at h; cases h
  rw [take_snocP h]
  cases k with
  | zero => rw [if_pos rfl]; exact body_first p
  | succ j =>
    rw [if_neg (by omega)]
    have hl := last_take (L := L) (k := j) (by omega)
    have hj := List.getElem?_eq_getElem (l := L) (i := j) (by omega)
    rw [hj] at hl
    rw [body_snoc hl, Nat.add_sub_cancel]
    unfold idxAt
    rw [hj]; rfl
theorem tailB_len : ∀ (L : List PairV) (a : Int), (∀ p, p ∈ L → Word p.2) → (tailB a L).length ≤ 20 * L.length := by
  intro L
  induction L with
  | nil => intro a _; exact Nat.zero_le _
  | cons p r ih =>
    intro a h
    have h1 := natB_len10 (farP_lt a p.1)
    have h2 := natB_len10 (n := p.2.toNat) (by have := h p (by simp); unfold Word at this; omega)
    have h3 := ih p.1 fun q hq => h q (List.mem_cons_of_mem _ hq)
    simp only [tailB, List.length_append, List.length_cons]
    omega
theorem bodyB_len {L : List PairV} (h : ∀ p, p ∈ L → okP p) : (bodyB L).length ≤ 20 * L.length := by
  cases L with
  | nil => exact Nat.zero_le _
  | cons p r =>
    have hp := h p (by simp)
    have h1 := natB_len10 (n := (zig p.1).toNat) (by have := zig_word hp.1; unfold Word at this; omega)
    have h2 := natB_len10 (n := p.2.toNat) (by have := hp.2; unfold Word at this; omega)
    have h3 := tailB_len r p.1 fun q hq => (h q (List.mem_cons_of_mem _ hq)).2
    simp only [bodyB, List.length_append, List.length_cons]
    omega
/-- A number ahead of other bytes is read as what it is. -/
theorem nat_split {n m : Nat} {r r' : List UInt8} (hn : n < 18446744073709551616) (hm : m < 18446744073709551616) (h : natB n ++ r = natB m ++ r') : n = m ∧ r = r' := by
  have f := firstS_nat hn r
  rw [h, firstS_nat hm r'] at f
  have e : m = n := congrArg Prod.fst f
  subst e
  exact ⟨rfl, List.append_cancel_left h⟩
theorem tail_inj : ∀ (L L' : List PairV) (a : Int) (r r' : List UInt8), I64 a → (∀ p, p ∈ L → okP p ∧ a < p.1) → (∀ p, p ∈ L' → okP p ∧ a < p.1) → GoodP L → GoodP L' → L.length = L'.length → tailB a L ++ r = tailB a L' ++ r' → L = L' ∧ r = r' := by
  intro L
  induction L with
  | nil =>
    intro L' a r r' _ _ _ _ _ hl h
    cases L' with
    | nil => exact ⟨rfl, h⟩
    | cons _ _ => simp at hl
  | cons p t ih =>
    intro L' a r r' ha h1 h2 g1 g2 hl h
    cases L' with
    | nil => simp at hl
    | cons q u =>
      obtain ⟨⟨p1, p2⟩, p3⟩ := h1 p (by simp)
      obtain ⟨⟨q1, q2⟩, q3⟩ := h2 q (by simp)
      simp only [tailB, List.append_assoc] at h
      obtain ⟨e1, h'⟩ := nat_split (farP_lt _ _) (farP_lt _ _) h
      obtain ⟨e2, h''⟩ := nat_split (by unfold Word at p2; omega) (by unfold Word at q2; omega) h'
      have e3 : p.1 = q.1 := farP_inj ha p1 q1 p3 q3 e1
      have e4 : p.2 = q.2 := by unfold Word at p2 q2; omega
      have hp := (List.pairwise_cons.1 g1.2).1
      have hq := (List.pairwise_cons.1 g2.2).1
      rw [← e3] at h'' hq
      obtain ⟨e5, e6⟩ := ih u p.1 r r' p1 (fun z hz => ⟨(h1 z (List.mem_cons_of_mem _ hz)).1, hp z hz⟩) (fun z hz => ⟨(h2 z (List.mem_cons_of_mem _ hz)).1, hq z hz⟩) (good_drop 1 g1) (good_drop 1 g2) (by simpa using hl) h''
      exact ⟨by rw [e5, Prod.ext e3 e4], e6⟩
/-- Rows' bytes tell the rows. -/
theorem row_inj {L L' : List PairV} {r r' : List UInt8} (o : ∀ p, p ∈ L → okP p) (o' : ∀ p, p ∈ L' → okP p) (g : GoodP L) (g' : GoodP L') (hl : L.length < 18446744073709551616) (hl' : L'.length < 18446744073709551616)
    (h : rowB L ++ r = rowB L' ++ r') : L = L' ∧ r = r' := by
  unfold rowB at h
  simp only [List.append_assoc] at h
  obtain ⟨e1, h1⟩ := nat_split hl hl' h
  cases L with
  | nil => cases L' with
    | nil => exact ⟨rfl, h1⟩
    | cons _ _ => simp at e1
  | cons p t =>
    cases L' with
    | nil => simp at e1
    | cons q u =>
      obtain ⟨p1, p2⟩ := o p (by simp)
      obtain ⟨q1, q2⟩ := o' q (by simp)
      simp only [bodyB, List.append_assoc] at h1
      have w1 := zig_word p1
      have w2 := zig_word q1
      obtain ⟨e2, h2⟩ := nat_split (by unfold Word at w1; omega) (by unfold Word at w2; omega) h1
      obtain ⟨e3, h3⟩ := nat_split (by unfold Word at p2; omega) (by unfold Word at q2; omega) h2
      have e4 : zig p.1 = zig q.1 := by unfold Word at w1 w2; omega
      have e5 : p.1 = q.1 := by rw [← zag_zig (x := p.1), e4, zag_zig]
      have e6 : p.2 = q.2 := by unfold Word at p2 q2; omega
      have hp := (List.pairwise_cons.1 g.2).1
      have hq := (List.pairwise_cons.1 g'.2).1
      rw [← e5] at h3 hq
      obtain ⟨e7, e8⟩ := tail_inj t u p.1 r r' p1 (fun z hz => ⟨o z (List.mem_cons_of_mem _ hz), hp z hz⟩) (fun z hz => ⟨o' z (List.mem_cons_of_mem _ hz), hq z hz⟩) (good_drop 1 g) (good_drop 1 g') (by simpa using e1) h3
      exact ⟨by rw [e7, Prod.ext e5 e6], e8⟩

theorem low_high_len (L : List PairV) (i : Int) : (lowP L i).length + (highP L i).length ≤ L.length := by
  induction L with
  | nil => exact Nat.le_refl _
  | cons p r ih =>
    unfold lowP highP at *
    rw [List.filter_cons, List.filter_cons]
    by_cases h1 : p.1 < i
    · have h2 : ¬ i < p.1 := by omega
      simp only [h1, h2, decide_true, decide_false, if_true, Bool.false_eq_true, if_false, List.length_cons]; omega
    · by_cases h2 : i < p.1
      · simp only [h1, h2, decide_true, decide_false, if_true, Bool.false_eq_true, if_false, List.length_cons]; omega
      · simp only [h1, h2, decide_false, Bool.false_eq_true, if_false, List.length_cons]; omega
theorem add_len (L : List PairV) (i c : Int) : (addP L i c).length ≤ L.length + 1 := by
  unfold addP
  have h := low_high_len L i
  have h2 : (midP i (countP L i + c)).length ≤ 1 := by unfold midP; split <;> simp
  rw [List.length_append, List.length_append]; omega
theorem add_ok {L : List PairV} {i c : Int} (h : ∀ p, p ∈ L → okP p) (hi : I64 i) (hn : countP L i + c < 18446744073709551616) : ∀ p, p ∈ addP L i c → okP p := by
  intro p hp
  unfold addP at hp
  rcases List.mem_append.1 hp with hp | hp
  · exact h p (lowP_mem hp).1
  · rcases List.mem_append.1 hp with hp | hp
    · unfold midP at hp
      split at hp
      · simp at hp; subst hp; exact ⟨hi, by unfold Word; omega⟩
      · cases hp
    · exact h p (highP_mem hp).1
theorem count_low (L : List PairV) (i j : Int) : countP (lowP L i) j = if j < i then countP L j else 0 := by
  unfold countP lowP
  rw [List.filter_filter]
  by_cases h : j < i
  · rw [if_pos h]
    congr 1
    apply List.filter_congr
    intro p _
    by_cases e : p.1 = j
    · subst e; simp [h]
    · simp [e]
  · rw [if_neg h, List.filter_eq_nil_iff.2]; rfl
    intro p _
    simp only [Bool.and_eq_true, decide_eq_true_eq, beq_iff_eq, not_and]
    intro e; omega
theorem count_high (L : List PairV) (i j : Int) : countP (highP L i) j = if i < j then countP L j else 0 := by
  unfold countP highP
  rw [List.filter_filter]
  by_cases h : i < j
  · rw [if_pos h]
    congr 1
    apply List.filter_congr
    intro p _
    by_cases e : p.1 = j
    · subst e; simp [h]
    · simp [e]
  · rw [if_neg h, List.filter_eq_nil_iff.2]; rfl
    intro p _
    simp only [Bool.and_eq_true, decide_eq_true_eq, beq_iff_eq, not_and]
    intro e; omega
/-- How many of each index there are behind an addition. -/
theorem count_add {L : List PairV} {i c : Int} (h0 : 0 ≤ countP L i + c) (j : Int) : countP (addP L i c) j = countP L j + if j = i then c else 0 := by
  unfold addP
  rw [countP_app, countP_app, count_low, count_high]
  have hm : countP (midP i (countP L i + c)) j = if j = i then countP L i + c else 0 := by
    unfold midP
    by_cases hn : 0 < countP L i + c
    · rw [if_pos hn, countP_one]
      by_cases e : j = i
      · rw [if_pos e, if_pos e.symm]
      · rw [if_neg e, if_neg (fun h => e h.symm)]
    · rw [if_neg hn]
      by_cases e : j = i
      · rw [if_pos e, show countP [] j = 0 from rfl]; omega
      · rw [if_neg e]; rfl
  rw [hm]
  by_cases e : j = i
  · subst e
    simp only [Int.lt_irrefl, if_true, if_false]; omega
  · rw [if_neg e, if_neg e]
    by_cases h1 : j < i
    · rw [if_pos h1, if_neg (by omega)]; omega
    · rw [if_neg h1, if_pos (by omega)]; omega
/-- All pairs of a row, added one by one. -/
def foldP (L : List PairV) : List PairV := L.foldl (fun R p => addP R p.1 p.2) []
theorem fold_snoc (L : List PairV) (p : PairV) : foldP (L ++ [p]) = addP (foldP L) p.1 p.2 := by unfold foldP; rw [List.foldl_append]; rfl
/-- What is kept while small counts are added. -/
structure Sums (R : List PairV) (k : Nat) : Prop where
  good : GoodP R
  ok : ∀ p, p ∈ R → okP p
  len : R.length ≤ k
  cnt : ∀ j, 0 ≤ countP R j ∧ countP R j ≤ k * 1099511627776
theorem Sums.nil : Sums [] 0 := ⟨good_nil, fun p h => (by cases h), Nat.le_refl _, fun j => ⟨Int.le_refl _, Int.le_refl _⟩⟩
theorem Sums.add {R : List PairV} {k : Nat} (h : Sums R k) {p : PairV} (hp : okP p) (hc : p.2 ≤ 1099511627776) (hk : k ≤ 1000) : Sums (addP R p.1 p.2) (k + 1) := by
  have h0 := h.cnt p.1
  have hw := hp.2
  unfold Word at hw
  refine ⟨add_good h.good (by omega), add_ok h.ok hp.1 (by omega), Nat.le_trans (add_len _ _ _) (by have := h.len; omega), fun j => ?_⟩
  rw [count_add (by omega)]
  have := h.cnt j
  split <;> omega

/-- A good row hangs on its counts alone. -/
theorem count_cons (p : PairV) (r : List PairV) (j : Int) : countP (p :: r) j = (if p.1 = j then p.2 else 0) + countP r j := by
  have := countP_app [p] r j
  rw [countP_one] at this
  exact this
theorem count_above {L : List PairV} {j : Int} (h : ∀ q, q ∈ L → j < q.1) : countP L j = 0 := by
  unfold countP
  rw [List.filter_eq_nil_iff.2 (fun q hq => by have := h q hq; simp; omega)]; rfl
theorem good_ext : ∀ {L M : List PairV}, GoodP L → GoodP M → (∀ j, countP L j = countP M j) → L = M := by
  intro L
  induction L with
  | nil =>
    intro M _ hM h
    cases M with
    | nil => rfl
    | cons q s =>
      have h1 := h q.1
      rw [count_cons, if_pos rfl, count_above (L := s) (fun z hz => (List.pairwise_cons.1 hM.2).1 z hz)] at h1
      have h2 := hM.1 q (by simp)
      have h3 : countP [] q.1 = 0 := rfl
      omega
  | cons p r ih =>
    intro M hL hM h
    have hp := hL.1 p (by simp)
    have hr := (List.pairwise_cons.1 hL.2).1
    cases M with
    | nil =>
      have h1 := h p.1
      rw [count_cons, if_pos rfl, count_above (L := r) hr] at h1
      have h3 : countP [] p.1 = 0 := rfl
      omega
    | cons q s =>
      have hq := hM.1 q (by simp)
      have hs := (List.pairwise_cons.1 hM.2).1
      have e1 : p.1 = q.1 := by
        rcases Int.lt_trichotomy p.1 q.1 with hc | hc | hc
        · have h1 := h p.1
          rw [count_cons, if_pos rfl, count_above (L := r) hr, count_cons, if_neg (by omega), count_above (L := s) (fun z hz => by have := hs z hz; omega)] at h1
          omega
        · exact hc
        · have h1 := h q.1
          rw [count_cons, if_neg (by omega), count_above (L := r) (fun z hz => by have := hr z hz; omega), count_cons, if_pos rfl, count_above (L := s) hs] at h1
          omega
      have e2 : p.2 = q.2 := by
        have h1 := h p.1
        rw [count_cons, if_pos rfl, count_above (L := r) hr, count_cons, if_pos e1.symm, count_above (L := s) (fun z hz => by have := hs z hz; omega)] at h1
        omega
      have e3 : r = s := ih (good_drop 1 hL) (good_drop 1 hM) fun j => by
        have h1 := h j
        rw [count_cons, count_cons, e1, e2] at h1
        omega
      rw [e3, Prod.ext e1 e2]
theorem fold_app (A B : List PairV) : foldP (A ++ B) = B.foldl (fun R p => addP R p.1 p.2) (foldP A) := by unfold foldP; rw [List.foldl_append]
/-- What all pairs added one by one come to: good, and with all counts. -/
theorem fold_sums : ∀ (L : List PairV), (∀ p, p ∈ L → okP p ∧ p.2 ≤ 1099511627776) → L.length ≤ 1000 → Sums (foldP L) L.length ∧ ∀ j, countP (foldP L) j = countP L j := by
  have key : ∀ (n : Nat) (L : List PairV), L.length = n → (∀ p, p ∈ L → okP p ∧ p.2 ≤ 1099511627776) → L.length ≤ 1000 → Sums (foldP L) L.length ∧ ∀ j, countP (foldP L) j = countP L j := by
    intro n
    induction n with
    | zero =>
      intro L h0 _ _
      have : L = [] := List.eq_nil_of_length_eq_zero h0
      subst this
      exact ⟨Sums.nil, fun j => rfl⟩
    | succ n ih =>
      intro L h0 h hl
      rcases List.eq_nil_or_concat L with rfl | ⟨A, p, rfl⟩
      · cases h0
      rw [List.concat_eq_append] at *
      rw [List.length_append, List.length_singleton] at hl h0
      obtain ⟨h1, h2⟩ := ih A (by omega) (fun q hq => h q (List.mem_append_left _ hq)) (by omega)
      have hp := h p (by simp)
      rw [fold_snoc, List.length_append, List.length_singleton]
      refine ⟨h1.add hp.1 hp.2 (by omega), fun j => ?_⟩
      have h3 := h1.cnt p.1
      have hw := hp.1.2
      unfold Word at hw
      rw [count_add (by omega), h2, countP_app, countP_one]
      by_cases e : j = p.1
      · subst e; rw [if_pos rfl]
      · rw [if_neg e, if_neg (fun h => e h.symm)]
  exact fun L => key L.length L rfl
end Go.Proofs.Ytbdfmnlfdhhnjaa

/-
  Plain mathematics of rows of tuples, told as spots (a value, its least and its greatest place): no program in sight.
-/
namespace Go.Proofs.Ytbdfmnlfdhhnjaa
set_option linter.unusedVariables false
set_option linter.unusedSimpArgs false

/-- A value, its least, and its greatest place. -/
structure SpotV where
  x : Int
  lo : Int
  hi : Int
deriving DecidableEq, Inhabited
/-- How many values there are up to one; how many are less. -/
def upV (A : List Int) (x : Int) : Int := ((A.filter fun y => decide (y ≤ x)).length : Nat)
def unV (A : List Int) (x : Int) : Int := ((A.filter fun y => decide (y < x)).length : Nat)
theorem upV_nil (x : Int) : upV [] x = 0 := rfl
theorem unV_nil (x : Int) : unV [] x = 0 := rfl
theorem upV_cons (y : Int) (A : List Int) (x : Int) : upV (y :: A) x = (if y ≤ x then 1 else 0) + upV A x := by
  unfold upV
  by_cases h : y ≤ x
  · rw [List.filter_cons_of_pos (by simpa using h), if_pos h, List.length_cons]; omega
  · rw [List.filter_cons_of_neg (by simpa using h), if_neg h]; omega
theorem unV_cons (y : Int) (A : List Int) (x : Int) : unV (y :: A) x = (if y < x then 1 else 0) + unV A x := by
  unfold unV
  by_cases h : y < x
  · rw [List.filter_cons_of_pos (by simpa using h), if_pos h, List.length_cons]; omega
  · rw [List.filter_cons_of_neg (by simpa using h), if_neg h]; omega
theorem upV_app (A B : List Int) (x : Int) : upV (A ++ B) x = upV A x + upV B x := by
  unfold upV; rw [List.filter_append, List.length_append]; omega
theorem unV_app (A B : List Int) (x : Int) : unV (A ++ B) x = unV A x + unV B x := by
  unfold unV; rw [List.filter_append, List.length_append]; omega
theorem upV_one (y x : Int) : upV [y] x = if y ≤ x then 1 else 0 := by rw [upV_cons, upV_nil]; omega
theorem unV_one (y x : Int) : unV [y] x = if y < x then 1 else 0 := by rw [unV_cons, unV_nil]; omega
theorem upV_bd (A : List Int) (x : Int) : 0 ≤ upV A x ∧ upV A x ≤ A.length := by
  unfold upV; have := List.length_filter_le (fun y => decide (y ≤ x)) A; omega
theorem unV_bd (A : List Int) (x : Int) : 0 ≤ unV A x ∧ unV A x ≤ A.length := by
  unfold unV; have := List.length_filter_le (fun y => decide (y < x)) A; omega
theorem upV_mono (A : List Int) {x y : Int} (h : x ≤ y) : upV A x ≤ upV A y := by
  induction A with
  | nil => exact Int.le_refl _
  | cons z r ih => rw [upV_cons, upV_cons]; split <;> split <;> omega
theorem unV_mono (A : List Int) {x y : Int} (h : x ≤ y) : unV A x ≤ unV A y := by
  induction A with
  | nil => exact Int.le_refl _
  | cons z r ih => rw [unV_cons, unV_cons]; split <;> split <;> omega
theorem unV_up (A : List Int) (x : Int) : unV A x ≤ upV A x := by
  induction A with
  | nil => exact Int.le_refl _
  | cons z r ih => rw [unV_cons, upV_cons]; split <;> split <;> omega

/-- Of how many a list of spots tells. -/
def totS (S : List SpotV) : Int := match S.getLast? with | none => 0 | some s => s.lo
theorem totS_nil : totS [] = 0 := rfl
theorem totS_snoc (S : List SpotV) (s : SpotV) : totS (S ++ [s]) = s.lo := by unfold totS; rw [List.getLast?_concat]
/-- Spots that can be, told behind a place a, of n in all. -/
def SpotsP (a n : Int) : List SpotV → Prop
  | [] => a = n
  | s :: r => a < s.lo ∧ s.lo ≤ s.hi ∧ s.hi ≤ n ∧ (∀ t, r.head? = some t → s.x ≤ t.x) ∧ SpotsP s.lo n r
theorem SpotsP.le {n : Int} : ∀ {S : List SpotV} {a : Int}, SpotsP a n S → a ≤ n
  | [], a, h => by have h : a = n := h; omega
  | s :: r, a, h => by have := h.1; have := h.2.1; have := h.2.2.1; omega
theorem SpotsP.mem {n : Int} : ∀ {S : List SpotV} {a : Int}, SpotsP a n S → ∀ s, s ∈ S → a < s.lo ∧ s.lo ≤ s.hi ∧ s.hi ≤ n
  | [], a, h, s, hs => by cases hs
  | t :: r, a, h, s, hs => by
    rcases List.mem_cons.1 hs with e | e
    · subst e; exact ⟨h.1, h.2.1, h.2.2.1⟩
    · have := SpotsP.mem h.2.2.2.2 s e
      have := h.1
      exact ⟨by omega, by omega, by omega⟩
theorem SpotsP.x_le {n : Int} : ∀ {r : List SpotV} {s : SpotV} {a : Int}, SpotsP a n (s :: r) → ∀ t, t ∈ r → s.x ≤ t.x
  | [], s, a, h, t, ht => by cases ht
  | u :: r, s, a, h, t, ht => by
    have h1 := h.2.2.2.1 u rfl
    rcases List.mem_cons.1 ht with e | e
    · subst e; exact h1
    · have := SpotsP.x_le h.2.2.2.2 t e; omega
theorem SpotsP.tot {n : Int} : ∀ {S : List SpotV} {a : Int}, SpotsP a n S → S ≠ [] → totS S = n
  | [], a, h, hn => absurd rfl hn
  | [s], a, h, _ => h.2.2.2.2
  | s :: t :: r, a, h, _ => by
    have := SpotsP.tot h.2.2.2.2 (by simp)
    unfold totS at *
    rw [List.getLast?_cons_cons]; exact this
/-- Each spot's value stands between its least and its greatest place. -/
def PlacedS (A : List Int) (S : List SpotV) : Prop := ∀ s, s ∈ S → s.lo ≤ upV A s.x ∧ unV A s.x + 1 ≤ s.hi
theorem PlacedS.nil (A : List Int) : PlacedS A [] := fun s h => by cases h

/-! ### A value more -/
/-- The spots ahead, and those behind. -/
def ahS (S : List SpotV) (x : Int) : List SpotV := S.filter fun s => decide (s.x ≤ x)
def bhS (S : List SpotV) (x : Int) : List SpotV := S.filter fun s => decide (x < s.x)
theorem part_x {n : Int} (x : Int) : ∀ {S : List SpotV} {a : Int}, SpotsP a n S → S = ahS S x ++ bhS S x
  | [], a, h => rfl
  | s :: r, a, h => by
    have ih := part_x x h.2.2.2.2
    unfold ahS bhS at *
    by_cases c : s.x ≤ x
    · rw [List.filter_cons_of_pos (by simpa using c), List.filter_cons_of_neg (by simp; omega), List.cons_append, ← ih]
    · have hx := SpotsP.x_le h
      have e1 : (r.filter fun s => decide (s.x ≤ x)) = [] := List.filter_eq_nil_iff.2 fun t ht => by have := hx t ht; simp; omega
      have e2 : (r.filter fun s => decide (x < s.x)) = r := List.filter_eq_self.2 fun t ht => by have := hx t ht; simp; omega
      rw [List.filter_cons_of_neg (by simpa using c), List.filter_cons_of_pos (by simp; omega), e1, e2]; rfl
/-- All places one further. -/
def upS (S : List SpotV) : List SpotV := S.map fun s => ⟨s.x, s.lo + 1, s.hi + 1⟩
/-- The spot of a new value, behind P and ahead of Q. -/
def newS (P Q : List SpotV) (x : Int) : SpotV :=
  match P.getLast?, Q with
  | none, _ => ⟨x, 1, 1⟩
  | some p, [] => ⟨x, p.lo + 1, p.lo + 1⟩
  | some p, q :: _ => ⟨x, p.lo + 1, q.hi⟩
def insS (S : List SpotV) (x : Int) : List SpotV := ahS S x ++ newS (ahS S x) (bhS S x) x :: upS (bhS S x)
theorem SpotsP.shift {n : Int} : ∀ {S : List SpotV} {a : Int}, SpotsP a n S → SpotsP (a + 1) (n + 1) (upS S)
  | [], a, h => by show a + 1 = n + 1; have h : a = n := h; omega
  | s :: r, a, h => by
    refine ⟨?_, ?_, ?_, fun t ht => ?_, SpotsP.shift h.2.2.2.2⟩
    · show a + 1 < s.lo + 1; have := h.1; omega
    · show s.lo + 1 ≤ s.hi + 1; have := h.2.1; omega
    · show s.hi + 1 ≤ n + 1; have := h.2.2.1; omega
    · cases r with
      | nil => cases ht
      | cons u v =>
        have : t = ⟨u.x, u.lo + 1, u.hi + 1⟩ := (Option.some.inj ht).symm
        subst this
        exact h.2.2.2.1 u rfl
theorem SpotsP.more {n : Int} : ∀ {S : List SpotV} {a : Int}, SpotsP a n S → ∀ s, s ∈ S → s.hi ≤ n := fun h s hs => (h.mem s hs).2.2

/-- The least place of the last one; a, if there is none. -/
def lastLo (a : Int) (P : List SpotV) : Int := match P.getLast? with | none => a | some p => p.lo
theorem lastLo_nil (a : Int) : lastLo a [] = a := rfl
theorem lastLo_cons (a : Int) (s : SpotV) (r : List SpotV) : lastLo a (s :: r) = lastLo s.lo r := by
  unfold lastLo
  cases r with
  | nil => rfl
  | cons u v =>
    rw [List.getLast?_cons_cons]
    cases h : (u :: v).getLast? with
    | none => rw [List.getLast?_eq_none_iff] at h; cases h
    | some w => rfl
theorem SpotsP.right {n : Int} {Q : List SpotV} : ∀ {P : List SpotV} {a : Int}, SpotsP a n (P ++ Q) → SpotsP (lastLo a P) n Q
  | [], a, h => h
  | s :: r, a, h => by rw [lastLo_cons]; exact SpotsP.right h.2.2.2.2
theorem SpotsP.glue {n n' : Int} {Q R : List SpotV} (hn : n ≤ n') : ∀ {P : List SpotV} {a : Int}, SpotsP a n (P ++ Q) → SpotsP (lastLo a P) n' R → (∀ t, R.head? = some t → ∀ p, p ∈ P → p.x ≤ t.x) → SpotsP a n' (P ++ R)
  | [], a, h, k, _ => k
  | s :: r, a, h, k, hx => by
    rw [lastLo_cons] at k
    have ih := SpotsP.glue hn (P := r) h.2.2.2.2 k fun t ht p hp => hx t ht p (List.mem_cons_of_mem _ hp)
    have h3 : s.hi ≤ n := h.2.2.1
    refine ⟨h.1, h.2.1, by omega, fun t ht => ?_, ih⟩
    cases r with
    | nil => exact hx t ht s List.mem_cons_self
    | cons u v => exact h.2.2.2.1 t ht
theorem bh_mem {S : List SpotV} {x : Int} {s : SpotV} (h : s ∈ bhS S x) : s ∈ S ∧ x < s.x := by
  have := List.mem_filter.1 h; exact ⟨this.1, by simpa using this.2⟩
theorem ah_mem {S : List SpotV} {x : Int} {s : SpotV} (h : s ∈ ahS S x) : s ∈ S ∧ s.x ≤ x := by
  have := List.mem_filter.1 h; exact ⟨this.1, by simpa using this.2⟩
theorem SpotsP.ins {n : Int} {S : List SpotV} (h : SpotsP 0 n S) (x : Int) : SpotsP 0 (n + 1) (insS S x) := by
  have hp := part_x x h
  have h' := h
  rw [hp] at h'
  have hr := h'.right
  have hle := h.le
  refine SpotsP.glue (Q := bhS S x) (by omega) h' ?_ fun t ht p hpm => ?_
  · have hb : ∀ q, q ∈ bhS S x → x < q.x := fun q hq => (bh_mem hq).2
    generalize ahS S x = P at *
    generalize bhS S x = Q at *
    clear h hp h'
    unfold newS
    unfold lastLo at hr ⊢
    have hd : ∀ (Q : List SpotV), (∀ q, q ∈ Q → x < q.x) → ∀ t, (upS Q).head? = some t → x ≤ t.x := fun Q hQ t ht => by
      cases Q with
      | nil => cases ht
      | cons q r =>
        have : t = ⟨q.x, q.lo + 1, q.hi + 1⟩ := (Option.some.inj ht).symm
        have := hQ q List.mem_cons_self
        subst t; show x ≤ q.x; omega
    cases hP : P.getLast? with
    | none =>
      rw [hP] at hr
      simp only at hr ⊢
      refine ⟨by show (0 : Int) < 1; omega, Int.le_refl _, by show (1 : Int) ≤ n + 1; omega, hd Q hb, ?_⟩
      exact hr.shift
    | some p =>
      rw [hP] at hr
      simp only at hr ⊢
      cases Q with
      | nil =>
        have e : p.lo = n := hr
        refine ⟨by show p.lo < p.lo + 1; omega, Int.le_refl _, by show p.lo + 1 ≤ n + 1; omega, ?_, ?_⟩
        · intro t ht; cases ht
        · show p.lo + 1 = n + 1; omega
      | cons q r =>
        have q1 := hr.1
        have q2 := hr.2.1
        have q3 := hr.2.2.1
        refine ⟨by show p.lo < p.lo + 1; omega, by show p.lo + 1 ≤ q.hi; omega, by show q.hi ≤ n + 1; omega, hd _ hb, ?_⟩
        exact hr.shift
  · have : t.x = x := by
      have := Option.some.inj ht
      subst this
      unfold newS
      split <;> rfl
    rw [this]; exact (ah_mem hpm).2
/-- The first one's places are 1. -/
def FirstS (S : List SpotV) : Prop := ∀ s, S.head? = some s → s.lo = 1 ∧ s.hi = 1
theorem FirstS.nil : FirstS [] := fun s h => by cases h
theorem ah_head {n : Int} {S : List SpotV} {a x : Int} (h : SpotsP a n S) (hne : ahS S x ≠ []) : (ahS S x).head? = S.head? := by
  have hp := part_x x h
  cases hA : ahS S x with
  | nil => exact absurd hA hne
  | cons s r => rw [hA] at hp; rw [hp]; rfl
theorem FirstS.ins {n : Int} {S : List SpotV} (h : FirstS S) (hs : SpotsP 0 n S) (x : Int) : FirstS (insS S x) := by
  intro s hhd
  unfold insS at hhd
  cases hA : ahS S x with
  | nil =>
    rw [hA] at hhd
    have : s = ⟨x, 1, 1⟩ := (Option.some.inj hhd).symm
    subst this; exact ⟨rfl, rfl⟩
  | cons u v =>
    have e := ah_head hs (x := x) (by rw [hA]; simp)
    rw [hA] at hhd e
    exact h s (by rw [← e]; exact hhd)
theorem PlacedS.ins {A : List Int} {S : List SpotV} (h : PlacedS A S) (hs : SpotsP 0 A.length S) (hf : FirstS S) (x : Int) : PlacedS (A ++ [x]) (insS S x) := by
  intro s hm
  unfold insS at hm
  rw [upV_app, unV_app, upV_one, unV_one]
  rcases List.mem_append.1 hm with hm | hm
  · obtain ⟨m1, m2⟩ := ah_mem hm
    obtain ⟨p1, p2⟩ := h s m1
    rw [if_neg (show ¬ x < s.x by omega)]
    constructor
    · split <;> omega
    · omega
  · rcases List.mem_cons.1 hm with e | hm
    · subst e
      have hp := part_x x hs
      have hsr := hs
      rw [hp] at hsr
      have hr := hsr.right
      have hxx : (newS (ahS S x) (bhS S x) x).x = x := by unfold newS; split <;> rfl
      rw [hxx, if_pos (Int.le_refl x), if_neg (Int.lt_irrefl x), Int.add_zero]
      have b1 := upV_bd A x
      have b2 := unV_bd A x
      unfold newS
      unfold lastLo at hr
      cases hP : (ahS S x).getLast? with
      | none =>
        simp only
        rw [hP] at hr
        simp only at hr
        have hAn : ahS S x = [] := List.getLast?_eq_none_iff.1 hP
        rw [hAn, List.nil_append] at hp
        refine ⟨by omega, ?_⟩
        cases hQ : bhS S x with
        | nil =>
          rw [hQ] at hr
          have e : (0 : Int) = A.length := hr
          omega
        | cons q r =>
          have hq : q ∈ S := by rw [hp, hQ]; exact List.mem_cons_self
          have h1 := (h q hq).2
          have h2 := hf q (by rw [hp, hQ]; rfl)
          have h3 := (bh_mem (S := S) (x := x) (s := q) (by rw [hQ]; exact List.mem_cons_self)).2
          have h4 := unV_mono A (show x ≤ q.x by omega)
          omega
      | some p =>
        rw [hP] at hr
        simp only at hr
        have hpm := ah_mem (List.mem_of_getLast? hP)
        have g1 := (h p hpm.1).1
        have g2 := upV_mono A hpm.2
        cases hQ : bhS S x with
        | nil =>
          rw [hQ] at hr
          have e : p.lo = A.length := hr
          simp only
          omega
        | cons q r =>
          have hqm := bh_mem (S := S) (x := x) (s := q) (by rw [hQ]; exact List.mem_cons_self)
          have g3 := (h q hqm.1).2
          have g4 := unV_mono A (show x ≤ q.x by omega)
          simp only
          omega
    · unfold upS at hm
      obtain ⟨q, hq, rfl⟩ := List.mem_map.1 hm
      obtain ⟨m1, m2⟩ := bh_mem hq
      obtain ⟨p1, p2⟩ := h q m1
      simp only
      rw [if_pos (show x ≤ q.x by omega), if_pos m2]
      omega

/-! ### Squeezed -/
/-- The greatest place of the first one. -/
def hiS (S : List SpotV) : Int := match S.head? with | none => 0 | some q => q.hi
/-- What is left behind a spot. -/
def sqzR (lim : Int) : SpotV → List SpotV → List SpotV
  | _, [] => []
  | _, [s] => [s]
  | p, s :: t :: r => if hiS (sqzR lim s (t :: r)) - p.lo ≤ lim then sqzR lim s (t :: r) else s :: sqzR lim s (t :: r)
def sqzS (lim : Int) : List SpotV → List SpotV
  | [] => []
  | s :: r => s :: sqzR lim s r
theorem sqzR_sub (lim : Int) : ∀ (r : List SpotV) (p : SpotV), (sqzR lim p r).Sublist r
  | [], p => List.Sublist.refl _
  | [s], p => List.Sublist.refl _
  | s :: t :: r, p => by
    have ih := sqzR_sub lim (t :: r) s
    unfold sqzR
    split
    · exact ih.cons _
    · exact ih.cons_cons _
theorem sqzR_ne (lim : Int) : ∀ (r : List SpotV) (p : SpotV), r ≠ [] → sqzR lim p r ≠ []
  | [], p, h => absurd rfl h
  | [s], p, _ => by unfold sqzR; simp
  | s :: t :: r, p, _ => by
    have ih := sqzR_ne lim (t :: r) s (by simp)
    unfold sqzR
    split
    · exact ih
    · simp
theorem SpotsP.weak {n a b : Int} (hab : a ≤ b) {S : List SpotV} (hne : S ≠ []) (h : SpotsP b n S) : SpotsP a n S := by
  cases S with
  | nil => exact absurd rfl hne
  | cons s r => exact ⟨by have := h.1; omega, h.2.1, h.2.2.1, h.2.2.2.1, h.2.2.2.2⟩
theorem sqzR_spots (lim n : Int) : ∀ (r : List SpotV) (p : SpotV) (a : Int), SpotsP a n r → SpotsP a n (sqzR lim p r)
  | [], p, a, h => h
  | [s], p, a, h => h
  | s :: t :: r, p, a, h => by
    have ih := sqzR_spots lim n (t :: r) s s.lo h.2.2.2.2
    have hsub := sqzR_sub lim (t :: r) s
    have hne := sqzR_ne lim (t :: r) s (by simp)
    unfold sqzR
    split
    · exact SpotsP.weak (by have := h.1; omega) hne ih
    · refine ⟨h.1, h.2.1, h.2.2.1, fun u hu => ?_, ih⟩
      have hum : u ∈ sqzR lim s (t :: r) := List.mem_of_mem_head? hu
      exact SpotsP.x_le h u (hsub.subset hum)
theorem SpotsP.sqz {n lim : Int} {S : List SpotV} {a : Int} (h : SpotsP a n S) : SpotsP a n (sqzS lim S) := by
  cases S with
  | nil => exact h
  | cons s r =>
    refine ⟨h.1, h.2.1, h.2.2.1, fun u hu => ?_, sqzR_spots lim n r s s.lo h.2.2.2.2⟩
    exact SpotsP.x_le h u ((sqzR_sub lim r s).subset (List.mem_of_mem_head? hu))
theorem sqzS_sub (lim : Int) (S : List SpotV) : (sqzS lim S).Sublist S := by
  cases S with
  | nil => exact List.Sublist.refl _
  | cons s r => exact (sqzR_sub lim r s).cons_cons _
theorem PlacedS.sqz {A : List Int} {S : List SpotV} {lim : Int} (h : PlacedS A S) : PlacedS A (sqzS lim S) := fun s hs => h s ((sqzS_sub lim S).subset hs)
theorem FirstS.sqz {S : List SpotV} {lim : Int} (h : FirstS S) : FirstS (sqzS lim S) := by
  cases S with
  | nil => exact h
  | cons s r => exact fun t ht => h t ht

/-! ### Merged -/
/-- The rest of both lists, merged: behind spots whose last least places are la, lb; ta, tb: of how many each tells. -/
def mrgS (ta tb : Int) : Int → Int → List SpotV → List SpotV → List SpotV
  | la, lb, [], [] => []
  | la, lb, s :: r, [] => ⟨s.x, s.lo + lb, s.hi + tb⟩ :: mrgS ta tb s.lo lb r []
  | la, lb, [], t :: q => ⟨t.x, t.lo + la, t.hi + ta⟩ :: mrgS ta tb la t.lo [] q
  | la, lb, s :: r, t :: q =>
    if s.x ≤ t.x then ⟨s.x, s.lo + lb, s.hi + t.hi - 1⟩ :: mrgS ta tb s.lo lb r (t :: q)
    else ⟨t.x, t.lo + la, t.hi + s.hi - 1⟩ :: mrgS ta tb la t.lo (s :: r) q
  termination_by _ _ a b => a.length + b.length
def mergeS (a b : List SpotV) : List SpotV := mrgS (totS a) (totS b) 0 0 a b
/-- Where the heads come from. -/
theorem mrg_head {ta tb la lb : Int} {a b : List SpotV} {u : SpotV} (h : (mrgS ta tb la lb a b).head? = some u) : (∃ s, a.head? = some s ∧ u.x = s.x) ∨ ∃ t, b.head? = some t ∧ u.x = t.x := by
  cases a with
  | nil =>
    cases b with
    | nil => unfold mrgS at h; cases h
    | cons t q => unfold mrgS at h; exact Or.inr ⟨t, rfl, by rw [← Option.some.inj h]⟩
  | cons s r =>
    cases b with
    | nil => unfold mrgS at h; exact Or.inl ⟨s, rfl, by rw [← Option.some.inj h]⟩
    | cons t q =>
      unfold mrgS at h
      split at h
      · exact Or.inl ⟨s, rfl, by rw [← Option.some.inj h]⟩
      · exact Or.inr ⟨t, rfl, by rw [← Option.some.inj h]⟩
theorem mrg_spots {na nb : Int} : ∀ (n : Nat) (la lb : Int) (a b : List SpotV), a.length + b.length ≤ n → SpotsP la na a → SpotsP lb nb b → SpotsP (la + lb) (na + nb) (mrgS na nb la lb a b)
  | n, la, lb, [], [], _, ha, hb => by
    have e1 : la = na := ha
    have e2 : lb = nb := hb
    unfold mrgS
    show la + lb = na + nb; omega
  | 0, la, lb, s :: r, b, hn, ha, hb => by simp at hn
  | 0, la, lb, [], t :: q, hn, ha, hb => by simp at hn
  | n + 1, la, lb, s :: r, [], hn, ha, hb => by
    have ih := mrg_spots n s.lo lb r [] (by simp at hn ⊢; omega) ha.2.2.2.2 hb
    have e2 : lb = nb := hb
    have h1 := ha.1
    have h2 := ha.2.1
    have h3 := ha.2.2.1
    unfold mrgS
    refine ⟨by show la + lb < s.lo + lb; omega, by show s.lo + lb ≤ s.hi + nb; omega, by show s.hi + nb ≤ na + nb; omega, fun u hu => ?_, ih⟩
    rcases mrg_head hu with ⟨v, hv, e⟩ | ⟨v, hv, _⟩
    · show s.x ≤ u.x; rw [e]; exact ha.2.2.2.1 v hv
    · cases hv
  | n + 1, la, lb, [], t :: q, hn, ha, hb => by
    have ih := mrg_spots n la t.lo [] q (by simp at hn ⊢; omega) ha hb.2.2.2.2
    have e1 : la = na := ha
    have h1 := hb.1
    have h2 := hb.2.1
    have h3 := hb.2.2.1
    unfold mrgS
    have e : t.lo + la = la + t.lo := by omega
    refine ⟨by show la + lb < t.lo + la; omega, by show t.lo + la ≤ t.hi + na; omega, by show t.hi + na ≤ na + nb; omega, fun u hu => ?_, by show SpotsP (t.lo + la) _ _; rw [e]; exact ih⟩
    rcases mrg_head hu with ⟨v, hv, _⟩ | ⟨v, hv, e⟩
    · cases hv
    · show t.x ≤ u.x; rw [e]; exact hb.2.2.2.1 v hv
  | n + 1, la, lb, s :: r, t :: q, hn, ha, hb => by
    have h1 := ha.1
    have h2 := ha.2.1
    have h3 := ha.2.2.1
    have k1 := hb.1
    have k2 := hb.2.1
    have k3 := hb.2.2.1
    unfold mrgS
    split
    · rename_i hx
      have ih := mrg_spots n s.lo lb r (t :: q) (by simp at hn ⊢; omega) ha.2.2.2.2 hb
      refine ⟨by show la + lb < s.lo + lb; omega, by show s.lo + lb ≤ s.hi + t.hi - 1; omega, by show s.hi + t.hi - 1 ≤ na + nb; omega, fun u hu => ?_, ih⟩
      rcases mrg_head hu with ⟨v, hv, e⟩ | ⟨v, hv, e⟩
      · show s.x ≤ u.x; rw [e]; exact ha.2.2.2.1 v hv
      · show s.x ≤ u.x; rw [e, ← Option.some.inj hv]; exact hx
    · rename_i hx
      have ih := mrg_spots n la t.lo (s :: r) q (by simp at hn ⊢; omega) ha hb.2.2.2.2
      have e : t.lo + la = la + t.lo := by omega
      refine ⟨by show la + lb < t.lo + la; omega, by show t.lo + la ≤ t.hi + s.hi - 1; omega, by show t.hi + s.hi - 1 ≤ na + nb; omega, fun u hu => ?_, by show SpotsP (t.lo + la) _ _; rw [e]; exact ih⟩
      rcases mrg_head hu with ⟨v, hv, e⟩ | ⟨v, hv, e⟩
      · show t.x ≤ u.x; rw [e, ← Option.some.inj hv]; omega
      · show t.x ≤ u.x; rw [e]; exact hb.2.2.2.1 v hv
theorem SpotsP.merge {na nb : Int} {a b : List SpotV} (ha : SpotsP 0 na a) (hb : SpotsP 0 nb b) : SpotsP 0 (na + nb) (mergeS a b) := by
  have e1 : totS a = na := by
    cases a with
    | nil => have : (0 : Int) = na := ha; rw [totS_nil]; exact this
    | cons s r => exact ha.tot (by simp)
  have e2 : totS b = nb := by
    cases b with
    | nil => have : (0 : Int) = nb := hb; rw [totS_nil]; exact this
    | cons s r => exact hb.tot (by simp)
  unfold mergeS
  rw [e1, e2]
  exact mrg_spots _ 0 0 a b (Nat.le_refl _) ha hb
/-- Merged spots are placed: the ones ahead aren't greater, and the ones behind aren't less. -/
theorem mrg_placed {A B : List Int} : ∀ (n : Nat) (la lb : Int) (a b : List SpotV), a.length + b.length ≤ n → SpotsP la A.length a → SpotsP lb B.length b → PlacedS A a → PlacedS B b →
    (∀ t, t ∈ b → la ≤ upV A t.x) → (∀ s, s ∈ a → lb ≤ upV B s.x) → PlacedS (A ++ B) (mrgS A.length B.length la lb a b)
  | n, la, lb, [], [], _, _, _, _, _, _, _ => by unfold mrgS; exact PlacedS.nil _
  | 0, la, lb, s :: r, b, hn, _, _, _, _, _, _ => by simp at hn
  | 0, la, lb, [], t :: q, hn, _, _, _, _, _, _ => by simp at hn
  | n + 1, la, lb, s :: r, [], hn, ha, hb, pa, pb, fa, fb => by
    have ih := mrg_placed n s.lo lb r [] (by simp at hn ⊢; omega) ha.2.2.2.2 hb (fun u hu => pa u (List.mem_cons_of_mem _ hu)) pb (fun t ht => by cases ht) (fun u hu => fb u (List.mem_cons_of_mem _ hu))
    unfold mrgS
    intro u hu
    rcases List.mem_cons.1 hu with e | e
    · subst e
      obtain ⟨p1, p2⟩ := pa s List.mem_cons_self
      have f := fb s List.mem_cons_self
      have b2 := unV_bd B s.x
      rw [upV_app, unV_app]
      simp only
      omega
    · exact ih u e
  | n + 1, la, lb, [], t :: q, hn, ha, hb, pa, pb, fa, fb => by
    have ih := mrg_placed n la t.lo [] q (by simp at hn ⊢; omega) ha hb.2.2.2.2 pa (fun u hu => pb u (List.mem_cons_of_mem _ hu)) (fun u hu => fa u (List.mem_cons_of_mem _ hu)) (fun t ht => by cases ht)
    unfold mrgS
    intro u hu
    rcases List.mem_cons.1 hu with e | e
    · subst e
      obtain ⟨p1, p2⟩ := pb t List.mem_cons_self
      have f := fa t List.mem_cons_self
      have b2 := unV_bd A t.x
      rw [upV_app, unV_app]
      simp only
      omega
    · exact ih u e
  | n + 1, la, lb, s :: r, t :: q, hn, ha, hb, pa, pb, fa, fb => by
    obtain ⟨p1, p2⟩ := pa s List.mem_cons_self
    obtain ⟨q1, q2⟩ := pb t List.mem_cons_self
    have f1 := fa t List.mem_cons_self
    have f2 := fb s List.mem_cons_self
    unfold mrgS
    split
    · rename_i hx
      have ih := mrg_placed n s.lo lb r (t :: q) (by simp at hn ⊢; omega) ha.2.2.2.2 hb (fun u hu => pa u (List.mem_cons_of_mem _ hu)) pb
        (fun u hu => by
          have h1 : t.x ≤ u.x := by
            rcases List.mem_cons.1 hu with e | e
            · rw [e]; exact Int.le_refl _
            · exact hb.x_le u e
          have := upV_mono A (show s.x ≤ u.x by omega)
          omega)
        (fun u hu => fb u (List.mem_cons_of_mem _ hu))
      intro u hu
      rcases List.mem_cons.1 hu with e | e
      · subst e
        have m := unV_mono B hx
        rw [upV_app, unV_app]
        simp only
        omega
      · exact ih u e
    · rename_i hx
      have ih := mrg_placed n la t.lo (s :: r) q (by simp at hn ⊢; omega) ha hb.2.2.2.2 pa (fun u hu => pb u (List.mem_cons_of_mem _ hu)) (fun u hu => fa u (List.mem_cons_of_mem _ hu))
        (fun u hu => by
          have h1 : s.x ≤ u.x := by
            rcases List.mem_cons.1 hu with e | e
            · rw [e]; exact Int.le_refl _
            · exact ha.x_le u e
          have := upV_mono B (show t.x ≤ u.x by omega)
          omega)
      intro u hu
      rcases List.mem_cons.1 hu with e | e
      · subst e
        have m := unV_mono A (show t.x ≤ s.x by omega)
        rw [upV_app, unV_app]
        simp only
        omega
      · exact ih u e
theorem PlacedS.merge {A B : List Int} {a b : List SpotV} (ha : SpotsP 0 A.length a) (hb : SpotsP 0 B.length b) (pa : PlacedS A a) (pb : PlacedS B b) : PlacedS (A ++ B) (mergeS a b) := by
  have e1 : totS a = A.length := by
    cases a with
    | nil => have : (0 : Int) = A.length := ha; rw [totS_nil]; exact this
    | cons s r => exact ha.tot (by simp)
  have e2 : totS b = B.length := by
    cases b with
    | nil => have : (0 : Int) = B.length := hb; rw [totS_nil]; exact this
    | cons s r => exact hb.tot (by simp)
  unfold mergeS
  rw [e1, e2]
  exact mrg_placed _ 0 0 a b (Nat.le_refl _) ha hb pa pb (fun t _ => (upV_bd A t.x).1) (fun s _ => (upV_bd B s.x).1)
theorem FirstS.merge {a b : List SpotV} (ha : FirstS a) (hb : FirstS b) : FirstS (mergeS a b) := by
  intro u hu
  unfold mergeS at hu
  cases a with
  | nil =>
    cases b with
    | nil => unfold mrgS at hu; cases hu
    | cons t q =>
      unfold mrgS at hu
      obtain ⟨h1, h2⟩ := hb t rfl
      rw [← Option.some.inj hu]
      simp only [totS_nil]
      omega
  | cons s r =>
    obtain ⟨h1, h2⟩ := ha s rfl
    cases b with
    | nil =>
      unfold mrgS at hu
      rw [← Option.some.inj hu]
      simp only [totS_nil]
      omega
    | cons t q =>
      obtain ⟨k1, k2⟩ := hb t rfl
      unfold mrgS at hu
      split at hu
      · rw [← Option.some.inj hu]; simp only; omega
      · rw [← Option.some.inj hu]; simp only; omega
end Go.Proofs.Ytbdfmnlfdhhnjaa

/-
  Plain mathematics of rows of tuples: tuples and spots; the closest one; ranks: no program in sight.
-/
namespace Go.Proofs.Ytbdfmnlfdhhnjaa
set_option linter.unusedVariables false
set_option linter.unusedSimpArgs false

/-- A value, its step, its slack. -/
structure TupV where
  x : Int
  st : Int
  sl : Int
deriving DecidableEq, Inhabited
def spotsT : Int → List TupV → List SpotV
  | _, [] => []
  | a, p :: r => ⟨p.x, a + p.st, a + p.st + p.sl⟩ :: spotsT (a + p.st) r
def rowT : Int → List SpotV → List TupV
  | _, [] => []
  | a, s :: r => ⟨s.x, s.lo - a, s.hi - s.lo⟩ :: rowT s.lo r
theorem spots_row : ∀ (S : List SpotV) (a : Int), spotsT a (rowT a S) = S
  | [], a => rfl
  | s :: r, a => by
    unfold rowT spotsT
    have e : a + (s.lo - a) = s.lo := by omega
    simp only [e]
    rw [spots_row r s.lo]
    congr 1
    cases s
    simp only [SpotV.mk.injEq, true_and]
    omega
theorem row_spots : ∀ (L : List TupV) (a : Int), rowT a (spotsT a L) = L
  | [], a => rfl
  | p :: r, a => by
    unfold spotsT rowT
    simp only
    rw [row_spots r (a + p.st)]
    congr 1
    cases p
    simp only [TupV.mk.injEq, true_and]
    omega
theorem spots_len : ∀ (L : List TupV) (a : Int), (spotsT a L).length = L.length
  | [], a => rfl
  | p :: r, a => by unfold spotsT; rw [List.length_cons, List.length_cons, spots_len r]
theorem row_len : ∀ (S : List SpotV) (a : Int), (rowT a S).length = S.length
  | [], a => rfl
  | s :: r, a => by unfold rowT; rw [List.length_cons, List.length_cons, row_len r]
theorem spots_app : ∀ (L M : List TupV) (a : Int), spotsT a (L ++ M) = spotsT a L ++ spotsT (lastLo a (spotsT a L)) M
  | [], M, a => rfl
  | p :: r, M, a => by
    rw [List.cons_append]
    show _ :: spotsT (a + p.st) (r ++ M) = _
    rw [spots_app r M (a + p.st)]
    show _ = (_ :: spotsT (a + p.st) r) ++ spotsT (lastLo a (_ :: spotsT (a + p.st) r)) M
    rw [lastLo_cons]; rfl
theorem row_app : ∀ (S T : List SpotV) (a : Int), rowT a (S ++ T) = rowT a S ++ rowT (lastLo a S) T
  | [], T, a => rfl
  | s :: r, T, a => by
    rw [List.cons_append]
    show _ :: rowT s.lo (r ++ T) = _
    rw [row_app r T s.lo]
    show _ = (_ :: rowT s.lo r) ++ rowT (lastLo a (s :: r)) T
    rw [lastLo_cons]; rfl
/-- Places one further: the same tuples. -/
theorem row_up : ∀ (S : List SpotV) (a : Int), rowT (a + 1) (upS S) = rowT a S
  | [], a => rfl
  | s :: r, a => by
    show (⟨s.x, s.lo + 1 - (a + 1), s.hi + 1 - (s.lo + 1)⟩ : TupV) :: rowT (s.lo + 1) (upS r) = _
    rw [row_up r s.lo]
    show _ = (⟨s.x, s.lo - a, s.hi - s.lo⟩ : TupV) :: rowT s.lo r
    congr 1
    simp only [TupV.mk.injEq, true_and]
    omega

/-! ### The closest one -/
/-- How far a spot's places lie from one. -/
def farS (t : Int) (s : SpotV) : Int := max (t - s.lo) (s.hi - t)
/-- The closest spot, the first of such: behind one that was seen. -/
def closeS (t : Int) : Option SpotV → List SpotV → Option SpotV
  | b, [] => b
  | none, s :: r => closeS t (some s) r
  | some b, s :: r => closeS t (some (if farS t s < farS t b then s else b)) r
theorem close_some (t : Int) : ∀ (S : List SpotV) (b : SpotV), ∃ c, closeS t (some b) S = some c ∧ (c = b ∨ c ∈ S) ∧ farS t c ≤ farS t b ∧ ∀ s, s ∈ S → farS t c ≤ farS t s
  | [], b => ⟨b, rfl, Or.inl rfl, Int.le_refl _, fun s hs => by cases hs⟩
  | s :: r, b => by
    obtain ⟨c, h1, h2, h3, h4⟩ := close_some t r (if farS t s < farS t b then s else b)
    refine ⟨c, by unfold closeS; exact h1, ?_, ?_, fun u hu => ?_⟩
    · rcases h2 with e | e
      · rw [e]
        split
        · exact Or.inr List.mem_cons_self
        · exact Or.inl rfl
      · exact Or.inr (List.mem_cons_of_mem _ e)
    · split at h3 <;> omega
    · rcases List.mem_cons.1 hu with e | e
      · subst e
        split at h3 <;> omega
      · exact h4 u e
theorem close_is (t : Int) {S : List SpotV} (h : S ≠ []) : ∃ c, closeS t none S = some c ∧ c ∈ S ∧ ∀ s, s ∈ S → farS t c ≤ farS t s := by
  cases S with
  | nil => exact absurd rfl h
  | cons s r =>
    obtain ⟨c, h1, h2, h3, h4⟩ := close_some t r s
    refine ⟨c, by unfold closeS; exact h1, ?_, fun u hu => ?_⟩
    · rcases h2 with e | e
      · rw [e]; exact List.mem_cons_self
      · exact List.mem_cons_of_mem _ e
    · rcases List.mem_cons.1 hu with e | e
      · rw [e]; exact h3
      · exact h4 u e
/-- Steps and slacks are no more than g: each spot's greatest place lies no further behind the least one of the spot ahead. -/
def StepsP (g : Int) : Int → List SpotV → Prop
  | _, [] => True
  | a, s :: r => s.hi - a ≤ g ∧ StepsP g s.lo r
/-- One of the spots lies no further than half of g from any place. -/
theorem close_ex {n t g : Int} (htn : t ≤ n) (hg : 0 ≤ g) : ∀ (S : List SpotV) (p : SpotV), SpotsP p.lo n S → StepsP g p.lo S → p.hi ≤ t + g / 2 → ∃ s, (s = p ∨ s ∈ S) ∧ farS t s ≤ g / 2
  | [], p, h, _, hp => ⟨p, Or.inl rfl, by
      have h : p.lo = n := h
      unfold farS
      omega⟩
  | s :: r, p, h, hs, hp => by
    by_cases c : s.hi ≤ t + g / 2
    · obtain ⟨u, hu, hf⟩ := close_ex htn hg r s h.2.2.2.2 hs.2 c
      refine ⟨u, ?_, hf⟩
      rcases hu with e | e
      · rw [e]; exact Or.inr List.mem_cons_self
      · exact Or.inr (List.mem_cons_of_mem _ e)
    · refine ⟨p, Or.inl rfl, ?_⟩
      have h1 : s.hi - p.lo ≤ g := hs.1
      unfold farS
      omega
theorem close_half {n t g : Int} {S : List SpotV} (h : SpotsP 0 n S) (hf : FirstS S) (hs : StepsP g 0 S) (ht1 : 1 ≤ t) (ht : t ≤ n) : ∃ c, closeS t none S = some c ∧ c ∈ S ∧ farS t c ≤ g / 2 := by
  cases S with
  | nil => have h : (0 : Int) = n := h; omega
  | cons s r =>
    obtain ⟨h1, h2⟩ := hf s rfl
    have hg : 1 ≤ g := by have : s.hi - 0 ≤ g := hs.1; omega
    obtain ⟨u, hu, hfu⟩ := close_ex (t := t) ht (show 0 ≤ g by omega) r s h.2.2.2.2 hs.2 (by omega)
    obtain ⟨c, c1, c2, c3⟩ := close_is t (S := s :: r) (by simp)
    refine ⟨c, c1, c2, ?_⟩
    have hm : u ∈ s :: r := by
      rcases hu with e | e
      · rw [e]; exact List.mem_cons_self
      · exact List.mem_cons_of_mem _ e
    have := c3 u hm
    omega

/-! ### Ranks -/
/-- How many there are up to a value: at least, at most. -/
def rankLo (S : List SpotV) (x : Int) : Int := match (ahS S x).getLast? with | none => 0 | some s => s.lo
def rankHi (S : List SpotV) (n x : Int) : Int := match (bhS S x).head? with | none => n | some s => s.hi - 1
theorem rank_between {A : List Int} {S : List SpotV} (h : PlacedS A S) (x : Int) : rankLo S x ≤ upV A x ∧ upV A x ≤ rankHi S A.length x := by
  constructor
  · unfold rankLo
    cases hP : (ahS S x).getLast? with
    | none => exact (upV_bd A x).1
    | some s =>
      obtain ⟨m1, m2⟩ := ah_mem (List.mem_of_getLast? hP)
      have := (h s m1).1
      have := upV_mono A m2
      simp only
      omega
  · unfold rankHi
    cases hP : (bhS S x).head? with
    | none => exact (upV_bd A x).2
    | some s =>
      obtain ⟨m1, m2⟩ := bh_mem (List.mem_of_mem_head? hP)
      have h1 := (h s m1).2
      have h2 : upV A x ≤ unV A s.x := by
        clear h h1 hP m1
        induction A with
        | nil => exact Int.le_refl _
        | cons z r ih => rw [upV_cons, unV_cons]; split <;> split <;> omega
      simp only
      omega
end Go.Proofs.Ytbdfmnlfdhhnjaa

/-
  A block of two cells that may be written: what is carried from world to world.
-/
namespace Go.Proofs.Ytbdfmnlfdhhnjaa
set_option linter.unusedVariables false
open Go.RowKit

structure Two (w : World) (B : Nat) (x y : Value) : Prop where
  c0 : w.cell? ⟨B, 0, none⟩ = some x
  c1 : w.cell? ⟨B, 1, none⟩ = some y
  f0 : w.frozen? ⟨B, 0, none⟩ = false
  f1 : w.frozen? ⟨B, 1, none⟩ = false
theorem Two.lt {w : World} {B : Nat} {x y : Value} (h : Two w B x y) : B < w.heap.size := World.block_lt_of_cell? (a := ⟨B, 0, none⟩) w h.c0
theorem Two.call {w w' : World} {B : Nat} {x y : Value} (h : Two w B x y) (hb : Below w.heap.size w w') : Two w' B x y :=
  ⟨cell_later hb h.c0, cell_later hb h.c1, ((bcell hb).2 _ _ h.lt).trans h.f0, ((bcell hb).2 _ _ h.lt).trans h.f1⟩
theorem Two.alloc {w : World} {B : Nat} {x y : Value} (h : Two w B x y) (o : Obj) : Two (w.alloc o) B x y :=
  h.call ((Below.refl _ _).alloc (Nat.le_refl _) _)
theorem Two.drew {w : World} {B : Nat} {x y : Value} (h : Two w B x y) : Two w.drew B x y :=
  h.call (Below.refl _ _).drew
theorem Two.new (w : World) (x y : Value) (t : TypeId) : Two (w.alloc (.cells #[x, y] t)) w.heap.size x y := by
  refine ⟨?_, ?_, ?_, ?_⟩
  · go_simp
  · go_simp
  · go_simp
  · go_simp
theorem two_far {b o b' o' : Nat} (h : b ≠ b') : (⟨b, o, none⟩ : Addr) ≠ ⟨b', o', none⟩ := fun e => h (Addr.mk.inj e).1
theorem two_off {b o o' : Nat} (h : o ≠ o') : (⟨b, o, none⟩ : Addr) ≠ ⟨b, o', none⟩ := fun e => h (Addr.mk.inj e).2.1
/-- Both cells written. -/
theorem Two.put {w : World} {B : Nat} {x y : Value} (h : Two w B x y) (x' y' : Value) : Two ((w.setCell ⟨B, 0, none⟩ x').setCell ⟨B, 1, none⟩ y') B x' y' := by
  refine ⟨?_, ?_, ?_, ?_⟩
  · rw [World.cell?_setCell_other _ _ _ _ (two_off (by omega))]; exact World.cell?_setCell_same _ _ _ h.c0
  · have e : (w.setCell ⟨B, 0, none⟩ x').cell? ⟨B, 1, none⟩ = some y := by
      rw [World.cell?_setCell_other _ _ _ _ (two_off (by omega))]; exact h.c1
    exact World.cell?_setCell_same _ _ _ e
  · rw [World.frozen?_setCell, World.frozen?_setCell]; exact h.f0
  · rw [World.frozen?_setCell, World.frozen?_setCell]; exact h.f1
/-- Another block written. -/
theorem Two.past {w : World} {B B' : Nat} {x y : Value} (h : Two w B x y) (hB : B' ≠ B) (x' y' : Value) : Two ((w.setCell ⟨B', 0, none⟩ x').setCell ⟨B', 1, none⟩ y') B x y := by
  refine ⟨?_, ?_, ?_, ?_⟩
  · rw [World.cell?_setCell_other _ _ _ _ (two_far hB), World.cell?_setCell_other _ _ _ _ (two_far hB)]; exact h.c0
  · rw [World.cell?_setCell_other _ _ _ _ (two_far hB), World.cell?_setCell_other _ _ _ _ (two_far hB)]; exact h.c1
  · rw [World.frozen?_setCell, World.frozen?_setCell]; exact h.f0
  · rw [World.frozen?_setCell, World.frozen?_setCell]; exact h.f1
theorem below_put {w0 w : World} {n B : Nat} (h : Below n w0 w) (hB : n ≤ B) (x y : Value) : Below n w0 ((w.setCell ⟨B, 0, none⟩ x).setCell ⟨B, 1, none⟩ y) :=
  (h.setCell (p := ⟨B, 0, none⟩) hB _).setCell (p := ⟨B, 1, none⟩) hB _
theorem size_put (w : World) (B : Nat) (x y : Value) : ((w.setCell ⟨B, 0, none⟩ x).setCell ⟨B, 1, none⟩ y).heap.size = w.heap.size := by
  simp [World.setCell]
end Go.Proofs.Ytbdfmnlfdhhnjaa

/-
  A block of three cells that may be written: what is carried from world to world.
-/
namespace Go.Proofs.Ytbdfmnlfdhhnjaa
set_option linter.unusedVariables false
open Go.RowKit

structure Three (w : World) (B : Nat) (x y z : Value) : Prop where
  c0 : w.cell? ⟨B, 0, none⟩ = some x
  c1 : w.cell? ⟨B, 1, none⟩ = some y
  c2 : w.cell? ⟨B, 2, none⟩ = some z
  f0 : w.frozen? ⟨B, 0, none⟩ = false
  f1 : w.frozen? ⟨B, 1, none⟩ = false
  f2 : w.frozen? ⟨B, 2, none⟩ = false
theorem Three.lt {w : World} {B : Nat} {x y z : Value} (h : Three w B x y z) : B < w.heap.size := World.block_lt_of_cell? (a := ⟨B, 0, none⟩) w h.c0
theorem Three.call {w w' : World} {B : Nat} {x y z : Value} (h : Three w B x y z) (hb : Below w.heap.size w w') : Three w' B x y z :=
  ⟨cell_later hb h.c0, cell_later hb h.c1, cell_later hb h.c2, ((bcell hb).2 _ _ h.lt).trans h.f0, ((bcell hb).2 _ _ h.lt).trans h.f1, ((bcell hb).2 _ _ h.lt).trans h.f2⟩
theorem Three.alloc {w : World} {B : Nat} {x y z : Value} (h : Three w B x y z) (o : Obj) : Three (w.alloc o) B x y z :=
  h.call ((Below.refl _ _).alloc (Nat.le_refl _) _)
theorem Three.drew {w : World} {B : Nat} {x y z : Value} (h : Three w B x y z) : Three w.drew B x y z :=
  h.call (Below.refl _ _).drew
theorem Three.new (w : World) (x y z : Value) (t : TypeId) : Three (w.alloc (.cells #[x, y, z] t)) w.heap.size x y z := by
  refine ⟨?_, ?_, ?_, ?_, ?_, ?_⟩
  · go_simp
  · go_simp
  · go_simp
  · go_simp
  · go_simp
  · go_simp
/-- One cell written. -/
theorem Three.put1 {w : World} {B : Nat} {x y z : Value} (h : Three w B x y z) (y' : Value) : Three (w.setCell ⟨B, 1, none⟩ y') B x y' z := by
  refine ⟨?_, World.cell?_setCell_same _ _ _ h.c1, ?_, ?_, ?_, ?_⟩
  · rw [World.cell?_setCell_other _ _ _ _ (two_off (by omega))]; exact h.c0
  · rw [World.cell?_setCell_other _ _ _ _ (two_off (by omega))]; exact h.c2
  · rw [World.frozen?_setCell]; exact h.f0
  · rw [World.frozen?_setCell]; exact h.f1
  · rw [World.frozen?_setCell]; exact h.f2
theorem Three.put2 {w : World} {B : Nat} {x y z : Value} (h : Three w B x y z) (z' : Value) : Three (w.setCell ⟨B, 2, none⟩ z') B x y z' := by
  refine ⟨?_, ?_, World.cell?_setCell_same _ _ _ h.c2, ?_, ?_, ?_⟩
  · rw [World.cell?_setCell_other _ _ _ _ (two_off (by omega))]; exact h.c0
  · rw [World.cell?_setCell_other _ _ _ _ (two_off (by omega))]; exact h.c1
  · rw [World.frozen?_setCell]; exact h.f0
  · rw [World.frozen?_setCell]; exact h.f1
  · rw [World.frozen?_setCell]; exact h.f2
end Go.Proofs.Ytbdfmnlfdhhnjaa

/-
  Walks: package sign's calls, and the reference's of layer 2.
-/
namespace Go.Proofs.Ytbdfmnlfdhhnjaa
set_option linter.unusedVariables false
open Go.RowKit

theorem ret_pair {k : IntKind} {a b : Int} {c d : Bool} (h : a = b) (h' : c = d) : Ending.returned (.tuple #[.int k a, .bool c]) = .returned (.tuple #[.int k b, .bool d]) := by rw [h, h']

end Go.Proofs.Ytbdfmnlfdhhnjaa
/-
  Rows of tuples and of spots in memory: read; of the call's own; appended to.
-/
namespace Go.Proofs.Ytbdfmnlfdhhnjaa
set_option linter.unusedVariables false
set_option linter.unusedSimpArgs false
set_option maxRecDepth 100000
open Go.RowKit

theorem flat3 (b off j : Nat) : (⟨b, off, none⟩ : Addr).add j = ⟨b, off + j, none⟩ := by unfold Addr.add; split <;> simp_all
theorem below_drewT {B : Nat} {a w : World} (h : Below B a w) (n : Nat) : Below B a (w.drewN n) := by
  induction n with
  | zero => exact h
  | succ n ih => exact ih.drew
def okTu (p : TupV) : Prop := I64 p.x ∧ (0 ≤ p.st ∧ p.st < 18446744073709551616) ∧ 0 ≤ p.sl ∧ p.sl < 18446744073709551616
def okSp (p : SpotV) : Prop := I64 p.x ∧ (0 ≤ p.lo ∧ p.lo < 18446744073709551616) ∧ 0 ≤ p.hi ∧ p.hi < 18446744073709551616

/-- A row of tuples in memory. -/
structure Tups (w : World) (A : Option Addr) (L : List TupV) : Prop where
  ok : ∀ p, p ∈ L → okTu p
  at_ : ∀ (i : Nat) (p : TupV), L[i]? = some p → ∃ b off, A = some ⟨b, off, none⟩ ∧ b < w.heap.size ∧ w.cell? ⟨b, off + i * 3, none⟩ = some (.int .i64 p.x) ∧ w.cell? ⟨b, off + i * 3 + 1, none⟩ = some (.int .u64 p.st) ∧ w.cell? ⟨b, off + i * 3 + 2, none⟩ = some (.int .u64 p.sl)
theorem Tups.call {w w' : World} {A : Option Addr} {L : List TupV} (h : Tups w A L) (hb : Below w.heap.size w w') : Tups w' A L :=
  ⟨h.ok, fun i it hi => by
    obtain ⟨b, off, hA, hlt, c0, c1, c2⟩ := h.at_ i it hi
    exact ⟨b, off, hA, Nat.lt_of_lt_of_le hlt hb.size, cell_later hb c0, cell_later hb c1, cell_later hb c2⟩⟩
theorem Tups.nil (w : World) (A : Option Addr) : Tups w A [] := ⟨fun p h => (by cases h), fun i p h => by simp at h⟩
/-- A row's cells. -/
def cellsTu1 (p : TupV) : List Value := [.int .i64 p.x, .int .u64 p.st, .int .u64 p.sl]
def cellsTu (L : List TupV) : List Value := L.flatMap cellsTu1
theorem cellsTu_cons (p : TupV) (r : List TupV) : cellsTu (p :: r) = cellsTu1 p ++ cellsTu r := by unfold cellsTu; rw [List.flatMap_cons]
theorem cellsTu_app (a b : List TupV) : cellsTu (a ++ b) = cellsTu a ++ cellsTu b := by unfold cellsTu; rw [List.flatMap_append]
theorem cellsTu_one' (p : TupV) : cellsTu [p] = [.int .i64 p.x, .int .u64 p.st, .int .u64 p.sl] := by unfold cellsTu cellsTu1; simp
theorem cellsTu_len (L : List TupV) : (cellsTu L).length = L.length * 3 := by
  induction L with
  | nil => rfl
  | cons p r ih => rw [cellsTu_cons, List.length_append, ih, List.length_cons]; simp [cellsTu1]; omega
theorem cellsTu_one (L : List TupV) : ∀ u ∈ cellsTu L, u.oneCell' = true := by
  intro u hu
  unfold cellsTu at hu
  obtain ⟨p, _, h⟩ := List.mem_flatMap.1 hu
  simp only [cellsTu1, List.mem_cons, List.not_mem_nil, or_false] at h
  rcases h with rfl | rfl | rfl <;> rfl
theorem cellsTu_at : ∀ (L : List TupV) (i : Nat) (p : TupV), L[i]? = some p → (cellsTu L)[i * 3]? = some (.int .i64 p.x) ∧ (cellsTu L)[i * 3 + 1]? = some (.int .u64 p.st) ∧ (cellsTu L)[i * 3 + 2]? = some (.int .u64 p.sl) := by
  intro L
  induction L with
  | nil => intro i p h; simp at h
  | cons q r ih =>
    intro i p h
    rw [cellsTu_cons]
    cases i with
    | zero => simp at h; subst h; simp [cellsTu1]
    | succ i =>
      have hr := ih i p (by simpa using h)
      have e : ∀ j, (cellsTu1 q ++ cellsTu r)[(i + 1) * 3 + j]? = (cellsTu r)[i * 3 + j]? := by
        intro j
        rw [List.getElem?_append_right (by simp [cellsTu1]; omega)]
        congr 1
        simp [cellsTu1]; omega
      exact ⟨(e 0).trans hr.1, (e 1).trans hr.2.1, (e 2).trans hr.2.2⟩
theorem Tups.cell {w : World} {b off : Nat} {L : List TupV} (h : Tups w (some ⟨b, off, none⟩) L) : ∀ (j : Nat) (u : Value), (cellsTu L)[j]? = some u → w.cell? ⟨b, off + j, none⟩ = some u := by
  intro j u hu
  have hj : j < L.length * 3 := by
    rcases Nat.lt_or_ge j (L.length * 3) with h1 | h1
    · exact h1
    · rw [List.getElem?_eq_none (by rw [cellsTu_len]; exact h1)] at hu; cases hu
  have hq := List.getElem?_eq_getElem (l := L) (i := j / 3) (by omega)
  obtain ⟨b', off', e, _, c0, c1, c2⟩ := h.at_ (j / 3) _ hq
  obtain ⟨rfl, rfl⟩ : b = b' ∧ off = off' := by
    have := Option.some.inj e
    exact ⟨(Addr.mk.inj this).1, (Addr.mk.inj this).2.1⟩
  obtain ⟨q0, q1, q2⟩ := cellsTu_at L (j / 3) _ hq
  have h3 : j % 3 = 0 ∨ j % 3 = 1 ∨ j % 3 = 2 := by omega
  rcases h3 with h2 | h2 | h2
  · have e1 : j / 3 * 3 = j := by omega
    rw [e1] at q0 c0; rw [q0] at hu; rw [c0, ← Option.some.inj hu]
  · have e1 : j / 3 * 3 + 1 = j := by omega
    rw [Nat.add_assoc, e1] at c1; rw [e1] at q1; rw [q1] at hu; rw [c1, ← Option.some.inj hu]
  · have e1 : j / 3 * 3 + 2 = j := by omega
    rw [Nat.add_assoc, e1] at c2; rw [e1] at q2; rw [q2] at hu; rw [c2, ← Option.some.inj hu]
theorem Tups.take {w : World} {A : Option Addr} {L : List TupV} (h : Tups w A L) (k : Nat) : Tups w A (L.take k) :=
  ⟨fun p hp => h.ok p (List.mem_of_mem_take hp), fun i p hi => by
    have : L[i]? = some p := by
      rw [List.getElem?_take] at hi
      split at hi
      · exact hi
      · cases hi
    exact h.at_ i p this⟩
theorem Tups.drop {w : World} {b off : Nat} {L : List TupV} (h : Tups w (some ⟨b, off, none⟩) L) (k : Nat) : Tups w (some ⟨b, off + k * 3, none⟩) (L.drop k) :=
  ⟨fun p hp => h.ok p (List.mem_of_mem_drop hp), fun i p hi => by
    rw [List.getElem?_drop] at hi
    obtain ⟨b', off', e, hlt, c0, c1, c2⟩ := h.at_ (k + i) p hi
    obtain ⟨rfl, rfl⟩ : b = b' ∧ off = off' := by
      have := Option.some.inj e
      exact ⟨(Addr.mk.inj this).1, (Addr.mk.inj this).2.1⟩
    have e2 : off + (k + i) * 3 = off + k * 3 + i * 3 := by omega
    rw [e2] at c0 c1 c2
    exact ⟨b, _, rfl, hlt, c0, c1, c2⟩⟩

/-- A row of spots in memory. -/
structure Spts (w : World) (A : Option Addr) (L : List SpotV) : Prop where
  ok : ∀ p, p ∈ L → okSp p
  at_ : ∀ (i : Nat) (p : SpotV), L[i]? = some p → ∃ b off, A = some ⟨b, off, none⟩ ∧ b < w.heap.size ∧ w.cell? ⟨b, off + i * 3, none⟩ = some (.int .i64 p.x) ∧ w.cell? ⟨b, off + i * 3 + 1, none⟩ = some (.int .u64 p.lo) ∧ w.cell? ⟨b, off + i * 3 + 2, none⟩ = some (.int .u64 p.hi)
theorem Spts.call {w w' : World} {A : Option Addr} {L : List SpotV} (h : Spts w A L) (hb : Below w.heap.size w w') : Spts w' A L :=
  ⟨h.ok, fun i it hi => by
    obtain ⟨b, off, hA, hlt, c0, c1, c2⟩ := h.at_ i it hi
    exact ⟨b, off, hA, Nat.lt_of_lt_of_le hlt hb.size, cell_later hb c0, cell_later hb c1, cell_later hb c2⟩⟩
theorem Spts.nil (w : World) (A : Option Addr) : Spts w A [] := ⟨fun p h => (by cases h), fun i p h => by simp at h⟩
/-- A row's cells. -/
def cellsSp1 (p : SpotV) : List Value := [.int .i64 p.x, .int .u64 p.lo, .int .u64 p.hi]
def cellsSp (L : List SpotV) : List Value := L.flatMap cellsSp1
theorem cellsSp_cons (p : SpotV) (r : List SpotV) : cellsSp (p :: r) = cellsSp1 p ++ cellsSp r := by unfold cellsSp; rw [List.flatMap_cons]
theorem cellsSp_app (a b : List SpotV) : cellsSp (a ++ b) = cellsSp a ++ cellsSp b := by unfold cellsSp; rw [List.flatMap_append]
theorem cellsSp_one' (p : SpotV) : cellsSp [p] = [.int .i64 p.x, .int .u64 p.lo, .int .u64 p.hi] := by unfold cellsSp cellsSp1; simp
theorem cellsSp_len (L : List SpotV) : (cellsSp L).length = L.length * 3 := by
  induction L with
  | nil => rfl
  | cons p r ih => rw [cellsSp_cons, List.length_append, ih, List.length_cons]; simp [cellsSp1]; omega
theorem cellsSp_one (L : List SpotV) : ∀ u ∈ cellsSp L, u.oneCell' = true := by
  intro u hu
  unfold cellsSp at hu
  obtain ⟨p, _, h⟩ := List.mem_flatMap.1 hu
  simp only [cellsSp1, List.mem_cons, List.not_mem_nil, or_false] at h
  rcases h with rfl | rfl | rfl <;> rfl
theorem cellsSp_at : ∀ (L : List SpotV) (i : Nat) (p : SpotV), L[i]? = some p → (cellsSp L)[i * 3]? = some (.int .i64 p.x) ∧ (cellsSp L)[i * 3 + 1]? = some (.int .u64 p.lo) ∧ (cellsSp L)[i * 3 + 2]? = some (.int .u64 p.hi) := by
  intro L
  induction L with
  | nil => intro i p h; simp at h
  | cons q r ih =>
    intro i p h
    rw [cellsSp_cons]
    cases i with
    | zero => simp at h; subst h; simp [cellsSp1]
    | succ i =>
      have hr := ih i p (by simpa using h)
      have e : ∀ j, (cellsSp1 q ++ cellsSp r)[(i + 1) * 3 + j]? = (cellsSp r)[i * 3 + j]? := by
        intro j
        rw [List.getElem?_append_right (by simp [cellsSp1]; omega)]
        congr 1
        simp [cellsSp1]; omega
      exact ⟨(e 0).trans hr.1, (e 1).trans hr.2.1, (e 2).trans hr.2.2⟩
theorem Spts.cell {w : World} {b off : Nat} {L : List SpotV} (h : Spts w (some ⟨b, off, none⟩) L) : ∀ (j : Nat) (u : Value), (cellsSp L)[j]? = some u → w.cell? ⟨b, off + j, none⟩ = some u := by
  intro j u hu
  have hj : j < L.length * 3 := by
    rcases Nat.lt_or_ge j (L.length * 3) with h1 | h1
    · exact h1
    · rw [List.getElem?_eq_none (by rw [cellsSp_len]; exact h1)] at hu; cases hu
  have hq := List.getElem?_eq_getElem (l := L) (i := j / 3) (by omega)
  obtain ⟨b', off', e, _, c0, c1, c2⟩ := h.at_ (j / 3) _ hq
  obtain ⟨rfl, rfl⟩ : b = b' ∧ off = off' := by
    have := Option.some.inj e
    exact ⟨(Addr.mk.inj this).1, (Addr.mk.inj this).2.1⟩
  obtain ⟨q0, q1, q2⟩ := cellsSp_at L (j / 3) _ hq
  have h3 : j % 3 = 0 ∨ j % 3 = 1 ∨ j % 3 = 2 := by omega
  rcases h3 with h2 | h2 | h2
  · have e1 : j / 3 * 3 = j := by omega
    rw [e1] at q0 c0; rw [q0] at hu; rw [c0, ← Option.some.inj hu]
  · have e1 : j / 3 * 3 + 1 = j := by omega
    rw [Nat.add_assoc, e1] at c1; rw [e1] at q1; rw [q1] at hu; rw [c1, ← Option.some.inj hu]
  · have e1 : j / 3 * 3 + 2 = j := by omega
    rw [Nat.add_assoc, e1] at c2; rw [e1] at q2; rw [q2] at hu; rw [c2, ← Option.some.inj hu]
theorem Spts.take {w : World} {A : Option Addr} {L : List SpotV} (h : Spts w A L) (k : Nat) : Spts w A (L.take k) :=
  ⟨fun p hp => h.ok p (List.mem_of_mem_take hp), fun i p hi => by
    have : L[i]? = some p := by
      rw [List.getElem?_take] at hi
      split at hi
      · exact hi
      · cases hi
    exact h.at_ i p this⟩
theorem Spts.drop {w : World} {b off : Nat} {L : List SpotV} (h : Spts w (some ⟨b, off, none⟩) L) (k : Nat) : Spts w (some ⟨b, off + k * 3, none⟩) (L.drop k) :=
  ⟨fun p hp => h.ok p (List.mem_of_mem_drop hp), fun i p hi => by
    rw [List.getElem?_drop] at hi
    obtain ⟨b', off', e, hlt, c0, c1, c2⟩ := h.at_ (k + i) p hi
    obtain ⟨rfl, rfl⟩ : b = b' ∧ off = off' := by
      have := Option.some.inj e
      exact ⟨(Addr.mk.inj this).1, (Addr.mk.inj this).2.1⟩
    have e2 : off + (k + i) * 3 = off + k * 3 + i * 3 := by omega
    rw [e2] at c0 c1 c2
    exact ⟨b, _, rfl, hlt, c0, c1, c2⟩⟩

/-! ### Rows of whole numbers of the call's own -/
def intsL (L : List Int) : List Value := L.map (Value.int .i64)
theorem Try.infoInt18 : (Try.prog.info? 2).map (fun i => (i.zero, i.size, i.bytes)) = some (some (.int .i64 0), 1, 8) := by kernel_rfl

def OwnN (w : World) (base : Nat) (v : Value) (L : List Int) : Prop := w.ownsRow base 2 1 v L.length (intsL L)
theorem OwnN.nil (w : World) (base : Nat) : OwnN w base (.slice none 0 0) [] := World.ownsRow_nil _ _ _ _
theorem OwnN.call {w w' : World} {base : Nat} {v : Value} {L : List Int} (h : OwnN w base v L) (hb : Below w.heap.size w w') : OwnN w' base v L :=
  World.ownsRow.kept (row := none) h ⟨hb.os, hb.tape, hb.output, hb.size, fun i hi _ => hb.block i hi⟩ (by cases v.ownBlock <;> simp)
theorem OwnN.other {w w' : World} {base : Nat} {v : Value} {L : List Int} {r : Option Nat} (h : OwnN w base v L) (hg : w.grownBy w' r) (hne : v.ownBlock = none ∨ v.ownBlock ≠ r) : OwnN w' base v L := World.ownsRow.kept h hg hne
theorem OwnN.lt {w : World} {base : Nat} {v : Value} {L : List Int} (h : OwnN w base v L) : ∀ k, v.ownBlock = some k → base ≤ k ∧ k < w.heap.size := World.ownsRow.lt h
theorem OwnN.mono {w : World} {base base' : Nat} {v : Value} {L : List Int} (h : OwnN w base v L) (hb : base' ≤ base) : OwnN w base' v L := World.ownsRow.mono h hb
theorem OwnN.form {w : World} {base : Nat} {v : Value} {L : List Int} (h : OwnN w base v L) : ∃ A cap, v = .slice A L.length cap := by
  have h' : w.ownsRow base 2 1 v L.length (intsL L) := h
  rcases h'.2 with ⟨rfl, h0⟩ | ⟨g, cap, cur, rfl, _⟩
  · exact ⟨none, 0, by rw [h0]⟩
  · exact ⟨_, _, rfl⟩
theorem OwnN.below {a w w' : World} {base : Nat} {v : Value} {L : List Int} (h : OwnN w base v L) (hb : Below base a w) (hg : w.grownBy w' v.ownBlock) (hs : base ≤ w.heap.size) : Below base a w' := hb.grown hg hs (fun k hk => (h.lt k hk).1)
/-- A row of whole numbers in memory. -/
structure Nums (w : World) (A : Option Addr) (L : List Int) : Prop where
  ok : ∀ p, p ∈ L → I64 p
  at_ : ∀ (i : Nat) (p : Int), L[i]? = some p → ∃ b off, A = some ⟨b, off, none⟩ ∧ b < w.heap.size ∧ w.cell? ⟨b, off + i, none⟩ = some (.int .i64 p)
theorem Nums.call {w w' : World} {A : Option Addr} {L : List Int} (h : Nums w A L) (hb : Below w.heap.size w w') : Nums w' A L :=
  ⟨h.ok, fun i it hi => by
    obtain ⟨b, off, hA, hlt, c0⟩ := h.at_ i it hi
    exact ⟨b, off, hA, Nat.lt_of_lt_of_le hlt hb.size, cell_later hb c0⟩⟩

theorem OwnN.rows {w : World} {base : Nat} {v : Value} {L : List Int} (h : OwnN w base v L) (hok : ∀ p, p ∈ L → I64 p) : ∃ A cap, v = .slice A L.length cap ∧ Nums w A L := by
  have h' : w.ownsRow base 2 1 v L.length (intsL L) := h
  have hh := h'
  rcases h'.2 with ⟨rfl, h0⟩ | ⟨g, cap, cur, rfl, _, hg, _⟩
  · have e : L = [] := List.eq_nil_of_length_eq_zero h0
    subst e
    exact ⟨none, 0, rfl, hok, fun i p hi => by simp at hi⟩
  · refine ⟨some ⟨g, 0, none⟩, cap, rfl, hok, fun i p hi => ?_⟩
    have hc := hh.cells (g := g) rfl i (.int .i64 p) (by unfold intsL; rw [List.getElem?_map, hi]; rfl)
    refine ⟨g, 0, rfl, lt_of_block hg, ?_⟩
    rw [← flat3]; exact hc
theorem wpList_append_num {w : World} {ops : Array Oper} {rest : List Oper} {o : Oper} {a : Act} {Q : Exit → Act → World → Prop} (hgd : o.guard = none) (s x : Operand)
    (ho : o.op = .call { callee := .builtin .append, args := #[s, x], argTypes := #[62, 62] })
    (base : Nat) (v : Value) (L : List Int) (n : Nat) (hln : L.length = n) (g : Nat) (p : Int) (hs : a.eval s = v) (hown : OwnN w base v L)
    (hx : a.eval x = .slice (some ⟨g, 0, none⟩) 1 1) (h0 : w.cell? ⟨g, 0, none⟩ = some (.int .i64 p)) (hn : n ≤ 100000) (hbase : base ≤ w.heap.size)
    (h : ∀ g' cap w', OwnN w' base (.slice (some ⟨g', 0, none⟩) (n + 1) cap) (L ++ [p]) → w.grownBy w' v.ownBlock → (v.ownBlock = some g' ∨ g' = w.heap.size) → wpList Try.prog ops Q rest (a.put o.dst (.slice (some ⟨g', 0, none⟩) (n + 1) cap)) w') : wpList Try.prog ops Q (o :: rest) a w := by
  subst hln
  obtain ⟨i0, hi, hz0, hz1, hz2⟩ := info_parts Try.infoInt18
  refine wpList_append_lies w hgd s x _ ho base _ i0 _ 1 8 Try.underlying62 hi hz0 hz1 hz2 rfl (by decide) v L.length (intsL L) hs hown ⟨g, 0, none⟩ 1 1 (intsL [p]) hx rfl ?_ ?_
      (by decide) (by unfold maxLen; omega) (by omega) hbase _ rfl (fun g' cap w' h1 h2 h3 _ => h g' cap w' ?_ h2 h3)
  · intro j u hu
    rw [flat3]
    match j, hu with
    | 0, hu => simp [intsL] at hu; subst hu; exact h0
  · intro u hu; simp [intsL] at hu; subst hu; rfl
  · unfold OwnN
    rw [show intsL (L ++ [p]) = intsL L ++ intsL [p] by unfold intsL; rw [List.map_append], List.length_append]
    exact h1

end Go.Proofs.Ytbdfmnlfdhhnjaa

/-
  Appending a whole row of whole numbers to one of the call's own.
-/
namespace Go.Proofs.Ytbdfmnlfdhhnjaa
set_option linter.unusedVariables false
set_option linter.unusedSimpArgs false
set_option maxRecDepth 100000
open Go.RowKit

/-- Appending a whole row, a nil one too, to one of the call's own. -/
theorem wpList_append_nums {w : World} {ops : Array Oper} {rest : List Oper} {o : Oper} {a : Act} {Q : Exit → Act → World → Prop} (hgd : o.guard = none) (s x : Operand)
    (ho : o.op = .call { callee := .builtin .append, args := #[s, x], argTypes := #[62, 62] })
    (base : Nat) (v : Value) (M : List Int) (A : Option Addr) (cap : Nat) (L : List Int) (hs : a.eval s = v) (hown : OwnN w base v M)
    (hx : a.eval x = .slice A L.length cap) (hsrc : Nums w A L) (hn : M.length + L.length ≤ 100000) (hbase : base ≤ w.heap.size)
    (h : ∀ v' w', OwnN w' base v' (M ++ L) → w.grownBy w' v.ownBlock → wpList Try.prog ops Q rest (a.put o.dst v') w') : wpList Try.prog ops Q (o :: rest) a w := by
  obtain ⟨i0, hi, hz0, hz1, hz2⟩ := info_parts Try.infoInt18
  by_cases hL : L = []
  · subst hL
    have hx' : a.eval x = .slice A 0 cap := hx
    have hrun : (Builtin.append_ #[62, 62] o.type #[v, .slice A 0 cap]).run Try.prog w = .ok v w := by
      have hl : ∀ (b : Option Addr) (n c : Nat), (Builtin.firstCells 1 0 (.slice A 0 cap)).run Try.prog w = .ok #[] w := by
        intro b n c
        cases A with
        | none => exact run_firstCells_none w 1 0 0 cap
        | some ad => exact run_firstCells_some w 1 0 ad 0 cap [] rfl (fun j v hj => by simp at hj)
      rcases hown.2 with ⟨rfl, h0⟩ | ⟨g, c2, cur, rfl, _, _, hnc, _⟩
      · rw [show (0 : Nat) = 0 from rfl] at *
        simp [Builtin.append_, run_underlying Try.underlying62, sizeOf, typeInfo, hi, hz1, Builtin.lenOf, hl none 0 0]
      · simp [Builtin.append_, run_underlying Try.underlying62, sizeOf, typeInfo, hi, hz1, Builtin.lenOf, hnc, storeCells, hl none 0 0]
    refine wpList_plain hgd fun K hK => ?_
    unfold Oper.wp
    simp [execOp, ho, resolve, invoke, builtin, hs, hx', hrun, Result.andThen]
    exact hK _ _ (h v w (by rw [List.append_nil]; exact hown) (World.grownBy.refl _ _))
  · obtain ⟨p, hp⟩ : ∃ p, L[0]? = some p := by
      cases L with
      | nil => exact absurd rfl hL
      | cons p r => exact ⟨p, rfl⟩
    obtain ⟨b, off, rfl, _, _⟩ := hsrc.at_ 0 p hp
    refine wpList_append_own w hgd s x _ ho base _ i0 _ 1 8 Try.underlying62 hi hz0 hz1 hz2 rfl (by decide) v M.length (intsL M) hs hown ⟨b, off, none⟩ L.length cap (intsL L) hx (by unfold intsL; rw [List.length_map, Nat.mul_one]) ?_ (fun u hu => by
        unfold intsL at hu
        obtain ⟨z, _, rfl⟩ := List.mem_map.1 hu
        rfl)
      (by unfold maxLen; omega) (by omega) hbase (fun v' w' h1 h2 _ => h v' w' ?_ h2)
    · intro j u hu
      rw [flat3]
      unfold intsL at hu
      rw [List.getElem?_map] at hu
      cases hL2 : L[j]? with
      | none => rw [hL2] at hu; cases hu
      | some z =>
        rw [hL2] at hu
        obtain ⟨b', off', e, _, c0⟩ := hsrc.at_ j z hL2
        obtain ⟨rfl, rfl⟩ : b = b' ∧ off = off' := by
          have := Option.some.inj e
          exact ⟨(Addr.mk.inj this).1, (Addr.mk.inj this).2.1⟩
        rw [c0]; exact hu
    · unfold OwnN
      rw [show intsL (M ++ L) = intsL M ++ intsL L by unfold intsL; rw [List.map_append], List.length_append]
      exact h1

end Go.Proofs.Ytbdfmnlfdhhnjaa

/-
  Rows of whole numbers of the call's own: appended to, as steps of a region that draws; read.
-/
namespace Go.Proofs.Ytbdfmnlfdhhnjaa
set_option linter.unusedVariables false
set_option linter.unusedSimpArgs false
open Go.RowKit

/-- append of a row of whole numbers, as one step of a region that draws. -/
theorem step_append_nums {w : World} {ops : Array Oper} {o : Oper} {a : Act} {K : Act → World → Prop} {Q : Exit → Act → World → Prop} {E : Prop} (hgd : o.guard = none) (s x : Operand)
    (ho : o.op = .call { callee := .builtin .append, args := #[s, x], argTypes := #[62, 62] })
    (base : Nat) (v : Value) (M : List Int) (A : Option Addr) (n cap : Nat) (L : List Int) (hs : a.eval s = v) (hown : OwnN w base v M)
    (hx : a.eval x = .slice A n cap) (hl : L.length = n) (hsrc : Nums w A L) (hn : M.length + n ≤ 100000) (hbase : base ≤ w.heap.size)
    (h : ∀ v' w', OwnN w' base v' (M ++ L) → w.grownBy w' v.ownBlock → K (a.put o.dst v') w') : if Region.wanted o (yielded ops a.tmps) = true then Oper.wp Try.prog o a w K Q else E := by
  have hw : Region.wanted o (yielded ops a.tmps) = true := by simp [Region.wanted, hgd]
  rw [if_pos hw]
  subst hl
  obtain ⟨i0, hi, hz0, hz1, hz2⟩ := info_parts Try.infoInt18
  by_cases hL : L = []
  · subst hL
    have hx' : a.eval x = .slice A 0 cap := hx
    have hrun : (Builtin.append_ #[62, 62] o.type #[v, .slice A 0 cap]).run Try.prog w = .ok v w := by
      have hl : ∀ (b : Option Addr) (n c : Nat), (Builtin.firstCells 1 0 (.slice A 0 cap)).run Try.prog w = .ok #[] w := by
        intro b n c
        cases A with
        | none => exact run_firstCells_none w 1 0 0 cap
        | some ad => exact run_firstCells_some w 1 0 ad 0 cap [] rfl (fun j v hj => by simp at hj)
      rcases hown.2 with ⟨rfl, h0⟩ | ⟨g, c2, cur, rfl, _, _, hnc, _⟩
      · rw [show (0 : Nat) = 0 from rfl] at *
        simp [Builtin.append_, run_underlying Try.underlying62, sizeOf, typeInfo, hi, hz1, Builtin.lenOf, hl none 0 0]
      · simp [Builtin.append_, run_underlying Try.underlying62, sizeOf, typeInfo, hi, hz1, Builtin.lenOf, hnc, storeCells, hl none 0 0]
    unfold Oper.wp
    simp [execOp, ho, resolve, invoke, builtin, hs, hx', hrun, Result.andThen]
    exact h v w (by rw [List.append_nil]; exact hown) (World.grownBy.refl _ _)
  · obtain ⟨p, hp⟩ : ∃ p, L[0]? = some p := by
      cases L with
      | nil => exact absurd rfl hL
      | cons p r => exact ⟨p, rfl⟩
    obtain ⟨b, off, rfl, _, _⟩ := hsrc.at_ 0 p hp
    refine wp_append_own w s x _ ho base _ i0 _ 1 8 Try.underlying62 hi hz0 hz1 hz2 rfl (by decide) v M.length (intsL M) hs hown ⟨b, off, none⟩ L.length cap (intsL L) hx (by unfold intsL; rw [List.length_map, Nat.mul_one]) ?_ (fun u hu => by
        unfold intsL at hu
        obtain ⟨z, _, rfl⟩ := List.mem_map.1 hu
        rfl)
      (by unfold maxLen; omega) (by omega) hbase (fun v' w' h1 h2 _ => h v' w' ?_ h2)
    · intro j u hu
      rw [flat3]
      unfold intsL at hu
      rw [List.getElem?_map] at hu
      cases hL2 : L[j]? with
      | none => rw [hL2] at hu; cases hu
      | some z =>
        rw [hL2] at hu
        obtain ⟨b', off', e, _, c0⟩ := hsrc.at_ j z hL2
        obtain ⟨rfl, rfl⟩ : b = b' ∧ off = off' := by
          have := Option.some.inj e
          exact ⟨(Addr.mk.inj this).1, (Addr.mk.inj this).2.1⟩
        rw [c0]; exact hu
    · unfold OwnN
      rw [show intsL (M ++ L) = intsL M ++ intsL L by unfold intsL; rw [List.map_append], List.length_append]
      exact h1

/-- Nothing, in a block of its own. -/
theorem own_emptyN {W : World} {base g : Nat} (h : W.heap[g]? = some (.cells #[] 2 (0, 0))) (hb : base ≤ g) : OwnN W base (.slice (some ⟨g, 0, none⟩) 0 0) [] :=
  ⟨rfl, Or.inr ⟨g, 0, #[], rfl, hb, h, Nat.le_refl _, Nat.zero_le _, rfl, rfl⟩⟩
theorem one_num {W : World} {g : Nat} {x : Int} (hx : I64 x) (h : W.cell? ⟨g, 0, none⟩ = some (.int .i64 x)) : Nums W (some ⟨g, 0, none⟩) [x] :=
  ⟨fun p hp => by rw [List.mem_singleton.1 hp]; exact hx, fun i p hi => by
    match i, hi with
    | 0, hi =>
      have e : x = p := Option.some.inj hi
      subst e
      exact ⟨g, 0, rfl, World.block_lt_of_cell? (a := ⟨g, 0, none⟩) W h, h⟩⟩
theorem Nums.nil (w : World) (A : Option Addr) : Nums w A [] := ⟨fun p h => (by cases h), fun i p h => by simp at h⟩
theorem Nums.take {w : World} {A : Option Addr} {L : List Int} (h : Nums w A L) (k : Nat) : Nums w A (L.take k) :=
  ⟨fun p hp => h.ok p (List.mem_of_mem_take hp), fun i p hi => by
    have : L[i]? = some p := by
      rw [List.getElem?_take] at hi
      split at hi
      · exact hi
      · cases hi
    exact h.at_ i p this⟩
theorem Nums.drop {w : World} {b off : Nat} {L : List Int} (h : Nums w (some ⟨b, off, none⟩) L) (k : Nat) : Nums w (some ⟨b, off + k, none⟩) (L.drop k) :=
  ⟨fun p hp => h.ok p (List.mem_of_mem_drop hp), fun i p hi => by
    rw [List.getElem?_drop] at hi
    obtain ⟨b', off', e, hlt, c0⟩ := h.at_ (k + i) p hi
    obtain ⟨rfl, rfl⟩ : b = b' ∧ off = off' := by
      have := Option.some.inj e
      exact ⟨(Addr.mk.inj this).1, (Addr.mk.inj this).2.1⟩
    rw [← Nat.add_assoc] at c0
    exact ⟨b, _, rfl, hlt, c0⟩⟩
theorem OwnN.some_ {w : World} {base : Nat} {v : Value} {L : List Int} (h : OwnN w base v L) (hok : ∀ p, p ∈ L → I64 p) (hn : 1 ≤ L.length) : ∃ g off cap, v = .slice (some ⟨g, off, none⟩) L.length cap ∧ Nums w (some ⟨g, off, none⟩) L ∧ base ≤ g ∧ g < w.heap.size ∧ L.length ≤ cap := by
  obtain ⟨A, cap, rfl, hN⟩ := h.rows hok
  have h' : w.ownsRow base 2 1 (.slice A L.length cap) L.length (intsL L) := h
  rcases h'.2 with ⟨e, h0⟩ | ⟨g, cap', cur, e, hb, hg, hle, _⟩
  · omega
  · injection e with e1 e2 e3
    subst e1 e3
    exact ⟨g, 0, cap, rfl, hN, hb, lt_of_block hg, hle⟩
/-- Blocks of one's own that another row's growing leaves alone. -/
theorem Nums.grown {w w' : World} {A : Option Addr} {L : List Int} {r : Option Nat} (h : Nums w A L) (hg : w.grownBy w' r) (hne : ∀ a, A = some a → some a.block ≠ r) : Nums w' A L :=
  ⟨h.ok, fun i p hi => by
    obtain ⟨b, off, rfl, hlt, c0⟩ := h.at_ i p hi
    exact ⟨b, off, rfl, Nat.lt_of_lt_of_le hlt hg.size, hg.cell c0 (show some b ≠ r from hne ⟨b, off, none⟩ rfl)⟩⟩
end Go.Proofs.Ytbdfmnlfdhhnjaa

/-
  Rows of rows of whole numbers, one's own: read, stored into, appended to.
-/
namespace Go.Proofs.Ytbdfmnlfdhhnjaa
set_option linter.unusedVariables false
set_option linter.unusedSimpArgs false
open Go.RowKit

/-- A row's head: where it lies, what it holds, its room. -/
structure RowI where
  a : Option Addr
  l : List Int
  cap : Nat
def RowI.v (r : RowI) : Value := .slice r.a r.l.length r.cap
def cellsI (R : List RowI) : List Value := R.map RowI.v
theorem cellsI_one (R : List RowI) : ∀ u ∈ cellsI R, u.oneCell' = true := by
  intro u hu
  unfold cellsI at hu
  obtain ⟨r, _, rfl⟩ := List.mem_map.1 hu
  rfl
theorem Try.infoRowI : (Try.prog.info? 62).map (fun i => (i.zero, i.size, i.bytes)) = some (some (.slice none 0 0), 1, 24) := by kernel_rfl

/-- A store into a row of one's own whose values are one cell each. -/
theorem ownsRow_put1 {w : World} {base : Nat} {e : TypeId} {g n cap h : Nat} {xs : List Value} {u : Value} (ho : w.ownsRow base e 1 (.slice (some ⟨g, 0, none⟩) n cap) n xs) (hh : h < n) :
    (w.setCell ⟨g, h, none⟩ u).ownsRow base e 1 (.slice (some ⟨g, 0, none⟩) n cap) n (xs.set h u) := by
  obtain ⟨hl, h2⟩ := ho
  refine ⟨by rw [List.length_set]; exact hl, ?_⟩
  rcases h2 with ⟨e1, _⟩ | ⟨g', cap', cur, e1, hb, hg, hnc, hc, hs, ht⟩
  · cases e1
  · injection e1 with e2 e3 e4
    injection e2 with e2
    injection e2 with e2
    subst e2 e4
    refine Or.inr ⟨g, cap, cur.setIfInBounds h u, rfl, hb, ?_, hnc, hc, by rw [Array.size_setIfInBounds]; exact hs, ?_⟩
    · simp only [World.setCell, Array.getElem?_modify, hg]
      simp
    · rw [← ht, Array.toList_setIfInBounds, List.take_set]
theorem slot_of_row {w : World} {base : Nat} {e : TypeId} {g n cap h : Nat} {xs : List Value} {u : Value} (ho : w.ownsRow base e 1 (.slice (some ⟨g, 0, none⟩) n cap) n xs) (hx : xs[h]? = some u) : w.cell? ⟨g, h, none⟩ = some u := by
  have := ho.cells (g := g) rfl h u hx
  rwa [flat3, Nat.zero_add] at this

/-- A row of rows of one's own. -/
def OwnI (w : World) (base : Nat) (v : Value) (R : List RowI) : Prop := w.ownsRow base 62 1 v R.length (cellsI R)
theorem OwnI.nil (w : World) (base : Nat) : OwnI w base (.slice none 0 0) [] := World.ownsRow_nil _ _ _ _
theorem OwnI.other {w w' : World} {base : Nat} {v : Value} {R : List RowI} {r : Option Nat} (h : OwnI w base v R) (hg : w.grownBy w' r) (hne : v.ownBlock = none ∨ v.ownBlock ≠ r) : OwnI w' base v R := World.ownsRow.kept h hg hne
theorem OwnI.call {w w' : World} {base : Nat} {v : Value} {R : List RowI} (h : OwnI w base v R) (hb : Below w.heap.size w w') : OwnI w' base v R :=
  World.ownsRow.kept (row := none) h ⟨hb.os, hb.tape, hb.output, hb.size, fun i hi _ => hb.block i hi⟩ (by cases v.ownBlock <;> simp)
theorem OwnI.lt {w : World} {base : Nat} {v : Value} {R : List RowI} (h : OwnI w base v R) : ∀ k, v.ownBlock = some k → base ≤ k ∧ k < w.heap.size := World.ownsRow.lt h
theorem OwnI.mono {w : World} {base base' : Nat} {v : Value} {R : List RowI} (h : OwnI w base v R) (hb : base' ≤ base) : OwnI w base' v R := World.ownsRow.mono h hb
theorem OwnI.some_ {w : World} {base : Nat} {v : Value} {R : List RowI} (h : OwnI w base v R) (hn : 1 ≤ R.length) : ∃ g cap, v = .slice (some ⟨g, 0, none⟩) R.length cap ∧ base ≤ g ∧ g < w.heap.size ∧ R.length ≤ cap := by
  have h' : w.ownsRow base 62 1 v R.length (cellsI R) := h
  rcases h'.2 with ⟨_, h0⟩ | ⟨g, cap, cur, rfl, hb, hg, hle, _⟩
  · omega
  · exact ⟨g, cap, rfl, hb, lt_of_block hg, hle⟩
theorem OwnI.at_ {w : World} {base g n cap i : Nat} {R : List RowI} {r : RowI} (h : OwnI w base (.slice (some ⟨g, 0, none⟩) n cap) R) (hn : R.length = n) (hi : R[i]? = some r) : w.cell? ⟨g, i, none⟩ = some r.v := by
  subst hn
  exact slot_of_row h (by unfold cellsI; rw [List.getElem?_map, hi]; rfl)
theorem OwnI.free {w : World} {base g n cap : Nat} {R : List RowI} (h : OwnI w base (.slice (some ⟨g, 0, none⟩) n cap) R) (hn : R.length = n) (i : Nat) : w.frozen? ⟨g, i, none⟩ = false := by
  subst hn
  have h' : w.ownsRow base 62 1 (.slice (some ⟨g, 0, none⟩) R.length cap) R.length (cellsI R) := h
  exact h'.frozenAt i
theorem OwnI.put {w : World} {base g n cap i : Nat} {R : List RowI} (r : RowI) (h : OwnI w base (.slice (some ⟨g, 0, none⟩) n cap) R) (hn : R.length = n) (hi : i < n) : OwnI (w.setCell ⟨g, i, none⟩ r.v) base (.slice (some ⟨g, 0, none⟩) n cap) (R.set i r) := by
  subst hn
  have h' : w.ownsRow base 62 1 (.slice (some ⟨g, 0, none⟩) R.length cap) R.length (cellsI R) := h
  have := ownsRow_put1 (u := r.v) h' hi
  unfold OwnI
  rw [List.length_set]
  have e : cellsI (R.set i r) = (cellsI R).set i r.v := by unfold cellsI; rw [List.map_set]
  rw [e]
  exact this
/-- Appending one row, that lies in a block of its own. -/
theorem wpList_append_rowI {w : World} {ops : Array Oper} {rest : List Oper} {o : Oper} {a : Act} {Q : Exit → Act → World → Prop} (hgd : o.guard = none) (s x : Operand)
    (ho : o.op = .call { callee := .builtin .append, args := #[s, x], argTypes := #[49, 49] })
    (base : Nat) (v : Value) (R : List RowI) (n : Nat) (hln : R.length = n) (g : Nat) (r : RowI) (hs : a.eval s = v) (hown : OwnI w base v R)
    (hx : a.eval x = .slice (some ⟨g, 0, none⟩) 1 1) (h0 : w.cell? ⟨g, 0, none⟩ = some r.v) (hn : n ≤ 100000) (hbase : base ≤ w.heap.size)
    (h : ∀ g' cap w', OwnI w' base (.slice (some ⟨g', 0, none⟩) (n + 1) cap) (R ++ [r]) → w.grownBy w' v.ownBlock → (v.ownBlock = some g' ∨ g' = w.heap.size) → wpList Try.prog ops Q rest (a.put o.dst (.slice (some ⟨g', 0, none⟩) (n + 1) cap)) w') : wpList Try.prog ops Q (o :: rest) a w := by
  subst hln
  obtain ⟨i0, hi, hz0, hz1, hz2⟩ := info_parts Try.infoRowI
  refine wpList_append_lies w hgd s x _ ho base _ i0 _ 1 24 Try.underlying49 hi hz0 hz1 hz2 rfl (by decide) v R.length (cellsI R) hs hown ⟨g, 0, none⟩ 1 1 (cellsI [r]) hx rfl ?_ (cellsI_one [r])
      (by decide) (by unfold maxLen; omega) (by omega) hbase _ rfl (fun g' cap w' h1 h2 h3 _ => h g' cap w' ?_ h2 h3)
  · intro j u hu
    rw [flat3]
    match j, hu with
    | 0, hu => simp [cellsI] at hu; subst hu; exact h0
  · unfold OwnI
    rw [show cellsI (R ++ [r]) = cellsI R ++ cellsI [r] by unfold cellsI; rw [List.map_append], List.length_append]
    exact h1
end Go.Proofs.Ytbdfmnlfdhhnjaa

/-
  Plain mathematics of rows of tuples: the rounds of the reference's loops; rows that can be; what is played: no program in sight.
-/
namespace Go.Proofs.Ytbdfmnlfdhhnjaa
set_option linter.unusedVariables false
set_option linter.unusedSimpArgs false

theorem snocS {α : Type} {L : List α} {k : Nat} {p : α} (h : L[k]? = some p) : L.take (k + 1) = L.take k ++ [p] := by
  rw [List.take_add_one, h]; rfl
theorem lastLo_snoc (a : Int) (S : List SpotV) (s : SpotV) : lastLo a (S ++ [s]) = s.lo := by unfold lastLo; rw [List.getLast?_concat]
/-- One spot more of a row's. -/
theorem spots_step {L : List TupV} {k : Nat} {p : TupV} (h : L[k]? = some p) : spotsT 0 (L.take (k + 1)) = spotsT 0 (L.take k) ++ [⟨p.x, lastLo 0 (spotsT 0 (L.take k)) + p.st, lastLo 0 (spotsT 0 (L.take k)) + p.st + p.sl⟩] ∧ lastLo 0 (spotsT 0 (L.take (k + 1))) = lastLo 0 (spotsT 0 (L.take k)) + p.st := by
  rw [snocS h, spots_app]
  have e : spotsT (lastLo 0 (spotsT 0 (L.take k))) [p] = [⟨p.x, lastLo 0 (spotsT 0 (L.take k)) + p.st, lastLo 0 (spotsT 0 (L.take k)) + p.st + p.sl⟩] := rfl
  rw [e]
  exact ⟨rfl, lastLo_snoc _ _ _⟩
/-- One tuple more of spots' row. -/
theorem row_step {S : List SpotV} {k : Nat} {s : SpotV} (h : S[k]? = some s) : rowT 0 (S.take (k + 1)) = rowT 0 (S.take k) ++ [⟨s.x, s.lo - lastLo 0 (S.take k), s.hi - s.lo⟩] ∧ lastLo 0 (S.take (k + 1)) = s.lo := by
  rw [snocS h, row_app]
  exact ⟨rfl, lastLo_snoc _ _ _⟩

/-! ### Squeezed, a round -/
theorem sqz_end (lim : Int) (p s : SpotV) : sqzR lim p [s] = [s] := by unfold sqzR; rfl
/-- What a round from behind finds and leaves. -/
theorem sqz_at {lim : Int} {S : List SpotV} {i : Nat} {p s : SpotV} (hp : S[i]? = some p) (hs : S[i + 1]? = some s) (hn : i + 2 < S.length) :
    sqzR lim p (S.drop (i + 1)) = if hiS (sqzR lim s (S.drop (i + 2))) - p.lo ≤ lim then sqzR lim s (S.drop (i + 2)) else s :: sqzR lim s (S.drop (i + 2)) := by
  have e : S.drop (i + 1) = s :: S.drop (i + 2) := by
    have hl : i + 1 < S.length := by omega
    rw [List.drop_eq_getElem_cons hl]
    rw [List.getElem?_eq_getElem hl] at hs
    rw [Option.some.inj hs]
  cases hd : S.drop (i + 2) with
  | nil =>
    have := congrArg List.length hd
    rw [List.length_drop, List.length_nil] at this
    omega
  | cons t r =>
    rw [e, hd]
    rw [sqzR]
theorem sqz_head {lim : Int} {r : List SpotV} {p : SpotV} (h : r ≠ []) : ∃ q t, sqzR lim p r = q :: t ∧ hiS (sqzR lim p r) = q.hi ∧ q ∈ r := by
  have h1 := sqzR_ne lim r p h
  cases hq : sqzR lim p r with
  | nil => exact absurd hq h1
  | cons q t =>
    refine ⟨q, t, rfl, rfl, (sqzR_sub lim r p).subset ?_⟩
    rw [hq]; exact List.mem_cons_self
theorem sqz_len (lim : Int) (p : SpotV) (r : List SpotV) : (sqzR lim p r).length ≤ r.length := (sqzR_sub lim r p).length_le
theorem sqzS_is {lim : Int} {S : List SpotV} {p : SpotV} (hp : S[0]? = some p) : sqzS lim S = S.take 1 ++ sqzR lim p (S.drop 1) := by
  cases S with
  | nil => cases hp
  | cons s r =>
    have : s = p := Option.some.inj hp
    subst this
    rfl
theorem sqzS_short {lim : Int} {S : List SpotV} (h : S.length ≤ 1) : sqzS lim S = S := by
  cases S with
  | nil => rfl
  | cons s r =>
    cases r with
    | nil => unfold sqzS sqzR; rfl
    | cons t q => simp at h

/-! ### Merged, a round -/
theorem drop_is {α : Type} {L : List α} {i : Nat} {s : α} (h : L[i]? = some s) : L.drop i = s :: L.drop (i + 1) := by
  have hl : i < L.length := by
    rcases Nat.lt_or_ge i L.length with h1 | h1
    · exact h1
    · rw [List.getElem?_eq_none h1] at h; cases h
  rw [List.drop_eq_getElem_cons hl]
  rw [List.getElem?_eq_getElem hl] at h
  rw [Option.some.inj h]
/-- What is left to merge. -/
def leftS (a b : List SpotV) (i k : Nat) : List SpotV := mrgS (totS a) (totS b) (lastLo 0 (a.take i)) (lastLo 0 (b.take k)) (a.drop i) (b.drop k)
theorem left_all (a b : List SpotV) : leftS a b 0 0 = mergeS a b := rfl
theorem left_none (a b : List SpotV) : leftS a b a.length b.length = [] := by
  unfold leftS; rw [List.drop_length, List.drop_length]; unfold mrgS; rfl
theorem left_a {a b : List SpotV} {i : Nat} {s : SpotV} (hs : a[i]? = some s) : leftS a b i b.length = ⟨s.x, s.lo + lastLo 0 (b.take b.length), s.hi + totS b⟩ :: leftS a b (i + 1) b.length := by
  unfold leftS
  rw [List.drop_length, drop_is hs, snocS hs, lastLo_snoc]
  conv => lhs; unfold mrgS
theorem left_b {a b : List SpotV} {k : Nat} {t : SpotV} (ht : b[k]? = some t) : leftS a b a.length k = ⟨t.x, t.lo + lastLo 0 (a.take a.length), t.hi + totS a⟩ :: leftS a b a.length (k + 1) := by
  unfold leftS
  rw [List.drop_length, drop_is ht, snocS ht, lastLo_snoc]
  conv => lhs; unfold mrgS
theorem left_le {a b : List SpotV} {i k : Nat} {s t : SpotV} (hs : a[i]? = some s) (ht : b[k]? = some t) (h : s.x ≤ t.x) : leftS a b i k = ⟨s.x, s.lo + lastLo 0 (b.take k), s.hi + t.hi - 1⟩ :: leftS a b (i + 1) k := by
  unfold leftS
  rw [snocS hs, lastLo_snoc, drop_is hs, drop_is ht]
  conv => lhs; unfold mrgS
  rw [if_pos h]
theorem left_gt {a b : List SpotV} {i k : Nat} {s t : SpotV} (hs : a[i]? = some s) (ht : b[k]? = some t) (h : ¬ s.x ≤ t.x) : leftS a b i k = ⟨t.x, t.lo + lastLo 0 (a.take i), t.hi + s.hi - 1⟩ :: leftS a b i (k + 1) := by
  unfold leftS
  rw [snocS ht, lastLo_snoc, drop_is hs, drop_is ht]
  conv => lhs; unfold mrgS
  rw [if_neg h]
theorem last_takeS {S : List SpotV} {k : Nat} {p : SpotV} (h : S[k]? = some p) : lastLo 0 (S.take (k + 1)) = p.lo := by rw [snocS h, lastLo_snoc]
theorem last_zero (S : List SpotV) : lastLo 0 (S.take 0) = 0 := rfl
theorem tot_last (S : List SpotV) : totS S = lastLo 0 S := by unfold totS lastLo; rfl
theorem mrg_len (ta tb : Int) : ∀ (n : Nat) (la lb : Int) (a b : List SpotV), a.length + b.length ≤ n → (mrgS ta tb la lb a b).length = a.length + b.length
  | n, la, lb, [], [], _ => by unfold mrgS; rfl
  | 0, la, lb, s :: r, b, hn => by simp at hn
  | 0, la, lb, [], t :: q, hn => by simp at hn
  | n + 1, la, lb, s :: r, [], hn => by
    have ih := mrg_len ta tb n s.lo lb r [] (by simp at hn ⊢; omega)
    unfold mrgS; simp only [List.length_cons, ih]; simp
  | n + 1, la, lb, [], t :: q, hn => by
    have ih := mrg_len ta tb n la t.lo [] q (by simp at hn ⊢; omega)
    unfold mrgS; simp only [List.length_cons, ih]; simp
  | n + 1, la, lb, s :: r, t :: q, hn => by
    have i1 := mrg_len ta tb n s.lo lb r (t :: q) (by simp at hn ⊢; omega)
    have i2 := mrg_len ta tb n la t.lo (s :: r) q (by simp at hn ⊢; omega)
    unfold mrgS
    split
    · simp only [List.length_cons, i1]; omega
    · simp only [List.length_cons, i2]; omega
theorem merge_len (a b : List SpotV) : (mergeS a b).length = a.length + b.length := mrg_len _ _ _ _ _ a b (Nat.le_refl _)

/-! ### Values that are there -/
/-- Each spot's value is one of all. -/
def HasS (A : List Int) (S : List SpotV) : Prop := ∀ s, s ∈ S → s.x ∈ A
theorem HasS.nil (A : List Int) : HasS A [] := fun s h => by cases h
theorem mem_un {A : List Int} {x : Int} (h : x ∈ A) : unV A x + 1 ≤ upV A x := by
  induction A with
  | nil => cases h
  | cons z r ih =>
    have := unV_up r x
    rw [unV_cons, upV_cons]
    rcases List.mem_cons.1 h with e | e
    · subst e
      rw [if_neg (by omega), if_pos (by omega)]; omega
    · have := ih e
      split <;> split <;> omega
theorem newS_x (P Q : List SpotV) (x : Int) : (newS P Q x).x = x := by unfold newS; split <;> rfl
theorem HasS.ins {A : List Int} {S : List SpotV} (h : HasS A S) (x : Int) : HasS (A ++ [x]) (insS S x) := by
  intro s hm
  unfold insS at hm
  rcases List.mem_append.1 hm with hm | hm
  · exact List.mem_append_left _ (h s (ah_mem hm).1)
  · rcases List.mem_cons.1 hm with e | hm
    · rw [e, newS_x]; exact List.mem_append_right _ List.mem_cons_self
    · unfold upS at hm
      obtain ⟨q, hq, rfl⟩ := List.mem_map.1 hm
      exact List.mem_append_left _ (h q (bh_mem hq).1)
theorem HasS.sqz {A : List Int} {S : List SpotV} {lim : Int} (h : HasS A S) : HasS A (sqzS lim S) := fun s hs => h s ((sqzS_sub lim S).subset hs)
theorem mrg_mem {ta tb : Int} : ∀ (n : Nat) (la lb : Int) (a b : List SpotV), a.length + b.length ≤ n → ∀ u, u ∈ mrgS ta tb la lb a b → (∃ s, s ∈ a ∧ u.x = s.x) ∨ ∃ t, t ∈ b ∧ u.x = t.x
  | n, la, lb, [], [], _, u, hu => by unfold mrgS at hu; cases hu
  | 0, la, lb, s :: r, b, hn, u, hu => by simp at hn
  | 0, la, lb, [], t :: q, hn, u, hu => by simp at hn
  | n + 1, la, lb, s :: r, [], hn, u, hu => by
    have ih := mrg_mem (ta := ta) (tb := tb) n s.lo lb r [] (by simp at hn ⊢; omega) u
    unfold mrgS at hu
    rcases List.mem_cons.1 hu with e | e
    · exact Or.inl ⟨s, List.mem_cons_self, by rw [e]⟩
    · rcases ih e with ⟨v, hv, hx⟩ | h
      · exact Or.inl ⟨v, List.mem_cons_of_mem _ hv, hx⟩
      · exact Or.inr h
  | n + 1, la, lb, [], t :: q, hn, u, hu => by
    have ih := mrg_mem (ta := ta) (tb := tb) n la t.lo [] q (by simp at hn ⊢; omega) u
    unfold mrgS at hu
    rcases List.mem_cons.1 hu with e | e
    · exact Or.inr ⟨t, List.mem_cons_self, by rw [e]⟩
    · rcases ih e with h | ⟨v, hv, hx⟩
      · exact Or.inl h
      · exact Or.inr ⟨v, List.mem_cons_of_mem _ hv, hx⟩
  | n + 1, la, lb, s :: r, t :: q, hn, u, hu => by
    have i1 := mrg_mem (ta := ta) (tb := tb) n s.lo lb r (t :: q) (by simp at hn ⊢; omega) u
    have i2 := mrg_mem (ta := ta) (tb := tb) n la t.lo (s :: r) q (by simp at hn ⊢; omega) u
    unfold mrgS at hu
    split at hu
    · rcases List.mem_cons.1 hu with e | e
      · exact Or.inl ⟨s, List.mem_cons_self, by rw [e]⟩
      · rcases i1 e with ⟨v, hv, hx⟩ | h
        · exact Or.inl ⟨v, List.mem_cons_of_mem _ hv, hx⟩
        · exact Or.inr h
    · rcases List.mem_cons.1 hu with e | e
      · exact Or.inr ⟨t, List.mem_cons_self, by rw [e]⟩
      · rcases i2 e with h | ⟨v, hv, hx⟩
        · exact Or.inl h
        · exact Or.inr ⟨v, List.mem_cons_of_mem _ hv, hx⟩
theorem HasS.merge {A B : List Int} {a b : List SpotV} (ha : HasS A a) (hb : HasS B b) : HasS (A ++ B) (mergeS a b) := by
  intro u hu
  rcases mrg_mem _ _ _ a b (Nat.le_refl _) u hu with ⟨s, hs, e⟩ | ⟨s, hs, e⟩
  · rw [e]; exact List.mem_append_left _ (ha s hs)
  · rw [e]; exact List.mem_append_right _ (hb s hs)
theorem merge_x {a b : List SpotV} {P : Int → Prop} (ha : ∀ s, s ∈ a → P s.x) (hb : ∀ s, s ∈ b → P s.x) : ∀ u, u ∈ mergeS a b → P u.x := by
  intro u hu
  rcases mrg_mem _ _ _ a b (Nat.le_refl _) u hu with ⟨s, hs, e⟩ | ⟨s, hs, e⟩
  · rw [e]; exact ha s hs
  · rw [e]; exact hb s hs

/-! ### What is played: the spots, and all values -/
/-- Spots that tell of the values A. -/
structure ToldS (A : List Int) (S : List SpotV) : Prop where
  can : SpotsP 0 A.length S
  first : FirstS S
  placed : PlacedS A S
  has : HasS A S
theorem ToldS.nil : ToldS [] [] := ⟨rfl, FirstS.nil, PlacedS.nil _, HasS.nil _⟩
theorem ToldS.ins {A : List Int} {S : List SpotV} (h : ToldS A S) (x : Int) : ToldS (A ++ [x]) (insS S x) :=
  ⟨by have := h.can.ins x; rw [List.length_append]; exact this, h.first.ins h.can x, h.placed.ins h.can h.first x, h.has.ins x⟩
theorem ToldS.sqz {A : List Int} {S : List SpotV} (h : ToldS A S) (lim : Int) : ToldS A (sqzS lim S) := ⟨h.can.sqz, h.first.sqz, h.placed.sqz, h.has.sqz⟩
theorem ToldS.merge {A B : List Int} {a b : List SpotV} (ha : ToldS A a) (hb : ToldS B b) : ToldS (A ++ B) (mergeS a b) :=
  ⟨by have := SpotsP.merge ha.can hb.can; rw [List.length_append]; exact this, ha.first.merge hb.first, PlacedS.merge ha.can hb.can ha.placed hb.placed, ha.has.merge hb.has⟩
theorem ToldS.none_iff {A : List Int} {S : List SpotV} (h : ToldS A S) : S = [] ↔ A = [] := by
  constructor
  · intro e
    subst e
    have h1 : (0 : Int) = A.length := h.can
    exact List.eq_nil_of_length_eq_zero (by omega)
  · intro e
    subst e
    cases S with
    | nil => rfl
    | cons s r =>
      have h1 := h.can.1
      have h2 := h.can.2.1
      have h3 : s.hi ≤ ((0 : Nat) : Int) := h.can.2.2.1
      omega
theorem insS_len {n a : Int} {S : List SpotV} (h : SpotsP a n S) (x : Int) : (insS S x).length = S.length + 1 := by
  have := congrArg List.length (part_x x h)
  rw [List.length_append] at this
  unfold insS upS
  rw [List.length_append, List.length_cons, List.length_map]; omega
theorem sqzS_len (lim : Int) (S : List SpotV) : (sqzS lim S).length ≤ S.length := (sqzS_sub lim S).length_le
/-- A step: a value, or a limit. -/
structure StepV where
  x : Int
  lim : Int
  sq : Bool
deriving DecidableEq, Inhabited
def stepS (p : List SpotV × List Int) (s : StepV) : List SpotV × List Int := if s.sq then (sqzS s.lim p.1, p.2) else (insS p.1 s.x, p.2 ++ [s.x])
def playS (L : List StepV) : List SpotV × List Int := L.foldl stepS ([], [])
theorem play_snoc (L : List StepV) (s : StepV) : playS (L ++ [s]) = stepS (playS L) s := by unfold playS; rw [List.foldl_append]; rfl
theorem step_told (s : StepV) {p : List SpotV × List Int} (h : ToldS p.2 p.1) : ToldS (stepS p s).2 (stepS p s).1 ∧ (stepS p s).1.length ≤ p.1.length + 1 ∧ (stepS p s).2.length ≤ p.2.length + 1 := by
  unfold stepS
  split
  · exact ⟨h.sqz _, by have := sqzS_len s.lim p.1; show (sqzS s.lim p.1).length ≤ _; omega, by show p.2.length ≤ _; omega⟩
  · exact ⟨h.ins _, by show (insS p.1 s.x).length ≤ _; rw [insS_len h.can]; omega, by show (p.2 ++ [s.x]).length ≤ _; rw [List.length_append]; exact Nat.le_refl _⟩
theorem play_from : ∀ (L : List StepV) (p : List SpotV × List Int), ToldS p.2 p.1 → ToldS (L.foldl stepS p).2 (L.foldl stepS p).1 ∧ (L.foldl stepS p).1.length ≤ p.1.length + L.length ∧ (L.foldl stepS p).2.length ≤ p.2.length + L.length
  | [], p, h => ⟨h, Nat.le_refl _, Nat.le_refl _⟩
  | s :: r, p, h => by
    obtain ⟨h1, h2, h3⟩ := step_told s h
    obtain ⟨k1, k2, k3⟩ := play_from r (stepS p s) h1
    rw [List.foldl_cons, List.length_cons]
    exact ⟨k1, by omega, by omega⟩
theorem play_told (L : List StepV) : ToldS (playS L).2 (playS L).1 ∧ (playS L).1.length ≤ L.length ∧ (playS L).2.length ≤ L.length := by
  have h := play_from L ([], []) ToldS.nil
  exact ⟨h.1, by have := h.2.1; rw [List.length_nil] at this; unfold playS; omega, by have := h.2.2; rw [List.length_nil] at this; unfold playS; omega⟩
end Go.Proofs.Ytbdfmnlfdhhnjaa

/-
  Plain mathematics of rows of tuples: which rows can be; the rounds of the laws' own loops: no program in sight.
-/
namespace Go.Proofs.Ytbdfmnlfdhhnjaa
set_option linter.unusedVariables false
set_option linter.unusedSimpArgs false

/-! ### Sums -/
def sumT : List TupV → Int
  | [] => 0
  | p :: r => p.st + sumT r
theorem sumT_app : ∀ (L M : List TupV), sumT (L ++ M) = sumT L + sumT M
  | [], M => by show sumT M = 0 + sumT M; omega
  | p :: r, M => by
    rw [List.cons_append]
    show p.st + sumT (r ++ M) = p.st + sumT r + sumT M
    rw [sumT_app r M]; omega
theorem sumT_pos : ∀ {L : List TupV}, (∀ p, p ∈ L → 0 ≤ p.st) → 0 ≤ sumT L
  | [], h => Int.le_refl _
  | p :: r, h => by
    have h1 := h p List.mem_cons_self
    have h2 := sumT_pos (L := r) fun q hq => h q (List.mem_cons_of_mem _ hq)
    show 0 ≤ p.st + sumT r; omega
theorem sumT_step {L : List TupV} {k : Nat} {p : TupV} (h : L[k]? = some p) : sumT (L.take (k + 1)) = sumT (L.take k) + p.st := by
  rw [snocS h, sumT_app]; show _ + (p.st + 0) = _; omega
theorem sumT_take {L : List TupV} (h : ∀ p, p ∈ L → 0 ≤ p.st) (k : Nat) : 0 ≤ sumT (L.take k) ∧ sumT (L.take k) ≤ sumT L := by
  have h1 := sumT_pos (L := L.take k) fun p hp => h p (List.mem_of_mem_take hp)
  have h2 := sumT_pos (L := L.drop k) fun p hp => h p (List.mem_of_mem_drop hp)
  have h3 : sumT (L.take k ++ L.drop k) = _ := sumT_app _ _
  rw [List.take_append_drop] at h3
  omega
theorem last_sum : ∀ (L : List TupV) (a : Int), lastLo a (spotsT a L) = a + sumT L
  | [], a => by show a = a + 0; omega
  | p :: r, a => by
    show lastLo a (_ :: spotsT (a + p.st) r) = a + (p.st + sumT r)
    rw [lastLo_cons, last_sum r (a + p.st)]; omega

/-! ### Which rows can be -/
/-- Tuples that can be, behind a place a and a value q (none: they are the first ones), of n in all. -/
def CanT (n : Int) : Int → Option Int → List TupV → Prop
  | _, _, [] => True
  | a, q, p :: r => 0 < p.st ∧ p.sl ≤ n - (a + p.st) ∧ (q = none → p.st = 1 ∧ p.sl = 0) ∧ (∀ y, q = some y → y ≤ p.x) ∧ CanT n (a + p.st) (some p.x) r
def lastX (q : Option Int) (L : List TupV) : Option Int := match L.getLast? with | none => q | some p => some p.x
theorem lastX_cons (q : Option Int) (p : TupV) (r : List TupV) : lastX q (p :: r) = lastX (some p.x) r := by
  unfold lastX
  cases r with
  | nil => rfl
  | cons u v =>
    rw [List.getLast?_cons_cons]
    cases h : (u :: v).getLast? with
    | none => rw [List.getLast?_eq_none_iff] at h; cases h
    | some w => rfl
theorem can_app (n : Int) (M : List TupV) : ∀ (L : List TupV) (a : Int) (q : Option Int), CanT n a q (L ++ M) ↔ CanT n a q L ∧ CanT n (a + sumT L) (lastX q L) M
  | [], a, q => by
    show CanT n a q M ↔ True ∧ CanT n (a + 0) q M
    rw [Int.add_zero]; exact ⟨fun h => ⟨trivial, h⟩, fun h => h.2⟩
  | p :: r, a, q => by
    rw [List.cons_append, lastX_cons]
    have ih := can_app n M r (a + p.st) (some p.x)
    have e : a + sumT (p :: r) = a + p.st + sumT r := by show a + (p.st + sumT r) = _; omega
    rw [e]
    constructor
    · rintro ⟨h1, h2, h3, h4, h5⟩
      exact ⟨⟨h1, h2, h3, h4, (ih.1 h5).1⟩, (ih.1 h5).2⟩
    · rintro ⟨⟨h1, h2, h3, h4, h5⟩, h6⟩
      exact ⟨h1, h2, h3, h4, ih.2 ⟨h5, h6⟩⟩
theorem lastX_take {L : List TupV} : ∀ (k : Nat), k ≤ L.length → lastX none (L.take k) = if k = 0 then none else (L[k - 1]?).map TupV.x
  | 0, _ => rfl
  | k + 1, h => by
    have hx := List.getElem?_eq_getElem (l := L) (i := k) (by omega)
    rw [snocS hx, if_neg (by omega), Nat.add_sub_cancel, hx]
    unfold lastX
    rw [List.getLast?_concat]; rfl
/-- A round: one tuple more. -/
theorem can_step {n : Int} {L : List TupV} {k : Nat} {p : TupV} (h : L[k]? = some p) : CanT n 0 none (L.take (k + 1)) ↔ CanT n 0 none (L.take k) ∧ 0 < p.st ∧ p.sl ≤ n - (sumT (L.take k) + p.st) ∧ (k = 0 → p.st = 1 ∧ p.sl = 0) ∧ (∀ y, 0 < k → (L[k - 1]?).map TupV.x = some y → y ≤ p.x) := by
  have hk : k < L.length := by
    rcases Nat.lt_or_ge k L.length with h1 | h1
    · exact h1
    · rw [List.getElem?_eq_none h1] at h; cases h
  rw [snocS h, can_app, Int.zero_add, lastX_take k (by omega)]
  constructor
  · rintro ⟨h0, h1, h2, h3, h4, _⟩
    refine ⟨h0, h1, h2, fun e => h3 (by rw [if_pos e]), fun y hy e => h4 y (by rw [if_neg (by omega)]; exact e)⟩
  · rintro ⟨h0, h1, h2, h3, h4⟩
    refine ⟨h0, h1, h2, fun e => h3 ?_, fun y e => ?_, trivial⟩
    · by_cases hz : k = 0
      · exact hz
      · rw [if_neg hz] at e
        rw [List.getElem?_eq_getElem (by omega)] at e; cases e
    · by_cases hz : k = 0
      · rw [if_pos hz] at e; cases e
      · rw [if_neg hz] at e; exact h4 y (by omega) e
theorem can_take {n : Int} {L : List TupV} (k : Nat) (h : CanT n 0 none L) : CanT n 0 none (L.take k) := by
  have h' := h
  rw [← List.take_append_drop k L, can_app] at h'
  exact h'.1
theorem spots_x (L : List TupV) (a : Int) : ∀ s, s ∈ spotsT a L → ∃ p, p ∈ L ∧ s.x = p.x := by
  induction L generalizing a with
  | nil => intro s h; cases h
  | cons p r ih =>
    intro s h
    unfold spotsT at h
    rcases List.mem_cons.1 h with e | e
    · exact ⟨p, List.mem_cons_self, by rw [e]⟩
    · obtain ⟨q, hq, e⟩ := ih _ s e
      exact ⟨q, List.mem_cons_of_mem _ hq, e⟩
theorem spots_head (L : List TupV) (a : Int) : (spotsT a L).head? = L.head?.map fun p => ⟨p.x, a + p.st, a + p.st + p.sl⟩ := by
  cases L with
  | nil => rfl
  | cons p r => rfl
theorem can_spots {n : Int} : ∀ (L : List TupV) (a : Int) (q : Option Int), (∀ p, p ∈ L → 0 ≤ p.sl) → a + sumT L = n → (CanT n a q L ↔ SpotsP a n (spotsT a L) ∧ (q = none → ∀ p, L.head? = some p → p.st = 1 ∧ p.sl = 0) ∧ (∀ y, q = some y → ∀ p, L.head? = some p → y ≤ p.x))
  | [], a, q, _, hn => by
    have e : a = n := by rw [← hn]; show a = a + 0; omega
    exact ⟨fun _ => ⟨e, fun _ p hp => (by cases hp), fun _ _ p hp => (by cases hp)⟩, fun _ => trivial⟩
  | p :: r, a, q, hp, hn => by
    have e : a + p.st + sumT r = n := by rw [← hn]; show _ = a + (p.st + sumT r); omega
    have ih := can_spots (n := n) r (a + p.st) (some p.x) (fun q hq => hp q (List.mem_cons_of_mem _ hq)) e
    have hs := hp p List.mem_cons_self
    constructor
    · rintro ⟨h1, h2, h3, h4, h5⟩
      obtain ⟨i1, _, i3⟩ := ih.1 h5
      refine ⟨⟨by show a < a + p.st; omega, by show a + p.st ≤ a + p.st + p.sl; omega, by show a + p.st + p.sl ≤ n; omega, fun t ht => ?_, i1⟩, fun e u hu => ?_, fun y e u hu => ?_⟩
      · rw [spots_head] at ht
        cases hh : r.head? with
        | none => rw [hh] at ht; cases ht
        | some u =>
          rw [hh] at ht
          have := i3 p.x rfl u hh
          rw [← Option.some.inj ht]; exact this
      · have : p = u := Option.some.inj hu
        rw [← this]; exact h3 e
      · have : p = u := Option.some.inj hu
        rw [← this]; exact h4 y e
    · rintro ⟨⟨h1, h2, h3, h4, h5⟩, h6, h7⟩
      have h1 : a < a + p.st := h1
      have h3 : a + p.st + p.sl ≤ n := h3
      refine ⟨by omega, by omega, fun e => h6 e p rfl, fun y e => h7 y e p rfl, ih.2 ⟨h5, fun e => (by cases e), fun y e u hu => ?_⟩⟩
      have := h4 ⟨u.x, a + p.st + u.st, a + p.st + u.st + u.sl⟩ (by rw [spots_head, hu]; rfl)
      have ey : p.x = y := Option.some.inj e
      rw [← ey]; exact this
/-- A row that can be. -/
structure GoodT (L : List TupV) : Prop where
  max : sumT L ≤ 9223372036854775807
  can : SpotsP 0 (sumT L) (spotsT 0 L)
  first : FirstS (spotsT 0 L)
theorem good_can {L : List TupV} (hp : ∀ p, p ∈ L → 0 ≤ p.sl) : GoodT L ↔ sumT L ≤ 9223372036854775807 ∧ CanT (sumT L) 0 none L := by
  have h := can_spots (n := sumT L) L 0 none hp (by omega)
  have hf : FirstS (spotsT 0 L) ↔ ∀ p, L.head? = some p → p.st = 1 ∧ p.sl = 0 := by
    unfold FirstS
    rw [spots_head]
    constructor
    · intro hh p e
      have h1 := hh ⟨p.x, 0 + p.st, 0 + p.st + p.sl⟩ (by rw [e]; rfl)
      simp only at h1
      omega
    · intro hh s e
      cases hL : L.head? with
      | none => rw [hL] at e; cases e
      | some p =>
        rw [hL] at e
        have h1 := hh p hL
        rw [← Option.some.inj e]
        simp only
        omega
  constructor
  · rintro ⟨h1, h2, h3⟩
    exact ⟨h1, h.2 ⟨h2, fun _ => hf.1 h3, fun y e => (by cases e)⟩⟩
  · rintro ⟨h1, h2⟩
    obtain ⟨k1, k2, _⟩ := h.1 h2
    exact ⟨h1, k1, hf.2 (k2 rfl)⟩
theorem sum_row {n : Int} {S : List SpotV} (h : SpotsP 0 n S) : sumT (rowT 0 S) = n := by
  have h1 := last_sum (rowT 0 S) 0
  rw [spots_row, ← tot_last] at h1
  cases S with
  | nil => have h : (0 : Int) = n := h; rw [← h]; rfl
  | cons s r => rw [h.tot (by simp)] at h1; omega
theorem ToldS.good {A : List Int} {S : List SpotV} (h : ToldS A S) (hn : (A.length : Int) ≤ 9223372036854775807) : GoodT (rowT 0 S) := by
  have e := sum_row h.can
  exact ⟨by omega, by rw [spots_row, e]; exact h.can, by rw [spots_row]; exact h.first⟩
theorem sum_told {A : List Int} {S : List SpotV} (h : ToldS A S) : sumT (rowT 0 S) = A.length := sum_row h.can
theorem row_mem : ∀ (S : List SpotV) (a : Int) (p : TupV), p ∈ rowT a S → ∃ s, s ∈ S ∧ p.x = s.x
  | [], a, p, h => by cases h
  | s :: r, a, p, h => by
    unfold rowT at h
    rcases List.mem_cons.1 h with e | e
    · exact ⟨s, List.mem_cons_self, by rw [e]⟩
    · obtain ⟨t, ht, e⟩ := row_mem r _ p e
      exact ⟨t, List.mem_cons_of_mem _ ht, e⟩
/-- Bounds of a row's tuples. -/
theorem row_bd {n : Int} : ∀ {S : List SpotV} {a : Int}, SpotsP a n S → 0 ≤ a → ∀ p, p ∈ rowT a S → 0 < p.st ∧ p.st ≤ n ∧ 0 ≤ p.sl ∧ p.sl ≤ n
  | [], a, h, _, p, hp => by cases hp
  | s :: r, a, h, ha, p, hp => by
    have h1 := h.1
    have h2 := h.2.1
    have h3 := h.2.2.1
    unfold rowT at hp
    rcases List.mem_cons.1 hp with e | e
    · subst e; simp only; omega
    · exact row_bd h.2.2.2.2 (by omega) p e
theorem ToldS.x_mem {A : List Int} {S : List SpotV} (h : ToldS A S) : ∀ p, p ∈ rowT 0 S → p.x ∈ A := fun p hp => by
  obtain ⟨s, hs, e⟩ := row_mem S 0 p hp
  rw [e]; exact h.has s hs
/-- A row with a value more; squeezed; two as one. -/
def insT (L : List TupV) (x : Int) : List TupV := rowT 0 (insS (spotsT 0 L) x)
def sqzT (lim : Int) (L : List TupV) : List TupV := rowT 0 (sqzS lim (spotsT 0 L))
def mergeT (L M : List TupV) : List TupV := rowT 0 (mergeS (spotsT 0 L) (spotsT 0 M))
theorem ins_row (S : List SpotV) (x : Int) : insT (rowT 0 S) x = rowT 0 (insS S x) := by unfold insT; rw [spots_row]
theorem sqz_row (S : List SpotV) (lim : Int) : sqzT lim (rowT 0 S) = rowT 0 (sqzS lim S) := by unfold sqzT; rw [spots_row]
theorem merge_row (S T : List SpotV) : mergeT (rowT 0 S) (rowT 0 T) = rowT 0 (mergeS S T) := by unfold mergeT; rw [spots_row, spots_row]

/-! ### The laws' loops -/
def pickS (t : Int) (b : Option SpotV) (s : SpotV) : Option SpotV := match b with | none => some s | some b => some (if farS t s < farS t b then s else b)
theorem close_snoc (t : Int) (s : SpotV) : ∀ (S : List SpotV) (b : Option SpotV), closeS t b (S ++ [s]) = pickS t (closeS t b S) s
  | [], none => rfl
  | [], some b => rfl
  | u :: r, none => by rw [List.cons_append]; unfold closeS; exact close_snoc t s r _
  | u :: r, some b => by rw [List.cons_append]; unfold closeS; exact close_snoc t s r _
theorem close_step {t : Int} {S : List SpotV} {k : Nat} {s : SpotV} (h : S[k]? = some s) : closeS t none (S.take (k + 1)) = pickS t (closeS t none (S.take k)) s := by rw [snocS h, close_snoc]
theorem rankLo_step {x : Int} {S : List SpotV} {k : Nat} {s : SpotV} (h : S[k]? = some s) : rankLo (S.take (k + 1)) x = if s.x ≤ x then s.lo else rankLo (S.take k) x := by
  rw [snocS h]
  unfold rankLo ahS
  rw [List.filter_append]
  by_cases c : s.x ≤ x
  · rw [List.filter_cons_of_pos (by simpa using c), List.filter_nil, List.getLast?_concat, if_pos c]
  · rw [List.filter_cons_of_neg (by simpa using c), List.filter_nil, List.append_nil, if_neg c]
theorem rankHi_step {x n : Int} {S : List SpotV} {k : Nat} {s : SpotV} (h : S[k]? = some s) : rankHi (S.drop k) n x = if x < s.x then s.hi - 1 else rankHi (S.drop (k + 1)) n x := by
  rw [drop_is h]
  unfold rankHi bhS
  by_cases c : x < s.x
  · rw [List.filter_cons_of_pos (by simpa using c), if_pos c]; rfl
  · rw [List.filter_cons_of_neg (by simpa using c), if_neg c]
theorem upV_step {A : List Int} {k : Nat} {y : Int} (h : A[k]? = some y) (x : Int) : upV (A.take (k + 1)) x = upV (A.take k) x + if y ≤ x then 1 else 0 := by rw [snocS h, upV_app, upV_one]
theorem unV_step {A : List Int} {k : Nat} {y : Int} (h : A[k]? = some y) (x : Int) : unV (A.take (k + 1)) x = unV (A.take k) x + if y < x then 1 else 0 := by rw [snocS h, unV_app, unV_one]
/-- The greatest of step and slack. -/
def mostT : List TupV → Int
  | [] => 0
  | p :: r => max (p.st + p.sl) (mostT r)
theorem most_app : ∀ (L M : List TupV), 0 ≤ mostT M → mostT (L ++ M) = max (mostT L) (mostT M)
  | [], M, h => by show mostT M = max 0 (mostT M); omega
  | p :: r, M, h => by
    rw [List.cons_append]
    show max _ (mostT (r ++ M)) = max (max _ (mostT r)) (mostT M)
    rw [most_app r M h]; omega
theorem most_pos : ∀ (L : List TupV), 0 ≤ mostT L
  | [] => Int.le_refl _
  | p :: r => by have := most_pos r; show 0 ≤ max _ (mostT r); omega
theorem most_step {L : List TupV} {k : Nat} {p : TupV} (h : L[k]? = some p) (h0 : 0 ≤ p.st + p.sl) : mostT (L.take (k + 1)) = max (mostT (L.take k)) (p.st + p.sl) := by
  have e : mostT [p] = p.st + p.sl := by show max _ 0 = _; omega
  rw [snocS h, most_app _ _ (by rw [e]; exact h0), e]
theorem most_steps : ∀ (S : List SpotV) (a g : Int), mostT (rowT a S) ≤ g → StepsP g a S
  | [], a, g, h => trivial
  | s :: r, a, g, h => by
    have h' : max (s.lo - a + (s.hi - s.lo)) (mostT (rowT s.lo r)) ≤ g := h
    exact ⟨by omega, most_steps r s.lo g (by omega)⟩
theorem play_mem : ∀ (L : List StepV) (p : List SpotV × List Int) (x : Int), x ∈ (L.foldl stepS p).2 → x ∈ p.2 ∨ ∃ s, s ∈ L ∧ x = s.x
  | [], p, x, h => Or.inl h
  | s :: r, p, x, h => by
    rw [List.foldl_cons] at h
    rcases play_mem r _ x h with k | ⟨t, ht, e⟩
    · unfold stepS at k
      split at k
      · exact Or.inl k
      · rcases List.mem_append.1 k with k | k
        · exact Or.inl k
        · exact Or.inr ⟨s, List.mem_cons_self, List.mem_singleton.1 k⟩
    · exact Or.inr ⟨t, List.mem_cons_of_mem _ ht, e⟩
theorem play_step {L : List StepV} {k : Nat} {s : StepV} (h : L[k]? = some s) : playS (L.take (k + 1)) = stepS (playS (L.take k)) s := by rw [snocS h, play_snoc]
end Go.Proofs.Ytbdfmnlfdhhnjaa

/-
  Plain mathematics of stage 19: a sketch's spots and the values that wait; flushed, put, joined: placed, and tight: no program in sight.
-/
namespace Go.Proofs.Ytbdfmnlfdhhnjaa
set_option linter.unusedVariables false
set_option linter.unusedSimpArgs false

/-- The limit of a closeness that can be. -/
def limG (u v n : Int) : Int := max (2 * u * n / v) 1
theorem limG_pos (u v n : Int) : 1 ≤ limG u v n := by unfold limG; omega
theorem quo_le {u v n : Int} (hv : 0 < v) (hu : 2 * u ≤ v) (hn : 0 ≤ n) : 2 * u * n / v ≤ n := by
  have h1 : 2 * u * n ≤ v * n := Int.mul_le_mul_of_nonneg_right hu hn
  have h2 : 2 * u * n / v ≤ v * n / v := Int.ediv_le_ediv hv h1
  rw [Int.mul_ediv_cancel_left _ (by omega)] at h2
  exact h2
theorem quo_nn {u v n : Int} (hu : 0 ≤ u) (hv : 0 < v) (hn : 0 ≤ n) : 0 ≤ 2 * u * n / v := Int.ediv_nonneg (Int.mul_nonneg (by omega) hn) (by omega)
theorem quo_mono {u v n m : Int} (hu : 0 ≤ u) (hv : 0 < v) (h : n ≤ m) : 2 * u * n / v ≤ 2 * u * m / v := Int.ediv_le_ediv hv (Int.mul_le_mul_of_nonneg_left h (by omega))
theorem quo_add {u v n m : Int} (hv : 0 < v) : 2 * u * n / v + 2 * u * m / v ≤ 2 * u * (n + m) / v := by
  rw [Int.mul_add]
  generalize 2 * u * n = a
  generalize 2 * u * m = b
  have h1 := Int.mul_ediv_add_emod a v
  have h2 := Int.mul_ediv_add_emod b v
  have h3 := Int.emod_nonneg a (show v ≠ 0 by omega)
  have h4 := Int.emod_nonneg b (show v ≠ 0 by omega)
  apply Int.le_ediv_of_mul_le hv
  rw [Int.add_mul, Int.mul_comm (a / v), Int.mul_comm (b / v)]
  omega
theorem limG_mono {u v n m : Int} (hu : 0 ≤ u) (hv : 0 < v) (h : n ≤ m) : limG u v n ≤ limG u v m := by
  have := quo_mono hu hv h
  unfold limG; omega
theorem limG_add {u v n m : Int} (hu : 0 ≤ u) (hv : 0 < v) (hn : 0 ≤ n) (hm : 0 ≤ m) : limG u v n + limG u v m - 1 ≤ limG u v (n + m) := by
  have h1 := quo_add (u := u) (n := n) (m := m) hv
  have h2 := quo_nn hu hv hn
  have h3 := quo_nn hu hv hm
  unfold limG; omega
/-- Half of the limit is no further than is told. -/
theorem half_close {u v n g : Int} (hu : 0 ≤ u) (hv : 0 < v) (hn : 0 ≤ n) (h0 : 0 ≤ g) (h : g ≤ limG u v n / 2) : g * v ≤ u * n := by
  have hq := quo_nn hu hv hn
  unfold limG at h
  have h2 : 2 * g ≤ 2 * u * n / v := by omega
  have h3 : 2 * g * v ≤ 2 * u * n / v * v := Int.mul_le_mul_of_nonneg_right h2 (by omega)
  have h4 := Int.ediv_mul_le (2 * u * n) (show v ≠ 0 by omega)
  have h5 : 2 * g * v = 2 * (g * v) := Int.mul_assoc _ _ _
  have h6 : 2 * u * n = 2 * (u * n) := Int.mul_assoc _ _ _
  omega

/-! ### In order -/
def insI (x : Int) (L : List Int) : List Int := L.takeWhile (fun y => decide (y ≤ x)) ++ x :: L.dropWhile (fun y => decide (y ≤ x))
def sortI (W : List Int) : List Int := W.foldl (fun L x => insI x L) []
theorem insI_perm (x : Int) (L : List Int) : (insI x L).Perm (x :: L) := by
  unfold insI
  have h := List.takeWhile_append_dropWhile (p := fun y => decide (y ≤ x)) (l := L)
  have h2 := List.perm_middle (a := x) (l₁ := L.takeWhile fun y => decide (y ≤ x)) (l₂ := L.dropWhile fun y => decide (y ≤ x))
  rw [h] at h2
  exact h2
theorem sort_from : ∀ (W L : List Int), (W.foldl (fun L x => insI x L) L).Perm (L ++ W)
  | [], L => by rw [List.append_nil]; exact List.Perm.refl _
  | x :: r, L => by
    rw [List.foldl_cons]
    refine (sort_from r (insI x L)).trans ?_
    refine ((insI_perm x L).append_right r).trans ?_
    exact (List.perm_middle (a := x) (l₁ := L) (l₂ := r)).symm
theorem sortI_perm (W : List Int) : (sortI W).Perm W := sort_from W []
theorem sortI_len (W : List Int) : (sortI W).length = W.length := (sortI_perm W).length_eq
theorem sortI_mem {W : List Int} {x : Int} : x ∈ sortI W ↔ x ∈ W := (sortI_perm W).mem_iff

/-! ### What is told hangs on the values alone -/
theorem upV_perm {A B : List Int} (h : A.Perm B) (x : Int) : upV A x = upV B x := by unfold upV; rw [(h.filter _).length_eq]
theorem unV_perm {A B : List Int} (h : A.Perm B) (x : Int) : unV A x = unV B x := by unfold unV; rw [(h.filter _).length_eq]
theorem ToldS.perm {A B : List Int} {S : List SpotV} (h : ToldS A S) (hp : A.Perm B) : ToldS B S :=
  ⟨by rw [← hp.length_eq]; exact h.can, h.first, fun s hs => by rw [← upV_perm hp, ← unV_perm hp]; exact h.placed s hs, fun s hs => hp.mem_iff.1 (h.has s hs)⟩
theorem ToldS.insL {A : List Int} : ∀ {L : List Int} {S : List SpotV}, ToldS A S → ToldS (A ++ L) (L.foldl insS S)
  | [], S, h => by rw [List.append_nil]; exact h
  | x :: r, S, h => by
    rw [List.foldl_cons]
    have := ToldS.insL (L := r) (h.ins x)
    rw [List.append_assoc] at this
    exact this

/-! ### Tight rows -/
theorem StepsP.mono {g g' : Int} (hg : g ≤ g') : ∀ {S : List SpotV} {a : Int}, StepsP g a S → StepsP g' a S
  | [], a, h => trivial
  | s :: r, a, h => ⟨by have := h.1; omega, StepsP.mono hg h.2⟩
theorem StepsP.app {g : Int} {T : List SpotV} : ∀ {S : List SpotV} {a : Int}, StepsP g a (S ++ T) ↔ StepsP g a S ∧ StepsP g (lastLo a S) T
  | [], a => ⟨fun h => ⟨trivial, h⟩, fun h => h.2⟩
  | s :: r, a => by
    rw [List.cons_append, lastLo_cons]
    have ih := StepsP.app (g := g) (T := T) (S := r) (a := s.lo)
    exact ⟨fun h => ⟨⟨h.1, (ih.1 h.2).1⟩, (ih.1 h.2).2⟩, fun h => ⟨h.1.1, ih.2 ⟨h.1.2, h.2⟩⟩⟩
theorem StepsP.up {g : Int} : ∀ {S : List SpotV} {a : Int}, StepsP g a S → StepsP g (a + 1) (upS S)
  | [], a, h => trivial
  | s :: r, a, h => ⟨by show s.hi + 1 - (a + 1) ≤ g; have := h.1; omega, StepsP.up (a := s.lo) h.2⟩
theorem StepsP.ins {g n : Int} {S : List SpotV} (h : StepsP g 0 S) (hs : SpotsP 0 n S) (hg : 1 ≤ g) (x : Int) : StepsP g 0 (insS S x) := by
  have hp := part_x x hs
  rw [hp, StepsP.app] at h
  unfold insS
  rw [StepsP.app]
  refine ⟨h.1, ?_⟩
  have h2 := h.2
  generalize ahS S x = P at *
  generalize bhS S x = Q at *
  unfold newS
  cases hP : P.getLast? with
  | none =>
    have e : lastLo 0 P = 0 := by unfold lastLo; rw [hP]
    rw [e] at h2 ⊢
    refine ⟨by show (1 : Int) - 0 ≤ g; omega, ?_⟩
    show StepsP g 1 (upS Q)
    exact h2.up
  | some p =>
    have e : lastLo 0 P = p.lo := by unfold lastLo; rw [hP]
    rw [e] at h2 ⊢
    cases Q with
    | nil => exact ⟨by show p.lo + 1 - p.lo ≤ g; omega, trivial⟩
    | cons q r => exact ⟨by show q.hi - p.lo ≤ g; exact h2.1, h2.up⟩
theorem StepsP.insL {g : Int} (hg : 1 ≤ g) : ∀ {L : List Int} {A : List Int} {S : List SpotV}, StepsP g 0 S → ToldS A S → StepsP g 0 (L.foldl insS S)
  | [], A, S, h, _ => h
  | x :: r, A, S, h, ht => by
    rw [List.foldl_cons]
    exact StepsP.insL hg (h.ins ht.can hg x) (ht.ins x)
theorem sqzR_steps {g lim : Int} (hg : lim ≤ g) : ∀ (r : List SpotV) (p : SpotV), StepsP g p.lo r → StepsP g p.lo (sqzR lim p r)
  | [], p, h => h
  | [s], p, h => h
  | s :: t :: r, p, h => by
    have ih := sqzR_steps hg (t :: r) s h.2
    have hne := sqzR_ne lim (t :: r) s (by simp)
    rw [sqzR]
    generalize sqzR lim s (t :: r) = R at *
    cases R with
    | nil => exact absurd rfl hne
    | cons q R' =>
      by_cases c : hiS (q :: R') - p.lo ≤ lim
      · rw [if_pos c]
        have c' : q.hi - p.lo ≤ lim := c
        exact ⟨by omega, ih.2⟩
      · rw [if_neg c]
        exact ⟨h.1, ih⟩
theorem StepsP.sqz {g lim : Int} (hg : lim ≤ g) {S : List SpotV} (h : StepsP g 0 S) : StepsP g 0 (sqzS lim S) := by
  cases S with
  | nil => trivial
  | cons s r => exact ⟨h.1, sqzR_steps hg r s h.2⟩
theorem mrg_steps {ga gb na nb : Int} (ha0 : 1 ≤ ga) (hb0 : 1 ≤ gb) : ∀ (n : Nat) (la lb : Int) (a b : List SpotV), a.length + b.length ≤ n → SpotsP la na a → SpotsP lb nb b → StepsP ga la a → StepsP gb lb b → StepsP (ga + gb - 1) (la + lb) (mrgS na nb la lb a b)
  | n, la, lb, [], [], _, _, _, _, _ => by unfold mrgS; trivial
  | 0, la, lb, s :: r, b, hn, _, _, _, _ => by simp at hn
  | 0, la, lb, [], t :: q, hn, _, _, _, _ => by simp at hn
  | n + 1, la, lb, s :: r, [], hn, ha, hb, sa, sb => by
    have ih := mrg_steps ha0 hb0 n s.lo lb r [] (by simp at hn ⊢; omega) ha.2.2.2.2 hb sa.2 sb
    have e2 : lb = nb := hb
    have h1 := sa.1
    unfold mrgS
    exact ⟨by show s.hi + nb - (la + lb) ≤ ga + gb - 1; omega, ih⟩
  | n + 1, la, lb, [], t :: q, hn, ha, hb, sa, sb => by
    have ih := mrg_steps ha0 hb0 n la t.lo [] q (by simp at hn ⊢; omega) ha hb.2.2.2.2 sa sb.2
    have e1 : la = na := ha
    have h1 := sb.1
    unfold mrgS
    exact ⟨by show t.hi + na - (la + lb) ≤ ga + gb - 1; omega, by show StepsP _ (t.lo + la) _; rw [show t.lo + la = la + t.lo by omega]; exact ih⟩
  | n + 1, la, lb, s :: r, t :: q, hn, ha, hb, sa, sb => by
    have h1 := sa.1
    have h2 := sb.1
    unfold mrgS
    split
    · have ih := mrg_steps ha0 hb0 n s.lo lb r (t :: q) (by simp at hn ⊢; omega) ha.2.2.2.2 hb sa.2 sb
      exact ⟨by show s.hi + t.hi - 1 - (la + lb) ≤ ga + gb - 1; omega, ih⟩
    · have ih := mrg_steps ha0 hb0 n la t.lo (s :: r) q (by simp at hn ⊢; omega) ha hb.2.2.2.2 sa sb.2
      exact ⟨by show t.hi + s.hi - 1 - (la + lb) ≤ ga + gb - 1; omega, by show StepsP _ (t.lo + la) _; rw [show t.lo + la = la + t.lo by omega]; exact ih⟩
theorem tot_told {A : List Int} {S : List SpotV} (h : ToldS A S) : totS S = A.length := by
  cases S with
  | nil =>
    have : (0 : Int) = A.length := h.can
    rw [totS_nil]; exact this
  | cons s r => exact h.can.tot (by simp)
theorem StepsP.merge {ga gb : Int} {A B : List Int} {a b : List SpotV} (ha0 : 1 ≤ ga) (hb0 : 1 ≤ gb) (ha : ToldS A a) (hb : ToldS B b) (sa : StepsP ga 0 a) (sb : StepsP gb 0 b) : StepsP (ga + gb - 1) 0 (mergeS a b) := by
  have h := mrg_steps ha0 hb0 (a.length + b.length) 0 0 a b (Nat.le_refl _) ha.can hb.can sa sb
  unfold mergeS
  rw [tot_told ha, tot_told hb]
  exact h
/-- The closest one to a place. -/
theorem close_told {S : List SpotV} {V : List Int} {g t : Int} (h : ToldS V S) (hs : StepsP g 0 S) (t1 : 1 ≤ t) (t2 : t ≤ V.length) : ∃ c, closeS t none S = some c ∧ c ∈ S ∧ unV V c.x + 1 ≤ t + g / 2 ∧ t ≤ upV V c.x + g / 2 ∧ unV V c.x + 1 ≤ upV V c.x := by
  obtain ⟨c, c1, c2, c3⟩ := close_half h.can h.first hs t1 t2
  obtain ⟨p1, p2⟩ := h.placed c c2
  unfold farS at c3
  exact ⟨c, c1, c2, by omega, by omega, mem_un (h.has c c2)⟩

/-! ### A sketch -/
abbrev GwV := List SpotV × List Int
def totG (s : GwV) : Int := totS s.1 + s.2.length
def flushG (u v : Int) (s : GwV) : GwV := if s.2 = [] then s else (sqzS (limG u v (totG s)) ((sortI s.2).foldl insS s.1), [])
def put1G (u v : Int) (s : GwV) (x : Int) : GwV := if s.2.length + 1 = 16 then flushG u v (s.1, s.2 ++ [x]) else (s.1, s.2 ++ [x])
def putG (u v : Int) (s : GwV) (x : Int) : Nat → GwV
  | 0 => s
  | n + 1 => put1G u v (putG u v s x n) x
def joinG (u v : Int) (s t : GwV) : GwV := (sqzS (limG u v (totS (flushG u v s).1 + totS (flushG u v t).1)) (mergeS (flushG u v s).1 (flushG u v t).1), [])
def buildG (u v : Int) (A : List PairV) : GwV := A.foldl (fun s p => putG u v s p.1 p.2.toNat) ([], [])
theorem build_snoc (u v : Int) (A : List PairV) (p : PairV) : buildG u v (A ++ [p]) = putG u v (buildG u v A) p.1 p.2.toNat := by unfold buildG; rw [List.foldl_append]; rfl
/-- A sketch that tells of the values V. -/
structure GwOk (u v : Int) (V : List Int) (s : GwV) : Prop where
  told : ∃ F, ToldS F s.1 ∧ (F ++ s.2).Perm V
  few : s.2.length < 16
  tight : StepsP (limG u v (totS s.1)) 0 s.1
theorem GwOk.nil (u v : Int) : GwOk u v [] ([], []) := ⟨⟨[], ToldS.nil, List.Perm.refl _⟩, by decide, trivial⟩
theorem GwOk.tot {u v : Int} {V : List Int} {s : GwV} (h : GwOk u v V s) : totG s = V.length := by
  obtain ⟨F, h1, h2⟩ := h.told
  have := h2.length_eq
  rw [List.length_append] at this
  unfold totG
  rw [tot_told h1]
  omega
theorem GwOk.perm {u v : Int} {V V' : List Int} {s : GwV} (h : GwOk u v V s) (hp : V.Perm V') : GwOk u v V' s := by
  obtain ⟨F, h1, h2⟩ := h.told
  exact ⟨⟨F, h1, h2.trans hp⟩, h.few, h.tight⟩
theorem flush_any {u v : Int} {V : List Int} {s : GwV} (hu : 0 ≤ u) (hv : 0 < v) (htold : ∃ F, ToldS F s.1 ∧ (F ++ s.2).Perm V) (htight : StepsP (limG u v (totS s.1)) 0 s.1) : GwOk u v V (flushG u v s) ∧ (flushG u v s).2 = [] ∧ ToldS V (flushG u v s).1 := by
  obtain ⟨F, h1, h2⟩ := htold
  unfold flushG
  by_cases c : s.2 = []
  · rw [if_pos c]
    rw [c, List.append_nil] at h2
    exact ⟨⟨⟨V, h1.perm h2, by rw [c, List.append_nil]⟩, by rw [c]; decide, htight⟩, c, h1.perm h2⟩
  · rw [if_neg c]
    have t1 := h1.insL (L := sortI s.2)
    have t2 : ToldS V ((sortI s.2).foldl insS s.1) := t1.perm (((sortI_perm s.2).append_left F).trans h2)
    have e1 := tot_told h1
    have e2 : totG s = V.length := by
      have := h2.length_eq
      rw [List.length_append] at this
      unfold totG
      omega
    have t3 := t2.sqz (limG u v (totG s))
    have e3 := tot_told t3
    have hm : limG u v (totS s.1) ≤ limG u v (totG s) := limG_mono hu hv (by unfold totG; omega)
    refine ⟨⟨⟨V, t3, by rw [List.append_nil]⟩, by show ([] : List Int).length < 16; decide, ?_⟩, rfl, t3⟩
    show StepsP (limG u v (totS (sqzS (limG u v (totG s)) _))) 0 (sqzS (limG u v (totG s)) _)
    rw [e3, ← e2]
    exact StepsP.sqz (Int.le_refl _) (StepsP.insL (limG_pos _ _ _) (htight.mono hm) h1)
theorem GwOk.flush {u v : Int} {V : List Int} {s : GwV} (hu : 0 ≤ u) (hv : 0 < v) (h : GwOk u v V s) : GwOk u v V (flushG u v s) ∧ (flushG u v s).2 = [] ∧ ToldS V (flushG u v s).1 := flush_any hu hv h.told h.tight
theorem GwOk.put1 {u v : Int} {V : List Int} {s : GwV} (hu : 0 ≤ u) (hv : 0 < v) (h : GwOk u v V s) (x : Int) : GwOk u v (V ++ [x]) (put1G u v s x) := by
  obtain ⟨F, h1, h2⟩ := h.told
  have hp : (F ++ (s.2 ++ [x])).Perm (V ++ [x]) := by rw [← List.append_assoc]; exact h2.append_right _
  unfold put1G
  by_cases c : s.2.length + 1 = 16
  · rw [if_pos c]
    exact (flush_any (s := (s.1, s.2 ++ [x])) hu hv ⟨F, h1, hp⟩ h.tight).1
  · rw [if_neg c]
    exact ⟨⟨F, h1, hp⟩, by show (s.2 ++ [x]).length < 16; rw [List.length_append]; have := h.few; simp; omega, h.tight⟩
theorem GwOk.put {u v : Int} {V : List Int} {s : GwV} (hu : 0 ≤ u) (hv : 0 < v) (h : GwOk u v V s) (x : Int) : ∀ n, GwOk u v (V ++ List.replicate n x) (putG u v s x n)
  | 0 => by show GwOk u v (V ++ []) s; rw [List.append_nil]; exact h
  | n + 1 => by
    have := (GwOk.put hu hv h x n).put1 hu hv x
    rw [List.append_assoc, ← List.replicate_succ'] at this
    exact this
theorem GwOk.join {u v : Int} {V V' : List Int} {s t : GwV} (hu : 0 ≤ u) (hv : 0 < v) (h : GwOk u v V s) (k : GwOk u v V' t) : GwOk u v (V ++ V') (joinG u v s t) ∧ ToldS (V ++ V') (joinG u v s t).1 := by
  obtain ⟨h1, h2, h3⟩ := h.flush hu hv
  obtain ⟨k1, k2, k3⟩ := k.flush hu hv
  have e1 := tot_told h3
  have e2 := tot_told k3
  have hm := (h3.merge k3).sqz (limG u v (totS (flushG u v s).1 + totS (flushG u v t).1))
  have e3 := tot_told hm
  have hst := StepsP.merge (limG_pos u v _) (limG_pos u v _) h3 k3 h1.tight k1.tight
  have hadd := limG_add (n := totS (flushG u v s).1) (m := totS (flushG u v t).1) hu hv (by omega) (by omega)
  refine ⟨⟨⟨V ++ V', hm, by rw [show (joinG u v s t).2 = [] from rfl, List.append_nil]⟩, by show ([] : List Int).length < 16; decide, ?_⟩, hm⟩
  show StepsP (limG u v (totS (sqzS _ _))) 0 (sqzS _ _)
  rw [e3, List.length_append, Int.natCast_add, ← e1, ← e2]
  exact StepsP.sqz (Int.le_refl _) (hst.mono hadd)
/-- All values, each so often. -/
def allG (A : List PairV) : List Int := A.flatMap fun p => List.replicate p.2.toNat p.1
theorem all_snoc (A : List PairV) (p : PairV) : allG (A ++ [p]) = allG A ++ List.replicate p.2.toNat p.1 := by unfold allG; rw [List.flatMap_append]; simp
theorem build_ok {u v : Int} (hu : 0 ≤ u) (hv : 0 < v) : ∀ (n : Nat) (A : List PairV), A.length = n → GwOk u v (allG A) (buildG u v A)
  | 0, A, hn => by rw [List.eq_nil_of_length_eq_zero hn]; exact GwOk.nil u v
  | n + 1, A, hn => by
    have hne : A ≠ [] := fun e => by rw [e] at hn; cases hn
    have e := List.dropLast_concat_getLast hne
    have ih := build_ok hu hv n A.dropLast (by rw [List.length_dropLast]; omega)
    have := ih.put hu hv (A.getLast hne).1 (A.getLast hne).2.toNat
    rw [← all_snoc, ← build_snoc, e] at this
    exact this
theorem up_rep (n : Nat) (y x : Int) : upV (List.replicate n y) x = if y ≤ x then (n : Int) else 0 := by
  induction n with
  | zero => rw [List.replicate_zero, upV_nil]; split <;> rfl
  | succ n ih => rw [List.replicate_succ, upV_cons, ih]; split <;> omega
theorem un_rep (n : Nat) (y x : Int) : unV (List.replicate n y) x = if y < x then (n : Int) else 0 := by
  induction n with
  | zero => rw [List.replicate_zero, unV_nil]; split <;> rfl
  | succ n ih => rw [List.replicate_succ, unV_cons, ih]; split <;> omega
theorem insI_cons (x y : Int) (r : List Int) : insI x (y :: r) = if y ≤ x then y :: insI x r else x :: y :: r := by
  unfold insI
  by_cases c : y ≤ x
  · rw [if_pos c, List.takeWhile_cons_of_pos (by simpa using c), List.dropWhile_cons_of_pos (by simpa using c)]; rfl
  · rw [if_neg c, List.takeWhile_cons_of_neg (by simpa using c), List.dropWhile_cons_of_neg (by simpa using c)]; rfl
theorem insI_sorted {x : Int} : ∀ {L : List Int}, L.Pairwise (fun a b => a ≤ b) → (insI x L).Pairwise fun a b => a ≤ b
  | [], _ => List.pairwise_singleton _ _
  | y :: r, h => by
    obtain ⟨h1, h2⟩ := List.pairwise_cons.1 h
    rw [insI_cons]
    by_cases c : y ≤ x
    · rw [if_pos c]
      refine List.pairwise_cons.2 ⟨fun z hz => ?_, insI_sorted h2⟩
      rcases List.mem_cons.1 ((insI_perm x r).mem_iff.1 hz) with e | e
      · omega
      · exact h1 z e
    · rw [if_neg c]
      refine List.pairwise_cons.2 ⟨fun z hz => ?_, h⟩
      rcases List.mem_cons.1 hz with e | e
      · omega
      · have := h1 z e; omega
theorem sortI_sorted (W : List Int) : (sortI W).Pairwise fun a b => a ≤ b := by
  have : ∀ (W L : List Int), L.Pairwise (fun a b => a ≤ b) → (W.foldl (fun L x => insI x L) L).Pairwise fun a b => a ≤ b := by
    intro W
    induction W with
    | nil => intro L h; exact h
    | cons x r ih => intro L h; exact ih _ (insI_sorted h)
  exact this W [] List.Pairwise.nil
end Go.Proofs.Ytbdfmnlfdhhnjaa
