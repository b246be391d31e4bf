/-
  Plain mathematics of numbers of 64 and of 128 bits: no program in sight.
-/
import Derived.Below
import Derived.Lib.Hide
import Derived.WalkKit
namespace Go.Proofs.Ytecnlpkfcggimaa
set_option linter.unusedVariables false

/-- A number that fits 64 bits without a sign. -/
def Word (x : Int) : Prop := 0 ≤ x ∧ x < 18446744073709551616
/-- The number that two words tell. -/
def wval (h l : Int) : Int := h * 18446744073709551616 + l
/-- The upper and the lower word of a number, modulo 2^128. -/
def hiW (n : Int) : Int := n / 18446744073709551616 % 18446744073709551616
def loW (n : Int) : Int := n % 18446744073709551616
/-- Whether a sum has no room in 128 bits; whether a difference is below 0. -/
def carryB (n : Int) : Bool := decide (340282366920938463463374607431768211456 ≤ n)
def belowB (n : Int) : Bool := decide (n < 0)

theorem word_hi (n : Int) : Word (hiW n) := by unfold Word hiW; omega
theorem word_lo (n : Int) : Word (loW n) := by unfold Word loW; omega
theorem wval_bd {h l : Int} (wh : Word h) (wl : Word l) : 0 ≤ wval h l ∧ wval h l < 340282366920938463463374607431768211456 := by
  unfold Word at *; unfold wval; omega
theorem hi_wval {h l : Int} (wh : Word h) (wl : Word l) : hiW (wval h l) = h := by
  unfold Word at *; unfold hiW wval; omega
theorem lo_wval {h l : Int} (wl : Word l) : loW (wval h l) = l := by
  unfold Word at *; unfold loW wval; omega
theorem wval_split {n : Int} (h0 : 0 ≤ n) (h1 : n < 340282366920938463463374607431768211456) : wval (hiW n) (loW n) = n := by
  unfold wval hiW loW; omega
theorem wval_mod (n : Int) : wval (hiW n) (loW n) = n % 340282366920938463463374607431768211456 := by
  unfold wval hiW loW; omega
theorem word_small {x : Int} (h0 : 0 ≤ x) (h1 : x ≤ 18446744073709551615) : Word x := ⟨h0, by omega⟩

/-- The borrow, under a name. -/
def bor (x y : Int) : Int := if x < y then 1 else 0
theorem bor_bd (x y : Int) : 0 ≤ bor x y ∧ bor x y ≤ 1 := by unfold bor; split <;> omega

/-- Add, word by word. -/
theorem add_lo (ah al bh bl : Int) : (al + bl) % 18446744073709551616 = loW (wval ah al + wval bh bl) := by
  unfold loW wval; omega
theorem add_hi (ah al bh bl : Int) : (ah + bh + (al + bl) / 18446744073709551616) % 18446744073709551616 = hiW (wval ah al + wval bh bl) := by
  unfold hiW wval; omega
theorem sub_lo (ah al bh bl : Int) : (al - bl) % 18446744073709551616 = loW (wval ah al - wval bh bl) := by
  unfold loW wval; omega
theorem sub_hi (ah al bh bl : Int) (wa : Word al) (wb : Word bl) : (ah - bh - bor al bl) % 18446744073709551616 = hiW (wval ah al - wval bh bl) := by
  unfold Word at *; unfold hiW wval bor; split <;> omega
theorem sub_below (ah al bh bl : Int) (wa : Word al) (wb : Word bl) : decide (ah < bh + bor al bl) = belowB (wval ah al - wval bh bl) := by
  unfold Word at *; unfold belowB wval bor; split <;> (apply decide_eq_decide.2; omega)

theorem less_lo (ah al bl : Int) : belowB (wval ah al - wval ah bl) = decide (al < bl) := by
  unfold belowB wval; apply decide_eq_decide.2; omega
theorem less_hi (ah al bh bl : Int) (wa : Word al) (wb : Word bl) (h : ¬ ah = bh) : belowB (wval ah al - wval bh bl) = decide (ah < bh) := by
  unfold Word at *; unfold belowB wval; apply decide_eq_decide.2; omega
theorem sub_bor (ah al bh bl : Int) (wa : Word al) (wb : Word bl) : (bor ah (bh + bor al bl) != 0) = belowB (wval ah al - wval bh bl) := by
  have h := sub_below ah al bh bl wa wb
  rw [← h]
  generalize bor al bl = k
  unfold bor
  split <;> simp_all

/-- Add by halves, as the reference does it: three ways. -/
theorem radd_lo (ah al bh bl : Int) : IntKind.u64.wrap (al + bl) = loW (wval ah al + wval bh bl) := by
  rw [IntKind.wrap_u64]; unfold loW wval; omega
theorem radd_hiA {ah al bh bl : Int} (wa : Word al) (wb : Word bl) (h : ¬ IntKind.u64.wrap (al + bl) < al) : IntKind.u64.wrap (ah + bh) = hiW (wval ah al + wval bh bl) := by
  rw [IntKind.wrap_u64] at *; unfold Word at *; unfold hiW wval; omega
theorem radd_cA {ah al bh bl : Int} (w1 : Word ah) (wa : Word al) (w3 : Word bh) (wb : Word bl) (h : ¬ IntKind.u64.wrap (al + bl) < al) : decide (IntKind.u64.wrap (ah + bh) < ah) = carryB (wval ah al + wval bh bl) := by
  rw [IntKind.wrap_u64] at *; unfold Word at *; unfold carryB wval; apply decide_eq_decide.2; omega
theorem radd_hiB {ah al bh bl : Int} (wa : Word al) (wb : Word bl) (h : IntKind.u64.wrap (al + bl) < al) : IntKind.u64.wrap (IntKind.u64.wrap (ah + bh) + 1) = hiW (wval ah al + wval bh bl) := by
  simp only [IntKind.wrap_u64] at *; unfold Word at *; unfold hiW wval; omega
theorem radd_cB1 {ah al bh bl : Int} (w1 : Word ah) (wa : Word al) (w3 : Word bh) (wb : Word bl) (h : IntKind.u64.wrap (al + bl) < al) (h2 : IntKind.u64.wrap (ah + bh) < ah) : true = carryB (wval ah al + wval bh bl) := by
  simp only [IntKind.wrap_u64] at *; unfold Word at *; unfold carryB wval; symm; apply decide_eq_true; omega
theorem radd_cB2 {ah al bh bl : Int} (w1 : Word ah) (wa : Word al) (w3 : Word bh) (wb : Word bl) (h : IntKind.u64.wrap (al + bl) < al) (h2 : ¬ IntKind.u64.wrap (ah + bh) < ah) : (IntKind.u64.wrap (IntKind.u64.wrap (ah + bh) + 1) == 0) = carryB (wval ah al + wval bh bl) := by
  simp only [IntKind.wrap_u64] at *; unfold Word at *; unfold carryB wval
  rw [Bool.eq_iff_iff]; simp only [beq_iff_eq, decide_eq_true_eq]; omega

/-- What is left, by the complement. -/
def compW (b : Int) : Int := 340282366920938463463374607431768211455 - b
theorem comp_wval (bh bl : Int) : wval (18446744073709551615 - bh) (18446744073709551615 - bl) = compW (wval bh bl) := by unfold wval compW; omega
theorem rsub_hi (a b : Int) : hiW (wval (hiW (a + compW b)) (loW (a + compW b)) + wval 0 1) = hiW (a - b) := by
  unfold hiW loW wval compW; omega
theorem rsub_lo (a b : Int) : loW (wval (hiW (a + compW b)) (loW (a + compW b)) + wval 0 1) = loW (a - b) := by
  unfold hiW loW wval compW; omega

/-- -1, 0 or 1. -/
def cmpW (a b : Int) : Int := if a < b then -1 else if a = b then 0 else 1
theorem cmp_eq (a : Int) : cmpW a a = 0 := by unfold cmpW; simp
theorem cmp_lt {ah al bh bl : Int} (h : wval ah al < wval bh bl) : cmpW (wval ah al) (wval bh bl) = -1 := by unfold cmpW; rw [if_pos h]
theorem cmp_gt {ah al bh bl : Int} (h : wval bh bl < wval ah al) : cmpW (wval ah al) (wval bh bl) = 1 := by
  unfold cmpW; rw [if_neg (by omega), if_neg (by omega)]
theorem wval_lt {ah al bh bl : Int} (wa : Word al) (wb : Word bl) : wval ah al < wval bh bl ↔ ah < bh ∨ ah = bh ∧ al < bl := by
  unfold Word at *; unfold wval; omega
theorem wval_inj {ah al bh bl : Int} (wa : Word al) (wb : Word bl) (h : wval ah al = wval bh bl) : ah = bh ∧ al = bl := by
  unfold Word at *; unfold wval at h; omega

open Go.RowKit in
/-- Behind a callee that makes memory: all old cells, and all old marks, read as before. -/
theorem bcell {W w1 : World} (hb : Below W.heap.size W w1) : (∀ b o, b < W.heap.size → w1.cell? ⟨b, o, none⟩ = W.cell? ⟨b, o, none⟩) ∧ (∀ b o, b < W.heap.size → w1.frozen? ⟨b, o, none⟩ = W.frozen? ⟨b, o, none⟩) :=
  ⟨fun b o h => hb.cell (p := ⟨b, o, none⟩) h, fun b o h => hb.frozen (p := ⟨b, o, none⟩) h⟩
theorem ret_int {k : IntKind} {a b : Int} (h : a = b) : Ending.returned (.int k a) = .returned (.int k b) := by rw [h]
theorem ret_bool {a b : Bool} (h : a = b) : Ending.returned (.bool a) = .returned (.bool b) := by rw [h]
theorem word_comp {b : Int} (h : Word b) : Word (18446744073709551615 - b) := by unfold Word at *; omega

/-- The sum of a row of numbers of two words. -/
def sumW : List (Int × Int) → Int
  | [] => 0
  | x :: r => wval x.1 x.2 + sumW r
theorem sumW_app (a b : List (Int × Int)) : sumW (a ++ b) = sumW a + sumW b := by
  induction a with
  | nil => simp [sumW]
  | cons x r ih => simp only [List.cons_append, sumW, ih]; omega
theorem sumW_take {xs : List (Int × Int)} {k : Nat} {x : Int × Int} (h : xs[k]? = some x) : sumW (xs.take (k + 1)) = sumW (xs.take k) + wval x.1 x.2 := by
  have hk : k < xs.length := by
    rcases Nat.lt_or_ge k xs.length with h' | h'
    · exact h'
    · rw [List.getElem?_eq_none h'] at h; cases h
  rw [List.take_succ_eq_append_getElem hk, sumW_app]
  have : xs[k] = x := by rw [List.getElem?_eq_getElem hk] at h; exact Option.some.inj h
  rw [this]; simp [sumW]
theorem sumW_nonneg {xs : List (Int × Int)} (h : ∀ x ∈ xs, Word x.1 ∧ Word x.2) : 0 ≤ sumW xs := by
  induction xs with
  | nil => simp [sumW]
  | cons x r ih =>
    have h1 := wval_bd (h x (by simp)).1 (h x (by simp)).2
    have h2 := ih (fun y hy => h y (by simp [hy]))
    simp only [sumW]; omega
/-- One step of a sum that goes round. -/
theorem sum_lo (S bh bl : Int) : (loW S + bl) % 18446744073709551616 = loW (S + wval bh bl) := by unfold loW wval; omega
theorem sum_hi (S bh bl : Int) : (hiW S + bh + (loW S + bl) / 18446744073709551616) % 18446744073709551616 = hiW (S + wval bh bl) := by
  unfold hiW loW wval; omega
theorem sum_carry {S bh bl : Int} (h0 : 0 ≤ S) (w1 : Word bh) (w2 : Word bl) : (carryB S || (hiW S + bh + (loW S + bl) / 18446744073709551616) / 18446744073709551616 != 0) = carryB (S + wval bh bl) := by
  unfold Word at *; unfold carryB hiW loW wval
  rw [Bool.eq_iff_iff]; simp only [Bool.or_eq_true, decide_eq_true_eq, bne_iff_ne]; omega

/-- Products of halves of 32 bits. -/
theorem half_mul {x y : Int} (hx : 0 ≤ x) (hx' : x < 4294967296) (hy : 0 ≤ y) (hy' : y < 4294967296) : 0 ≤ x * y ∧ x * y ≤ 18446744065119617025 := by
  refine ⟨Int.mul_nonneg hx hy, ?_⟩
  have h := Int.mul_le_mul (show x ≤ 4294967295 by omega) (show y ≤ 4294967295 by omega) hy (by omega)
  omega
theorem halves_mul (ah al bh bl : Int) : wval (ah * bh) (al * bl) + (ah * bl) * 4294967296 + (al * bh) * 4294967296 = (ah * 4294967296 + al) * (bh * 4294967296 + bl) := by
  unfold wval
  rw [Int.add_mul, Int.mul_add, Int.mul_add]
  have e1 : ah * 4294967296 * (bh * 4294967296) = ah * bh * 18446744073709551616 := by
    rw [Int.mul_assoc ah, ← Int.mul_assoc 4294967296 bh, Int.mul_comm 4294967296 bh, Int.mul_assoc bh, ← Int.mul_assoc]; rfl
  have e2 : ah * 4294967296 * bl = ah * bl * 4294967296 := by rw [Int.mul_assoc, Int.mul_comm 4294967296, ← Int.mul_assoc]
  have e3 : al * (bh * 4294967296) = al * bh * 4294967296 := by rw [Int.mul_assoc]
  rw [e1, e2, e3]; omega
theorem times_parts (a b : Int) : wval (a / 4294967296 * (b / 4294967296)) (a % 4294967296 * (b % 4294967296)) + (a / 4294967296 * (b % 4294967296)) * 4294967296 + (a % 4294967296 * (b / 4294967296)) * 4294967296 = a * b := by
  rw [halves_mul]
  congr 1 <;> omega
theorem shift_wval {m : Int} : wval (m / 4294967296) (m % 4294967296 * 4294967296) = m * 4294967296 := by unfold wval; omega
theorem hi_add (s v : Int) : hiW (wval (hiW s) (loW s) + v) = hiW (s + v) := by unfold hiW loW wval; omega
theorem lo_add (s v : Int) : loW (wval (hiW s) (loW s) + v) = loW (s + v) := by unfold hiW loW wval; omega

/-- The sum of a row of numbers. -/
def sumI : List Int → Int
  | [] => 0
  | x :: r => x + sumI r
theorem sumI_app (a b : List Int) : sumI (a ++ b) = sumI a + sumI b := by
  induction a with
  | nil => simp [sumI]
  | cons x r ih => simp only [List.cons_append, sumI, ih]; omega
theorem sumI_take {xs : List Int} {k : Nat} {x : Int} (h : xs[k]? = some x) : sumI (xs.take (k + 1)) = sumI (xs.take k) + x := by
  have hk : k < xs.length := by
    rcases Nat.lt_or_ge k xs.length with h' | h'
    · exact h'
    · rw [List.getElem?_eq_none h'] at h; cases h
  rw [List.take_succ_eq_append_getElem hk, sumI_app]
  have : xs[k] = x := by rw [List.getElem?_eq_getElem hk] at h; exact Option.some.inj h
  rw [this]; simp [sumI]
theorem sumI_nonneg {xs : List Int} (h : ∀ x ∈ xs, 0 ≤ x) : 0 ≤ sumI xs := by
  induction xs with
  | nil => simp [sumI]
  | cons x r ih =>
    have h1 := h x (by simp)
    have h2 := ih (fun y hy => h y (by simp [hy]))
    simp only [sumI]; omega
theorem sumI_mono {xs : List Int} (h : ∀ x ∈ xs, 0 ≤ x) (k : Nat) : sumI (xs.take k) ≤ sumI xs := by
  have e := sumI_app (xs.take k) (xs.drop k)
  rw [List.take_append_drop] at e
  have := sumI_nonneg (xs := xs.drop k) (fun x hx => h x (List.mem_of_mem_drop hx))
  omega
/-- A sum of counts. -/
def plB (xs : List Int) : Bool := decide (sumI xs ≤ 9223372036854775807)
def plQ (xs : List Int) : Int := if plB xs = true then sumI xs else 0

theorem mul_bd {a b : Int} (wa : Word a) (wb : Word b) : 0 ≤ a * b ∧ a * b < 340282366920938463463374607431768211456 := by
  obtain ⟨a0, a1⟩ := wa; obtain ⟨b0, b1⟩ := wb
  refine ⟨Int.mul_nonneg a0 b0, ?_⟩
  have := Int.mul_le_mul (show a ≤ 18446744073709551615 by omega) (show b ≤ 18446744073709551615 by omega) b0 (by omega)
  omega

end Go.Proofs.Ytecnlpkfcggimaa
