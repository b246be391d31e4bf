/-
  Walks: wide.Over, Floor and Ceil.
-/
import Derived.Test.YtjmkkglmckiknaaDivA
namespace Go.Proofs.Ytjmkkglmckiknaa
set_option linter.unusedVariables false
open Go.RowKit Go.Shelf

/-- A number divided, where the quotient has room; noughts, where it hasn't. -/
def ovB (n by' : Int) : Bool := decide (0 < by' ∧ n / by' < 18446744073709551616)
def ovQ (n by' : Int) : Int := if ovB n by' = true then n / by' else 0
def ovR (n by' : Int) : Int := if ovB n by' = true then n % by' else 0
theorem ov_iff {h l y : Int} (wh : Word h) (wl : Word l) (wy : Word y) : ovB (wval h l) y = true ↔ h < y := by
  unfold ovB Word at *
  rw [decide_eq_true_iff]
  constructor
  · rintro ⟨a, b⟩
    rw [Int.ediv_lt_iff_lt_mul a] at b
    unfold wval at b; omega
  · intro a
    refine ⟨by omega, ?_⟩
    rw [Int.ediv_lt_iff_lt_mul (by omega)]
    unfold wval; omega
theorem ov_yes {h l y : Int} (wh : Word h) (wl : Word l) (wy : Word y) (hy : h < y) : ovB (wval h l) y = true ∧ ovQ (wval h l) y = wval h l / y ∧ ovR (wval h l) y = wval h l % y := by
  have e := (ov_iff (l := l) wh wl wy).2 hy
  refine ⟨e, ?_, ?_⟩
  · unfold ovQ; rw [if_pos e]
  · unfold ovR; rw [if_pos e]
theorem ov_no {h l y : Int} (wh : Word h) (wl : Word l) (wy : Word y) (hy : ¬ h < y) : ovB (wval h l) y = false ∧ ovQ (wval h l) y = 0 ∧ ovR (wval h l) y = 0 := by
  have e : ovB (wval h l) y = false := by
    cases hb : ovB (wval h l) y with
    | false => rfl
    | true => exact absurd ((ov_iff wh wl wy).1 hb) hy
  refine ⟨e, ?_, ?_⟩
  · unfold ovQ; rw [e]; rfl
  · unfold ovR; rw [e]; rfl
theorem ov_word {n y : Int} (h0 : 0 ≤ n) (wy : Word y) : Word (ovQ n y) ∧ Word (ovR n y) := by
  unfold ovQ ovR Word at *
  split
  · rename_i h
    unfold ovB at h
    rw [decide_eq_true_iff] at h
    obtain ⟨a, b⟩ := h
    have h1 := Int.ediv_nonneg h0 (show 0 ≤ y by omega)
    have h2 := Int.emod_nonneg n (show y ≠ 0 by omega)
    have h3 := Int.emod_lt_of_pos n a
    omega
  · omega

set_option maxHeartbeats 400000 in
theorem over_any (h l y : Int) (wh : Word h) (wl : Word l) (wy : Word y) (w : World) :
    Calls Try.prog 48 #[.agg #[.int .u64 h, .int .u64 l], .int .u64 y] w fun e w' =>
      e = .returned (.tuple #[.int .u64 (ovQ (wval h l) y), .int .u64 (ovR (wval h l) y), .bool (ovB (wval h l) y)]) ∧ Below w.heap.size w w' := by
  by_cases hy : h < y
  · obtain ⟨e1, e2, e3⟩ := ov_yes wh wl wy hy
    have E1 := Lib.hid e1; have E2 := Lib.hid e2; have E3 := Lib.hid e3
    clear e1 e2 e3
    go_enter Try.func48, Try.ntmps48
    go_wp2_with fail
    refine (div64_any h l y wh wl wy hy _).mono ?_
    rintro e wA ⟨rfl, hbA⟩
    go_wp2_with fail
    refine bodyPost_ret (v := .tuple #[.int .u64 (wval h l / y), .int .u64 (wval h l % y), .bool true]) (by simp [results, Try.results48, go_sem]) rfl ⟨by rw [E1.out, E2.out, E3.out], ?_⟩
    exact ((Below.refl _ _).alloc (Nat.le_refl _) _).trans (hbA.mono (by simp))
  · obtain ⟨e1, e2, e3⟩ := ov_no (l := l) wh wl wy hy
    have E1 := Lib.hid e1; have E2 := Lib.hid e2; have E3 := Lib.hid e3
    clear e1 e2 e3
    go_enter Try.func48, Try.ntmps48
    go_wp2_with fail
    refine bodyPost_ret (v := .tuple #[.int .u64 0, .int .u64 0, .bool false]) (by simp [results, Try.results48, go_sem]) rfl ⟨by rw [E1.out, E2.out, E3.out], ?_⟩
    exact (Below.refl _ _).alloc (Nat.le_refl _) _

/-- The same, of a number that two words tell. -/
theorem over_num (n y : Int) (h0 : 0 ≤ n) (h1 : n < 340282366920938463463374607431768211456) (wy : Word y) (w : World) :
    Calls Try.prog 48 #[.agg #[.int .u64 (hiW n), .int .u64 (loW n)], .int .u64 y] w fun e w' =>
      e = .returned (.tuple #[.int .u64 (ovQ n y), .int .u64 (ovR n y), .bool (ovB n y)]) ∧ Below w.heap.size w w' := by
  have h := over_any (hiW n) (loW n) y (word_hi n) (word_lo n) wy w
  rw [wval_split h0 h1] at h
  exact h

set_option maxHeartbeats 400000 in
theorem floor_any (a b y : Int) (wa : Word a) (wb : Word b) (wy : Word y) (w : World) :
    Calls Try.prog 43 #[.int .u64 a, .int .u64 b, .int .u64 y] w fun e w' =>
      e = .returned (.tuple #[.int .u64 (ovQ (a * b) y), .bool (ovB (a * b) y)]) ∧ Below w.heap.size w w' := by
  obtain ⟨n0, n1⟩ := mul_bd wa wb
  go_enter Try.func43, Try.ntmps43
  go_wp2_with fail
  refine (times_any a b wa wb _).mono ?_
  rintro e wA ⟨rfl, hbA⟩
  go_wp2_with fail
  refine (over_num (a * b) y n0 n1 wy _).mono ?_
  rintro e wB ⟨rfl, hbB⟩
  go_wp2_with fail
  refine bodyPost_ret (v := .tuple #[.int .u64 (ovQ (a * b) y), .bool (ovB (a * b) y)]) (by simp [results, Try.results43, go_sem]) rfl ⟨rfl, ?_⟩
  exact hbA.trans (hbB.mono hbA.size)

/-- A product divided, rounded up. -/
def clB (n y : Int) : Bool := ovB n y && !(decide (0 < ovR n y) && ovQ n y == 18446744073709551615)
def clQ (n y : Int) : Int := if clB n y = true then (if 0 < ovR n y then ovQ n y + 1 else ovQ n y) else 0
theorem cl_zero {n y : Int} (h : ovR n y = 0) : clB n y = ovB n y ∧ clQ n y = ovQ n y := by
  have e : clB n y = ovB n y := by unfold clB; rw [h]; simp
  refine ⟨e, ?_⟩
  unfold clQ; rw [e, h]; simp only [Int.lt_irrefl, if_false]
  split
  · rfl
  · rename_i hn; unfold ovQ; rw [if_neg hn]
theorem ovR_pos {n y : Int} (h0 : 0 ≤ n) (wy : Word y) (h : ¬ ovR n y = 0) : 0 < ovR n y ∧ ovB n y = true := by
  have := (ov_word h0 wy).2.1
  refine ⟨by omega, ?_⟩
  cases hb : ovB n y with
  | true => rfl
  | false => exfalso; apply h; unfold ovR; rw [hb]; rfl
theorem cl_more {n y : Int} (h0 : 0 ≤ n) (wy : Word y) (h : ¬ ovR n y = 0) : ((ovQ n y + 1) / 18446744073709551616 == 0) = clB n y ∧ (ovQ n y + 1) % 18446744073709551616 = clQ n y := by
  obtain ⟨hp, hb⟩ := ovR_pos h0 wy h
  obtain ⟨q0, q1⟩ := (ov_word h0 wy).1
  have e : clB n y = ((ovQ n y + 1) / 18446744073709551616 == 0) := by
    unfold clB; rw [hb, decide_eq_true hp, Bool.true_and, Bool.true_and, Bool.eq_iff_iff]
    simp only [Bool.not_eq_true', beq_eq_false_iff_ne, beq_iff_eq, ne_eq]; omega
  refine ⟨e.symm, ?_⟩
  unfold clQ; rw [if_pos hp, e]
  split <;> simp_all <;> omega

end Go.Proofs.Ytjmkkglmckiknaa