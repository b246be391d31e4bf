/-
  Plain mathematics of numbers as bytes, seven bits in each: no program in sight.
-/
import Derived.Test.YtecnlpkfcggimaaSignM
import Derived.Lib.Strings
import Derived.Lib.AppendStr
import Derived.Laws.Concat
import Derived.Laws.Shifts
namespace Go.Proofs.Ytecnlpkfcggimaa
set_option linter.unusedVariables false
set_option linter.unusedSimpArgs false

/-- A number's bytes, with fuel; a number's bytes. -/
def natF : Nat → Nat → List UInt8
  | 0, n => [UInt8.ofNat n]
  | k + 1, n => if n < 128 then [UInt8.ofNat n] else UInt8.ofNat (n % 128 + 128) :: natF k (n / 128)
def natB (n : Nat) : List UInt8 := natF n n
theorem natF_fuel : ∀ (k j n : Nat), n ≤ k → n ≤ j → natF k n = natF j n := by
  intro k
  induction k with
  | zero => intro j n h1 h2; obtain rfl : n = 0 := by omega
            cases j <;> simp [natF]
  | succ k ih =>
    intro j n h1 h2
    cases j with
    | zero => obtain rfl : n = 0 := by omega
              simp [natF]
    | succ j =>
      unfold natF
      split
      · rfl
      · rw [ih j (n / 128) (by omega) (by omega)]
theorem natB_lt {n : Nat} (h : n < 128) : natB n = [UInt8.ofNat n] := by
  unfold natB
  cases n with
  | zero => rfl
  | succ n => unfold natF; rw [if_pos h]
theorem natB_ge {n : Nat} (h : ¬ n < 128) : natB n = UInt8.ofNat (n % 128 + 128) :: natB (n / 128) := by
  unfold natB
  cases n with
  | zero => omega
  | succ n =>
    rw [show natF (n + 1) (n + 1) = UInt8.ofNat ((n + 1) % 128 + 128) :: natF n ((n + 1) / 128) from by rw [natF, if_neg h]]
    rw [natF_fuel n ((n + 1) / 128) _ (by omega) (Nat.le_refl _)]
theorem natB_300 : natB 300 = [172, 2] := by
  rw [natB_ge (by omega), natB_lt (by omega)]; rfl

/-- The number that bytes tell. -/
def valL : List UInt8 → Nat
  | [] => 0
  | b :: r => b.toNat % 128 + 128 * valL r
theorem toNat_low {n : Nat} (h : n < 256) : (UInt8.ofNat n).toNat = n := by
  rw [UInt8.toNat_ofNat']; omega
theorem valL_nat : ∀ (k n : Nat), n ≤ k → valL (natB n) = n := by
  intro k
  induction k with
  | zero => intro n h; obtain rfl : n = 0 := by omega
            rw [natB_lt (by omega)]; rfl
  | succ k ih =>
    intro n h
    by_cases hn : n < 128
    · rw [natB_lt hn]; unfold valL valL; rw [toNat_low (by omega)]; omega
    · rw [natB_ge hn]; unfold valL; rw [toNat_low (by omega), ih (n / 128) (by omega)]; omega
theorem valL_natB (n : Nat) : valL (natB n) = n := valL_nat n n (Nat.le_refl _)

/-- Whether a byte tells that others follow. -/
def hiB (b : UInt8) : Bool := decide (128 ≤ b.toNat)
/-- The place of the first byte that tells that none follows. -/
def stopAt : List UInt8 → Option Nat
  | [] => none
  | b :: r => if hiB b then (stopAt r).map (· + 1) else some 0
/-- The number at the beginning, and how many bytes it has; 0: there is none. -/
def firstS (l : List UInt8) : Nat × Nat :=
  match stopAt l with
  | none => (0, 0)
  | some j => if j < 10 ∧ valL (l.take (j + 1)) < 18446744073709551616 ∧ (j = 0 ∨ (l.getD j 0).toNat ≠ 0) then (valL (l.take (j + 1)), j + 1) else (0, 0)
/-- Likewise, of at most so much. -/
def takS (l : List UInt8) (most : Nat) : Nat × Nat := if (firstS l).2 = 0 ∨ most < (firstS l).1 then (0, 0) else firstS l

theorem stopAt_none : ∀ {l : List UInt8}, l.all hiB = true → stopAt l = none := by
  intro l
  induction l with
  | nil => intro _; rfl
  | cons b r ih =>
    intro h
    simp only [List.all_cons, Bool.and_eq_true] at h
    unfold stopAt; rw [if_pos h.1, ih h.2]; rfl
theorem stopAt_some : ∀ {l : List UInt8} {k : Nat} {b : UInt8}, (l.take k).all hiB = true → l[k]? = some b → hiB b = false → stopAt l = some k := by
  intro l
  induction l with
  | nil => intro k b _ h _; simp at h
  | cons c r ih =>
    intro k b h1 h2 h3
    cases k with
    | zero => simp at h2; subst h2; unfold stopAt; rw [h3]; rfl
    | succ k =>
      simp only [List.take_succ_cons, List.all_cons, Bool.and_eq_true] at h1
      unfold stopAt
      rw [if_pos h1.1, ih h1.2 (by simpa using h2) h3]; rfl
theorem stopAt_ge : ∀ {l : List UInt8} {k j : Nat}, (l.take k).all hiB = true → stopAt l = some j → k ≤ l.length → k ≤ j := by
  intro l
  induction l with
  | nil => intro k j _ h _; cases h
  | cons c r ih =>
    intro k j h1 h2 hk
    cases k with
    | zero => omega
    | succ k =>
      simp only [List.take_succ_cons, List.all_cons, Bool.and_eq_true] at h1
      unfold stopAt at h2
      rw [if_pos h1.1] at h2
      cases hs : stopAt r with
      | none => rw [hs] at h2; cases h2
      | some i =>
        rw [hs] at h2
        have := ih h1.2 hs (by simpa using hk)
        simp at h2
        omega
theorem firstS_end {l : List UInt8} (h : l.all hiB = true) : firstS l = (0, 0) := by unfold firstS; rw [stopAt_none h]
theorem firstS_far {l : List UInt8} (h : (l.take 10).all hiB = true) (hl : 10 ≤ l.length) : firstS l = (0, 0) := by
  unfold firstS
  cases hs : stopAt l with
  | none => rfl
  | some j =>
    have := stopAt_ge h hs hl
    show (if j < 10 ∧ valL (l.take (j + 1)) < 18446744073709551616 ∧ (j = 0 ∨ (l.getD j 0).toNat ≠ 0) then (valL (l.take (j + 1)), j + 1) else (0, 0)) = (0, 0)
    rw [if_neg (by omega)]
theorem firstS_at {l : List UInt8} {k : Nat} {b : UInt8} (h1 : (l.take k).all hiB = true) (h2 : l[k]? = some b) (h3 : hiB b = false) :
    firstS l = if k < 10 ∧ valL (l.take (k + 1)) < 18446744073709551616 ∧ (k = 0 ∨ b.toNat ≠ 0) then (valL (l.take (k + 1)), k + 1) else (0, 0) := by
  unfold firstS
  rw [stopAt_some h1 h2 h3]
  have : l.getD k 0 = b := by simp [List.getD, h2]
  show (if k < 10 ∧ valL (l.take (k + 1)) < 18446744073709551616 ∧ (k = 0 ∨ (l.getD k 0).toNat ≠ 0) then (valL (l.take (k + 1)), k + 1) else (0, 0)) = _
  rw [this]
theorem lt_of_some {l : List UInt8} {k : Nat} {b : UInt8} (h : l[k]? = some b) : k < l.length := by
  rcases Nat.lt_or_ge k l.length with h' | h'
  · exact h'
  · rw [List.getElem?_eq_none h'] at h; cases h
theorem take_some {l : List UInt8} {k : Nat} {b : UInt8} (h : l[k]? = some b) : l.take (k + 1) = l.take k ++ [b] := by
  have hk := lt_of_some h
  rw [List.take_succ_eq_append_getElem hk]
  rw [List.getElem?_eq_getElem hk] at h
  rw [Option.some.inj h]
theorem allH_take {l : List UInt8} {k : Nat} {b : UInt8} (h : l[k]? = some b) : (l.take (k + 1)).all hiB = ((l.take k).all hiB && hiB b) := by
  rw [take_some h]; simp
theorem valL_app : ∀ (l : List UInt8) (b : UInt8), valL (l ++ [b]) = valL l + b.toNat % 128 * 128 ^ l.length := by
  intro l b
  induction l with
  | nil => simp [valL]
  | cons c r ih =>
    rw [List.cons_append]; unfold valL; rw [ih, List.length_cons, Nat.pow_succ, Nat.mul_add]
    have : b.toNat % 128 * (128 ^ r.length * 128) = 128 * (b.toNat % 128 * 128 ^ r.length) := by
      rw [Nat.mul_comm 128 (b.toNat % 128 * 128 ^ r.length), Nat.mul_assoc]
    omega
theorem valL_lt : ∀ (l : List UInt8), valL l < 128 ^ l.length := by
  intro l
  induction l with
  | nil => simp [valL]
  | cons c r ih => unfold valL; rw [List.length_cons, Nat.pow_succ]; have := Nat.mod_lt c.toNat (show 0 < 128 by decide); omega
theorem valL_take {l : List UInt8} {k : Nat} {b : UInt8} (h : l[k]? = some b) : valL (l.take (k + 1)) = valL (l.take k) + b.toNat % 128 * 128 ^ k := by
  rw [take_some h, valL_app, List.length_take, Nat.min_eq_left (Nat.le_of_lt (lt_of_some h))]
theorem valL_take_lt (l : List UInt8) (k : Nat) : valL (l.take k) < 128 ^ k := by
  refine Nat.lt_of_lt_of_le (valL_lt _) (Nat.pow_le_pow_right (by decide) ?_)
  rw [List.length_take]; omega

/-- A number's bytes: all but the last one tell that others follow; none is over. -/
theorem natB_shape : ∀ (k n : Nat), n ≤ k → ∃ p b, natB n = p ++ [b] ∧ p.all hiB = true ∧ hiB b = false ∧ (p.length = 0 ∨ b.toNat ≠ 0) := by
  intro k
  induction k with
  | zero => intro n h; obtain rfl : n = 0 := by omega
            exact ⟨[], 0, by rw [natB_lt (by omega)]; rfl, rfl, rfl, Or.inl rfl⟩
  | succ k ih =>
    intro n h
    by_cases hn : n < 128
    · exact ⟨[], UInt8.ofNat n, by rw [natB_lt hn]; rfl, rfl, by unfold hiB; rw [toNat_low (by omega)]; simp; omega, Or.inl rfl⟩
    · obtain ⟨p, b, e, h1, h2, h3⟩ := ih (n / 128) (by omega)
      refine ⟨UInt8.ofNat (n % 128 + 128) :: p, b, by rw [natB_ge hn, e]; rfl, ?_, h2, Or.inr ?_⟩
      · rw [List.all_cons, h1]; unfold hiB; rw [toNat_low (by omega)]; simp
      · rcases h3 with h3 | h3
        · have hp : p = [] := List.eq_nil_of_length_eq_zero h3
          subst hp
          have hv := valL_natB (n / 128)
          rw [e] at hv
          simp only [List.nil_append, valL] at hv
          intro h0
          rw [h0] at hv; omega
        · exact h3
theorem natB_len : ∀ (k n : Nat), n < 128 ^ (k + 1) → (natB n).length ≤ k + 1 := by
  intro k
  induction k with
  | zero => intro n h; rw [natB_lt (by simpa using h)]; simp
  | succ k ih =>
    intro n h
    by_cases hn : n < 128
    · rw [natB_lt hn]; simp
    · rw [natB_ge hn, List.length_cons]
      have := ih (n / 128) (by rw [Nat.pow_succ] at h; omega)
      omega
theorem natB_len10 {n : Nat} (h : n < 18446744073709551616) : (natB n).length ≤ 10 := by
  by_cases h9 : n < 128 ^ 9
  · have := natB_len 8 n h9; omega
  · exact natB_len 9 n (Nat.lt_of_lt_of_le h (by decide))
theorem natB_pos (n : Nat) : 1 ≤ (natB n).length := by
  obtain ⟨p, b, e, _⟩ := natB_shape n n (Nat.le_refl _)
  rw [e, List.length_append]; simp

/-- A number's bytes, whatever stands behind, are read as the number. -/
theorem firstS_nat {n : Nat} (h : n < 18446744073709551616) (r : List UInt8) : firstS (natB n ++ r) = (n, (natB n).length) := by
  have hl := natB_len10 h
  have hv := valL_natB n
  obtain ⟨p, b, e, h1, h2, h3⟩ := natB_shape n n (Nat.le_refl _)
  rw [e] at hv hl ⊢
  have hk : (p ++ [b] ++ r)[p.length]? = some b := by
    rw [List.append_assoc, List.getElem?_append_right (Nat.le_refl _)]; simp
  have ht : (p ++ [b] ++ r).take p.length = p := by
    rw [List.append_assoc]; exact List.take_left
  have ht1 : (p ++ [b] ++ r).take (p.length + 1) = p ++ [b] := by
    rw [take_some hk, ht]
  rw [firstS_at (by rw [ht]; exact h1) hk h2, ht1, hv]
  rw [List.length_append] at hl
  simp only [List.length_singleton] at hl
  rw [if_pos ⟨by omega, h, h3⟩]
  simp
/-- The bytes of a number that is read are its own. -/
theorem natB_of {p : List UInt8} {b : UInt8} (h1 : p.all hiB = true) (h2 : hiB b = false) (h3 : p.length = 0 ∨ b.toNat ≠ 0) : natB (valL (p ++ [b])) = p ++ [b] := by
  induction p with
  | nil =>
    unfold hiB at h2
    simp only [decide_eq_false_iff_not] at h2
    simp only [List.nil_append, valL]
    rw [natB_lt (by omega)]
    have : b.toNat % 128 + 128 * 0 = b.toNat := by omega
    rw [this, UInt8.ofNat_toNat]
  | cons c r ih =>
    simp only [List.all_cons, Bool.and_eq_true] at h1
    obtain ⟨hc, hr⟩ := h1
    unfold hiB at hc
    simp only [decide_eq_true_eq] at hc
    have hb : b.toNat ≠ 0 := by
      rcases h3 with h3 | h3
      · simp at h3
      · exact h3
    have hlo : b.toNat < 128 := by
      unfold hiB at h2
      simp only [decide_eq_false_iff_not] at h2; omega
    have hpos : 1 ≤ valL (r ++ [b]) := by
      rw [valL_app]
      have := Nat.pow_pos (n := r.length) (show 0 < 128 by decide)
      have : 1 * 1 ≤ b.toNat % 128 * 128 ^ r.length := Nat.mul_le_mul (by omega) this
      omega
    have ih' := ih hr (Or.inr hb)
    rw [List.cons_append]
    have e : valL (c :: (r ++ [b])) = c.toNat % 128 + 128 * valL (r ++ [b]) := rfl
    rw [e, natB_ge (by omega)]
    have e1 : (c.toNat % 128 + 128 * valL (r ++ [b])) % 128 + 128 = c.toNat := by
      have := c.toNat_lt; omega
    have e2 : (c.toNat % 128 + 128 * valL (r ++ [b])) / 128 = valL (r ++ [b]) := by omega
    rw [e1, e2, ih', UInt8.ofNat_toNat]
/-- Whether the bytes up to the first one that ends are those of what they tell modulo 2^64. -/
theorem natB_iff {p : List UInt8} {b : UInt8} (h1 : p.all hiB = true) (h2 : hiB b = false) :
    natB (valL (p ++ [b]) % 18446744073709551616) = p ++ [b] ↔ (valL (p ++ [b]) < 18446744073709551616 ∧ (p.length = 0 ∨ b.toNat ≠ 0)) := by
  constructor
  · intro h
    have hv := valL_natB (valL (p ++ [b]) % 18446744073709551616)
    rw [h] at hv
    refine ⟨by omega, ?_⟩
    obtain ⟨p', b', e, _, _, h3⟩ := natB_shape _ (valL (p ++ [b]) % 18446744073709551616) (Nat.le_refl _)
    rw [e] at h
    obtain ⟨rfl, h⟩ := List.append_inj' h rfl
    simp at h
    subst h
    exact h3
  · rintro ⟨hv, h3⟩
    rw [Nat.mod_eq_of_lt hv]
    exact natB_of h1 h2 h3
theorem firstS_lt (l : List UInt8) : (firstS l).1 < 18446744073709551616 := by
  unfold firstS
  cases stopAt l with
  | none => simp
  | some j =>
    show (if j < 10 ∧ valL (l.take (j + 1)) < 18446744073709551616 ∧ (j = 0 ∨ (l.getD j 0).toNat ≠ 0) then (valL (l.take (j + 1)), j + 1) else (0, 0)).1 < 18446744073709551616
    split
    · exact (by assumption : _ ∧ _ ∧ _).2.1
    · simp
theorem stopAt_lt : ∀ {l : List UInt8} {j : Nat}, stopAt l = some j → j < l.length := by
  intro l
  induction l with
  | nil => intro j h; cases h
  | cons c r ih =>
    intro j h
    unfold stopAt at h
    split at h
    · cases hs : stopAt r with
      | none => rw [hs] at h; cases h
      | some i => rw [hs] at h; have := ih hs; simp at h; rw [List.length_cons]; omega
    · have h := Option.some.inj h; rw [List.length_cons]; omega
theorem firstS_le (l : List UInt8) : (firstS l).2 ≤ l.length := by
  unfold firstS
  cases hs : stopAt l with
  | none => simp
  | some j =>
    have := stopAt_lt hs
    show (if j < 10 ∧ valL (l.take (j + 1)) < 18446744073709551616 ∧ (j = 0 ∨ (l.getD j 0).toNat ≠ 0) then (valL (l.take (j + 1)), j + 1) else (0, 0)).2 ≤ l.length
    split
    · exact this
    · simp
theorem takS_lt (l : List UInt8) (m : Nat) : (takS l m).1 < 18446744073709551616 := by
  unfold takS; split
  · simp
  · exact firstS_lt l
theorem takS_le (l : List UInt8) (m : Nat) : (takS l m).2 ≤ l.length := by
  unfold takS; split
  · simp
  · exact firstS_le l
theorem takS_most (l : List UInt8) (m : Nat) : (takS l m).1 ≤ m := by
  unfold takS; split
  · simp
  · omega
theorem takS_zero {l : List UInt8} {m : Nat} (h : (takS l m).2 = 0) : (takS l m).1 = 0 := by
  unfold takS at h ⊢; split
  · rfl
  · rename_i h'; rw [if_neg h'] at h; omega
theorem takS_nat {n m : Nat} (h : n < 18446744073709551616) (hm : n ≤ m) (r : List UInt8) : takS (natB n ++ r) m = (n, (natB n).length) := by
  unfold takS
  rw [firstS_nat h r]
  have := natB_pos n
  rw [if_neg (by simp only []; omega)]
theorem takS_over {n m : Nat} (h : n < 18446744073709551616) (hm : m < n) (r : List UInt8) : takS (natB n ++ r) m = (0, 0) := by
  unfold takS
  rw [firstS_nat h r, if_pos (Or.inr hm)]

/-- Bytes as cells. -/
def bcs (l : List UInt8) : List Value := l.map fun b => Value.int .u8 (b.toNat : Int)
theorem bcs_str (s : ByteArray) : Lib.strCells s = bcs s.data.toList := rfl
theorem bcs_append (a b : List UInt8) : bcs (a ++ b) = bcs a ++ bcs b := List.map_append
theorem bcs_length (a : List UInt8) : (bcs a).length = a.length := List.length_map _
theorem or_more {x : Int} (h0 : 0 ≤ x) (h1 : x < 18446744073709551616) : bits .or .u8 (IntKind.u8.wrap x) 128 = x % 128 + 128 := by
  have e : IntKind.u8.wrap x = x % 256 := by simp [IntKind.wrap, IntKind.signed, IntKind.bits]
  have key : ∀ y : Fin 256, bits .or .u8 ((y.val : Nat) : Int) 128 = ((y.val % 128 + 128 : Nat) : Int) := by decide +kernel
  rw [e]
  have := key ⟨(x % 256).toNat, by omega⟩
  simp only at this
  rw [Int.toNat_of_nonneg (by omega)] at this
  rw [this]; omega
theorem wrap_u8 (x : Int) : IntKind.u8.wrap x = x % 256 := by simp [IntKind.wrap, IntKind.signed, IntKind.bits]
/-- The part of a number that a byte tells, at its place, modulo 2^64; back again. -/
def partI (k : Nat) (d : Int) : Int := IntKind.u64.wrap (d * 2 ^ min (7 * (k : Int)).toNat IntKind.u64.bits)
def backI (k : Nat) (x : Int) : Int := x / 2 ^ min (7 * (k : Int)).toNat IntKind.u64.bits
theorem shl_run (k : Nat) (d : Int) : Op.shift .shl .u64 d .i64 (7 * (k : Int)) = pure (.int .u64 (partI k d)) := shift_shl_any _ _ _ _ (by omega)
theorem shr_run (k : Nat) (d : Int) : Op.shift .shr .u64 d .i64 (7 * (k : Int)) = pure (.int .u64 (backI k d)) := shift_shr_any _ _ _ _ (by omega)
theorem pow_seven (k : Nat) : (2 : Int) ^ (7 * k) = ((128 ^ k : Nat) : Int) := by
  rw [Int.pow_mul, Int.natCast_pow]; rfl
theorem u64_bits : IntKind.u64.bits = 64 := rfl
theorem part_small {k d : Nat} (hk : k ≤ 8) (hd : d < 128) : partI k d = ((d * 128 ^ k : Nat) : Int) ∧ backI k ((d * 128 ^ k : Nat) : Int) = d := by
  have e : min (7 * (k : Int)).toNat IntKind.u64.bits = 7 * k := by rw [u64_bits]; omega
  have hp : 128 ^ k ≤ 128 ^ 8 := Nat.pow_le_pow_right (by decide) hk
  have hp0 : 0 < 128 ^ k := Nat.pow_pos (by decide)
  have hm : d * 128 ^ k ≤ 127 * 128 ^ 8 := Nat.mul_le_mul (by omega) hp
  unfold partI backI
  rw [e, pow_seven, IntKind.wrap_u64, ← Int.natCast_mul]
  refine ⟨?_, ?_⟩
  · generalize d * 128 ^ k = z at *
    omega
  · rw [← Int.natCast_ediv, Nat.mul_div_cancel _ hp0]
theorem part_nine {d : Nat} (hd : d < 128) : partI 9 d = ((d % 2 * 9223372036854775808 : Nat) : Int) ∧ backI 9 ((d % 2 * 9223372036854775808 : Nat) : Int) = ((d % 2 : Nat) : Int) := by
  have e : min (7 * ((9 : Nat) : Int)).toNat IntKind.u64.bits = 63 := by rw [u64_bits]; omega
  have e2 : (2 : Int) ^ 63 = 9223372036854775808 := by decide
  unfold partI backI
  rw [e, e2, IntKind.wrap_u64]
  omega
theorem part_far {k d : Nat} (hk : 10 ≤ k) : partI k d = 0 ∧ backI k 0 = 0 := by
  have e : min (7 * (k : Int)).toNat IntKind.u64.bits = 64 := by rw [u64_bits]; omega
  have e2 : (2 : Int) ^ 64 = 18446744073709551616 := by decide
  unfold partI backI
  rw [e, e2, IntKind.wrap_u64]
  omega
theorem or_word (x y : Int) : Word (bits .or .u64 x y) := by
  have h : ∃ n, bits .or .u64 x y = IntKind.u64.wrap n := ⟨_, rfl⟩
  obtain ⟨n, h⟩ := h
  rw [h, IntKind.wrap_u64]; unfold Word; omega
theorem or_comm_u64 (x y : Int) : bits .or .u64 x y = bits .or .u64 y x := by
  show IntKind.u64.wrap ((BitVec.ofInt 64 x ||| BitVec.ofInt 64 y).toNat : Int) = IntKind.u64.wrap ((BitVec.ofInt 64 y ||| BitVec.ofInt 64 x).toNat : Int)
  rw [BitVec.or_comm]
theorem or_sum {m d k : Nat} (hm : m < 128 ^ k) (hs : d * 128 ^ k < 18446744073709551616) (hm' : m < 18446744073709551616) :
    bits .or .u64 (m : Int) ((d * 128 ^ k : Nat) : Int) = ((m + d * 128 ^ k : Nat) : Int) := by
  rw [or_comm_u64]
  have h := bits_join .u64 64 (by decide) (fun n a b => by rw [IntKind.wrap_u64]; omega) (7 * k) ((d * 128 ^ k : Nat) : Int) (m : Int)
    (by omega) (by rw [pow_seven, ← Int.natCast_emod, Nat.mul_mod_left]; rfl) (by generalize d * 128 ^ k = z at *; omega) (by omega) (by rw [pow_seven]; exact Int.ofNat_lt.2 hm) (by omega)
  rw [h, ← Int.natCast_add, Nat.add_comm]

/-- One round: what a byte is good for. -/
theorem round_cases {l : List UInt8} {k : Nat} {b : UInt8} {m : Int} (hx : l[k]? = some b) (hA : (l.take k).all hiB = true) (hv : k ≤ 9 → m = ((valL (l.take k) : Nat) : Int)) :
    ∃ P Q R : Int, Word P ∧ Word R ∧ partI k ((b.toNat : Int) % 128) = P ∧ backI k P = Q ∧ bits .or .u64 m P = R ∧
      ((¬ Q = (b.toNat : Int) % 128 ∧ firstS l = (0, 0)) ∨
       (Q = (b.toNat : Int) % 128 ∧ 128 ≤ (b.toNat : Int) ∧ (k + 1 ≤ 9 → R = ((valL (l.take (k + 1)) : Nat) : Int)) ∧ (l.take (k + 1)).all hiB = true) ∨
       (Q = (b.toNat : Int) % 128 ∧ (b.toNat : Int) < 128 ∧ (b.toNat : Int) % 128 = 0 ∧ 0 < k ∧ firstS l = (0, 0)) ∨
       (Q = (b.toNat : Int) % 128 ∧ (b.toNat : Int) < 128 ∧ (¬ (b.toNat : Int) % 128 = 0 ∨ k = 0) ∧ ((firstS l).1 : Int) = R ∧ (firstS l).2 = k + 1)) := by
  have hb := b.toNat_lt
  have ec : (b.toNat : Int) % 128 = ((b.toNat % 128 : Nat) : Int) := by omega
  have hlow : b.toNat % 128 < 128 := Nat.mod_lt _ (by decide)
  have hvt := valL_take hx
  have hvl := valL_take_lt l k
  have hat := allH_take hx
  rw [hA, Bool.true_and] at hat
  have hhi : 128 ≤ b.toNat → hiB b = true := fun h => by unfold hiB; simpa using h
  have hlo : b.toNat < 128 → hiB b = false := fun h => by unfold hiB; simpa using h
  refine ⟨_, _, _, ?_, or_word _ _, rfl, rfl, rfl, ?_⟩
  · have h : ∃ n, partI k ((b.toNat : Int) % 128) = IntKind.u64.wrap n := ⟨_, rfl⟩
    obtain ⟨n, h⟩ := h
    rw [h, IntKind.wrap_u64]; unfold Word; omega
  · rw [ec]
    by_cases h8 : k ≤ 8
    · obtain ⟨p1, p2⟩ := part_small h8 hlow
      have hm := hv (by omega)
      have h9 : 128 ^ k ≤ 128 ^ 8 := Nat.pow_le_pow_right (by decide) h8
      have h10 : b.toNat % 128 * 128 ^ k ≤ 127 * 128 ^ 8 := Nat.mul_le_mul (by omega) h9
      have ho := or_sum (d := b.toNat % 128) hvl (by omega) (by omega)
      rw [p1, p2, hm, ho, ← hvt]
      by_cases hb8 : b.toNat < 128
      · have hf := firstS_at hA hx (hlo hb8)
        by_cases hz : b.toNat % 128 = 0 ∧ 0 < k
        · right; right; left
          refine ⟨rfl, by omega, by omega, hz.2, ?_⟩
          rw [hf, if_neg (by omega)]
        · right; right; right
          have hlt := valL_take_lt l (k + 1)
          have h11 : 128 ^ (k + 1) ≤ 128 ^ 9 := Nat.pow_le_pow_right (by decide) (by omega)
          rw [if_pos ⟨by omega, by omega, by omega⟩] at hf
          rw [hf]
          exact ⟨rfl, by omega, by omega, rfl, rfl⟩
      · right; left
        exact ⟨rfl, by omega, fun _ => rfl, by rw [hat]; exact hhi (by omega)⟩
    · by_cases h9 : k = 9
      · subst h9
        obtain ⟨p1, p2⟩ := part_nine hlow
        have hm := hv (by omega)
        have e9 : 128 ^ 9 = 9223372036854775808 := by decide
        rw [e9] at hvl hvt
        by_cases hs : b.toNat % 128 < 2
        · have e2 : b.toNat % 128 % 2 = b.toNat % 128 := by omega
          rw [e2] at p1 p2
          have ho := or_sum (m := valL (l.take 9)) (d := b.toNat % 128) (k := 9) (by rw [e9]; omega) (by rw [e9]; omega) (by omega)
          rw [e9] at ho
          rw [p1, p2, hm, ho, ← hvt]
          by_cases hb8 : b.toNat < 128
          · have hf := firstS_at hA hx (hlo hb8)
            by_cases hz : b.toNat % 128 = 0
            · right; right; left
              refine ⟨rfl, by omega, by omega, by omega, ?_⟩
              rw [hf, if_neg (by omega)]
            · right; right; right
              rw [if_pos ⟨by omega, by omega, by omega⟩] at hf
              rw [hf]
              exact ⟨rfl, by omega, by omega, rfl, rfl⟩
          · right; left
            exact ⟨rfl, by omega, fun _ => rfl, by rw [hat]; exact hhi (by omega)⟩
        · left
          rw [p1, p2]
          refine ⟨by omega, ?_⟩
          by_cases hb8 : b.toNat < 128
          · rw [firstS_at hA hx (hlo hb8), if_neg (by omega)]
          · exact firstS_far (by rw [hat]; exact hhi (by omega)) (lt_of_some hx)
      · obtain ⟨p1, p2⟩ := part_far (k := k) (d := b.toNat % 128) (by omega)
        have hfar : firstS l = (0, 0) := by
          refine firstS_far ?_ (by have := lt_of_some hx; omega)
          have : l.take 10 = (l.take k).take 10 := by rw [List.take_take, Nat.min_eq_left (by omega)]
          rw [this]
          exact List.all_eq_true.2 fun x hx' => List.all_eq_true.1 hA x (List.mem_of_mem_take hx')
        rw [p1, p2]
        by_cases hz : b.toNat % 128 = 0
        · by_cases hb8 : b.toNat < 128
          · right; right; left
            exact ⟨by omega, by omega, by omega, by omega, hfar⟩
          · right; left
            exact ⟨by omega, by omega, fun h => by omega, by rw [hat]; exact hhi (by omega)⟩
        · left
          exact ⟨by omega, hfar⟩
end Go.Proofs.Ytecnlpkfcggimaa
