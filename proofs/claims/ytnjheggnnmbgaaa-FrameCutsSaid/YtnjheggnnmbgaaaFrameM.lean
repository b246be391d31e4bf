/-
  Plain mathematics of sums of 32 bits, and of framed loads: no program in sight.
-/
import Derived.Test.YtnjheggnnmbgaaaQuillM
namespace Go.Proofs.Ytnjheggnnmbgaaa
set_option linter.unusedVariables false
set_option linter.unusedSimpArgs false

/-- One step of a sum, without a bit. -/
def stp (c : Nat) : Nat := (c / 2) ^^^ (if c % 2 = 1 then 3988292384 else 0)
theorem xor_back (a b : Nat) : (a ^^^ b) ^^^ b = a := by rw [Nat.xor_assoc, Nat.xor_self, Nat.xor_zero]
theorem xor_eq {a b : Nat} (h : a ^^^ b = 0) : a = b := by
  have e := xor_back a b
  rw [h, Nat.zero_xor] at e
  exact e.symm
theorem stp_xor (a b : Nat) : stp (a ^^^ b) = stp a ^^^ stp b := by
  unfold stp
  have h2 : (a ^^^ b) % 2 = 1 ↔ ¬ (a % 2 = 1 ↔ b % 2 = 1) := Nat.xor_mod_two_eq_one
  rw [Nat.xor_div_two]
  by_cases ha : a % 2 = 1 <;> by_cases hb : b % 2 = 1
  · rw [if_neg (by rw [h2]; simp [ha, hb]), if_pos ha, if_pos hb]
    rw [Nat.xor_zero, Nat.xor_assoc, Nat.xor_comm 3988292384, Nat.xor_assoc, Nat.xor_self, Nat.xor_zero]
  · rw [if_pos (by rw [h2]; simp [ha, hb]), if_pos ha, if_neg hb]
    simp only [Nat.xor_zero]
    rw [Nat.xor_assoc, Nat.xor_assoc, Nat.xor_comm (b / 2)]
  · rw [if_pos (by rw [h2]; simp [ha, hb]), if_neg ha, if_pos hb]
    simp only [Nat.xor_zero]
    rw [Nat.xor_assoc]
  · rw [if_neg (by rw [h2]; simp [ha, hb]), if_neg ha, if_neg hb]
    simp only [Nat.xor_zero]
theorem stp_lt {c : Nat} (h : c < 4294967296) : stp c < 4294967296 := by
  unfold stp
  exact Nat.xor_lt_two_pow (n := 32) (by omega) (by split <;> decide)
theorem stp_none {c : Nat} (h : c < 4294967296) (h0 : stp c = 0) : c = 0 := by
  unfold stp at h0
  have e := xor_eq h0
  split at e <;> omega
theorem stp_even (c : Nat) : stp (2 * c) = c := by
  unfold stp; rw [if_neg (by omega), Nat.xor_zero]; omega
theorem stp_zero : stp 0 = 0 := rfl
/-- So many steps. -/
def stps : Nat → Nat → Nat
  | 0, c => c
  | n + 1, c => stps n (stp c)
theorem stps_add : ∀ (m n c : Nat), stps (m + n) c = stps n (stps m c) := by
  intro m
  induction m with
  | zero => intro n c; rw [Nat.zero_add]; rfl
  | succ m ih => intro n c; rw [show m + 1 + n = (m + n) + 1 from by omega]; exact ih n (stp c)
theorem stps_xor : ∀ (n a b : Nat), stps n (a ^^^ b) = stps n a ^^^ stps n b := by
  intro n
  induction n with
  | zero => intro a b; rfl
  | succ n ih => intro a b; show stps n (stp (a ^^^ b)) = _; rw [stp_xor, ih]; rfl
theorem stps_lt : ∀ (n : Nat) {c : Nat}, c < 4294967296 → stps n c < 4294967296 := by
  intro n
  induction n with
  | zero => intro c h; exact h
  | succ n ih => intro c h; exact ih (stp_lt h)
theorem stps_none : ∀ (n : Nat) {c : Nat}, c < 4294967296 → stps n c = 0 → c = 0 := by
  intro n
  induction n with
  | zero => intro c _ h; exact h
  | succ n ih => intro c h h0; exact stp_none h (ih (stp_lt h) h0)
theorem stps_zero : ∀ n, stps n 0 = 0 := by
  intro n
  induction n with
  | zero => rfl
  | succ n ih => exact ih
theorem stps_shift : ∀ (n c : Nat), stps n (c * 2 ^ n) = c := by
  intro n
  induction n with
  | zero => intro c; simp [stps]
  | succ n ih =>
    intro c
    show stps n (stp (c * 2 ^ (n + 1))) = c
    rw [Nat.pow_succ, show c * (2 ^ n * 2) = 2 * (c * 2 ^ n) from by rw [← Nat.mul_assoc, Nat.mul_comm], stp_even, ih]
/-- A row of bytes, from some state on. -/
def raw (c : Nat) (l : List UInt8) : Nat := l.foldl (fun c b => stps 8 (c ^^^ b.toNat)) c
theorem raw_app (c : Nat) (a b : List UInt8) : raw c (a ++ b) = raw (raw c a) b := by unfold raw; rw [List.foldl_append]
theorem raw_cons (c : Nat) (b : UInt8) (r : List UInt8) : raw c (b :: r) = raw (stps 8 (c ^^^ b.toNat)) r := rfl
theorem byte_lt (b : UInt8) : b.toNat < 4294967296 := by have := b.toNat_lt; omega
theorem raw_lt : ∀ (l : List UInt8) {c : Nat}, c < 4294967296 → raw c l < 4294967296 := by
  intro l
  induction l with
  | nil => intro c h; exact h
  | cons b r ih => intro c h; rw [raw_cons]; exact ih (stps_lt 8 (Nat.xor_lt_two_pow (n := 32) h (byte_lt b)))
/-- Two rows, byte by byte. -/
def mix (a d : List UInt8) : List UInt8 := List.zipWith (fun x y => x ^^^ y) a d
theorem raw_mix : ∀ (a d : List UInt8) (x y : Nat), a.length = d.length → raw (x ^^^ y) (mix a d) = raw x a ^^^ raw y d := by
  intro a
  induction a with
  | nil => intro d x y h; cases d with
    | nil => rfl
    | cons _ _ => simp at h
  | cons b r ih =>
    intro d x y h
    cases d with
    | nil => simp at h
    | cons e s =>
      have hm : mix (b :: r) (e :: s) = (b ^^^ e) :: mix r s := rfl
      rw [hm, raw_cons, raw_cons, raw_cons, UInt8.toNat_xor]
      have e1 : (x ^^^ y) ^^^ (b.toNat ^^^ e.toNat) = (x ^^^ b.toNat) ^^^ (y ^^^ e.toNat) := by
        rw [Nat.xor_assoc, Nat.xor_assoc, ← Nat.xor_assoc y, ← Nat.xor_assoc b.toNat, Nat.xor_comm y]
      rw [e1, stps_xor]
      exact ih s _ _ (by simpa using h)
theorem raw_zeros : ∀ n c, raw c (List.replicate n 0) = stps (8 * n) c := by
  intro n
  induction n with
  | zero => intro c; rfl
  | succ n ih =>
    intro c
    rw [List.replicate_succ, raw_cons, ih, show 8 * (n + 1) = 8 + 8 * n from by omega, stps_add]
    rw [show (0 : UInt8).toNat = 0 from rfl, Nat.xor_zero]
/-- A number's four bytes, the lowest first. -/
def le4 (c : Nat) : List UInt8 := [UInt8.ofNat (c % 256), UInt8.ofNat (c / 256 % 256), UInt8.ofNat (c / 65536 % 256), UInt8.ofNat (c / 16777216)]
theorem ofNat_toNat {n : Nat} (h : n < 256) : (UInt8.ofNat n).toNat = n := by rw [UInt8.toNat_ofNat']; omega
theorem xor_low8 {a b : Nat} (h : b < 256) : (a * 256) ^^^ b = a * 256 + b := by
  have e : a * 256 = a <<< 8 := by rw [Nat.shiftLeft_eq]
  rw [e, Nat.shiftLeft_add_eq_or_of_lt (i := 8) h a]
  apply Nat.eq_of_testBit_eq
  intro i
  rw [Nat.testBit_xor, Nat.testBit_or]
  by_cases hi : i < 8
  · have : (a <<< 8).testBit i = false := by rw [Nat.testBit_shiftLeft]; simp; omega
    rw [this]; simp
  · have : b.testBit i = false := Nat.testBit_lt_two_pow (Nat.lt_of_lt_of_le h (Nat.pow_le_pow_right (n := 2) (by decide) (show 8 ≤ i by omega)))
    rw [this]; simp
/-- Four bytes go in as one number does. -/
theorem raw_le4 (c d : Nat) (h : d < 4294967296) : raw c (le4 d) = stps 32 (c ^^^ d) := by
  have key : ∀ (x q r : Nat), r < 256 → stps 8 (x ^^^ (q * 256 + r)) = stps 8 (x ^^^ r) ^^^ q := by
    intro x q r hr
    rw [← xor_low8 hr, ← Nat.xor_assoc, Nat.xor_comm x, Nat.xor_assoc, stps_xor, stps_shift 8 q, Nat.xor_comm]
  have d0 : d = d / 256 * 256 + d % 256 := by omega
  have d1 : d / 256 = d / 65536 * 256 + d / 256 % 256 := by omega
  have d2 : d / 65536 = d / 16777216 * 256 + d / 65536 % 256 := by omega
  have s1 : stps 8 (c ^^^ d) = stps 8 (c ^^^ (d % 256)) ^^^ (d / 256) := by
    conv => lhs; rw [d0]
    exact key c _ _ (by omega)
  have s2 : ∀ x, stps 8 (x ^^^ (d / 256)) = stps 8 (x ^^^ (d / 256 % 256)) ^^^ (d / 65536) := by
    intro x
    conv => lhs; rw [d1]
    exact key x _ _ (by omega)
  have s3 : ∀ x, stps 8 (x ^^^ (d / 65536)) = stps 8 (x ^^^ (d / 65536 % 256)) ^^^ (d / 16777216) := by
    intro x
    conv => lhs; rw [d2]
    exact key x _ _ (by omega)
  have t1 : stps 32 (c ^^^ d) = stps 24 (stps 8 (c ^^^ d)) := stps_add 8 24 _
  have t2 : ∀ x, stps 24 x = stps 16 (stps 8 x) := fun x => stps_add 8 16 x
  have t3 : ∀ x, stps 16 x = stps 8 (stps 8 x) := fun x => stps_add 8 8 x
  rw [t1, s1, t2, s2, t3, s3]
  unfold le4
  rw [raw_cons, raw_cons, raw_cons, raw_cons]
  rw [ofNat_toNat (by omega), ofNat_toNat (by omega), ofNat_toNat (by omega), ofNat_toNat (by omega)]
  rfl
/-- A text's sum. -/
def sumN (l : List UInt8) : Nat := raw 4294967295 l ^^^ 4294967295
theorem sumN_lt (l : List UInt8) : sumN l < 4294967296 := Nat.xor_lt_two_pow (n := 32) (raw_lt l (by decide)) (by decide)
/-- What has its sum behind it comes to one and the same. -/
theorem raw_sum (l : List UInt8) : raw 4294967295 (l ++ le4 (sumN l)) = stps 32 4294967295 := by
  rw [raw_app, raw_le4 _ _ (sumN_lt l)]
  unfold sumN
  rw [← Nat.xor_assoc, Nat.xor_self, Nat.zero_xor]
/-- What is turned: so many bytes are left, four are turned, so many are left. -/
def pat (k turn m : Nat) : List UInt8 := List.replicate k 0 ++ (le4 turn ++ List.replicate m 0)
/-- Up to four bytes in a row turned: not both have their sums behind them. -/
theorem burst {a b : List UInt8} {k turn m : Nat} (ht : turn < 4294967296) (h : b ++ le4 (sumN b) = mix (a ++ le4 (sumN a)) (pat k turn m)) (hl : (a ++ le4 (sumN a)).length = (pat k turn m).length) : turn = 0 := by
  have h1 := raw_sum a
  have h2 := raw_sum b
  have h3 := raw_mix (a ++ le4 (sumN a)) (pat k turn m) 4294967295 0 hl
  rw [Nat.xor_zero, ← h, h2, h1] at h3
  have h4 : raw 0 (pat k turn m) = 0 := by
    have e := congrArg (fun x => stps 32 4294967295 ^^^ x) h3
    simp only [Nat.xor_self, ← Nat.xor_assoc, Nat.zero_xor] at e
    exact e.symm
  unfold pat at h4
  rw [raw_app, raw_zeros, stps_zero, raw_app, raw_le4 _ _ ht, Nat.zero_xor, raw_zeros] at h4
  exact stps_none 32 ht (stps_none _ (stps_lt 32 ht) h4)

theorem xor_low (k : Nat) {a b : Nat} (h : b < 2 ^ k) : (a * 2 ^ k) ^^^ b = a * 2 ^ k + b := by
  have e : a * 2 ^ k = a <<< k := by rw [Nat.shiftLeft_eq]
  rw [e, Nat.shiftLeft_add_eq_or_of_lt (i := k) h a]
  apply Nat.eq_of_testBit_eq
  intro i
  rw [Nat.testBit_xor, Nat.testBit_or]
  by_cases hi : i < k
  · have : (a <<< k).testBit i = false := by rw [Nat.testBit_shiftLeft]; simp; omega
    rw [this]; simp
  · have : b.testBit i = false := Nat.testBit_lt_two_pow (Nat.lt_of_lt_of_le h (Nat.pow_le_pow_right (n := 2) (by decide) (show k ≤ i by omega)))
    rw [this]; simp
/-- What lies higher than the steps go comes down as it is. -/
theorem stps_high (k x q r : Nat) (h : r < 2 ^ k) : stps k (x ^^^ (q * 2 ^ k + r)) = stps k (x ^^^ r) ^^^ q := by
  rw [← xor_low k h, ← Nat.xor_assoc, Nat.xor_comm x, Nat.xor_assoc, stps_xor, stps_shift k q, Nat.xor_comm]
/-- Bit by bit: the state behind one bit more. -/
theorem stps_bit (c b k : Nat) : stps (k + 1) (c ^^^ (b % 2 ^ (k + 1))) = stp (stps k (c ^^^ (b % 2 ^ k)) ^^^ (b / 2 ^ k % 2)) := by
  have e : b % 2 ^ (k + 1) = (b / 2 ^ k % 2) * 2 ^ k + b % 2 ^ k := by
    rw [Nat.pow_succ, Nat.mod_mul, Nat.mul_comm (2 ^ k), Nat.add_comm]
  have h := stps_add k 1 (c ^^^ (b % 2 ^ (k + 1)))
  rw [h, e, stps_high k c _ _ (Nat.mod_lt _ (Nat.two_pow_pos k))]
  rfl
/-- A step with a bit. -/
theorem stp_bit (c b : Nat) (hb : b < 2) : stp (c ^^^ b) = (c / 2) ^^^ (if b = c % 2 then 0 else 3988292384) := by
  unfold stp
  have h2 : (c ^^^ b) % 2 = 1 ↔ ¬ (c % 2 = 1 ↔ b % 2 = 1) := Nat.xor_mod_two_eq_one
  rw [Nat.xor_div_two, show b / 2 = 0 from by omega, Nat.xor_zero]
  by_cases h : b = c % 2
  · rw [if_pos h, if_neg (by rw [h2]; omega)]
  · rw [if_neg h, if_pos (by rw [h2]; omega)]
/-- Eight steps by a table of 256. -/
theorem stps_table (x : Nat) : stps 8 x = stps 8 (x % 256) ^^^ (x / 256) := by
  have h := stps_high 8 0 (x / 256) (x % 256) (by omega)
  rw [Nat.zero_xor, Nat.zero_xor, show x / 256 * 2 ^ 8 + x % 256 = x from by omega] at h
  exact h

/-- A load, framed. -/
def headB (k : UInt8) (l : List UInt8) : List UInt8 := [79, 71, 1, k] ++ (natB l.length ++ l)
def frameB (k : UInt8) (l : List UInt8) : List UInt8 := headB k l ++ le4 (sumN (headB k l))
theorem frame_len (k : UInt8) (l : List UInt8) : (frameB k l).length = 8 + (natB l.length).length + l.length := by
  unfold frameB headB le4; simp; omega
/-- A load's length is read out of its frame, whatever stands behind. -/
theorem frame_first (k : UInt8) (l r : List UInt8) (h : l.length < 18446744073709551616) : firstS ((frameB k l ++ r).drop 4) = (l.length, (natB l.length).length) := by
  have e : (frameB k l ++ r).drop 4 = natB l.length ++ (l ++ (le4 (sumN (headB k l)) ++ r)) := by
    unfold frameB
    conv => lhs; rw [List.append_assoc]
    conv => lhs; arg 2; arg 1; unfold headB
    simp
  rw [e]; exact firstS_nat h _
theorem frame_more {k k' : UInt8} {l l' r r' : List UInt8} (h : l.length < 18446744073709551616) (h' : l'.length < 18446744073709551616) (e : frameB k l ++ r = frameB k' l' ++ r') :
    frameB k l = frameB k' l' ∧ r = r' := by
  have f := frame_first k l r h
  rw [e, frame_first k' l' r' h'] at f
  have hl : l'.length = l.length := congrArg Prod.fst f
  exact List.append_inj e (by rw [frame_len, frame_len, hl])
theorem frame_inj {k k' : UInt8} {l l' : List UInt8} (h : l.length < 18446744073709551616) (h' : l'.length < 18446744073709551616) (e : frameB k l = frameB k' l') : k = k' ∧ l = l' := by
  have f := frame_first k l [] h
  rw [List.append_nil, e, ← List.append_nil (frameB k' l'), frame_first k' l' [] h'] at f
  have hl : l'.length = l.length := congrArg Prod.fst f
  unfold frameB at e
  have e1 := (List.append_inj e (by unfold headB; simp [hl])).1
  unfold headB at e1
  simp only [List.cons_append, List.nil_append, List.cons.injEq, true_and] at e1
  obtain ⟨hk, e2⟩ := e1
  rw [hl] at e2
  exact ⟨hk, (List.append_inj e2 rfl).2⟩
/-- A frame in which up to four bytes in a row are turned is none. -/
theorem frame_turned {k k' : UInt8} {l l' : List UInt8} {i turn m : Nat} (ht : turn < 4294967296) (e : frameB k' l' = mix (frameB k l) (pat i turn m)) (hl : (frameB k l).length = (pat i turn m).length) : turn = 0 :=
  burst (a := headB k l) (b := headB k' l') ht e hl
/-- What a text opens to, as the reference finds it. -/
def openS (s : List UInt8) : Option (UInt8 × List UInt8) :=
  if s.length < 9 ∨ (takS (s.drop 4) 262144).2 = 0 ∨ s.length ≠ 8 + (takS (s.drop 4) 262144).2 + (takS (s.drop 4) 262144).1 then none
  else if frameB (s.getD 3 0) ((s.drop (4 + (takS (s.drop 4) 262144).2)).take (takS (s.drop 4) 262144).1) = s then some (s.getD 3 0, (s.drop (4 + (takS (s.drop 4) 262144).2)).take (takS (s.drop 4) 262144).1)
  else none
theorem frame_tak (k : UInt8) (l r : List UInt8) (h : l.length ≤ 262144) : takS ((frameB k l ++ r).drop 4) 262144 = (l.length, (natB l.length).length) := by
  unfold takS
  rw [frame_first k l r (by omega)]
  have := natB_pos l.length
  rw [if_neg (by simp only []; omega)]
theorem open_frame (k : UInt8) (l : List UInt8) (h : l.length ≤ 262144) : openS (frameB k l) = some (k, l) := by
  have ht := frame_tak k l [] h
  rw [List.append_nil] at ht
  have hl := frame_len k l
  have hp := natB_pos l.length
  have e3 : (frameB k l).getD 3 0 = k := rfl
  have ed : ((frameB k l).drop (4 + (natB l.length).length)).take l.length = l := by
    have e : frameB k l = ([79, 71, 1, k] ++ natB l.length) ++ (l ++ le4 (sumN (headB k l))) := by
      unfold frameB
      conv => lhs; arg 1; unfold headB
      simp
    rw [e]
    have hlen : 4 + (natB l.length).length = ([79, 71, 1, k] ++ natB l.length).length := by simp; omega
    rw [hlen, List.drop_left, List.take_left]
  unfold openS
  rw [ht]
  rw [if_neg (by simp only []; omega), e3]
  rw [show ((frameB k l).drop (4 + (l.length, (natB l.length).length).2)).take (l.length, (natB l.length).length).1 = l from ed, if_pos rfl]
theorem open_some {s : List UInt8} {k : UInt8} {l : List UInt8} (h : openS s = some (k, l)) : l.length ≤ 262144 ∧ s = frameB k l := by
  unfold openS at h
  have hm := takS_most (s.drop 4) 262144
  split at h
  · cases h
  · rename_i hc
    split at h
    · rename_i hf
      injection h with h
      injection h with h1 h2
      subst h1 h2
      refine ⟨?_, hf.symm⟩
      rw [List.length_take]; omega
    · cases h
theorem open_none {s : List UInt8} : openS s = none ↔ ∀ k l, l.length ≤ 262144 → s ≠ frameB k l := by
  constructor
  · intro h k l hl e
    rw [e, open_frame k l hl] at h; cases h
  · intro h
    cases ho : openS s with
    | none => rfl
    | some x => obtain ⟨k, l⟩ := x; obtain ⟨h1, h2⟩ := open_some ho; exact absurd h2 (h k l h1)
/-- A frame that is cut is none; nor is one with something behind it. -/
theorem open_cut (k : UInt8) (l : List UInt8) (h : l.length ≤ 262144) (n : Nat) (hn : n < (frameB k l).length) : openS ((frameB k l).take n) = none := by
  rw [open_none]
  intro k' l' hl' e
  have e2 : frameB k' l' ++ (frameB k l).drop n = frameB k l ++ [] := by rw [← e, List.take_append_drop, List.append_nil]
  obtain ⟨_, e3⟩ := frame_more (by omega) (by omega) e2
  have := congrArg List.length e3
  rw [List.length_drop] at this
  simp at this
  omega
theorem open_more (k : UInt8) (l r : List UInt8) (h : l.length ≤ 262144) (hr : r ≠ []) : openS (frameB k l ++ r) = none := by
  rw [open_none]
  intro k' l' hl' e
  have e2 : frameB k l ++ r = frameB k' l' ++ [] := by rw [e, List.append_nil]
  exact hr (frame_more (by omega) (by omega) e2).2
theorem open_turned (k : UInt8) (l : List UInt8) (i turn m : Nat) (ht : turn < 4294967296) (h0 : turn ≠ 0) (hl : (frameB k l).length = (pat i turn m).length) : openS (mix (frameB k l) (pat i turn m)) = none := by
  rw [open_none]
  intro k' l' _ e
  exact h0 (frame_turned (k := k) (l := l) (k' := k') (l' := l') ht e.symm hl)
end Go.Proofs.Ytnjheggnnmbgaaa
