/-
  Walks: the reference of layer 12 (Half, Index, Range), the laws' alive.
-/
import Derived.Test.YtnngjcpdnfchbaaDoorSpanB
import Derived.Test.YtnngjcpdnfchbaaDoorWideE
import Derived.Test.YtnngjcpdnfchbaaDoorWideD
import Derived.LoopTactic
namespace Go.Proofs.YtnngjcpdnfchbaaDoor
set_option linter.unusedVariables false
set_option linter.unusedSimpArgs false
open Go.RowKit Go.Shelf

theorem pow_test {d : Int} {L : Nat} {T : Int} (hs : SpanP d L T) {j : Nat} (h : j ≤ L) : decide ((2 : Int) ^ j < T) = decide (j < L) := by
  apply decide_eq_decide.2
  have hT := spanp_ten hs
  constructor
  · intro a
    by_cases e : j = L
    · subst e; omega
    · omega
  · intro a
    have := pow_le (show j ≤ L - 1 by omega)
    rcases hs with ⟨_, rfl, rfl⟩ | ⟨_, rfl, rfl⟩ | ⟨_, rfl, rfl⟩ | ⟨_, rfl, rfl⟩
    · have e : (2 : Int) ^ (4 - 1) = 8 := by decide
      omega
    · have e : (2 : Int) ^ (7 - 1) = 64 := by decide
      omega
    · have e : (2 : Int) ^ (10 - 1) = 512 := by decide
      omega
    · have e : (2 : Int) ^ (14 - 1) = 8192 := by decide
      omega
def tenN : Nat → Int
  | 0 => 1
  | n + 1 => tenN n * 10
theorem tenN_bd : ∀ k, k ≤ 3 → 1 ≤ tenN k ∧ tenN k ≤ 1000 := by decide
theorem tenN_of {d : Int} {L : Nat} {T : Int} (hs : SpanP d L T) {k : Nat} (h : (k : Int) = d) : tenN k = T := by
  rcases hs with ⟨rfl, rfl, rfl⟩ | ⟨rfl, rfl, rfl⟩ | ⟨rfl, rfl, rfl⟩ | ⟨rfl, rfl, rfl⟩
  · obtain rfl : k = 1 := by omega
    rfl
  · obtain rfl : k = 2 := by omega
    rfl
  · obtain rfl : k = 3 := by omega
    rfl
  · obtain rfl : k = 4 := by omega
    rfl

set_option maxHeartbeats 1000000 in
theorem rhalf_any (d : Int) (L : Nat) (T : Int) (hs : SpanP d L T) (w : World) :
    Calls Tryd.prog 21 #[.int .i64 d] w fun e w' => e = .returned (.int .u64 (2 ^ L)) ∧ w = w' := by
  have d1 : 1 ≤ d := by unfold SpanP at hs; omega
  have d4 : d ≤ 4 := by unfold SpanP at hs; omega
  have HS := Lib.hid hs
  clear hs
  go_enter Tryd.func21, Tryd.ntmps21
  go_wp2_with fail
  go_loop [3, 4] (fun t i => ∃ k : Nat, (k : Int) ≤ d ∧ i = .int .i64 k ∧ t = .int .u64 (tenN k)) (fun _ i => (d - intOf i).toNat)
  case atStart => exact ⟨0, by omega, rfl, rfl⟩
  case round =>
    obtain ⟨k, hk, rfl, rfl⟩ := hrel
    by_cases hlt : (k : Int) < d
    · obtain ⟨t0, t1⟩ := tenN_bd k (by omega)
      have HT := Lib.hid (show tenN (k + 1) = tenN k * 10 from rfl)
      generalize tenN k = t at *
      go_wp2_with fail
      go_round
      case rel => exact ⟨k + 1, by omega, by go_num, by rw [HT.out]⟩
      case measure => simp [intOf]; omega
    · have HT := Lib.hid (tenN_of HS.out (k := k) (by omega))
      rw [HT.out]
      obtain ⟨T0, T1⟩ := spanp_ten HS.out
      obtain ⟨l4, l14⟩ := spanp_log HS.out
      have T2 : T ≤ 10000 := by have := HS.out; unfold SpanP at this; omega
      clear T1
      go_wp2_with fail
      go_loop [5] (fun h => ∃ j : Nat, j ≤ L ∧ h = .int .u64 (2 ^ j)) (fun h => (20000 - intOf h).toNat)
      case atStart => exact ⟨0, by omega, rfl⟩
      case round =>
        obtain ⟨j, hj, rfl⟩ := hrel
        have HP := Lib.hid (pow_test HS.out hj)
        have HU := Lib.hid (pow_up j)
        have p1 := pow_pos j
        have p2 := pow_le (show j ≤ 14 by omega)
        rw [show (2 : Int) ^ 14 = 16384 by decide] at p2
        by_cases hl : j < L
        · have ht : (2 : Int) ^ j < T := by simpa [hl] using HP.out
          generalize (2 : Int) ^ j = p at *
          go_wp2_with fail
          go_round
          case rel => exact ⟨j + 1, by omega, by rw [HU.out]⟩
          case measure => simp [intOf]; omega
        · have ht : ¬ (2 : Int) ^ j < T := by simpa [hl] using HP.out
          obtain rfl : j = L := by omega
          obtain ⟨p, hp⟩ : ∃ p : Int, (2 : Int) ^ j = p := ⟨_, rfl⟩
          have E := Lib.hid hp
          rw [hp] at ht p1 p2 ⊢
          clear hp HP HU
          go_wp2_with fail
          go_ret
          exact ⟨ret_int E.out.symm, rfl⟩

theorem left_test (L : Nat) {m : Int} (h1 : 1 ≤ m) (h2 : m ≤ 9223372036854775808) (hL : L ≤ 14) {j : Nat} (hj : j ≤ cutS L m) : decide (2 * 2 ^ L ≤ m / 2 ^ j) = decide (j < cutS L m) := by
  obtain ⟨a0, a1, a2, a3, a4, a5, a6⟩ := cut_facts L h1 h2 hL
  apply decide_eq_decide.2
  have hp := pow_pos j
  rw [← pow_up, Int.le_ediv_iff_mul_le (by omega), pow_join]
  constructor
  · intro a
    by_cases e : j = cutS L m
    · rw [e] at a; omega
    · omega
  · intro a
    have hq : 2 ^ L ≤ leftS L m := by rcases a3 with h | h <;> omega
    have hc := pow_pos (cutS L m)
    have : 2 ^ L * 2 ^ cutS L m ≤ leftS L m * 2 ^ cutS L m := Int.mul_le_mul_of_nonneg_right hq (by omega)
    rw [pow_join] at this
    have hl : loS L m = leftS L m * 2 ^ cutS L m := rfl
    have := pow_le (show L + 1 + j ≤ L + cutS L m by omega)
    omega
theorem half_more (m : Int) (j : Nat) : m / 2 ^ j / 2 = m / 2 ^ (j + 1) := by
  rw [Int.pow_succ, Int.ediv_ediv_of_nonneg (by have := pow_pos j; omega)]
theorem div_bd {m : Int} (h1 : 1 ≤ m) (h2 : m ≤ 9223372036854775808) (j : Nat) : 0 ≤ m / 2 ^ j ∧ m / 2 ^ j ≤ m := by
  have hp := pow_pos j
  exact ⟨Int.ediv_nonneg (by omega) (by omega), Int.ediv_le_self _ (by omega)⟩

set_option maxHeartbeats 1000000 in
theorem rindex12_any (d : Int) (L : Nat) (T m : Int) (hs : SpanP d L T) (h1 : 1 ≤ m) (h2 : m ≤ 9223372036854775808) (w : World) :
    Calls Tryd.prog 13 #[.int .i64 d, .int .u64 m] w fun e w' => e = .returned (.int .i64 (idxS L m)) ∧ w = w' := by
  obtain ⟨l4, l14⟩ := spanp_log hs
  have HH := Lib.hid (fun W => rhalf_any d L T hs W)
  obtain ⟨a0, a1, a2, a3, _⟩ := cut_facts L h1 h2 l14
  have hpL := pow_le (show L ≤ 14 by omega)
  rw [show (2 : Int) ^ 14 = 16384 by decide] at hpL
  have hpp := pow_pos L
  rw [pow_up] at a2
  have HLT := Lib.hid (fun j (hj : j ≤ cutS L m) => left_test L h1 h2 l14 hj)
  have hkm : (cutS L m : Int) * 2 ^ L ≤ 59 * 16384 := Int.mul_le_mul (by omega) (by omega) (by omega) (by omega)
  have hkm0 : 0 ≤ (cutS L m : Int) * 2 ^ L := Int.mul_nonneg (by omega) (by omega)
  have E : Hid ((cutS L m : Int) * 2 ^ L + leftS L m = idxS L m) := Lib.hid rfl
  have hqd : m / 2 ^ cutS L m = leftS L m := rfl
  generalize leftS L m = q at *
  generalize idxS L m = x at *
  generalize cutS L m = k at *
  obtain ⟨p, hp⟩ : ∃ p : Int, (2 : Int) ^ L = p := ⟨_, rfl⟩
  rw [hp] at HH HLT hkm hkm0 E hpL hpp a2
  have HM := Lib.hid hkm
  have HM0 := Lib.hid hkm0
  clear hp hs l4 l14 a3 hkm hkm0
  go_enter Tryd.func13, Tryd.ntmps13
  go_wp2_with fail
  refine (HH.out _).mono ?_
  rintro e w' ⟨rfl, rfl⟩
  go_wp2_with fail
  go_loop [1, 6] (fun a c => ∃ j : Nat, j ≤ k ∧ a = .int .u64 (m / 2 ^ j) ∧ c = .int .u64 j) (fun _ c => k - (intOf c).toNat)
  case atStart => exact ⟨0, by omega, by simp, rfl⟩
  case round =>
    obtain ⟨j, hj, rfl, rfl⟩ := hrel
    have HT := Lib.hid (HLT.out j hj)
    have HU := Lib.hid (half_more m j)
    obtain ⟨d0, d1⟩ := div_bd h1 h2 j
    by_cases hl : j < k
    · have ht : 2 * p ≤ m / 2 ^ j := by simpa [hl] using HT.out
      generalize m / 2 ^ j = v at *
      clear HT
      go_wp2_with fail
      go_round
      case rel => exact ⟨j + 1, by omega, by rw [← HU.out], by go_num⟩
      case measure => simp [intOf]; omega
    · have ht : ¬ 2 * p ≤ m / 2 ^ j := by simpa [hl] using HT.out
      obtain rfl : j = k := by omega
      rw [hqd] at ht d0 d1 ⊢
      have M1 := HM.out
      have M0 := HM0.out
      clear HT HU hqd
      go_wp2_with fail
      go_ret
      exact ⟨ret_int E.out, rfl⟩

theorem hi_full (L : Nat) {m : Int} (h1 : 1 ≤ m) (h2 : m ≤ 9223372036854775808) (hL : L ≤ 14) (h : loS L m ≠ 9223372036854775808) : hiS L m = loS L m + 2 ^ cutS L m - 1 ∧ loS L m + 2 ^ cutS L m ≤ 9223372036854775808 := by
  obtain ⟨a0, a1, a2, a3, a4, a5, a6⟩ := cut_facts L h1 h2 hL
  have hl : loS L m = leftS L m * 2 ^ cutS L m := rfl
  have hh : hiS L m = min (loS L m + (2 ^ cutS L m - 1)) 9223372036854775808 := rfl
  have hp := pow_pos (cutS L m)
  have e : (2 : Int) ^ (63 - cutS L m) * 2 ^ cutS L m = 9223372036854775808 := by
    rw [pow_join, show 63 - cutS L m + cutS L m = 63 by omega]; decide
  have hq : leftS L m + 1 ≤ 2 ^ (63 - cutS L m) := by
    have : ¬ 2 ^ (63 - cutS L m) ≤ leftS L m := fun h => by
      have := Int.mul_le_mul_of_nonneg_right h (show (0 : Int) ≤ 2 ^ cutS L m by omega)
      omega
    omega
  have h5 := Int.mul_le_mul_of_nonneg_right hq (show (0 : Int) ≤ 2 ^ cutS L m by omega)
  rw [Int.add_mul] at h5
  omega
theorem hi_top (L : Nat) {m : Int} (h : loS L m = 9223372036854775808) : hiS L m = 9223372036854775808 := by
  have hh : hiS L m = min (loS L m + (2 ^ cutS L m - 1)) 9223372036854775808 := rfl
  have := pow_pos (cutS L m)
  omega

set_option maxHeartbeats 1000000 in
theorem rrange12_any (d : Int) (L : Nat) (T m : Int) (hs : SpanP d L T) (h1 : 1 ≤ m) (h2 : m ≤ 9223372036854775808) (w : World) :
    Calls Tryd.prog 12 #[.int .i64 d, .int .u64 m] w fun e w' => e = .returned (.tuple #[.int .u64 (loS L m), .int .u64 (hiS L m)]) ∧ w = w' := by
  obtain ⟨l4, l14⟩ := spanp_log hs
  have HH := Lib.hid (fun W => rhalf_any d L T hs W)
  obtain ⟨a0, a1, a2, a3, a4, _⟩ := cut_facts L h1 h2 l14
  have hpL := pow_le (show L ≤ 14 by omega)
  rw [show (2 : Int) ^ 14 = 16384 by decide] at hpL
  have hpp := pow_pos L
  have HLT := Lib.hid (fun j (hj : j ≤ cutS L m) => left_test L h1 h2 l14 hj)
  have HF := Lib.hid (fun h => hi_full L h1 h2 l14 h)
  have HT := Lib.hid (fun h => hi_top L (m := m) h)
  have ⟨lo0, _⟩ := span_in L h1 h2 l14
  have hmul : leftS L m * 2 ^ cutS L m = loS L m := rfl
  have hqd : m / 2 ^ cutS L m = leftS L m := rfl
  have hk : cutS L m ≤ 59 := by omega
  generalize leftS L m = q at *
  generalize loS L m = lo at *
  generalize hiS L m = hi at *
  generalize cutS L m = k at *
  obtain ⟨p, hp⟩ : ∃ p : Int, (2 : Int) ^ L = p := ⟨_, rfl⟩
  rw [hp] at HH HLT hpL hpp
  clear hp hs l4 l14 a2 a3 a0
  go_enter Tryd.func12, Tryd.ntmps12
  go_wp2_with fail
  refine (HH.out _).mono ?_
  rintro e w' ⟨rfl, rfl⟩
  go_wp2_with fail
  go_loop [7] (fun c => ∃ j : Nat, j ≤ k ∧ c = .int .u64 (2 ^ j)) (fun c => (2 ^ 62 - intOf c).toNat)
  case atStart => exact ⟨0, by omega, rfl⟩
  case round =>
    obtain ⟨j, hj, rfl⟩ := hrel
    have HTE := Lib.hid (HLT.out j hj)
    have HU := Lib.hid (pow_up j)
    have p1 := pow_pos j
    have p2 := pow_le (show j ≤ 59 by omega)
    rw [show (2 : Int) ^ 59 = 576460752303423488 by decide] at p2
    have p0 : ((2 : Int) ^ j == 0) = false := by simp; omega
    obtain ⟨d0, d1⟩ := div_bd h1 h2 j
    obtain ⟨v, hv⟩ : ∃ v, m / 2 ^ j = v := ⟨_, rfl⟩
    by_cases hl : j < k
    · have ht : 2 * p ≤ m / 2 ^ j := by simpa [hl] using HTE.out
      rw [hv] at d0 d1 ht
      generalize (2 : Int) ^ j = s at *
      clear HTE
      go_wp2_with fail
      go_round
      case rel => exact ⟨j + 1, by omega, by rw [HU.out]⟩
      case measure => simp [intOf]; omega
    · have ht : ¬ 2 * p ≤ m / 2 ^ j := by simpa [hl] using HTE.out
      obtain rfl : j = k := by omega
      rw [hv] at hqd d0 d1 ht
      subst hqd
      have hF := HF.out
      have hT := HT.out
      obtain ⟨s, hsz⟩ : ∃ s : Int, (2 : Int) ^ j = s := ⟨_, rfl⟩
      rw [hsz] at hF p1 p2 p0 hv hmul ⊢
      clear HTE HU HF HT hsz
      by_cases hlo : lo = 9223372036854775808
      · have E := Lib.hid (hT hlo)
        have c1 : (lo == 9223372036854775808) = true := by simp [hlo]
        subst hlo
        clear hF hT
        go_wp2_with fail
        go_ret2
        exact ⟨ret_uu rfl E.out.symm, rfl⟩
      · obtain ⟨E1, E2⟩ := hF hlo
        have c1 : (lo == 9223372036854775808) = false := by simp [hlo]
        have E := Lib.hid E1
        clear hF hT E1
        go_wp2_with fail
        go_ret2
        exact ⟨ret_uu rfl E.out.symm, rfl⟩

end Go.Proofs.YtnngjcpdnfchbaaDoor
