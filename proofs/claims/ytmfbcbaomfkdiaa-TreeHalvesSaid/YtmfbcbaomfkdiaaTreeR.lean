/-
  The reference of layer 16: Good, Range, Above, Before.
-/
import Derived.Test.YtmfbcbaomfkdiaaTreeA
namespace Go.Proofs.Ytmfbcbaomfkdiaa
set_option linter.unusedVariables false
set_option linter.unusedSimpArgs false
open Go.RowKit

def goodT (b : Nat) (v : Int) : Bool := decide (1 ≤ v) && decide (v < 2 ^ (b + 1))
theorem good_nat {b : Nat} {v : Int} (h : goodT b v = true) : ∃ n : Nat, v = n ∧ 1 ≤ n ∧ n < 2 ^ (b + 1) := by
  unfold goodT at h
  rw [Bool.and_eq_true, decide_eq_true_eq, decide_eq_true_eq] at h
  refine ⟨v.toNat, by omega, by omega, ?_⟩
  have e : ((2 ^ (b + 1) : Nat) : Int) = 2 ^ (b + 1) := by rw [Int.natCast_pow]; rfl
  have := h.2
  rw [← e] at this
  omega
theorem nat_good {b n : Nat} (h1 : 1 ≤ n) (h2 : n < 2 ^ (b + 1)) : goodT b (n : Int) = true := by
  unfold goodT
  have e : ((2 ^ (b + 1) : Nat) : Int) = 2 ^ (b + 1) := by rw [Int.natCast_pow]; rfl
  rw [← e, decide_eq_true (by omega : (1 : Int) ≤ n), decide_eq_true (by omega : (n : Int) < ((2 ^ (b + 1) : Nat) : Int))]; rfl
def loI (b n : Nat) : Int := (loT b n : Int) - 2 ^ b
def hiI (b n : Nat) : Int := (upT b n : Int) - 2 ^ b - 1
theorem pow_bd {b : Nat} (h : b ≤ 24) : 1 ≤ 2 ^ b ∧ 2 ^ b ≤ 16777216 := by
  have h1 := Nat.pow_le_pow_right (show 0 < 2 by omega) h
  have h2 := Nat.two_pow_pos b
  exact ⟨h2, by omega⟩

set_option maxRecDepth 100000 in
theorem rgood16_any (w : World) (b : Nat) (hb : b ≤ 24) (v : Int) (hv : I64 v) (B : Bool) (hB : goodT b v = B) :
    Calls Try.prog 13 #[.int .i64 b, .int .i64 v] w fun e w' => e = .returned (.bool B) ∧ Below w.heap.size w w' := by
  have HB := Lib.hid hB
  obtain ⟨v0, v1⟩ := hv
  clear hB
  go_enter Try.func13, Try.ntmps13
  go_wp2_with fail
  go_loopg [5, 6] b (fun g m j wr => ∃ (k p : Nat), k ≤ b ∧ g = b - k ∧ p = 2 ^ (k + 1) ∧ m = .int .i64 p ∧ j = .int .i64 k ∧ wr = w)
  case atStart => exact ⟨0, 2, Nat.zero_le _, rfl, rfl, rfl, rfl, rfl⟩
  case round =>
    obtain ⟨k, p, hk, rfl, hp, rfl, rfl, rfl⟩ := hrel
    have HP := Lib.hid hp
    have p0 : p ≤ 33554432 := by
      have := (pow_bd (show k ≤ 24 by omega)).2
      rw [hp, Nat.pow_succ]; omega
    clear hp
    by_cases hlt : k < b
    · have kl : (k : Int) < b := by omega
      go_wp2_with fail
      go_roundg (b - (k + 1))
      case measure => omega
      case rel => exact ⟨k + 1, 2 * p, by omega, rfl, by rw [HP.out, Nat.pow_succ 2 (k + 1)]; omega, congrArg (Value.int .i64) (show (2 : Int) * (p : Int) = ((2 * p : Nat) : Int) by omega), by first | rfl | go_num, rfl⟩
    · obtain rfl : k = b := by omega
      have kl : ¬ (k : Int) < k := by omega
      have e : ((2 ^ (k + 1) : Nat) : Int) = 2 ^ (k + 1) := by rw [Int.natCast_pow]; rfl
      have hgt : goodT k v = (decide (1 ≤ v) && decide (v < (p : Int))) := by unfold goodT; rw [HP.out, e]
      have HG := Lib.hid (hgt.symm.trans HB.out)
      clear hgt e
      by_cases h1 : 1 ≤ v
      · have HF : Hid (decide (v < (p : Int)) = B) := Lib.hid (by have := HG.out; rw [decide_eq_true h1, Bool.true_and] at this; exact this)
        go_wp2_with fail
        go_ret
        exact ⟨by rw [HF.out]; rfl, Below.refl _ _⟩
      · have HF : Hid (B = false) := Lib.hid (by have := HG.out; rw [decide_eq_false h1, Bool.false_and] at this; exact this.symm)
        go_wp2_with fail
        go_ret
        exact ⟨by rw [HF.out]; rfl, Below.refl _ _⟩

set_option maxRecDepth 100000 in
set_option maxHeartbeats 2000000 in
theorem rrange_any (w : World) (b n : Nat) (hb : b ≤ 24) (h1 : 1 ≤ n) (h2 : n < 2 ^ (b + 1)) (lo hi : Int) (hlo : loI b n = lo) (hhi : hiI b n = hi) :
    Calls Try.prog 17 #[.int .i64 b, .int .i64 n] w fun e w' => e = .returned (.tuple #[.int .i64 lo, .int .i64 hi]) ∧ Below w.heap.size w w' := by
  have hll := lvl_le h1 h2
  have hpb := (pow_bd hb).2
  have hn : n < 33554432 := by rw [Nat.pow_succ] at h2; omega
  have HLO := Lib.hid hlo
  have HHI := Lib.hid hhi
  have H1 := Lib.hid h1
  have HPA := Lib.hid (fun W => rpath_any W (n : Int) ⟨by omega, by omega⟩)
  obtain ⟨ln, hln⟩ : ∃ ln, ln = lvlT n + 1 := ⟨_, rfl⟩
  have hpi : pathI (n : Int) = pathK n ln := by unfold pathI pathK; rw [if_pos (by omega), hln]; rfl
  rw [hpi] at HPA
  have HLN := Lib.hid hln
  have lb : ln ≤ b + 1 := by omega
  have l1 : 1 ≤ ln := by omega
  clear hlo hhi h2 hpi hpb
  go_enter Try.func17, Try.ntmps17
  go_wp2_with fail
  go_loopg [7, 8] b (fun g m j wr => ∃ (k p : Nat), k ≤ b ∧ g = b - k ∧ p = 2 ^ k ∧ m = .int .i64 p ∧ j = .int .i64 k ∧ wr = w)
  case atStart => exact ⟨0, 1, Nat.zero_le _, rfl, rfl, rfl, rfl, rfl⟩
  case round =>
    obtain ⟨k, p, hk, rfl, hp, rfl, rfl, rfl⟩ := hrel
    have HP := Lib.hid hp
    have p0 : p ≤ 16777216 := by rw [hp]; exact (pow_bd (show k ≤ 24 by omega)).2
    clear hp
    by_cases hlt : k < b
    · have kl : (k : Int) < b := by omega
      go_wp2_with fail
      go_roundg (b - (k + 1))
      case measure => omega
      case rel => exact ⟨k + 1, 2 * p, by omega, rfl, by rw [HP.out, Nat.pow_succ 2 k]; omega, congrArg (Value.int .i64) (show (2 : Int) * (p : Int) = ((2 * p : Nat) : Int) by omega), by first | rfl | go_num, rfl⟩
    · obtain rfl : k = b := by omega
      have kl : ¬ (k : Int) < k := by omega
      go_wp2_with fail
      refine (HPA.out _).mono ?_
      rintro e w1 ⟨r, rfl, ho, b1⟩
      obtain ⟨A, cap, rfl, hat⟩ := ho.at_
      rw [pathK_len]
      have HAT : Hid (∀ W, Below w1.heap.size w1 W → ∀ i, i < ln → ∃ g, A = some ⟨g, 0, none⟩ ∧ W.cell? ⟨g, i, none⟩ = some (.int .i64 ((n / 2 ^ (ln - 1 - i) : Nat) : Int))) := Lib.hid fun W hW i hi => by
        obtain ⟨g, e, hc⟩ := hat i ((n / 2 ^ (ln - 1 - i) : Nat) : Int) (by unfold pathK; rw [List.getElem?_map, path_at n ln i hi]; rfl)
        exact ⟨g, e, cell_later hW hc⟩
      have HB1 := Lib.hid b1
      clear ho hat b1 HPA
      go_wp2_with fail
      go_loopg [6, 7, 10] (ln - 1) (fun g l m j wr => ∃ (i sz : Nat) (x : Int), 1 ≤ i ∧ i ≤ ln ∧ g = ln - i ∧ sz = 2 ^ (k - (i - 1)) ∧ x = ((n / 2 ^ (ln - i) * 2 ^ (k - (i - 1)) : Nat) : Int) - 2 ^ k ∧ 0 ≤ x ∧ x + sz ≤ 16777216 ∧ l = .int .i64 x ∧ m = .int .i64 sz ∧ j = .int .i64 i ∧ Below w1.heap.size w1 wr)
      case atStart =>
        have hd : n / 2 ^ (ln - 1) = 1 := by
          have hb := lvl_bd H1.out
          have e : ln - 1 = lvlT n := by have := HLN.out; omega
          rw [e]
          refine Nat.div_eq_of_lt_le (by omega) ?_
          rw [Nat.pow_succ] at hb; omega
        have e : ((2 ^ k : Nat) : Int) = 2 ^ k := by rw [Int.natCast_pow]; rfl
        exact ⟨1, p, 0, Nat.le_refl _, l1, rfl, HP.out, by rw [hd, Nat.one_mul, Nat.sub_self, Nat.sub_zero, e]; omega, by omega, by omega, rfl, rfl, rfl, Below.refl _ _⟩
      case round =>
        obtain ⟨i, sz, x, i1, i2, rfl, hsz, hx, x0, xs, rfl, rfl, rfl, hb2⟩ := hrel
        have HSZ := Lib.hid hsz
        have HX := Lib.hid hx
        have HB2 := Lib.hid hb2
        have z0 : sz ≤ 16777216 := by omega
        clear hsz hx
        by_cases hlt : i < ln
        · have kl2 : (i : Int) < ln := by omega
          obtain ⟨g, rfl, hc⟩ := HAT.out _ hb2 i hlt
          obtain ⟨y, hy⟩ : ∃ y, n / 2 ^ (ln - 1 - i) = y := ⟨_, rfl⟩
          rw [hy] at hc
          have y0 : y ≤ n := by rw [← hy]; exact Nat.div_le_self _ _
          have hbi : k - (i - 1) = k - i + 1 := by omega
          have hs2 : sz = 2 * 2 ^ (k - i) := by rw [HSZ.out, hbi, Nat.pow_succ]; omega
          have hds := div_step n (ln - 1 - i)
          rw [hy, show ln - 1 - i + 1 = ln - i by omega] at hds
          have hst := range_step (b := k) (i := i - 1) (u := n / 2 ^ (ln - i)) (t := y % 2) (by omega)
          rw [← hds, show i - 1 + 1 = i by omega] at hst
          have HS2 : Hid (sz / 2 = 2 ^ (k - i)) := Lib.hid (by omega)
          have HST : Hid (((y * 2 ^ (k - i) : Nat) : Int) - 2 ^ k = x + ((y % 2 * 2 ^ (k - i) : Nat) : Int)) := Lib.hid (by rw [hst, HX.out]; omega)
          have HY := Lib.hid hy
          have HQ : Hid ((sz : Int) / 2 = ((sz / 2 : Nat) : Int)) := Lib.hid (by omega)
          obtain ⟨s2, hs2'⟩ : ∃ s2, sz / 2 = s2 := ⟨_, rfl⟩
          have HE2 : Hid ((sz : Int) / 2 = (s2 : Int)) := Lib.hid (by omega)
          have hh2 : s2 + s2 = sz := by omega
          clear hy hs2 hds hst hb2
          by_cases hr : y % 2 = 1
          · have HR := Lib.hid hr
            have r1 : ((y : Int) % 2 == 1) = true := by simp; omega
            clear hr hs2'
            go_wp2_with fail
            go_roundg (ln - (i + 1))
            case measure => omega
            case rel =>
              have hs3 : s2 = 2 ^ (k - i) := by rw [← HS2.out]; omega
              exact ⟨i + 1, s2, x + s2, by omega, by omega, rfl, hs3, by rw [show i + 1 - 1 = i by omega, show ln - (i + 1) = ln - 1 - i by omega, HY.out, HST.out, HR.out, Nat.one_mul, ← hs3], by omega, by omega, by rw [HE2.out], by rw [HE2.out], by first | rfl | go_num, HB2.out⟩
          · have HR : Hid (y % 2 = 0) := Lib.hid (by omega)
            have r1 : ((y : Int) % 2 == 1) = false := by simp; omega
            clear hr hs2'
            go_wp2_with fail
            go_roundg (ln - (i + 1))
            case measure => omega
            case rel =>
              have hs3 : s2 = 2 ^ (k - i) := by rw [← HS2.out]; omega
              exact ⟨i + 1, s2, x, by omega, by omega, rfl, hs3, by rw [show i + 1 - 1 = i by omega, show ln - (i + 1) = ln - 1 - i by omega, HY.out, HST.out, HR.out, Nat.zero_mul]; simp, by omega, by omega, rfl, by rw [HE2.out], by first | rfl | go_num, HB2.out⟩
        · obtain rfl : i = ln := by omega
          have kl2 : ¬ (i : Int) < i := by omega
          have hl : i - 1 = lvlT n := by have := HLN.out; omega
          have e1 : x = lo := by rw [HX.out, ← HLO.out, hl, Nat.sub_self, Nat.pow_zero, Nat.div_one]; rfl
          have e2 : x + sz - 1 = hi := by
            rw [e1, ← HLO.out, ← HHI.out, HSZ.out, hl]
            unfold loI hiI loT upT
            rw [Nat.add_mul, Nat.one_mul]; omega
          have HE1 := Lib.hid e1
          have HE2 := Lib.hid e2
          have HRB := Lib.hid (HB1.out.trans (HB2.out.mono HB1.out.size))
          clear e1 e2 hb2
          go_wp2_with fail
          go_ret2
          exact ⟨by rw [HE2.out, HE1.out]; rfl, HRB.out⟩
end Go.Proofs.Ytmfbcbaomfkdiaa
