/-
  The reference of layer 20: Coin, Halve, Up, Same.
-/
import Derived.Test.YtecnlpkfcggimaaCoinM
import Derived.Test.YtecnlpkfcggimaaGwA
import Derived.Deep.QuietTactic
import Derived.BigQuiet
namespace Go.Proofs.Ytecnlpkfcggimaa
set_option linter.unusedVariables false
set_option linter.unusedSimpArgs false
open Go.RowKit

/-- The k-th coin of a word. -/
def coinB (w : Int) (k : Nat) : Bool := w / ((2 ^ (k % 64) : Nat) : Int) % 2 == 1
theorem half_step (w : Int) (i : Nat) : w / ((2 ^ i : Nat) : Int) / 2 = w / ((2 ^ (i + 1) : Nat) : Int) := by
  have hp := Nat.two_pow_pos i
  rw [Int.ediv_ediv_of_nonneg (by omega)]
  exact congrArg (w / ·) (by rw [Nat.pow_succ, Int.natCast_mul]; rfl)

set_option maxRecDepth 100000 in
set_option maxHeartbeats 1000000 in
theorem rcoin20_any (W : World) (w : Int) (k : Nat) (hw : Word w) (hk : (k : Int) ≤ 9223372036854775807) :
    Calls Try.prog 12 #[.int .u64 w, .int .i64 k] W fun e W' => e = .returned (.bool (coinB w k)) ∧ W = W' := by
  obtain ⟨r, hr⟩ : ∃ r : Nat, k % 64 = r := ⟨_, rfl⟩
  have hr64 : r < 64 := by omega
  have ht : ((k : Int)).tmod 64 = r := by rw [Int.tmod_eq_emod_of_nonneg (by omega)]; omega
  have HC : Hid (coinB w k = (w / ((2 ^ r : Nat) : Int) % 2 == 1)) := Lib.hid (by unfold coinB; rw [hr])
  obtain ⟨w0, w1⟩ := hw
  have HB : Hid (∀ i : Nat, 0 ≤ w / ((2 ^ i : Nat) : Int) ∧ w / ((2 ^ i : Nat) : Int) < 18446744073709551616) := Lib.hid fun i => by
    have hp := Nat.two_pow_pos i
    exact ⟨Int.ediv_nonneg w0 (by omega), Int.lt_of_le_of_lt (Int.ediv_le_self _ w0) w1⟩
  have HW0 : Hid (w / ((2 ^ 0 : Nat) : Int) = w) := Lib.hid (by simp)
  have HST := Lib.hid (half_step w)
  have km : (k : Int) % 64 = r := by omega
  clear hr
  go_enter Try.func12, Try.ntmps12
  go_wp2_with fail
  go_loopw [0, 5] (fun xv iv wr => ∃ (i : Nat) (x : Int), i ≤ r ∧ iv = .int .i64 i ∧ xv = .int .u64 x ∧ x = w / ((2 ^ i : Nat) : Int) ∧ W = wr) (fun _ iv _ => r - (intOf iv).toNat)
  case atStart => exact ⟨0, w, Nat.zero_le _, rfl, rfl, HW0.out.symm, rfl⟩
  case round =>
    obtain ⟨i, x, hi, rfl, rfl, hx, rfl⟩ := hrel
    have HX := Lib.hid hx
    have hb := HB.out i
    rw [← hx] at hb
    obtain ⟨b0, b1⟩ := hb
    clear hx
    by_cases hlt : i < r
    · have kk : (i : Int) < r := by omega
      have hst := HST.out i
      rw [← HX.out] at hst
      obtain ⟨y, hy⟩ : ∃ y, x / 2 = y := ⟨_, rfl⟩
      have HY : Hid (y = w / ((2 ^ (i + 1) : Nat) : Int)) := Lib.hid (by rw [← hy, hst])
      clear hst
      go_wp2_with fail
      go_roundw
      case rel => exact ⟨i + 1, y, by omega, by go_num, by first | rfl | rw [hy], HY.out, by first | rfl | trivial⟩
      case measure => simp [intOf]; omega
    · obtain rfl : i = r := by omega
      have kk : ¬ (i : Int) < i := by omega
      obtain ⟨z, hz⟩ : ∃ z, (x % 2 == 1) = z := ⟨_, rfl⟩
      have HZ : Hid (coinB w k = z) := Lib.hid (by rw [HC.out, ← HX.out, hz])
      go_wp2_with fail
      go_ret
      exact ⟨by rw [HZ.out, ← hz]; rfl, rfl⟩

/-- Two further on: one value more. -/
theorem halv_step : ∀ (b : Bool) (L : List Int) (i : Nat) (x : Int), L[i]? = some x → i % 2 = (if b = true then 1 else 0) → halvB b (L.take (i + 2)) = halvB b (L.take i) ++ [x]
  | false, y :: r, 0, x, h, _ => by
    have e : y = x := Option.some.inj h
    subst e
    cases r with
    | nil => rfl
    | cons z t => rfl
  | true, y :: z :: r, 1, x, h, _ => by
    have e : z = x := Option.some.inj h
    subst e
    cases r with
    | nil => rfl
    | cons z t => rfl
  | b, [], i, x, h, _ => by simp at h
  | true, [y], 1, x, h, _ => by simp at h
  | true, y :: r, 0, x, h, hi => by simp at hi
  | false, y :: r, 1, x, h, hi => by simp at hi
  | false, [y], i + 2, x, h, hi => by simp at h
  | true, [y], i + 2, x, h, hi => by simp at h
  | false, y :: z :: r, i + 2, x, h, hi => by
    have ih := halv_step false r i x (by simpa using h) (by simp at hi ⊢; omega)
    show y :: halvB false (r.take (i + 2)) = y :: (halvB false (r.take i) ++ [x])
    rw [ih]
  | true, y :: z :: r, i + 2, x, h, hi => by
    have ih := halv_step true r i x (by simpa using h) (by simp at hi ⊢; omega)
    show z :: halvB true (r.take (i + 2)) = z :: (halvB true (r.take i) ++ [x])
    rw [ih]

set_option maxRecDepth 100000 in
set_option maxHeartbeats 2000000 in
theorem rhalve20_any (w : World) (A : Option Addr) (n cap : Nat) (L : List Int) (b : Bool) (h : Nums w A L) (hn : L.length = n) (hl : n ≤ 50000) :
    Calls Try.prog 19 #[.slice A n cap, .bool b] w fun e w' => ∃ v, e = .returned v ∧ OwnN w' w.heap.size v (halvB b L) ∧ Below w.heap.size w w' := by
  have HI := Lib.hid h
  have HL := Lib.hid hn
  obtain ⟨s, hs⟩ : ∃ s : Nat, (if b = true then 1 else 0) = s := ⟨_, rfl⟩
  have HS := Lib.hid hs
  have hs1 : s ≤ 1 := by cases b <;> simp at hs <;> omega
  have H0 : Hid (halvB b (L.take s) = []) := Lib.hid (by
    rw [← hs]
    cases b with
    | false => rfl
    | true => cases L <;> rfl)
  have HLE : Hid (∀ i, (halvB b (L.take i)).length ≤ 50000) := Lib.hid fun i => by
    rw [halv_len]
    have : (L.take i).length ≤ n := by rw [List.length_take]; omega
    split <;> omega
  clear h hn
  have key : ∀ (w2 : World), w2 = w → True := fun _ _ => trivial
  clear key
  cases b with
  | false =>
    obtain rfl : s = 0 := by simpa using hs.symm
    clear hs
    go_enter Try.func19, Try.ntmps19
    go_wp2_with fail
    go_loopw [5, 6] (fun ov iv wr => ∃ (i : Nat), i ≤ n + 1 ∧ i % 2 = 0 ∧ iv = .int .i64 i ∧ OwnN wr w.heap.size ov (halvB false (L.take i)) ∧ Below w.heap.size w wr) (fun _ iv _ => n + 2 - (intOf iv).toNat)
    case atStart => exact ⟨0, Nat.zero_le _, rfl, rfl, OwnN.nil _ _, Below.refl _ _⟩
    case round =>
      obtain ⟨i, hi, hp, rfl, ho, hb⟩ := hrel
      have HO := Lib.hid ho
      have HB := Lib.hid hb
      have hbs := hb.size
      obtain ⟨vA, vk, hv⟩ := ho.form
      obtain ⟨m, hm⟩ : ∃ m, (halvB false (L.take i)).length = m := ⟨_, rfl⟩
      rw [hm] at hv
      subst hv
      have hm2 : m ≤ 50000 := by rw [← hm]; exact HLE.out i
      have HM := Lib.hid hm
      clear ho hb hm
      by_cases hlt : i < n
      · have kk : (i : Int) < n := by omega
        have hxk := List.getElem?_eq_getElem (l := L) (i := i) (by rw [HL.out]; exact hlt)
        generalize L[i]'(by rw [HL.out]; exact hlt) = x at hxk
        obtain ⟨ba, oa, rfl, _, c0⟩ := (HI.out.call HB.out).at_ i x hxk
        have HST := Lib.hid (halv_step false L i x hxk (by simpa using hp))
        have HAL : Hid (Below wr.heap.size wr (wr.alloc (.cells #[.int .i64 x] 2))) := Lib.hid ((Below.refl _ _).alloc (Nat.le_refl _) _)
        clear hxk
        go_wp2_with (at_builtin; refine wpList_append_num rfl _ _ rfl w.heap.size _ _ m HM.out wr.heap.size x rfl (HO.out.call HAL.out) rfl ?c1 ?c4 ?c5 ?_)
        case c1 => go_simp
        case c4 => omega
        case c5 => exact Nat.le_trans hbs HAL.out.size
        intro g' cp w1 hown' hgrow _
        have hb4 := (HO.out.call HAL.out).below (HB.out.trans (HAL.out.mono hbs)) hgrow (Nat.le_trans hbs HAL.out.size)
        rw [← HST.out] at hown'
        clear hgrow
        go_wp2_with fail
        go_roundw
        case rel => exact ⟨i + 2, by omega, by omega, by go_num, hown', hb4⟩
        case measure => simp [intOf]; omega
      · have kk : ¬ (i : Int) < n := by omega
        have HT : Hid (L.take i = L) := Lib.hid (List.take_of_length_le (by rw [HL.out]; omega))
        rw [HT.out] at HO
        go_wp2_with fail
        go_ret
        exact ⟨_, rfl, HO.out, HB.out⟩
  | true =>
    obtain rfl : s = 1 := by simpa using hs.symm
    clear hs
    go_enter Try.func19, Try.ntmps19
    go_wp2_with fail
    go_loopw [5, 6] (fun ov iv wr => ∃ (i : Nat), i ≤ n + 1 ∧ i % 2 = 1 ∧ iv = .int .i64 i ∧ OwnN wr w.heap.size ov (halvB true (L.take i)) ∧ Below w.heap.size w wr) (fun _ iv _ => n + 2 - (intOf iv).toNat)
    case atStart => exact ⟨1, by omega, rfl, rfl, by rw [H0.out]; exact OwnN.nil _ _, Below.refl _ _⟩
    case round =>
      obtain ⟨i, hi, hp, rfl, ho, hb⟩ := hrel
      have HO := Lib.hid ho
      have HB := Lib.hid hb
      have hbs := hb.size
      obtain ⟨vA, vk, hv⟩ := ho.form
      obtain ⟨m, hm⟩ : ∃ m, (halvB true (L.take i)).length = m := ⟨_, rfl⟩
      rw [hm] at hv
      subst hv
      have hm2 : m ≤ 50000 := by rw [← hm]; exact HLE.out i
      have HM := Lib.hid hm
      clear ho hb hm
      by_cases hlt : i < n
      · have kk : (i : Int) < n := by omega
        have hxk := List.getElem?_eq_getElem (l := L) (i := i) (by rw [HL.out]; exact hlt)
        generalize L[i]'(by rw [HL.out]; exact hlt) = x at hxk
        obtain ⟨ba, oa, rfl, _, c0⟩ := (HI.out.call HB.out).at_ i x hxk
        have HST := Lib.hid (halv_step true L i x hxk (by simpa using hp))
        have HAL : Hid (Below wr.heap.size wr (wr.alloc (.cells #[.int .i64 x] 2))) := Lib.hid ((Below.refl _ _).alloc (Nat.le_refl _) _)
        clear hxk
        go_wp2_with (at_builtin; refine wpList_append_num rfl _ _ rfl w.heap.size _ _ m HM.out wr.heap.size x rfl (HO.out.call HAL.out) rfl ?c1 ?c4 ?c5 ?_)
        case c1 => go_simp
        case c4 => omega
        case c5 => exact Nat.le_trans hbs HAL.out.size
        intro g' cp w1 hown' hgrow _
        have hb4 := (HO.out.call HAL.out).below (HB.out.trans (HAL.out.mono hbs)) hgrow (Nat.le_trans hbs HAL.out.size)
        rw [← HST.out] at hown'
        clear hgrow
        go_wp2_with fail
        go_roundw
        case rel => exact ⟨i + 2, by omega, by omega, by go_num, hown', hb4⟩
        case measure => simp [intOf]; omega
      · have kk : ¬ (i : Int) < n := by omega
        have HT : Hid (L.take i = L) := Lib.hid (List.take_of_length_le (by rw [HL.out]; omega))
        rw [HT.out] at HO
        go_wp2_with fail
        go_ret
        exact ⟨_, rfl, HO.out, HB.out⟩

set_option maxRecDepth 100000 in
set_option maxHeartbeats 1000000 in
theorem rup20_any (w : World) (A : Option Addr) (c cap : Nat) (L : List Int) (x n : Int) (h : Nums w A L) (hc : L.length = c) (hl : c ≤ 100000) (hx : I64 x) (hn : upV L x = n) :
    Calls Try.prog 22 #[.slice A c cap, .int .i64 x] w fun e w' => e = .returned (.int .i64 n) ∧ w = w' := by
  subst hc
  have HI := Lib.hid h
  have HN := Lib.hid hn
  have HBD := Lib.hid (fun k => upV_bd (L.take k) x)
  obtain ⟨x0, x1⟩ := hx
  clear h hn
  go_enter Try.func22, Try.ntmps22
  go_wp2_with fail
  go_loopw [5, 10] (fun s j wr => ∃ (k : Nat) (m : Int), k ≤ L.length ∧ j = .int .i64 k ∧ s = .int .i64 m ∧ m = upV (L.take k) x ∧ w = wr) (fun _ j _ => L.length - (intOf j).toNat)
  case atStart => exact ⟨0, 0, Nat.zero_le _, rfl, rfl, rfl, rfl⟩
  case round =>
    obtain ⟨k, m, hk, rfl, rfl, hm, rfl⟩ := hrel
    have HM := Lib.hid hm
    by_cases hlt : k < L.length
    · have kk : (k : Int) < L.length := by omega
      have hxk : L[k]? = some L[k] := List.getElem?_eq_getElem hlt
      generalize hit : L[k] = y at *
      obtain ⟨b, off, rfl, hbl, c0⟩ := HI.out.at_ k _ hxk
      have HS := Lib.hid (upV_step hxk x)
      have hok := HI.out.ok _ (List.mem_of_getElem? hxk)
      have hmb := HBD.out k
      rw [← hm, List.length_take] at hmb
      have hm9 : 0 ≤ m ∧ m ≤ 100000 := by omega
      obtain ⟨m0, m1⟩ := hm9
      obtain ⟨o1, o2⟩ := hok
      clear hxk hit hm hmb
      by_cases hc : y ≤ x
      · rw [if_pos hc] at HS
        go_wp2_with fail
        go_roundw
        case rel => exact ⟨k + 1, m + 1, by omega, by go_num, by first | rfl | go_num, by rw [HS.out, HM.out], by first | rfl | trivial⟩
        case measure => simp [intOf]; omega
      · rw [if_neg hc] at HS
        go_wp2_with fail
        go_roundw
        case rel => exact ⟨k + 1, m, by omega, by go_num, rfl, by rw [HS.out, HM.out, Int.add_zero], by first | rfl | trivial⟩
        case measure => simp [intOf]; omega
    · obtain rfl : k = L.length := by omega
      rw [List.take_length, HN.out] at HM
      have kk : ¬ (L.length : Int) < L.length := by omega
      clear hm
      go_wp2_with fail
      go_ret
      exact ⟨ret_int HM.out, rfl⟩

set_option maxRecDepth 100000 in
set_option maxHeartbeats 1000000 in
theorem rsame20_any (w : World) (A B : Option Addr) (n n' cap cap' : Nat) (L : List Int) (h : Nums w A L) (k : Nums w B L) (hn : L.length = n) (hn' : L.length = n') (hl : n ≤ 100000) :
    Calls Try.prog 17 #[.slice A n cap, .slice B n' cap'] w fun e w' => e = .returned (.bool true) ∧ Below w.heap.size w w' := by
  obtain rfl : n = n' := by omega
  have HA := Lib.hid h
  have HB := Lib.hid k
  have HN := Lib.hid hn
  clear h k hn hn'
  go_enter Try.func17, Try.ntmps17
  go_wp2_with fail
  go_loopw [13] (fun iv wr => ∃ (i : Nat), i ≤ n ∧ iv = .int .i64 i ∧ Below w.heap.size w wr) (fun iv _ => n - (intOf iv).toNat)
  case atStart => exact ⟨0, Nat.zero_le _, rfl, Below.refl _ _⟩
  case round =>
    obtain ⟨i, hi, rfl, hb⟩ := hrel
    have HW := Lib.hid hb
    by_cases hlt : i < n
    · have kk : (i : Int) < n := by omega
      have hxk := List.getElem?_eq_getElem (l := L) (i := i) (by rw [HN.out]; exact hlt)
      generalize L[i]'(by rw [HN.out]; exact hlt) = x at hxk
      obtain ⟨ba, oa, rfl, _, c0⟩ := (HA.out.call hb).at_ i x hxk
      obtain ⟨bb, ob, rfl, _, d0⟩ := (HB.out.call hb).at_ i x hxk
      clear hxk hb
      go_wp2_with fail
      go_quiet (fail)
      rename_i nq
      go_wp2_with fail
      go_roundw
      case rel => exact ⟨i + 1, by omega, by go_num, below_drewN HW.out _⟩
      case measure => simp [intOf]; omega
    · obtain rfl : i = n := by omega
      have kk : ¬ (i : Int) < i := by omega
      go_wp2_with fail
      go_ret
      exact ⟨rfl, HW.out⟩
end Go.Proofs.Ytecnlpkfcggimaa
