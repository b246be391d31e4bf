/-
  The reference of layer 16: Above, Before, and how long a path is.
-/
import Derived.Test.YtmfbcbaomfkdiaaTreeR
namespace Go.Proofs.Ytmfbcbaomfkdiaa
set_option linter.unusedVariables false
set_option linter.unusedSimpArgs false
open Go.RowKit

/-- A path, as a slice. -/
theorem rpath_nat (w : World) (n : Nat) (h1 : 1 ≤ n) (hn : n < 33554432) :
    Calls Try.prog 18 #[.int .i64 n] w fun e w' => ∃ A cap, e = .returned (.slice A (lvlT n + 1) cap) ∧ Below w.heap.size w w' ∧
      ∀ i, i < lvlT n + 1 → ∃ g, A = some ⟨g, 0, none⟩ ∧ w'.cell? ⟨g, i, none⟩ = some (.int .i64 ((n / 2 ^ (lvlT n - i) : Nat) : Int)) := by
  refine (rpath_any w n ⟨by omega, by omega⟩).mono ?_
  rintro e w' ⟨r, rfl, ho, hb⟩
  have hpi : pathI (n : Int) = pathK n (lvlT n + 1) := by unfold pathI pathK; rw [if_pos (by omega)]; rfl
  rw [hpi] at ho
  obtain ⟨A, cap, rfl, hat⟩ := ho.at_
  rw [pathK_len]
  refine ⟨A, cap, rfl, hb, fun i hi => hat i _ ?_⟩
  unfold pathK
  rw [List.getElem?_map, path_at n _ i hi, Nat.add_sub_cancel]; rfl

set_option maxRecDepth 100000 in
set_option maxHeartbeats 1000000 in
theorem rabove_any (w : World) (v n : Nat) (hv : v < 33554432) (h1 : 1 ≤ n) (hn : n < 33554432) (B : Bool) (hB : B = true ↔ aboveT v n) :
    Calls Try.prog 22 #[.int .i64 v, .int .i64 n] w fun e w' => e = .returned (.bool B) ∧ Below w.heap.size w w' := by
  have HB := Lib.hid (hB.trans (path_above (v := v) h1).symm)
  have HPA := Lib.hid (fun W => rpath_nat W n h1 hn)
  obtain ⟨l, hl⟩ : ∃ l, lvlT n = l := ⟨_, rfl⟩
  rw [hl] at HPA HB
  have hl62 : l ≤ 62 := by rw [← hl]; exact lvl_le h1 (by omega)
  clear hB hl
  go_enter Try.func22, Try.ntmps22
  go_wp2_with fail
  refine (HPA.out _).mono ?_
  rintro e w1 ⟨A, cap, rfl, b1, hat⟩
  have HAT : Hid (∀ W, Below w1.heap.size w1 W → ∀ i, i < l + 1 → ∃ g, A = some ⟨g, 0, none⟩ ∧ W.cell? ⟨g, i, none⟩ = some (.int .i64 ((n / 2 ^ (l - i) : Nat) : Int))) := Lib.hid fun W hW i hi => by
    obtain ⟨g, e, hc⟩ := hat i hi
    exact ⟨g, e, cell_later hW hc⟩
  have HB1 := Lib.hid b1
  clear hat b1 HPA
  go_wp2_with fail
  go_loopg [6, 10] (l + 1) (fun g x j wr => ∃ (k : Nat), k ≤ l + 1 ∧ g = l + 1 - k ∧ j = .int .i64 k ∧ (∀ i, i < k → n / 2 ^ (l - i) ≠ v) ∧ Below w1.heap.size w1 wr)
  case atStart => exact ⟨0, Nat.zero_le _, rfl, rfl, fun i hi => by omega, Below.refl _ _⟩
  case round =>
    obtain ⟨k, hk, rfl, rfl, hno, hb2⟩ := hrel
    have HNO := Lib.hid hno
    have HB2 := Lib.hid hb2
    have HRB := Lib.hid (HB1.out.trans (hb2.mono HB1.out.size))
    clear hno
    by_cases hlt : k < l + 1
    · have kl : (k : Int) < (l : Int) + 1 := by omega
      obtain ⟨g, rfl, hc⟩ := HAT.out _ hb2 k hlt
      obtain ⟨y, hy⟩ : ∃ y, n / 2 ^ (l - k) = y := ⟨_, rfl⟩
      rw [hy] at hc
      have y0 : y ≤ n := by rw [← hy]; exact Nat.div_le_self _ _
      have HY := Lib.hid hy
      clear hy hb2
      by_cases he : y = v
      · have HM : Hid (B = true) := Lib.hid (HB.out.2 (by
          unfold pathT
          rw [List.mem_map]
          exact ⟨k, List.mem_range.2 hlt, by rw [Nat.add_sub_cancel, HY.out, he]⟩))
        have r1 : ((y : Int) == (v : Int)) = true := by simp; omega
        clear he
        go_wp2_with fail
        go_ret
        exact ⟨by rw [HM.out]; rfl, HRB.out⟩
      · have HE := Lib.hid he
        have r1 : ((y : Int) == (v : Int)) = false := by simp; omega
        clear he
        go_wp2_with fail
        go_roundg (l + 1 - (k + 1))
        case measure => omega
        case rel =>
          refine ⟨k + 1, by omega, rfl, by first | rfl | go_num, fun i hi => ?_, HB2.out⟩
          rcases Nat.lt_or_ge i k with h | h
          · exact HNO.out i h
          · obtain rfl : i = k := by omega
            rw [HY.out]; exact HE.out
    · obtain rfl : k = l + 1 := by omega
      have kl : ¬ (((l + 1 : Nat) : Int) < (l : Int) + 1) := by omega
      have HM : Hid (B = false) := Lib.hid (by
        cases hb : B with
        | false => rfl
        | true =>
          exfalso
          have := HB.out.1 hb
          unfold pathT at this
          obtain ⟨i, hi, e⟩ := List.mem_map.1 this
          have hi := List.mem_range.1 hi
          rw [Nat.add_sub_cancel] at e
          exact HNO.out i hi e)
      clear hb2
      go_wp2_with fail
      go_ret
      exact ⟨by rw [HM.out]; rfl, HRB.out⟩

set_option maxRecDepth 100000 in
set_option maxHeartbeats 1000000 in
theorem rbefore_any (w : World) (b v n : Nat) (hb : b ≤ 24) (hv1 : 1 ≤ v) (hv2 : v < 2 ^ (b + 1)) (h1 : 1 ≤ n) (h2 : n < 2 ^ (b + 1)) (B : Bool) (hB : beforeT b v n = B) :
    Calls Try.prog 24 #[.int .i64 b, .int .i64 v, .int .i64 n] w fun e w' => e = .returned (.bool B) ∧ Below w.heap.size w w' := by
  have hpb := (pow_bd hb).2
  have hv : v < 33554432 := by rw [Nat.pow_succ] at hv2; omega
  have hn : n < 33554432 := by rw [Nat.pow_succ] at h2; omega
  have HV := Lib.hid (fun W => rrange_any W b v hb hv1 hv2 _ _ rfl rfl)
  have HN := Lib.hid (fun W => rrange_any W b n hb h1 h2 _ _ rfl rfl)
  have HPV := Lib.hid (fun W => rpath_nat W v hv1 hv)
  have HPN := Lib.hid (fun W => rpath_nat W n h1 hn)
  have hlv : lvlT v ≤ 62 := lvl_le hv1 (by omega)
  have hln : lvlT n ≤ 62 := lvl_le h1 (by omega)
  have HB : Hid ((if hiI b v = hiI b n then decide (lvlT n < lvlT v) else decide (hiI b v < hiI b n)) = B) := Lib.hid (by
    rw [← hB]
    unfold hiI beforeT
    by_cases e : upT b v = upT b n
    · rw [if_pos (by rw [e]), e]; simp
    · rw [if_neg (by omega)]
      by_cases e2 : upT b v < upT b n
      · rw [decide_eq_true e2, decide_eq_true (by omega)]; rfl
      · rw [decide_eq_false e2, decide_eq_false (by omega), decide_eq_false e]; rfl)
  obtain ⟨lv, hlve⟩ : ∃ l, lvlT v = l := ⟨_, rfl⟩
  obtain ⟨l, hle⟩ : ∃ l, lvlT n = l := ⟨_, rfl⟩
  obtain ⟨a0, ha0⟩ : ∃ x, loI b v = x := ⟨_, rfl⟩
  obtain ⟨a1, ha1⟩ : ∃ x, hiI b v = x := ⟨_, rfl⟩
  obtain ⟨c0, hc0⟩ : ∃ x, loI b n = x := ⟨_, rfl⟩
  obtain ⟨c1, hc1⟩ : ∃ x, hiI b n = x := ⟨_, rfl⟩
  rw [hlve] at HPV hlv
  rw [hle] at HPN hln
  rw [ha0, ha1] at HV
  rw [hc0, hc1] at HN
  rw [hlve, hle, ha1, hc1] at HB
  clear hB hv2 h2 hpb hlve hle ha0 ha1 hc0 hc1
  go_enter Try.func24, Try.ntmps24
  go_wp2_with fail
  refine (HV.out _).mono ?_
  rintro e w1 ⟨rfl, b1⟩
  go_wp2_with fail
  refine (HN.out _).mono ?_
  rintro e w2 ⟨rfl, b2'⟩
  have b2 := b1.trans (b2'.mono b1.size)
  by_cases he : a1 = c1
  · have HF : Hid (decide (l < lv) = B) := Lib.hid (by have := HB.out; rw [if_pos he] at this; exact this)
    have r1 : (a1 != c1) = false := by simp [he]
    clear b1 b2' HB he
    go_wp2_with fail
    refine (HPV.out _).mono ?_
    rintro e w3 ⟨A, cap, rfl, b3', _⟩
    have b3 := b2.trans (b3'.mono b2.size)
    clear b3'
    go_wp2_with fail
    refine (HPN.out _).mono ?_
    rintro e w4 ⟨A4, cap4, rfl, b4', _⟩
    have b4 := b3.trans (b4'.mono b3.size)
    clear b4'
    go_wp2_with fail
    go_ret
    exact ⟨by rw [← HF.out]; rfl, b4⟩
  · have HF : Hid (decide (a1 < c1) = B) := Lib.hid (by have := HB.out; rw [if_neg he] at this; exact this)
    have r1 : (a1 != c1) = true := by simp [he]
    clear b1 b2' HB he
    go_wp2_with fail
    go_ret
    exact ⟨by rw [HF.out]; rfl, b2⟩
end Go.Proofs.Ytmfbcbaomfkdiaa
