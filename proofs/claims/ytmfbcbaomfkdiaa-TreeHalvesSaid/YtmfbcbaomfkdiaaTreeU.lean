/-
  The laws TreeHalves and TreeNodes, walked from the contract.
-/
import Derived.Test.YtmfbcbaomfkdiaaTreeT
import Derived.Deep.RegionHeld3
namespace Go.Proofs.Ytmfbcbaomfkdiaa
set_option linter.unusedVariables false
set_option linter.unusedSimpArgs false
open Go.RowKit

theorem good_bd {b : Nat} {v : Int} (hb : b ≤ 24) (h : goodT b v = true) : 1 ≤ v ∧ v < 33554432 := by
  obtain ⟨n, rfl, h1, h2⟩ := good_nat h
  have := (pow_bd hb).2
  rw [Nat.pow_succ] at h2; omega
/-- Both nodes below one, by the reference's numbers. -/
theorem halves_are {b : Nat} {v : Int} (hb : b ≤ 24) (h : goodT b v = true) (hl : v < ((2 ^ b : Nat) : Int)) :
    goodT b (2 * v) = true ∧ goodT b (2 * v + 1) = true ∧ rloI b (2 * v) = rloI b v ∧ rloI b (2 * v + 1) = rhiI b (2 * v) + 1 ∧ rhiI b (2 * v + 1) = rhiI b v ∧
    upI b (2 * v) = v ∧ upI b (2 * v + 1) = v ∧ besI b (2 * v) = 2 * v + 1 ∧ abI b v (2 * v) = true ∧ abI b (2 * v) v = false := by
  obtain ⟨n, rfl, h1, h2⟩ := good_nat h
  have e : 2 ^ (b + 1) = 2 * 2 ^ b := by rw [Nat.pow_succ]; omega
  have g1 : goodT b (2 * (n : Int)) = true := nat_good (n := 2 * n) (by omega) (by omega)
  have g2 : goodT b (2 * (n : Int) + 1) = true := nat_good (n := 2 * n + 1) (by omega) (by omega)
  have t1 : (2 * (n : Int)).toNat = 2 * n := by omega
  have t2 : (2 * (n : Int) + 1).toNat = 2 * n + 1 := by omega
  have hlv : lvlT n < b := by
    obtain ⟨a, c⟩ := lvl_bd h1
    apply Classical.byContradiction
    intro hc
    have := Nat.pow_le_pow_right (show 0 < 2 by omega) (show b ≤ lvlT n by omega)
    omega
  obtain ⟨a1, a2, a3⟩ := halves h1 hlv
  obtain ⟨d1, d2⟩ := lvl_down h1
  unfold rloI rhiI upI besI abI
  rw [h, g1, g2, t1, t2]
  simp only [Int.toNat_natCast, if_true]
  unfold loI hiI
  refine ⟨trivial, trivial, by omega, by omega, by omega, by omega, by omega, ?_, ?_, ?_⟩
  · rw [if_pos ⟨trivial, by omega⟩, if_pos (by omega)]
  · simp only [Bool.and_self, Bool.true_and, decide_eq_true_eq]
    exact ⟨by omega, by rw [d1, show lvlT n + 1 - lvlT n = 1 by omega]; omega⟩
  · simp only [Bool.and_self, Bool.true_and, decide_eq_false_iff_not]
    intro hc
    have := hc.1
    omega

set_option maxRecDepth 100000 in
set_option maxHeartbeats 4000000 in
theorem tree_halves_walk (D : TreeDoes) (d v : Int) (hd : I64 d) (hv : I64 v) (w : World) :
    Calls Try.prog 6 #[.int .i64 d, .int .i64 v] w fun e w' => e = .returned (.bool true) ∧ Below w.heap.size w w' := by
  have HD := Lib.hid D
  have HAL := Lib.hid (alive16_any D w)
  by_cases hin : 1 ≤ d ∧ d ≤ 24
  case neg =>
    have HN := Lib.hid (fun W => D.new_no W d hd hin)
    clear D hin hd hv
    go_enter Try.func6, Try.ntmps6
    go_wp2_with fail
    refine HAL.out.mono ?_
    rintro e w1 ⟨rfl, b1⟩
    go_wp2_with fail
    refine (HN.out _).mono ?_
    rintro e w2 ⟨x, rfl, b2'⟩
    have b2 := b1.trans (b2'.mono b1.size)
    have hb3 : Below w2.heap.size w2 (w2.alloc (.cells #[.int .i64 x] 24)) := (Below.refl _ _).alloc (Nat.le_refl _) _
    have b3 := b2.trans (hb3.mono b2.size)
    go_wp2_with fail
    go_ret
    exact ⟨rfl, b3⟩
  case pos =>
    obtain ⟨b, rfl⟩ : ∃ b : Nat, d = b := ⟨d.toNat, by omega⟩
    have hb1 : 1 ≤ b := by omega
    have hb2 : b ≤ 24 := by omega
    have HN := Lib.hid (fun W => D.new_ok W b hb1 hb2)
    have HRG := Lib.hid (fun W => rgood16_any W b hb2 v hv _ rfl)
    have HLV := Lib.hid (fun W => D.leaves W b hb1 hb2)
    obtain ⟨lv, hlv⟩ : ∃ lv : Nat, 2 ^ b = lv := ⟨_, rfl⟩
    rw [hlv] at HLV
    have hlv1 : lv ≤ 16777216 := by rw [← hlv]; exact (pow_bd hb2).2
    obtain ⟨g, hg⟩ : ∃ g, goodT b v = g := ⟨_, rfl⟩
    rw [hg] at HRG
    have HLE := Lib.hid hlv
    have HG := Lib.hid hg
    have HV := Lib.hid hv
    obtain ⟨v0, v1⟩ := hv
    clear D hin hd hlv hg
    go_enter Try.func6, Try.ntmps6
    go_wp2_with fail
    refine HAL.out.mono ?_
    rintro e w1 ⟨rfl, b1⟩
    go_wp2_with fail
    refine (HN.out _).mono ?_
    rintro e w2 ⟨rfl, b2'⟩
    have b2 := b1.trans (b2'.mono b1.size)
    have hb3 : Below w2.heap.size w2 (w2.alloc (.cells #[.int .i64 b] 24)) := (Below.refl _ _).alloc (Nat.le_refl _) _
    have c3 := tree_cell w2 (.int .i64 b)
    have b3 := b2.trans (hb3.mono b2.size)
    clear b1 b2' b2 hb3 HN HAL
    go_wp2_with fail
    refine (HRG.out _).mono ?_
    rintro e w4 ⟨rfl, b4'⟩
    have b4 := b3.trans (b4'.mono b3.size)
    have c4 := cell_later b4' c3
    clear b3 b4' HRG c3
    cases g with
    | false =>
      go_wp2_with fail
      go_ret
      exact ⟨rfl, b4⟩
    | true =>
      go_wp2_with fail
      refine (HLV.out _).mono ?_
      rintro e w5 ⟨rfl, b5'⟩
      have b5 := b4.trans (b5'.mono b4.size)
      have c5 := cell_later b5' c4
      clear b4 b5' HLV c4
      by_cases hl : (lv : Int) ≤ v
      · go_wp2_with fail
        go_ret
        exact ⟨rfl, b5⟩
      · have hl2 : v < (lv : Int) := by omega
        obtain ⟨v2, _⟩ := good_bd hb2 HG.out
        have HH := Lib.hid (halves_are hb2 HG.out (by rw [HLE.out]; exact hl2))
        have h21 : I64 (2 * v) := ⟨by omega, by omega⟩
        have h22 : I64 (2 * v + 1) := ⟨by omega, by omega⟩
        have R0 := Lib.hid (fun W => HD.out.range W b v hb1 hb2 HV.out)
        have R1 := Lib.hid (fun W => HD.out.range W b (2 * v) hb1 hb2 h21)
        have R2 := Lib.hid (fun W => HD.out.range W b (2 * v + 1) hb1 hb2 h22)
        have U1 := Lib.hid (fun W => HD.out.up W b (2 * v) hb1 hb2 h21)
        have U2 := Lib.hid (fun W => HD.out.up W b (2 * v + 1) hb1 hb2 h22)
        have BS := Lib.hid (fun W => HD.out.beside W b (2 * v) hb1 hb2 h21)
        have A1 := Lib.hid (fun W => HD.out.above W b v (2 * v) hb1 hb2 HV.out h21)
        have A2 := Lib.hid (fun W => HD.out.above W b (2 * v) v hb1 hb2 h21 HV.out)
        obtain ⟨_, _, k1, k2, k3, k4, k5, k6, k7, k8⟩ := HH.out
        rw [k1] at R1
        rw [k2, k3] at R2
        rw [k4] at U1
        rw [k5] at U2
        rw [k6] at BS
        rw [k7] at A1
        rw [k8] at A2
        obtain ⟨r0, hr0⟩ : ∃ r, rloI b v = r := ⟨_, rfl⟩
        obtain ⟨r1, hr1⟩ : ∃ r, rhiI b v = r := ⟨_, rfl⟩
        obtain ⟨r2, hr2⟩ : ∃ r, rhiI b (2 * v) = r := ⟨_, rfl⟩
        rw [hr0, hr1] at R0
        rw [hr0, hr2] at R1
        rw [hr1, hr2] at R2
        have hr2b : 0 ≤ r2 + 33554432 ∧ r2 ≤ 33554432 := by
          obtain ⟨n, e, n1, n2⟩ := good_nat HH.out.1
          have := range_in n1 n2
          have hp := (pow_bd hb2).2
          have e4 : 2 ^ (b + 1) = 2 * 2 ^ b := by rw [Nat.pow_succ]; omega
          have e3 : ((2 ^ b : Nat) : Int) = 2 ^ b := by rw [Int.natCast_pow]; rfl
          rw [← hr2]
          unfold rhiI hiI
          rw [if_pos HH.out.1, e]
          simp only [Int.toNat_natCast]
          omega
        clear h21 h22 k1 k2 k3 k4 k5 k6 k7 k8 hr0 hr1 hr2 HH
        go_wp2_with fail
        refine (R0.out _).mono ?_
        rintro e w6 ⟨rfl, b6'⟩
        have b6 := b5.trans (b6'.mono b5.size)
        have c6 := cell_later b6' c5
        clear b5 b6' c5
        go_wp2_with fail
        refine (R1.out _).mono ?_
        rintro e w7 ⟨rfl, b7'⟩
        have b7 := b6.trans (b7'.mono b6.size)
        have c7 := cell_later b7' c6
        clear b6 b7' c6
        go_wp2_with fail
        refine (R2.out _).mono ?_
        rintro e w8 ⟨rfl, b8'⟩
        have b8 := b7.trans (b8'.mono b7.size)
        have c8 := cell_later b8' c7
        clear b7 b8' c7
        go_wp2_with fail
        refine (U1.out _).mono ?_
        rintro e w9 ⟨rfl, b9'⟩
        have b9 := b8.trans (b9'.mono b8.size)
        have c9 := cell_later b9' c8
        clear b8 b9' c8
        go_wp2_with fail
        refine (U2.out _).mono ?_
        rintro e w10 ⟨rfl, b10'⟩
        have b10 := b9.trans (b10'.mono b9.size)
        have c10 := cell_later b10' c9
        clear b9 b10' c9
        go_wp2_with fail
        refine (BS.out _).mono ?_
        rintro e w11 ⟨rfl, b11'⟩
        have b11 := b10.trans (b11'.mono b10.size)
        have c11 := cell_later b11' c10
        clear b10 b11' c10
        go_wp2_with fail
        refine (A1.out _).mono ?_
        rintro e w12 ⟨rfl, b12'⟩
        have b12 := b11.trans (b12'.mono b11.size)
        have c12 := cell_later b12' c11
        clear b11 b12' c11
        go_wp2_with fail
        refine (A2.out _).mono ?_
        rintro e w13 ⟨rfl, b13'⟩
        have b13 := b12.trans (b13'.mono b12.size)
        clear b12 b13'
        go_wp2_with fail
        go_ret
        exact ⟨rfl, b13⟩
end Go.Proofs.Ytmfbcbaomfkdiaa
