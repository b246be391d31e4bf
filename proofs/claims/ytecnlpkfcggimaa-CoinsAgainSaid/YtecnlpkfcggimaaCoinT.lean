/-
  The laws CoinsAgain, CoinsThrown, from the contracts.
-/
import Derived.Test.YtecnlpkfcggimaaCoinC
namespace Go.Proofs.Ytecnlpkfcggimaa
set_option linter.unusedVariables false
set_option linter.unusedSimpArgs false
open Go.RowKit

set_option maxRecDepth 100000 in
set_option maxHeartbeats 2000000 in
theorem again20_walk {Tp : TapT} (D : TapDoes Tp) (H : RowDoes) (w : World) (x ni mi : Int) (hx : Word x) (h1 : I64 ni) (h2 : I64 mi) :
    Calls Try.prog 7 #[.int .u64 x, .int .i64 ni, .int .i64 mi] w fun e w' => e = .returned (.bool true) ∧ Below w.heap.size w w' := by
  have CA := Lib.hid (alive20_any D H w)
  have HD := Lib.hid D
  have HX := Lib.hid hx
  have CN := Lib.hid (fun W => D.new W x hx)
  obtain ⟨x0, x1⟩ := hx
  obtain ⟨n0, n1⟩ := h1
  obtain ⟨m0, m1⟩ := h2
  clear D H
  by_cases g1 : ni < 0
  · go_enter Try.func7, Try.ntmps7
    go_wp2_with fail
    refine CA.out.mono ?_
    rintro e w1 ⟨rfl, b1⟩
    go_wp2_with fail
    go_ret
    exact ⟨rfl, b1⟩
  by_cases g2 : 300 < ni
  · go_enter Try.func7, Try.ntmps7
    go_wp2_with fail
    refine CA.out.mono ?_
    rintro e w1 ⟨rfl, b1⟩
    go_wp2_with fail
    go_ret
    exact ⟨rfl, b1⟩
  by_cases g3 : mi < 0
  · go_enter Try.func7, Try.ntmps7
    go_wp2_with fail
    refine CA.out.mono ?_
    rintro e w1 ⟨rfl, b1⟩
    go_wp2_with fail
    go_ret
    exact ⟨rfl, b1⟩
  by_cases g4 : 300 < mi
  · go_enter Try.func7, Try.ntmps7
    go_wp2_with fail
    refine CA.out.mono ?_
    rintro e w1 ⟨rfl, b1⟩
    go_wp2_with fail
    go_ret
    exact ⟨rfl, b1⟩
  obtain ⟨n, rfl⟩ : ∃ n : Nat, ni = n := ⟨ni.toNat, by omega⟩
  obtain ⟨m, rfl⟩ : ∃ m : Nat, mi = m := ⟨mi.toNat, by omega⟩
  have hn : n ≤ 300 := by omega
  have hm : m ≤ 300 := by omega
  go_enter Try.func7, Try.ntmps7
  go_wp2_with fail
  refine CA.out.mono ?_
  rintro e w1 ⟨rfl, b1⟩
  have HB1 := Lib.hid b1
  clear b1
  go_wp2_with fail
  refine (CN.out w1).mono ?_
  rintro e w2 ⟨B, rfl, h1, hB, b2⟩
  have hB0 : w.heap.size ≤ B := Nat.le_trans HB1.out.size hB
  have HB2 := Lib.hid (HB1.out.trans (b2.mono HB1.out.size))
  have HT1 := Lib.hid h1
  clear h1 b2 hB
  go_wp2_with fail
  refine (CN.out w2).mono ?_
  rintro e w3 ⟨C, rfl, h2, hC, b3⟩
  have hC0 : w.heap.size ≤ C := Nat.le_trans HB2.out.size hC
  have hBC : B ≠ C := by have := HD.out.lt _ _ _ _ HT1.out; omega
  have HB3 := Lib.hid (HB2.out.trans (b3.mono HB2.out.size))
  have HT2 := Lib.hid (HD.out.call HT1.out b3)
  have HT3 := Lib.hid h2
  have HBC := Lib.hid hBC
  have HB0 : Hid (∀ k, some B = some k → w.heap.size ≤ k) := Lib.hid fun k e => by cases e; exact hB0
  have HC0 : Hid (∀ k, some C = some k → w.heap.size ≤ k) := Lib.hid fun k e => by cases e; exact hC0
  clear h2 b3 hC hBC hB0 hC0
  go_wp2_with fail
  go_loopw [9] (fun iv wr => ∃ i : Nat, i ≤ n ∧ iv = .int .i64 i ∧ Tp wr B x i ∧ Tp wr C x 0 ∧ Below w.heap.size w wr) (fun iv _ => n - (intOf iv).toNat)
  case atStart => exact ⟨0, Nat.zero_le _, rfl, HT2.out, HT3.out, HB3.out⟩
  case round =>
    obtain ⟨i, hi, rfl, ta, tb, hb⟩ := hrel
    have TA := Lib.hid ta
    have TB := Lib.hid tb
    have HB := Lib.hid hb
    have hbs := hb.size
    clear ta tb hb
    by_cases hlt : i < n
    · have kk : (i : Int) < n := by omega
      have CX := Lib.hid (HD.out.next wr B x i TA.out HX.out (by omega))
      go_wp2_with fail
      refine CX.out.mono ?_
      rintro e wq ⟨rfl, t1, g1⟩
      have T2 := Lib.hid (HD.out.other TB.out g1 (fun e => HBC.out e.symm))
      have B2 := Lib.hid (HB.out.grown g1 hbs HB0.out)
      have T1 := Lib.hid t1
      clear t1 g1
      go_wp2_with fail
      go_roundw
      case rel => exact ⟨i + 1, by omega, by go_num, T1.out, T2.out, B2.out⟩
      case measure => simp [intOf]; omega
    · obtain rfl : i = n := by omega
      have kk : ¬ (i : Int) < i := by omega
      have CX := Lib.hid (HD.out.skip wr C x 0 i TB.out (by omega))
      go_wp2_with fail
      refine CX.out.mono ?_
      rintro e w4 ⟨rfl, t2, g2⟩
      have T1 := Lib.hid (HD.out.other TA.out g2 HBC.out)
      have B4 := Lib.hid (HB.out.grown g2 hbs HC0.out)
      have T2 := Lib.hid t2
      have CU := Lib.hid (HD.out.used w4 C x i t2)
      clear t2 g2
      go_wp2_with fail
      refine CU.out.mono ?_
      rintro e w5 ⟨rfl, c5⟩
      have T3 := Lib.hid (HD.out.call T1.out c5)
      have T4 := Lib.hid (HD.out.call T2.out c5)
      have B5 := Lib.hid (B4.out.trans (c5.mono B4.out.size))
      have CU2 := Lib.hid (HD.out.used w5 B x i T3.out)
      clear c5
      go_wp2_with fail
      refine CU2.out.mono ?_
      rintro e w6 ⟨rfl, c6⟩
      have T5 := Lib.hid (HD.out.call T3.out c6)
      have T6 := Lib.hid (HD.out.call T4.out c6)
      have B6 := Lib.hid (B5.out.trans (c6.mono B5.out.size))
      clear c6
      go_wp2_with fail
      go_loopw [10] (fun jv wr => ∃ j : Nat, j ≤ m ∧ jv = .int .i64 j ∧ Tp wr B x (i + j) ∧ Tp wr C x (i + j) ∧ Below w.heap.size w wr) (fun jv _ => m - (intOf jv).toNat)
      case atStart => exact ⟨0, Nat.zero_le _, rfl, T5.out, T6.out, B6.out⟩
      case round =>
        obtain ⟨j, hj, rfl, ta, tb, hb⟩ := hrel
        have UA := Lib.hid ta
        have UB := Lib.hid tb
        have HB7 := Lib.hid hb
        have hbs7 := hb.size
        clear ta tb hb
        by_cases hlt : j < m
        · have kj : (j : Int) < m := by omega
          have CX := Lib.hid (HD.out.next wr B x (i + j) UA.out HX.out (by omega))
          obtain ⟨c, hc⟩ : ∃ c, coinB x (i + j) = c := ⟨_, rfl⟩
          rw [hc] at CX
          go_wp2_with fail
          refine CX.out.mono ?_
          rintro e wq ⟨rfl, t1, g1⟩
          have B2 := Lib.hid (HB7.out.grown g1 hbs7 HB0.out)
          have z2 := B2.out.size
          have T1 := Lib.hid t1
          have CY := Lib.hid (HD.out.next wq C x (i + j) (HD.out.other UB.out g1 (fun e => HBC.out e.symm)) HX.out (by omega))
          rw [hc] at CY
          have e1 : (c == c) = true := by simp
          clear t1 g1 hc
          go_wp2_with fail
          refine CY.out.mono ?_
          rintro e wp ⟨rfl, t2, g2⟩
          have T2 := Lib.hid (HD.out.other T1.out g2 HBC.out)
          have B3 := Lib.hid (B2.out.grown g2 z2 HC0.out)
          have T3 := Lib.hid t2
          clear t2 g2
          go_wp2_with fail
          go_roundw
          case rel => exact ⟨j + 1, by omega, by go_num, T2.out, T3.out, B3.out⟩
          case measure => simp [intOf]; omega
        · obtain rfl : j = m := by omega
          have kj : ¬ (j : Int) < j := by omega
          obtain ⟨s, hs⟩ : ∃ s : Nat, i + j = s := ⟨_, rfl⟩
          have e1 : ((s : Int) == (i : Int) + (j : Int)) = true := by simp; omega
          have e2 : (i : Int) + (j : Int) = s := by omega
          rw [hs] at UA UB
          have CU := Lib.hid (HD.out.used wr B x s UA.out)
          have HE := Lib.hid e2
          have hs6 : s ≤ 600 := by omega
          clear hs e2
          go_wp2_with fail
          refine CU.out.mono ?_
          rintro e w8 ⟨rfl, c8⟩
          have B8 := Lib.hid (HB7.out.trans (c8.mono hbs7))
          have CU2 := Lib.hid (HD.out.used w8 C x s (HD.out.call UB.out c8))
          clear c8
          go_wp2_with fail
          refine CU2.out.mono ?_
          rintro e w9 ⟨rfl, c9⟩
          have B9 := Lib.hid (B8.out.trans (c9.mono B8.out.size))
          clear c9
          go_wp2_with fail
          go_ret
          exact ⟨rfl, B9.out⟩

set_option maxRecDepth 100000 in
set_option maxHeartbeats 2000000 in
theorem thrown20_walk {Tp : TapT} (D : TapDoes Tp) (H : RowDoes) (Z : TapNil) (w : World) (x ni u : Int) (hx : Word x) (h1 : I64 ni) (h2 : I64 u) :
    Calls Try.prog 3 #[.int .u64 x, .int .i64 ni, .int .i64 u] w fun e w' => e = .returned (.bool true) ∧ Below w.heap.size w w' := by
  have CA := Lib.hid (alive20_any D H w)
  have HD := Lib.hid D
  have HZ := Lib.hid Z
  have HX := Lib.hid hx
  have HU := Lib.hid h2
  have CN := Lib.hid (fun W => D.new W x hx)
  have CC := Lib.hid (fun W (k : Nat) (hk : (k : Int) ≤ 9223372036854775807) => rcoin20_any W x k hx hk)
  obtain ⟨x0, x1⟩ := hx
  obtain ⟨n0, n1⟩ := h1
  obtain ⟨u0, u1⟩ := h2
  clear D H Z
  by_cases g1 : ni < 0
  · go_enter Try.func3, Try.ntmps3
    go_wp2_with fail
    refine CA.out.mono ?_
    rintro e w1 ⟨rfl, b1⟩
    go_wp2_with fail
    go_ret
    exact ⟨rfl, b1⟩
  by_cases g2 : 300 < ni
  · go_enter Try.func3, Try.ntmps3
    go_wp2_with fail
    refine CA.out.mono ?_
    rintro e w1 ⟨rfl, b1⟩
    go_wp2_with fail
    go_ret
    exact ⟨rfl, b1⟩
  by_cases g3 : 1099511627776 < u
  · go_enter Try.func3, Try.ntmps3
    go_wp2_with fail
    refine CA.out.mono ?_
    rintro e w1 ⟨rfl, b1⟩
    go_wp2_with fail
    go_ret
    exact ⟨rfl, b1⟩
  obtain ⟨n, rfl⟩ : ∃ n : Nat, ni = n := ⟨ni.toNat, by omega⟩
  have hn : n ≤ 300 := by omega
  have e0 : (x == x) = true := by simp
  go_enter Try.func3, Try.ntmps3
  go_wp2_with fail
  refine CA.out.mono ?_
  rintro e w1 ⟨rfl, b1⟩
  have HB1 := Lib.hid b1
  clear b1
  go_wp2_with fail
  refine (CN.out w1).mono ?_
  rintro e w2 ⟨B, rfl, h1, hB, b2⟩
  have hB0 : w.heap.size ≤ B := Nat.le_trans HB1.out.size hB
  have HB2 := Lib.hid (HB1.out.trans (b2.mono HB1.out.size))
  have HT1 := Lib.hid h1
  have HB0 : Hid (∀ k, some B = some k → w.heap.size ≤ k) := Lib.hid fun k e => by cases e; exact hB0
  clear h1 b2 hB hB0
  go_wp2_with fail
  go_loopw [8] (fun iv wr => ∃ i : Nat, i ≤ n ∧ iv = .int .i64 i ∧ Tp wr B x i ∧ Below w.heap.size w wr) (fun iv _ => n - (intOf iv).toNat)
  case atStart => exact ⟨0, Nat.zero_le _, rfl, HT1.out, HB2.out⟩
  case round =>
    obtain ⟨i, hi, rfl, ta, hb⟩ := hrel
    have TA := Lib.hid ta
    have HB := Lib.hid hb
    have hbs := hb.size
    clear ta hb
    by_cases hlt : i < n
    · have kk : (i : Int) < n := by omega
      have CU := Lib.hid (HD.out.used wr B x i TA.out)
      go_wp2_with fail
      refine CU.out.mono ?_
      rintro e w3 ⟨rfl, c3⟩
      have B3 := Lib.hid (HB.out.trans (c3.mono hbs))
      have z3 := B3.out.size
      have CX := Lib.hid (HD.out.next w3 B x i (HD.out.call TA.out c3) HX.out (by omega))
      have CK := Lib.hid (fun W => CC.out W i (by omega))
      obtain ⟨c, hc⟩ : ∃ c, coinB x i = c := ⟨_, rfl⟩
      rw [hc] at CX CK
      have e1 : (c == c) = true := by simp
      clear c3 hc
      go_wp2_with fail
      refine CX.out.mono ?_
      rintro e w4 ⟨rfl, t4, g4⟩
      have T4 := Lib.hid t4
      have B4 := Lib.hid (B3.out.grown g4 z3 HB0.out)
      clear t4 g4
      go_wp2_with fail
      refine (CK.out _).mono ?_
      rintro e w5 ⟨rfl, rfl⟩
      go_wp2_with fail
      go_roundw
      case rel => exact ⟨i + 1, by omega, by go_num, T4.out, B4.out⟩
      case measure => simp [intOf]; omega
    · obtain rfl : i = n := by omega
      have kk : ¬ (i : Int) < i := by omega
      by_cases hu : u < 0
      · have CX := Lib.hid (HD.out.back wr B x i u TA.out HU.out hu)
        have k1 : decide (0 ≤ u) = false := decide_eq_false (by omega)
        go_wp2_with fail
        refine CX.out.mono ?_
        rintro e w3 ⟨rfl, c3⟩
        have B3 := Lib.hid (HB.out.trans (c3.mono hbs))
        have z3 := B3.out.size
        have T3 := Lib.hid (HD.out.call TA.out c3)
        clear c3
        go_wp2_with fail
        refine (HZ.out.next _).mono ?_
        rintro e w4 ⟨rfl, c4⟩
        have B4 := Lib.hid (B3.out.trans (c4.mono z3))
        have T4 := Lib.hid (HD.out.call T3.out c4)
        clear c4
        go_wp2_with fail
        refine (HZ.out.used _).mono ?_
        rintro e w5 ⟨rfl, c5⟩
        have B5 := Lib.hid (B4.out.trans (c5.mono B4.out.size))
        have T5 := Lib.hid (HD.out.call T4.out c5)
        clear c5
        go_wp2_with fail
        refine (HZ.out.word _).mono ?_
        rintro e w6 ⟨rfl, c6⟩
        have B6 := Lib.hid (B5.out.trans (c6.mono B5.out.size))
        have T6 := Lib.hid (HD.out.call T5.out c6)
        clear c6
        go_wp2_with fail
        refine (HZ.out.skip _ 1 ⟨by decide, by decide⟩).mono ?_
        rintro e w7 ⟨rfl, c7⟩
        have B7 := Lib.hid (B6.out.trans (c7.mono B6.out.size))
        have T7 := Lib.hid (HD.out.call T6.out c7)
        clear c7
        go_wp2_with fail
        refine (HD.out.word _ B x _ T7.out).mono ?_
        rintro e w8 ⟨rfl, c8⟩
        have B8 := Lib.hid (B7.out.trans (c8.mono B7.out.size))
        have T8 := Lib.hid (HD.out.call T7.out c8)
        clear c8
        go_wp2_with fail
        refine (HD.out.used _ B x _ T8.out).mono ?_
        rintro e w9 ⟨rfl, c9⟩
        have B9 := Lib.hid (B8.out.trans (c9.mono B8.out.size))
        clear c9
        go_wp2_with fail
        go_ret
        exact ⟨rfl, B9.out⟩
      · obtain ⟨k, rfl⟩ : ∃ k : Nat, u = k := ⟨u.toNat, by omega⟩
        have k1 : decide ((0 : Int) ≤ k) = true := decide_eq_true (by omega)
        have CX := Lib.hid (HD.out.skip wr B x i k TA.out (by omega))
        go_wp2_with fail
        refine CX.out.mono ?_
        rintro e w3 ⟨rfl, t3, g3⟩
        have B3 := Lib.hid (HB.out.grown g3 hbs HB0.out)
        have z3 := B3.out.size
        have T3 := Lib.hid t3
        clear t3 g3
        go_wp2_with fail
        refine (HZ.out.next _).mono ?_
        rintro e w4 ⟨rfl, c4⟩
        have B4 := Lib.hid (B3.out.trans (c4.mono z3))
        have T4 := Lib.hid (HD.out.call T3.out c4)
        clear c4
        go_wp2_with fail
        refine (HZ.out.used _).mono ?_
        rintro e w5 ⟨rfl, c5⟩
        have B5 := Lib.hid (B4.out.trans (c5.mono B4.out.size))
        have T5 := Lib.hid (HD.out.call T4.out c5)
        clear c5
        go_wp2_with fail
        refine (HZ.out.word _).mono ?_
        rintro e w6 ⟨rfl, c6⟩
        have B6 := Lib.hid (B5.out.trans (c6.mono B5.out.size))
        have T6 := Lib.hid (HD.out.call T5.out c6)
        clear c6
        go_wp2_with fail
        refine (HZ.out.skip _ 1 ⟨by decide, by decide⟩).mono ?_
        rintro e w7 ⟨rfl, c7⟩
        have B7 := Lib.hid (B6.out.trans (c7.mono B6.out.size))
        have T7 := Lib.hid (HD.out.call T6.out c7)
        clear c7
        go_wp2_with fail
        refine (HD.out.word _ B x _ T7.out).mono ?_
        rintro e w8 ⟨rfl, c8⟩
        have B8 := Lib.hid (B7.out.trans (c8.mono B7.out.size))
        have T8 := Lib.hid (HD.out.call T7.out c8)
        clear c8
        go_wp2_with fail
        refine (HD.out.used _ B x _ T8.out).mono ?_
        rintro e w9 ⟨rfl, c9⟩
        have B9 := Lib.hid (B8.out.trans (c9.mono B8.out.size))
        have z9 := B9.out.size
        have CY := Lib.hid (HD.out.next w9 B x k (HD.out.call T8.out c9) HX.out (by omega))
        have CK := Lib.hid (fun W => CC.out W k (by omega))
        obtain ⟨c, hc⟩ : ∃ c, coinB x k = c := ⟨_, rfl⟩
        rw [hc] at CY CK
        have e1 : (c == c) = true := by simp
        clear c9 hc
        go_wp2_with fail
        refine CY.out.mono ?_
        rintro e wA ⟨rfl, tA, gA⟩
        have BA := Lib.hid (B9.out.grown gA z9 HB0.out)
        have TA2 := Lib.hid tA
        clear tA gA
        go_wp2_with fail
        refine (CK.out _).mono ?_
        rintro e wB ⟨rfl, rfl⟩
        go_wp2_with fail
        refine (HD.out.used _ B x _ TA2.out).mono ?_
        rintro e wC ⟨rfl, cC⟩
        have BC := Lib.hid (BA.out.trans (cC.mono BA.out.size))
        clear cC
        go_wp2_with fail
        go_ret
        exact ⟨rfl, BC.out⟩
end Go.Proofs.Ytecnlpkfcggimaa
