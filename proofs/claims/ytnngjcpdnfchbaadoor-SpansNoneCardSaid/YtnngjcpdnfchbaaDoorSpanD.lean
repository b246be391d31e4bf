/-
  Walks: the laws of layer 12: SpansNone, SpansFiner.
-/
import Derived.Test.YtnngjcpdnfchbaaDoorSpanC
namespace Go.Proofs.YtnngjcpdnfchbaaDoor
set_option linter.unusedVariables false
set_option linter.unusedSimpArgs false
open Go.RowKit Go.Shelf

theorem last_bd (L : Nat) (hL : L ≤ 14) : 1 ≤ lastS L ∧ lastS L ≤ 1048576 := by
  have := pow_le hL
  have e14 : (2 : Int) ^ 14 = 16384 := by decide
  have := pow_pos L
  have a := Int.mul_le_mul (show (64 : Int) - L ≤ 64 by omega) (show (2 : Int) ^ L ≤ 16384 by omega) (by omega) (by omega)
  have b := Int.mul_le_mul_of_nonneg_right (show (1 : Int) ≤ 64 - L by omega) (show (0 : Int) ≤ 2 ^ L by omega)
  unfold lastS; omega
theorem i64_5 : I64 5 := by unfold I64; omega

set_option maxRecDepth 100000 in
set_option maxHeartbeats 2000000 in
theorem spans_none_walk (d i : Int) (hd : I64 d) (hi : I64 i) (w : World) (ht : Tens w) :
    Calls Tryd.prog 6 #[.int .i64 d, .int .i64 i] w fun e w' => e = .returned (.bool true) ∧ Below w.heap.size w w' := by
  have HA := Lib.hid (alive12_any w ht)
  have HTN := Lib.hid ht
  clear ht
  have HI := Lib.hid hi
  obtain ⟨i0, i1⟩ := id hi
  by_cases hg : 1 ≤ d ∧ d ≤ 4
  · obtain ⟨L, T, hs⟩ := spanp_of hg.1 hg.2
    have HP := Lib.hid hs
    have HNW := Lib.hid (fun W hW => snew_good d L T hs W hW)
    have HL := Lib.hid (spanp_log hs).2
    have HRI := Lib.hid (fun W => rindex12_any d L T 9223372036854775808 hs (by omega) (by omega) W)
    rw [last_idx L HL.out] at HRI
    have hlb := last_bd L HL.out
    clear hs hg
    by_cases hx : 1 ≤ i ∧ i ≤ lastS L
    · obtain ⟨x0, x1⟩ := hx
      have X0 := Lib.hid x0
      have X1 := Lib.hid x1
      have h3 := high_in L x0 x1 HL.out
      obtain ⟨l1, l2, l3⟩ := low_in L x0 x1 HL.out
      have L3 := Lib.hid l3
      have hm := mid_in h3.2.1
      obtain ⟨lo, hlo⟩ : ∃ lo, lowI L i = lo := ⟨_, rfl⟩
      obtain ⟨hi', hhi⟩ : ∃ hi', highI L i = hi' := ⟨_, rfl⟩
      obtain ⟨r, hr⟩ : ∃ r, midS lo hi' = r := ⟨_, rfl⟩
      obtain ⟨z, hz⟩ : ∃ z, lastS L = z := ⟨_, rfl⟩
      have HLO := Lib.hid hlo
      have HHI := Lib.hid hhi
      have HR : Hid (midS (lowI L i) (highI L i) = r) := Lib.hid (by rw [hlo, hhi, hr])
      rw [hlo] at h3 hm l1 l2 L3
      rw [hhi] at h3 hm
      rw [hr] at hm
      rw [hz] at HRI hlb x1
      obtain ⟨h31, h32, h33⟩ := h3
      obtain ⟨hm1, hm2⟩ := hm
      have c1 : ¬ i < 1 := by omega
      have c2 : ¬ z < i := by omega
      have c3 : decide (lo ≤ r) = true := decide_eq_true hm1
      have c4 : decide (r ≤ hi') = true := decide_eq_true hm2
      clear l3 hlo hhi hr hz
      go_enter Tryd.func6, Tryd.ntmps6
      go_wp2_with fail
      refine HA.out.mono ?_
      rintro e w2 ⟨rfl, hb2⟩
      have HT2 := Lib.hid (HTN.out.call hb2)
      go_wp2_with fail
      refine (sindex_none _ 5 (by unfold Word; omega)).mono ?_
      rintro e w3 ⟨rfl, rfl⟩
      go_wp2_with fail
      refine (srange_none _ 5 i64_5).mono ?_
      rintro e w3 ⟨rfl, rfl⟩
      go_wp2_with fail
      refine (srep_none _ 5 i64_5).mono ?_
      rintro e w3 ⟨rfl, rfl⟩
      go_wp2_with fail
      refine (sdigits_none _).mono ?_
      rintro e w3 ⟨rfl, rfl⟩
      go_wp2_with fail
      refine (spart_none _ HT2.out).mono ?_
      rintro e w3 ⟨rfl, hb3⟩
      have HT3 := Lib.hid (HT2.out.call hb3)
      have B3 := hb2.trans (hb3.mono hb2.size)
      clear hb2 hb3 HT2 HA HTN
      go_wp2_with fail
      refine (HNW.out _ HT3.out).mono ?_
      rintro e w4 ⟨B, rfl, hs, _, hb4⟩
      have HS := Lib.hid hs
      have B4 := B3.trans (hb4.mono B3.size)
      clear hs hb4 B3 HNW HT3
      go_wp2_with fail
      refine (HRI.out _).mono ?_
      rintro e w5 ⟨rfl, rfl⟩
      go_wp2_with fail
      refine (srange_b _ B d L T i lo hi' HP.out HS.out X0.out X1.out HLO.out HHI.out).mono ?_
      rintro e w6 ⟨rfl, hb6⟩
      have HS6 := Lib.hid (spx_call HS.out hb6)
      have B6 := B4.trans (hb6.mono B4.size)
      clear HS hb6 B4
      go_wp2_with fail
      refine (sindex_b _ B d L T lo i HP.out HS6.out l1 l2 L3.out).mono ?_
      rintro e w7 ⟨rfl, hb7⟩
      have HS7 := Lib.hid (spx_call HS6.out hb7)
      have B7 := B6.trans (hb7.mono B6.size)
      clear HS6 hb7 B6
      go_wp2_with fail
      refine (srep_b _ B d L T i r HP.out HS7.out X0.out X1.out HR.out).mono ?_
      rintro e w8 ⟨rfl, hb8⟩
      have HS8 := Lib.hid (spx_call HS7.out hb8)
      have B8 := B7.trans (hb8.mono B7.size)
      clear HS7 hb8 B7
      go_wp2_with fail
      refine (srep_b _ B d L T i r HP.out HS8.out X0.out X1.out HR.out).mono ?_
      rintro e w9 ⟨rfl, hb9⟩
      have B9 := B8.trans (hb9.mono B8.size)
      go_wp2_with fail
      go_ret
      exact ⟨rfl, B9⟩
    · have HO := Lib.hid hx
      have hz : i < 1 ∨ lastS L < i := by omega
      obtain ⟨z, hzz⟩ : ∃ z, lastS L = z := ⟨_, rfl⟩
      rw [hzz] at HRI hz hlb
      clear hx hzz
      go_enter Tryd.func6, Tryd.ntmps6
      go_wp2_with fail
      refine HA.out.mono ?_
      rintro e w2 ⟨rfl, hb2⟩
      have HT2 := Lib.hid (HTN.out.call hb2)
      go_wp2_with fail
      refine (sindex_none _ 5 (by unfold Word; omega)).mono ?_
      rintro e w3 ⟨rfl, rfl⟩
      go_wp2_with fail
      refine (srange_none _ 5 i64_5).mono ?_
      rintro e w3 ⟨rfl, rfl⟩
      go_wp2_with fail
      refine (srep_none _ 5 i64_5).mono ?_
      rintro e w3 ⟨rfl, rfl⟩
      go_wp2_with fail
      refine (sdigits_none _).mono ?_
      rintro e w3 ⟨rfl, rfl⟩
      go_wp2_with fail
      refine (spart_none _ HT2.out).mono ?_
      rintro e w3 ⟨rfl, hb3⟩
      have HT3 := Lib.hid (HT2.out.call hb3)
      have B3 := hb2.trans (hb3.mono hb2.size)
      clear hb2 hb3 HT2 HA HTN
      go_wp2_with fail
      refine (HNW.out _ HT3.out).mono ?_
      rintro e w4 ⟨B, rfl, hs, _, hb4⟩
      have HS := Lib.hid hs
      have B4 := B3.trans (hb4.mono B3.size)
      clear hs hb4 B3 HNW HT3
      go_wp2_with fail
      refine (HRI.out _).mono ?_
      rintro e w5 ⟨rfl, rfl⟩
      go_wp2_with fail
      refine (srange_ob _ B d L T i HP.out HS.out HI.out HO.out).mono ?_
      rintro e w6 ⟨rfl, hb6⟩
      have HS6 := Lib.hid (spx_call HS.out hb6)
      have B6 := B4.trans (hb6.mono B4.size)
      clear HS hb6 B4
      rcases hz with hz | hz
      · go_wp2_with fail
        refine (srep_ob _ B d L T i HP.out HS6.out HI.out HO.out).mono ?_
        rintro e w8 ⟨rfl, hb8⟩
        have B8 := B6.trans (hb8.mono B6.size)
        go_wp2_with fail
        go_ret
        exact ⟨rfl, B8⟩
      · have c1 : ¬ i < 1 := by omega
        go_wp2_with fail
        refine (srep_ob _ B d L T i HP.out HS6.out HI.out HO.out).mono ?_
        rintro e w8 ⟨rfl, hb8⟩
        have B8 := B6.trans (hb8.mono B6.size)
        go_wp2_with fail
        go_ret
        exact ⟨rfl, B8⟩
  · have HB := Lib.hid (fun W => snew_bad d hd hg W)
    clear hg
    go_enter Tryd.func6, Tryd.ntmps6
    go_wp2_with fail
    refine HA.out.mono ?_
    rintro e w2 ⟨rfl, hb2⟩
    have HT2 := Lib.hid (HTN.out.call hb2)
    go_wp2_with fail
    refine (sindex_none _ 5 (by unfold Word; omega)).mono ?_
    rintro e w3 ⟨rfl, rfl⟩
    go_wp2_with fail
    refine (srange_none _ 5 i64_5).mono ?_
    rintro e w3 ⟨rfl, rfl⟩
    go_wp2_with fail
    refine (srep_none _ 5 i64_5).mono ?_
    rintro e w3 ⟨rfl, rfl⟩
    go_wp2_with fail
    refine (sdigits_none _).mono ?_
    rintro e w3 ⟨rfl, rfl⟩
    go_wp2_with fail
    refine (spart_none _ HT2.out).mono ?_
    rintro e w3 ⟨rfl, hb3⟩
    have B3 := hb2.trans (hb3.mono hb2.size)
    clear hb2 hb3
    go_wp2_with fail
    refine (HB.out _).mono ?_
    rintro e w4 ⟨rfl, rfl⟩
    go_wp2_with fail
    go_ret
    exact ⟨rfl, B3⟩

set_option maxRecDepth 100000 in
set_option maxHeartbeats 2000000 in
theorem spans_finer_walk (d f m : Int) (hd : I64 d) (hf : I64 f) (wm : Word m) (w : World) (ht : Tens w) :
    Calls Tryd.prog 7 #[.int .i64 d, .int .i64 f, .int .u64 m] w fun e w' => e = .returned (.bool true) ∧ Below w.heap.size w w' := by
  have HA := Lib.hid (alive12_any w ht)
  have HTN := Lib.hid ht
  clear ht
  obtain ⟨m0, m1⟩ := id wm
  by_cases hg : 1 ≤ d ∧ d ≤ 4
  · obtain ⟨L, T, hs⟩ := spanp_of hg.1 hg.2
    have HP := Lib.hid hs
    have HNW := Lib.hid (fun W hW => snew_good d L T hs W hW)
    have HL := Lib.hid (spanp_log hs).2
    clear hs hg
    by_cases hk : 1 ≤ f ∧ f ≤ 4
    · obtain ⟨M, U, hq⟩ := spanp_of hk.1 hk.2
      have HP2 := Lib.hid hq
      have HNW2 := Lib.hid (fun W hW => snew_good f M U hq W hW)
      have HL2 := Lib.hid (spanp_log hq).2
      clear hq hk
      by_cases ho : f < d ∨ m = 0 ∨ 9223372036854775808 < m
      · go_enter Tryd.func7, Tryd.ntmps7
        go_wp2_with fail
        refine HA.out.mono ?_
        rintro e w2 ⟨rfl, hb2⟩
        have HT2 := Lib.hid (HTN.out.call hb2)
        go_wp2_with fail
        refine (HNW.out _ HT2.out).mono ?_
        rintro e w3 ⟨B, rfl, hs, _, hb3⟩
        have HT3 := Lib.hid (HT2.out.call hb3)
        have B3 := hb2.trans (hb3.mono hb2.size)
        clear hb2 hb3
        go_wp2_with fail
        refine (HNW2.out _ HT3.out).mono ?_
        rintro e w4 ⟨C, rfl, hs4, _, hb4⟩
        have B4 := B3.trans (hb4.mono B3.size)
        by_cases c1 : f < d
        · go_wp2_with fail
          go_ret
          exact ⟨rfl, B4⟩
        · by_cases c2 : m = 0
          · subst c2
            go_wp2_with fail
            go_ret
            exact ⟨rfl, B4⟩
          · have c3 : (m == 0) = false := by simp; omega
            have c4 : 9223372036854775808 < m := by omega
            go_wp2_with fail
            go_ret
            exact ⟨rfl, B4⟩
      · have h1 : 1 ≤ m := by omega
        have h2 : m ≤ 9223372036854775808 := by omega
        have c1 : (m == 0) = false := by simp; omega
        have c2 : ¬ f < d := by omega
        have HX1 := Lib.hid (idx_bd L h1 h2 HL.out)
        have HX2 := Lib.hid (idx_last L h1 h2 HL.out)
        have HLO := Lib.hid (low_idx L h1 h2 HL.out)
        have HHI := Lib.hid (high_idx L h1 h2 HL.out)
        have HY1 := Lib.hid (idx_bd M h1 h2 HL2.out)
        have HY2 := Lib.hid (idx_last M h1 h2 HL2.out)
        have HLO2 := Lib.hid (low_idx M h1 h2 HL2.out)
        have HHI2 := Lib.hid (high_idx M h1 h2 HL2.out)
        obtain ⟨s1, s2, s3, s4⟩ := span_in L h1 h2 HL.out
        obtain ⟨t1, t2, t3, t4⟩ := span_in M h1 h2 HL2.out
        obtain ⟨v1, v2⟩ := span_finer (spanp_finer HP.out HP2.out (by omega)) HL2.out h1 h2
        obtain ⟨r1, r2⟩ := mid_in (show loS M m ≤ hiS M m by omega)
        obtain ⟨x, hx⟩ : ∃ x, idxS L m = x := ⟨_, rfl⟩
        obtain ⟨y, hy⟩ : ∃ y, idxS M m = y := ⟨_, rfl⟩
        have HX := Lib.hid hx
        have HY := Lib.hid hy
        rw [hx] at HX1 HX2 HLO HHI
        rw [hy] at HY1 HY2 HLO2 HHI2
        clear hx hy ho
        generalize loS L m = lo at *
        generalize hiS L m = hi at *
        generalize loS M m = a at *
        generalize hiS M m = b at *
        obtain ⟨r, hr⟩ : ∃ r, midS a b = r := ⟨_, rfl⟩
        have HR : Hid (midS (lowI M y) (highI M y) = r) := Lib.hid (by rw [HLO2.out, HHI2.out, hr])
        rw [hr] at r1 r2
        have c3 : decide (lo ≤ r) = true := decide_eq_true (by omega)
        have c4 : decide (r ≤ hi) = true := decide_eq_true (by omega)
        clear hr
        go_enter Tryd.func7, Tryd.ntmps7
        go_wp2_with fail
        refine HA.out.mono ?_
        rintro e w2 ⟨rfl, hb2⟩
        have HT2 := Lib.hid (HTN.out.call hb2)
        go_wp2_with fail
        refine (HNW.out _ HT2.out).mono ?_
        rintro e w3 ⟨B, rfl, hs, _, hb3⟩
        have HS3 := Lib.hid hs
        have HT3 := Lib.hid (HT2.out.call hb3)
        have B3 := hb2.trans (hb3.mono hb2.size)
        clear hb2 hb3 hs
        go_wp2_with fail
        refine (HNW2.out _ HT3.out).mono ?_
        rintro e w4 ⟨C, rfl, hs4, _, hb4⟩
        have HS4 := Lib.hid (spx_call HS3.out hb4)
        have HC4 := Lib.hid hs4
        have B4 := B3.trans (hb4.mono B3.size)
        clear HT2 HT3 HNW HNW2 HA HTN hs4 hb4 B3 HS3
        go_wp2_with fail
        refine (sindex_b _ B d L T m x HP.out HS4.out h1 h2 HX.out).mono ?_
        rintro e w5 ⟨rfl, hb5⟩
        have HS5 := Lib.hid (spx_call HS4.out hb5)
        have HC5 := Lib.hid (spx_call HC4.out hb5)
        have B5 := B4.trans (hb5.mono B4.size)
        clear HS4 HC4 hb5 B4
        go_wp2_with fail
        refine (sindex_b _ C f M U m y HP2.out HC5.out h1 h2 HY.out).mono ?_
        rintro e w6 ⟨rfl, hb6⟩
        have HS6 := Lib.hid (spx_call HS5.out hb6)
        have HC6 := Lib.hid (spx_call HC5.out hb6)
        have B6 := B5.trans (hb6.mono B5.size)
        clear HS5 HC5 hb6 B5
        go_wp2_with fail
        refine (srange_b _ B d L T x lo hi HP.out HS6.out HX1.out HX2.out HLO.out HHI.out).mono ?_
        rintro e w7 ⟨rfl, hb7⟩
        have HC7 := Lib.hid (spx_call HC6.out hb7)
        have B7 := B6.trans (hb7.mono B6.size)
        clear HS6 HC6 hb7 B6
        go_wp2_with fail
        refine (srange_b _ C f M U y a b HP2.out HC7.out HY1.out HY2.out HLO2.out HHI2.out).mono ?_
        rintro e w8 ⟨rfl, hb8⟩
        have HC8 := Lib.hid (spx_call HC7.out hb8)
        have B8 := B7.trans (hb8.mono B7.size)
        clear HC7 hb8 B7
        go_wp2_with fail
        refine (srep_b _ C f M U y r HP2.out HC8.out HY1.out HY2.out HR.out).mono ?_
        rintro e w9 ⟨rfl, hb9⟩
        have HC9 := Lib.hid (spx_call HC8.out hb9)
        have B9 := B8.trans (hb9.mono B8.size)
        clear HC8 hb9 B8
        go_wp2_with fail
        refine (srep_b _ C f M U y r HP2.out HC9.out HY1.out HY2.out HR.out).mono ?_
        rintro e w10 ⟨rfl, hb10⟩
        have B10 := B9.trans (hb10.mono B9.size)
        go_wp2_with fail
        go_ret
        exact ⟨rfl, B10⟩
    · have HB := Lib.hid (fun W => snew_bad f hf hk W)
      clear hk
      go_enter Tryd.func7, Tryd.ntmps7
      go_wp2_with fail
      refine HA.out.mono ?_
      rintro e w2 ⟨rfl, hb2⟩
      have HT2 := Lib.hid (HTN.out.call hb2)
      go_wp2_with fail
      refine (HNW.out _ HT2.out).mono ?_
      rintro e w3 ⟨B, rfl, hs, _, hb3⟩
      have B3 := hb2.trans (hb3.mono hb2.size)
      clear hb2 hb3
      go_wp2_with fail
      refine (HB.out _).mono ?_
      rintro e w4 ⟨rfl, rfl⟩
      go_wp2_with fail
      go_ret
      exact ⟨rfl, B3⟩
  · have HB := Lib.hid (fun W => snew_bad d hd hg W)
    clear hg
    by_cases hk : 1 ≤ f ∧ f ≤ 4
    · obtain ⟨M, U, hq⟩ := spanp_of hk.1 hk.2
      have HNW2 := Lib.hid (fun W hW => snew_good f M U hq W hW)
      clear hq hk
      go_enter Tryd.func7, Tryd.ntmps7
      go_wp2_with fail
      refine HA.out.mono ?_
      rintro e w2 ⟨rfl, hb2⟩
      have HT2 := Lib.hid (HTN.out.call hb2)
      go_wp2_with fail
      refine (HB.out _).mono ?_
      rintro e w4 ⟨rfl, rfl⟩
      go_wp2_with fail
      refine (HNW2.out _ HT2.out).mono ?_
      rintro e w3 ⟨B, rfl, hs, _, hb3⟩
      have B3 := hb2.trans (hb3.mono hb2.size)
      clear hb2 hb3
      go_wp2_with fail
      go_ret
      exact ⟨rfl, B3⟩
    · have HB2 := Lib.hid (fun W => snew_bad f hf hk W)
      clear hk
      go_enter Tryd.func7, Tryd.ntmps7
      go_wp2_with fail
      refine HA.out.mono ?_
      rintro e w2 ⟨rfl, hb2⟩
      go_wp2_with fail
      refine (HB.out _).mono ?_
      rintro e w4 ⟨rfl, rfl⟩
      go_wp2_with fail
      refine (HB2.out _).mono ?_
      rintro e w4 ⟨rfl, rfl⟩
      go_wp2_with fail
      go_ret
      exact ⟨rfl, hb2⟩
end Go.Proofs.YtnngjcpdnfchbaaDoor
