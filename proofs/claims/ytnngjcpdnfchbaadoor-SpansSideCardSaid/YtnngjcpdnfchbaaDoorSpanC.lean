/-
  Walks: the laws of layer 12: SpansIndex, SpansClose, SpansSide, SpansNone, SpansFiner.
-/
import Derived.Test.YtnngjcpdnfchbaaDoorSpanA
import Derived.Deep.RegionHeld3
namespace Go.Proofs.YtnngjcpdnfchbaaDoor
set_option linter.unusedVariables false
set_option linter.unusedSimpArgs false
open Go.RowKit Go.Shelf

/-- The contracts, for walks: what is kept is told by Below. -/
theorem sindex_b (w : World) (B : Nat) (d : Int) (L : Nat) (T m x : Int) (hs : SpanP d L T) (h : SpX w B d L) (h1 : 1 ≤ m) (h2 : m ≤ 9223372036854775808) (hx : idxS L m = x) :
    Calls Tryd.prog 10 #[.pointer (some ⟨B, 0, none⟩), .int .u64 m] w fun e w' => e = .returned (.tuple #[.int .i64 x, .bool true]) ∧ Below w.heap.size w w' := by
  subst hx
  exact (sindex_any w B d L T m hs h h1 h2).mono fun e w' ⟨a, n, b⟩ => ⟨a, b ▸ below_drewN (Below.refl _ _) n⟩
theorem srange_b (w : World) (B : Nat) (d : Int) (L : Nat) (T i x y : Int) (hs : SpanP d L T) (h : SpX w B d L) (h1 : 1 ≤ i) (h2 : i ≤ lastS L) (hx : lowI L i = x) (hy : highI L i = y) :
    Calls Tryd.prog 11 #[.pointer (some ⟨B, 0, none⟩), .int .i64 i] w fun e w' => e = .returned (.tuple #[.int .u64 x, .int .u64 y]) ∧ Below w.heap.size w w' := by
  subst hx; subst hy
  exact (srange_any w B d L T i hs h h1 h2).mono fun e w' ⟨a, n, b⟩ => ⟨a, b ▸ below_drewN (Below.refl _ _) n⟩
theorem srange_ob (w : World) (B : Nat) (d : Int) (L : Nat) (T i : Int) (hs : SpanP d L T) (h : SpX w B d L) (hi : I64 i) (ho : ¬ (1 ≤ i ∧ i ≤ lastS L)) :
    Calls Tryd.prog 11 #[.pointer (some ⟨B, 0, none⟩), .int .i64 i] w fun e w' => e = .returned (.tuple #[.int .u64 0, .int .u64 0]) ∧ Below w.heap.size w w' :=
  (srange_out w B d L T i hs h hi ho).mono fun e w' ⟨a, n, b⟩ => ⟨a, b ▸ below_drewN (Below.refl _ _) n⟩
theorem srep_b (w : World) (B : Nat) (d : Int) (L : Nat) (T i x : Int) (hs : SpanP d L T) (h : SpX w B d L) (h1 : 1 ≤ i) (h2 : i ≤ lastS L) (hx : midS (lowI L i) (highI L i) = x) :
    Calls Tryd.prog 14 #[.pointer (some ⟨B, 0, none⟩), .int .i64 i] w fun e w' => e = .returned (.int .u64 x) ∧ Below w.heap.size w w' := by
  subst hx
  exact (srep_any w B d L T i hs h h1 h2).mono fun e w' ⟨a, n, b⟩ => ⟨a, b ▸ below_drewN (Below.refl _ _) n⟩
theorem srep_ob (w : World) (B : Nat) (d : Int) (L : Nat) (T i : Int) (hs : SpanP d L T) (h : SpX w B d L) (hi : I64 i) (ho : ¬ (1 ≤ i ∧ i ≤ lastS L)) :
    Calls Tryd.prog 14 #[.pointer (some ⟨B, 0, none⟩), .int .i64 i] w fun e w' => e = .returned (.int .u64 0) ∧ Below w.heap.size w w' :=
  (srep_out w B d L T i hs h hi ho).mono fun e w' ⟨a, n, b⟩ => ⟨a, b ▸ below_drewN (Below.refl _ _) n⟩

theorem spanp_one : SpanP 1 4 10 := by unfold SpanP; omega
set_option maxHeartbeats 1000000 in
theorem alive12_any (w : World) (ht : Tens w) : Calls Tryd.prog 8 #[] w fun e w' => e = .returned (.bool true) ∧ Below w.heap.size w w' := by
  have HN := Lib.hid (snew_good 1 4 10 spanp_one w ht)
  clear ht
  go_enter Tryd.func8, Tryd.ntmps8
  go_wp2_with fail
  refine HN.out.mono ?_
  rintro e w2 ⟨B, rfl, hs, _, hb2⟩
  have HS := Lib.hid hs
  clear hs HN
  go_wp2_with fail
  refine (sindex_b _ B 1 4 10 33 32 spanp_one HS.out (by omega) (by omega) (by decide)).mono ?_
  rintro e w3 ⟨rfl, hb3⟩
  have HS3 := Lib.hid (spx_call HS.out hb3)
  go_wp2_with fail
  refine (sdigits_any _ B 1 4 HS3.out).mono ?_
  rintro e w4 ⟨rfl, rfl⟩
  go_wp2_with fail
  go_ret
  exact ⟨rfl, hb2.trans (hb3.mono hb2.size)⟩

set_option maxRecDepth 100000 in
set_option maxHeartbeats 2000000 in
theorem spans_index_walk (d m : Int) (hd : I64 d) (wm : Word m) (w : World) (ht : Tens w) :
    Calls Tryd.prog 3 #[.int .i64 d, .int .u64 m] w fun e w' => e = .returned (.bool true) ∧ Below w.heap.size w w' := by
  have HA := Lib.hid (alive12_any w ht)
  have HTN := Lib.hid ht
  clear ht
  obtain ⟨m0, m1⟩ := id wm
  by_cases hg : 1 ≤ d ∧ d ≤ 4
  · obtain ⟨L, T, hs⟩ := spanp_of hg.1 hg.2
    have HP := Lib.hid hs
    have HNW := Lib.hid (fun W hW => snew_good d L T hs W hW)
    obtain ⟨hg1, hg2⟩ := hg
    obtain ⟨l4, l14⟩ := spanp_log hs
    have HL := Lib.hid l14
    clear hs l4 l14
    by_cases ho : m = 0 ∨ 9223372036854775808 < m
    · have HO := Lib.hid ho
      go_enter Tryd.func3, Tryd.ntmps3
      go_wp2_with fail
      refine HA.out.mono ?_
      rintro e w2 ⟨rfl, hb2⟩
      go_wp2_with fail
      refine (HNW.out _ (HTN.out.call hb2)).mono ?_
      rintro e w3 ⟨B, rfl, hs, _, hb3⟩
      go_wp2_with fail
      refine (sindex_out _ B m wm HO.out).mono ?_
      rintro e w4 ⟨rfl, rfl⟩
      rcases ho with rfl | ho
      · go_wp2_with fail
        go_ret
        exact ⟨rfl, hb2.trans (hb3.mono hb2.size)⟩
      · have c1 : (m == 0) = false := by simp; omega
        go_wp2_with fail
        go_ret
        exact ⟨rfl, hb2.trans (hb3.mono hb2.size)⟩
    · have h1 : 1 ≤ m := by omega
      have h2 : m ≤ 9223372036854775808 := by omega
      have c1 : (m == 0) = false := by simp; omega
      have HR := Lib.hid (fun W => rrange12_any d L T m HP.out h1 h2 W)
      have HI := Lib.hid (fun W => rindex12_any d L T m HP.out h1 h2 W)
      have HX1 := Lib.hid (idx_bd L h1 h2 HL.out)
      have HX2 := Lib.hid (idx_last L h1 h2 HL.out)
      have HLO := Lib.hid (low_idx L h1 h2 HL.out)
      have HHI := Lib.hid (high_idx L h1 h2 HL.out)
      obtain ⟨s1, s2, s3, s4⟩ := span_in L h1 h2 HL.out
      have HMD := Lib.hid (mid_in (show loS L m ≤ hiS L m by omega))
      have HME : Hid (loS L m + (hiS L m - loS L m) / 2 = midS (loS L m) (hiS L m)) := Lib.hid rfl
      obtain ⟨x, hx⟩ : ∃ x, idxS L m = x := ⟨_, rfl⟩
      have HX := Lib.hid hx
      rw [hx] at HX1 HX2 HLO HHI HI
      generalize loS L m = lo at *
      generalize hiS L m = hi at *
      obtain ⟨r, hr⟩ : ∃ r, midS lo hi = r := ⟨_, rfl⟩
      have HRR := Lib.hid hr
      rw [hr] at HME HMD
      obtain ⟨r1, r2⟩ := HMD.out
      clear ho hx hr HMD
      go_enter Tryd.func3, Tryd.ntmps3
      go_wp2_with fail
      refine HA.out.mono ?_
      rintro e w2 ⟨rfl, hb2⟩
      go_wp2_with fail
      refine (HNW.out _ (HTN.out.call hb2)).mono ?_
      rintro e w3 ⟨B, rfl, hs, _, hb3⟩
      have HS := Lib.hid hs
      have B3 := hb2.trans (hb3.mono hb2.size)
      clear hs hb2 hb3 HNW HA
      go_wp2_with fail
      refine (sindex_b _ B d L T m x HP.out HS.out h1 h2 HX.out).mono ?_
      rintro e w4 ⟨rfl, hb4⟩
      have HS4 := Lib.hid (spx_call HS.out hb4)
      have B4 := B3.trans (hb4.mono B3.size)
      clear HS hb4 B3
      go_wp2_with fail
      refine (srange_b _ B d L T x lo hi HP.out HS4.out HX1.out HX2.out HLO.out HHI.out).mono ?_
      rintro e w5 ⟨rfl, hb5⟩
      have HS5 := Lib.hid (spx_call HS4.out hb5)
      have B5 := B4.trans (hb5.mono B4.size)
      clear HS4 hb5 B4
      go_wp2_with fail
      refine (HR.out _).mono ?_
      rintro e w6 ⟨rfl, rfl⟩
      go_wp2_with fail
      refine (HI.out _).mono ?_
      rintro e w6 ⟨rfl, rfl⟩
      go_wp2_with fail
      refine (srep_b _ B d L T x r HP.out HS5.out HX1.out HX2.out (by rw [HLO.out, HHI.out]; exact HRR.out)).mono ?_
      rintro e w7 ⟨rfl, hb7⟩
      have c9 : (r == lo + (hi - lo) / 2) = true := by rw [HME.out]; simp
      go_wp2_with fail
      go_ret
      exact ⟨rfl, B5.trans (hb7.mono B5.size)⟩
  · have HB := Lib.hid (fun W => snew_bad d hd hg W)
    by_cases h1 : d < 1
    · go_enter Tryd.func3, Tryd.ntmps3
      go_wp2_with fail
      refine HA.out.mono ?_
      rintro e w2 ⟨rfl, hb2⟩
      go_wp2_with fail
      refine (HB.out _).mono ?_
      rintro e w3 ⟨rfl, rfl⟩
      go_wp2_with fail
      go_ret
      exact ⟨rfl, hb2⟩
    · have h4 : 4 < d := by omega
      go_enter Tryd.func3, Tryd.ntmps3
      go_wp2_with fail
      refine HA.out.mono ?_
      rintro e w2 ⟨rfl, hb2⟩
      go_wp2_with fail
      refine (HB.out _).mono ?_
      rintro e w3 ⟨rfl, rfl⟩
      go_wp2_with fail
      go_ret
      exact ⟨rfl, hb2⟩

theorem rtimes_to12 (a b p : Int) (wa : Word a) (wb : Word b) (hp : a * b = p) (w : World) :
    Calls Tryd.prog 17 #[.int .u64 a, .int .u64 b] w fun e w' => e = .returned (.agg #[.int .u64 (hiW p), .int .u64 (loW p)]) ∧ Below w.heap.size w w' := by
  subst hp; exact rtimes_any a b wa wb w

set_option maxRecDepth 100000 in
set_option maxHeartbeats 2000000 in
theorem spans_close_walk (d m : Int) (hd : I64 d) (wm : Word m) (w : World) (ht : Tens w) :
    Calls Tryd.prog 4 #[.int .i64 d, .int .u64 m] w fun e w' => e = .returned (.bool true) ∧ Below w.heap.size w w' := by
  have HA := Lib.hid (alive12_any w ht)
  have HTN := Lib.hid ht
  clear ht
  obtain ⟨m0, m1⟩ := id wm
  by_cases hg : 1 ≤ d ∧ d ≤ 4
  · obtain ⟨L, T, hs⟩ := spanp_of hg.1 hg.2
    have HP := Lib.hid hs
    have HNW := Lib.hid (fun W hW => snew_good d L T hs W hW)
    obtain ⟨l4, l14⟩ := spanp_log hs
    have HL := Lib.hid l14
    have hT0 : 1 ≤ T := (spanp_ten hs).1
    have hT1 : T ≤ 10000 := by unfold SpanP at hs; omega
    clear hs l4 l14 hg
    by_cases ho : m = 0 ∨ 9223372036854775808 < m
    · go_enter Tryd.func4, Tryd.ntmps4
      go_wp2_with fail
      refine HA.out.mono ?_
      rintro e w2 ⟨rfl, hb2⟩
      go_wp2_with fail
      refine (HNW.out _ (HTN.out.call hb2)).mono ?_
      rintro e w3 ⟨B, rfl, hs, _, hb3⟩
      rcases ho with rfl | ho
      · go_wp2_with fail
        go_ret
        exact ⟨rfl, hb2.trans (hb3.mono hb2.size)⟩
      · have c1 : (m == 0) = false := by simp; omega
        go_wp2_with fail
        go_ret
        exact ⟨rfl, hb2.trans (hb3.mono hb2.size)⟩
    · have h1 : 1 ≤ m := by omega
      have h2 : m ≤ 9223372036854775808 := by omega
      have c1 : (m == 0) = false := by simp; omega
      have HX1 := Lib.hid (idx_bd L h1 h2 HL.out)
      have HX2 := Lib.hid (idx_last L h1 h2 HL.out)
      have hlo := low_idx L h1 h2 HL.out
      have hhi := high_idx L h1 h2 HL.out
      obtain ⟨s1, s2, s3, s4⟩ := span_in L h1 h2 HL.out
      have hmd := mid_in (show loS L m ≤ hiS L m by omega)
      have hrep : repS L m = midS (loS L m) (hiS L m) := rfl
      have hc := span_close HP.out h1 h2
      rw [hrep] at hc
      have HR : Hid (midS (lowI L (idxS L m)) (highI L (idxS L m)) = midS (loS L m) (hiS L m)) := Lib.hid (by rw [hlo, hhi])
      obtain ⟨x, hx⟩ : ∃ x, idxS L m = x := ⟨_, rfl⟩
      have HX := Lib.hid hx
      rw [hx] at HX1 HX2 HR
      obtain ⟨r, hr⟩ : ∃ r, midS (loS L m) (hiS L m) = r := ⟨_, rfl⟩
      rw [hr] at HR hc hmd
      have r0 : 0 ≤ r := by omega
      have r1 : r ≤ 9223372036854775808 := by omega
      obtain ⟨g, hgp⟩ : ∃ g, max r m - min r m = g := ⟨_, rfl⟩
      have g0 : 0 ≤ g := by omega
      have g1 : g ≤ 9223372036854775808 := by omega
      have HG := Lib.hid hgp
      rw [hgp] at hc
      obtain ⟨y, hy⟩ : ∃ y, g * T = y := ⟨_, rfl⟩
      rw [hy] at hc
      have wg : Word g := ⟨g0, by omega⟩
      have wT : Word T := ⟨by omega, by omega⟩
      obtain ⟨y0, y1⟩ := mul_bd wg wT
      rw [hy] at y0 y1
      have c3 : decide (m < y) = false := decide_eq_false (by omega)
      have HTX := Lib.hid (fun W => rtimes_to12 m 1 m wm (by unfold Word; omega) (by omega) W)
      have HTY := Lib.hid (fun W => rtimes_to12 g T y wg wT hy W)
      have HLS := Lib.hid (fun W => less_two m y (by omega) (by omega) y0 y1 W)
      rw [c3] at HLS
      clear ho hlo hhi s1 s2 s3 s4 hmd hrep hc hx hr hgp hy wg wT y0 y1 c3
      go_enter Tryd.func4, Tryd.ntmps4
      go_wp2_with fail
      refine HA.out.mono ?_
      rintro e w2 ⟨rfl, hb2⟩
      have HT2 := Lib.hid (HTN.out.call hb2)
      go_wp2_with fail
      refine (HNW.out _ HT2.out).mono ?_
      rintro e w3 ⟨B, rfl, hs, _, hb3⟩
      have HS := Lib.hid hs
      have B3 := hb2.trans (hb3.mono hb2.size)
      have HT3 := Lib.hid (HT2.out.call hb3)
      clear hs hb2 hb3 HNW HA HTN HT2
      go_wp2_with fail
      refine (sindex_b _ B d L T m x HP.out HS.out h1 h2 HX.out).mono ?_
      rintro e w4 ⟨rfl, hb4⟩
      have HS4 := Lib.hid (spx_call HS.out hb4)
      have HT4 := Lib.hid (HT3.out.call hb4)
      have B4 := B3.trans (hb4.mono B3.size)
      clear HS hb4 B3 HT3
      go_wp2_with fail
      refine (srep_b _ B d L T x r HP.out HS4.out HX1.out HX2.out HR.out).mono ?_
      rintro e w5 ⟨rfl, hb5⟩
      have HS5 := Lib.hid (spx_call HS4.out hb5)
      have HT5 := Lib.hid (HT4.out.call hb5)
      have B5 := B4.trans (hb5.mono B4.size)
      clear HS4 hb5 B4 HT4
      go_wp2_with fail
      refine (spart_any _ B d L T HP.out HT5.out HS5.out).mono ?_
      rintro e w6 ⟨rfl, hb6⟩
      have B6 := B5.trans (hb6.mono B5.size)
      clear hb6 B5 HT5 HS5
      go_wp2_with fail
      have BB : Below w6.heap.size w6 (w6.alloc (.cells #[.int .u64 1, .int .u64 T] 37)).drew := ((Below.refl _ _).alloc (Nat.le_refl _) _).drew
      have hgw : IntKind.u64.wrap (max r m - min r m) = g := by rw [HG.out, IntKind.wrap_u64]; omega
      go_region_held3 (fun w' => w'.cell? ⟨w6.heap.size, 0, none⟩ = some (.int .u64 1) ∧ w'.cell? ⟨w6.heap.size, 1, none⟩ = some (.int .u64 T) ∧ Below w6.heap.size w6 w')
        ((first | exact ⟨by go_simp, by go_simp, BB⟩ | exact keep2 (by assumption) hbA | assumption))
        (first
          | (go_at_call 17; (first | (with_reducible refine (HTX.out _).mono ?_) | (with_reducible refine (HTY.out _).mono ?_) | (rw [hgw]; with_reducible refine (HTY.out _).mono ?_)); rintro e wA ⟨rfl, hbA⟩)
          | (go_at_call 16; refine (HLS.out _).mono ?_; rintro e wA ⟨rfl, hbA⟩))
      all_goals
        go_wp2_with fail
        go_ret
        exact ⟨rfl, B6.trans ((keep2_bel (by assumption)).mono B6.size)⟩
  · have HB := Lib.hid (fun W => snew_bad d hd hg W)
    clear hg
    go_enter Tryd.func4, Tryd.ntmps4
    go_wp2_with fail
    refine HA.out.mono ?_
    rintro e w2 ⟨rfl, hb2⟩
    go_wp2_with fail
    refine (HB.out _).mono ?_
    rintro e w3 ⟨rfl, rfl⟩
    go_wp2_with fail
    go_ret
    exact ⟨rfl, hb2⟩

set_option maxRecDepth 100000 in
set_option maxHeartbeats 2000000 in
theorem spans_side_walk (d m n : Int) (hd : I64 d) (wm : Word m) (wn : Word n) (w : World) (ht : Tens w) :
    Calls Tryd.prog 5 #[.int .i64 d, .int .u64 m, .int .u64 n] w fun e w' => e = .returned (.bool true) ∧ Below w.heap.size w w' := by
  have HA := Lib.hid (alive12_any w ht)
  have HTN := Lib.hid ht
  clear ht
  obtain ⟨m0, m1⟩ := id wm
  obtain ⟨n0, n1⟩ := id wn
  by_cases hg : 1 ≤ d ∧ d ≤ 4
  · obtain ⟨L, T, hs⟩ := spanp_of hg.1 hg.2
    have HP := Lib.hid hs
    have HNW := Lib.hid (fun W hW => snew_good d L T hs W hW)
    have HL := Lib.hid (spanp_log hs).2
    clear hs hg
    by_cases ho : m = 0 ∨ 9223372036854775808 < m ∨ n < m ∨ 9223372036854775808 < n
    · go_enter Tryd.func5, Tryd.ntmps5
      go_wp2_with fail
      refine HA.out.mono ?_
      rintro e w2 ⟨rfl, hb2⟩
      go_wp2_with fail
      refine (HNW.out _ (HTN.out.call hb2)).mono ?_
      rintro e w3 ⟨B, rfl, hs, _, hb3⟩
      by_cases c1 : m = 0
      · subst c1
        go_wp2_with fail
        go_ret
        exact ⟨rfl, hb2.trans (hb3.mono hb2.size)⟩
      · have c2 : (m == 0) = false := by simp; omega
        by_cases c3 : 9223372036854775808 < m
        · go_wp2_with fail
          go_ret
          exact ⟨rfl, hb2.trans (hb3.mono hb2.size)⟩
        · by_cases c4 : n < m
          · go_wp2_with fail
            go_ret
            exact ⟨rfl, hb2.trans (hb3.mono hb2.size)⟩
          · have c5 : 9223372036854775808 < n := by omega
            go_wp2_with fail
            go_ret
            exact ⟨rfl, hb2.trans (hb3.mono hb2.size)⟩
    · have h1 : 1 ≤ m := by omega
      have h2 : m ≤ n := by omega
      have h3 : n ≤ 9223372036854775808 := by omega
      have h4 : m ≤ 9223372036854775808 := by omega
      have h5 : 1 ≤ n := by omega
      have c1 : (m == 0) = false := by simp; omega
      have c2 : ¬ n < m := by omega
      have HX1 := Lib.hid (idx_bd L h1 h4 HL.out)
      have HX2 := Lib.hid (idx_last L h1 h4 HL.out)
      have HLO := Lib.hid (low_idx L h1 h4 HL.out)
      have HHI := Lib.hid (high_idx L h1 h4 HL.out)
      have HNX := Lib.hid (next_span L h1 h4 HL.out)
      obtain ⟨s1, s2, s3, s4⟩ := span_in L h1 h4 HL.out
      have hxz := idx_mono L h1 h2 h3 HL.out
      have hlz : lastS L ≤ 1048576 := by
        unfold lastS
        have := pow_le (show L ≤ 14 from HL.out)
        have e14 : (2 : Int) ^ 14 = 16384 := by decide
        have := pow_pos L
        exact Int.le_trans (Int.mul_le_mul (show (64 : Int) - L ≤ 64 by omega) (show (2 : Int) ^ L ≤ 16384 by omega) (by omega) (by omega)) (by omega)
      have hx0 := HX1.out
      have hx9 := HX2.out
      obtain ⟨x, hx⟩ : ∃ x, idxS L m = x := ⟨_, rfl⟩
      obtain ⟨z, hz⟩ : ∃ z, idxS L n = z := ⟨_, rfl⟩
      have HX := Lib.hid hx
      have HZ := Lib.hid hz
      rw [hx] at HX1 HX2 HLO HHI HNX hxz hx0 hx9
      rw [hz] at hxz
      generalize loS L m = lo at *
      generalize hiS L m = hi at *
      have c3 : ¬ z < x := by omega
      have c4 : ¬ m < lo := by omega
      have c5 : ¬ hi < m := by omega
      have x9 : x ≤ 1048576 := by omega
      clear ho hx hz hlz hx9
      go_enter Tryd.func5, Tryd.ntmps5
      go_wp2_with fail
      refine HA.out.mono ?_
      rintro e w2 ⟨rfl, hb2⟩
      go_wp2_with fail
      refine (HNW.out _ (HTN.out.call hb2)).mono ?_
      rintro e w3 ⟨B, rfl, hs, _, hb3⟩
      have HS := Lib.hid hs
      have B3 := hb2.trans (hb3.mono hb2.size)
      clear hs hb2 hb3 HNW HA HTN
      go_wp2_with fail
      refine (sindex_b _ B d L T m x HP.out HS.out h1 h4 HX.out).mono ?_
      rintro e w4 ⟨rfl, hb4⟩
      have HS4 := Lib.hid (spx_call HS.out hb4)
      have B4 := B3.trans (hb4.mono B3.size)
      clear HS hb4 B3
      go_wp2_with fail
      refine (sindex_b _ B d L T n z HP.out HS4.out h5 h3 HZ.out).mono ?_
      rintro e w5 ⟨rfl, hb5⟩
      have HS5 := Lib.hid (spx_call HS4.out hb5)
      have B5 := B4.trans (hb5.mono B4.size)
      clear HS4 hb5 B4
      go_wp2_with fail
      refine (srange_b _ B d L T x lo hi HP.out HS5.out HX1.out HX2.out HLO.out HHI.out).mono ?_
      rintro e w6 ⟨rfl, hb6⟩
      have HS6 := Lib.hid (spx_call HS5.out hb6)
      have B6 := B5.trans (hb6.mono B5.size)
      clear HS5 hb6 B5
      by_cases ht : hi = 9223372036854775808
      · subst ht
        go_wp2_with fail
        go_ret
        exact ⟨rfl, B6⟩
      · have t1 : hi < 9223372036854775808 := by omega
        have t2 : (hi == 9223372036854775808) = false := by simp; omega
        obtain ⟨k1, k2⟩ := HNX.out t1
        have k3 := idx_bd L (show 1 ≤ hi + 1 by omega) (by omega) HL.out
        have k4 := idx_last L (show 1 ≤ hi + 1 by omega) (by omega) HL.out
        have k5 := low_idx L (show 1 ≤ hi + 1 by omega) (by omega) HL.out
        rw [k1] at k3 k4 k5
        rw [k2] at k5
        obtain ⟨u, hu⟩ : ∃ u, highI L (x + 1) = u := ⟨_, rfl⟩
        have K1 := Lib.hid k1
        have K3 := Lib.hid k3
        have K4 := Lib.hid k4
        have K5 := Lib.hid k5
        have HU := Lib.hid hu
        clear k1 k2 k3 k4 k5 hu ht
        go_wp2_with fail
        refine (srange_b _ B d L T (x + 1) (hi + 1) u HP.out HS6.out K3.out K4.out K5.out HU.out).mono ?_
        rintro e w7 ⟨rfl, hb7⟩
        have HS7 := Lib.hid (spx_call HS6.out hb7)
        have B7 := B6.trans (hb7.mono B6.size)
        clear HS6 hb7 B6
        go_wp2_with fail
        refine (sindex_b _ B d L T (hi + 1) (x + 1) HP.out HS7.out (by omega) (by omega) K1.out).mono ?_
        rintro e w8 ⟨rfl, hb8⟩
        have B8 := B7.trans (hb8.mono B7.size)
        go_wp2_with fail
        go_ret
        exact ⟨rfl, B8⟩
  · have HB := Lib.hid (fun W => snew_bad d hd hg W)
    clear hg
    go_enter Tryd.func5, Tryd.ntmps5
    go_wp2_with fail
    refine HA.out.mono ?_
    rintro e w2 ⟨rfl, hb2⟩
    go_wp2_with fail
    refine (HB.out _).mono ?_
    rintro e w3 ⟨rfl, rfl⟩
    go_wp2_with fail
    go_ret
    exact ⟨rfl, hb2⟩

end Go.Proofs.YtnngjcpdnfchbaaDoor
