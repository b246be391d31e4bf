/-
  The law ReqBound, from the contracts.
-/
import Derived.Test.YtbdfmnlfdhhnjaaK5
import Derived.Deep.RegionHeld3
namespace Go.Proofs.Ytbdfmnlfdhhnjaa
set_option linter.unusedVariables false
set_option linter.unusedSimpArgs false
open Go.RowKit

set_option maxRecDepth 100000 in
set_option maxHeartbeats 8000000 in
theorem bound21_walk {Rq : RqT} (D : RqDoes Rq) (w : World) (B word : Int) (A1 A2 : List PairV) (a1 a2 : Option Addr) (k1 k2 : Nat) (x : Int) (hB : I64 B) (hw : Word word) (hA1 : Pairs w a1 A1) (hA2 : Pairs w a2 A2) (hl1 : A1.length ≤ 140737488351232) (hl2 : A2.length ≤ 140737488351232) (hx : I64 x) :
    Calls Try.prog 5 #[.agg #[.int .i64 B, .int .u64 word], .slice a1 A1.length k1, .slice a2 A2.length k2, .int .i64 x] w fun e w' => e = .returned (.bool true) ∧ Below w.heap.size w w' := by
  have HD := Lib.hid D
  have HA1 := Lib.hid hA1
  have HA2 := Lib.hid hA2
  have HX := Lib.hid hx
  have HAL := Lib.hid (fun W => alive21_any D W)
  have HBD1 := Lib.hid (fun W hW => build21_any D W B word A1 a1 k1 hB hw hW hl1)
  have HBD2 := Lib.hid (fun W hW => build21_any D W B word A2 a2 k2 hB hw hW hl2)
  obtain ⟨bx0, bx1⟩ := two_boxQ w (.int .i64 B) (.int .u64 word) 24
  have HBX : Hid (Below w.heap.size w (w.alloc (.cells #[.int .i64 B, .int .u64 word] 24))) := Lib.hid ((Below.refl _ _).alloc (Nat.le_refl _) _)
  have HX0 := Lib.hid bx0
  have HX1 := Lib.hid bx1
  obtain ⟨n1, hn1⟩ : ∃ n, A1.length = n := ⟨_, rfl⟩
  obtain ⟨n2, hn2⟩ : ∃ n, A2.length = n := ⟨_, rfl⟩
  rw [hn1] at HBD1 ⊢
  rw [hn2] at HBD2 ⊢
  have HN1 := Lib.hid hn1
  have HN2 := Lib.hid hn2
  clear D hA1 hA2 hl1 hl2 hx hB hw bx0 bx1 hn1 hn2
  go_enter Try.func5, Try.ntmps5
  go_wp2_with fail
  with_reducible (refine (HAL.out _).mono ?_)
  rintro e w1 ⟨rfl, b1⟩
  have HB1 := Lib.hid (HBX.out.trans (b1.mono HBX.out.size))
  have HC0 := Lib.hid (cell_later b1 HX0.out)
  have HC1 := Lib.hid (cell_later b1 HX1.out)
  have c0 := HC0.out
  have c1 := HC1.out
  have HZ1 : Hid (w.heap.size + 1 ≤ w1.heap.size) := Lib.hid (by have h := b1.size; rw [size_boxQ] at h; exact h)
  clear b1
  go_wp2_with fail
  with_reducible (refine (HBD1.out _ (HA1.out.call HB1.out)).mono ?_)
  rintro e w2 (⟨P1, S1, M1, hv1, R1, rfl, hg, hf1, hq1⟩ | ⟨rfl, hno1, hb2⟩)
  case inr =>
    have HB2 := Lib.hid (HB1.out.trans (hb2.mono HB1.out.size))
    have d0 := cell_later hb2 HC0.out
    have d1 := cell_later hb2 HC1.out
    clear hb2 c0 c1 hno1
    go_wp2_with fail
    with_reducible (refine (HBD2.out _ (HA2.out.call HB2.out)).mono ?_)
    rintro e w3 (⟨P2, S2, M2, hv2, R2, rfl, _, _, hq2⟩ | ⟨rfl, _, hb3⟩)
    · have HB3 := Lib.hid (HB2.out.trans (hq2.below.mono HB2.out.size))
      clear hq2 d0 d1
      go_wp2_with fail
      go_ret
      exact ⟨rfl, HB3.out⟩
    · have HB3 := Lib.hid (HB2.out.trans (hb3.mono HB2.out.size))
      clear hb3 d0 d1
      go_wp2_with fail
      go_ret
      exact ⟨rfl, HB3.out⟩
  case inl =>
  have HB2 := Lib.hid (HB1.out.trans (hq1.below.mono HB1.out.size))
  have HD0 := Lib.hid (cell_later hq1.below HC0.out)
  have HD1 := Lib.hid (cell_later hq1.below HC1.out)
  have d0 := HD0.out
  have d1 := HD1.out
  have HQ1 := Lib.hid hq1
  have HF1 := Lib.hid hf1
  obtain ⟨gb1, gb2, gb3⟩ := goodQ_iff.1 hg
  clear hq1 hf1 c0 c1 hg
  go_wp2_with fail
  with_reducible (refine (HBD2.out _ (HA2.out.call HB2.out)).mono ?_)
  rintro e w3 (⟨P2, S2, M2, hv2, R2, rfl, _, hf2, hq2⟩ | ⟨rfl, _, hb3⟩)
  case inr =>
    have HB3 := Lib.hid (HB2.out.trans (hb3.mono HB2.out.size))
    clear hb3 d0 d1
    go_wp2_with fail
    go_ret
    exact ⟨rfl, HB3.out⟩
  case inl =>
  have HF2 := Lib.hid hf2
  have HB3 := Lib.hid (HB2.out.trans (hq2.below.mono HB2.out.size))
  have e0 := cell_later hq2.below HD0.out
  have e1 := cell_later hq2.below HD1.out
  have HE0 := Lib.hid e0
  have hr1 := HD.out.call HQ1.out.rq hq2.below
  have hr2 := hq2.rq
  have hsep : ∀ i, S1 i → ¬ S2 i := fun i h1 h2 => by
    have := HD.out.lt _ _ _ _ _ _ _ HQ1.out.rq i h1
    have := hq2.newS i h2
    omega
  have HSW : Hid (∀ i, S1 i → w.heap.size ≤ i) := Lib.hid fun i h => by have := HQ1.out.newS i h; have := HB1.out.size; omega
  obtain ⟨V1, hV1⟩ : ∃ V, allG A1 = V := ⟨_, rfl⟩
  have HVE1 := Lib.hid hV1
  obtain ⟨V2, hV2⟩ : ∃ V, allG A2 = V := ⟨_, rfl⟩
  have HVE2 := Lib.hid hV2
  have HP1 := Lib.hid (all_lenQ HF1.out.one)
  have HP2 := Lib.hid (all_lenQ HF2.out.one)
  rw [hV1] at hr1 HP1
  rw [hV2] at hr2 HP2
  have HU1 := Lib.hid (fun y => (where_up (ok_pos HA1.out.ok) y).1)
  have HU2 := Lib.hid (fun y => (where_up (ok_pos HA2.out.ok) y).1)
  rw [hV1] at HU1
  rw [hV2] at HU2
  have HL1 : Hid ((V1.length : Int) ≤ 200) := Lib.hid (by have := HP1.out; have := HF1.out.sum; omega)
  have HL2 : Hid ((V2.length : Int) ≤ 200) := Lib.hid (by have := HP2.out; have := HF2.out.sum; omega)
  have HT1 := Lib.hid (tow_P (B := B) word gb3 gb1 V1)
  have HT2 := Lib.hid (tow_P (B := B) word gb3 gb1 V2)
  have HTJ := Lib.hid (joint_P word gb3 gb1 HT1.out HT2.out)
  have HJF := Lib.hid (fun W (hb : Below w3.heap.size w3 W) => HD.out.join W P1 S1 B word _ _ P2 S2 word _ _ (HD.out.call hr1 hb) (HD.out.call hr2 hb) hsep (by rw [HT1.out.wt, HT2.out.wt]; have := HL1.out; have := HL2.out; omega) (by have := tow_less (B := B) word gb3 gb1 gb2 V1 (by have := HL1.out; omega); have := HL1.out; omega))
  have HLT : Hid (∀ i, S1 i → w1.heap.size ≤ i) := Lib.hid HQ1.out.newS
  have HWZ : Hid (w.heap.size + 1 ≤ w1.heap.size) := Lib.hid HZ1.out
  have HR1 := Lib.hid hr1
  have HUA := Lib.hid (fun W (hb : Below w.heap.size w W) n hn => rup19_any W a1 k1 A1 x n (HA1.out.call hb) HX.out (by have := HF1.out.len; omega) (by have := HF1.out.sum; omega) hn)
  have HUB := Lib.hid (fun W (hb : Below w.heap.size w W) n hn => rup19_any W a2 k2 A2 x n (HA2.out.call hb) HX.out (by have := HF2.out.len; omega) (by have := HF2.out.sum; omega) hn)
  rw [HN1.out] at HUA
  rw [HN2.out] at HUB
  obtain ⟨u1, hu1⟩ : ∃ u, upV V1 x = u := ⟨_, rfl⟩
  obtain ⟨u2, hu2⟩ : ∃ u, upV V2 x = u := ⟨_, rfl⟩
  have hb1 := upV_bd V1 x
  have hb2 := upV_bd V2 x
  rw [hu1] at hb1
  rw [hu2] at hb2
  have HUA1 := Lib.hid (fun W hb => HUA.out W hb u1 (by rw [HU1.out, hu1]))
  have HUB1 := Lib.hid (fun W hb => HUB.out W hb u2 (by rw [HU2.out, hu2]))
  have HE1 : Hid (upV (V1 ++ V2) x = u1 + u2) := Lib.hid (by rw [upV_app, hu1, hu2])
  have HE2 := Lib.hid hu1
  obtain ⟨ub1, ub2⟩ : 0 ≤ u1 ∧ u1 ≤ 200 := by have := HL1.out; omega
  obtain ⟨ub3, ub4⟩ : 0 ≤ u2 ∧ u2 ≤ 200 := by have := HL2.out; omega
  clear hq2 hf2 d0 d1 hr1 hr2 hsep hV1 hV2 hu1 hu2 HUA HUB hb1 hb2
  have HJ3 := Lib.hid (HJF.out w3 (Below.refl _ _))
  have HME := Lib.hid (fun y (h : y ∈ V1 ++ V2) => (by
    rcases List.mem_append.1 h with h | h
    · rw [← HVE1.out] at h; exact all_ok HA1.out.ok y h
    · rw [← HVE2.out] at h; exact all_ok HA2.out.ok y h : I64 y))
  clear e0 e1
  go_wp2_with fail
  with_reducible (refine HJ3.out.mono ?_)
  rintro e w4 ⟨S4, rfl, hq4, hk4, hs4⟩
  have HQ4 := Lib.hid hq4
  have HB4 := Lib.hid (hk4.below HB3.out HB3.out.size HSW.out)
  have g0 := hk4.cell (fun h => by have := HLT.out _ h; have := HWZ.out; omega) HE0.out
  have HG0 := Lib.hid g0
  obtain ⟨J, hJ⟩ : ∃ J, jointT B (coinB word) (towQ B word V1) (towQ B word V2) = J := ⟨_, rfl⟩
  have HTJ2 := HTJ.out
  rw [hJ] at HTJ2
  rw [hJ] at HQ4
  have HTP := Lib.hid HTJ2
  obtain ⟨rk, hrk⟩ : ∃ rk, rankR x J.1 = rk := ⟨_, rfl⟩
  obtain ⟨s, hs⟩ : ∃ s, u1 + u2 = s := ⟨_, rfl⟩
  obtain ⟨T, hT⟩ : ∃ T, wtR J.1 = T := ⟨_, rfl⟩
  obtain ⟨m, hm⟩ : ∃ m, J.1.length = m := ⟨_, rfl⟩
  have hTv : T = ((V1 ++ V2).length : Int) := by rw [← hT]; exact HTJ2.wt
  have hTb : 0 ≤ T ∧ T ≤ 400 := by rw [hTv, List.length_append]; have := HL1.out; have := HL2.out; omega
  have hmb : m ≤ 13 := by rw [← hm]; exact (HTJ2.fuel gb1 gb2 (by rw [← hTv]; omega)).1
  have hrb := rank_wt x J.1
  rw [hrk, hT] at hrb
  have hsb : 0 ≤ s ∧ s ≤ 400 := by omega
  have HNEAR := Lib.hid (HTJ2.near x)
  rw [HE1.out, hrk, hs, hm, ← hTv] at HNEAR
  have HRA := Lib.hid (HD.out.rank w4 P1 S4 B word _ _ x HQ4.out HX.out)
  rw [hrk] at HRA
  have HCM : Hid (∀ W, Below w4.heap.size w4 W → Calls Try.prog 19 #[.pointer (some ⟨P1, 0, none⟩), .int .i64 9223372036854775807] W fun e w' => e = .returned (.int .u64 T) ∧ Below W.heap.size W w') := Lib.hid (fun W hb => by
    have h := HD.out.rank W P1 S4 B word _ _ 9223372036854775807 (HD.out.call HQ4.out hb) ⟨by decide, by decide⟩
    rw [rank_all (fun r hr y hy => (HME.out y (HTP.out.mem r hr y hy)).2), hT] at h
    exact h)
  have HCT : Hid (∀ W, Below w4.heap.size w4 W → Calls Try.prog 21 #[.pointer (some ⟨P1, 0, none⟩)] W fun e w' => e = .returned (.int .u64 T) ∧ Below W.heap.size W w') := Lib.hid (fun W hb => by
    have h := HD.out.total W P1 S4 B word _ _ (HD.out.call HQ4.out hb)
    rw [hT] at h
    exact h)
  have HCR : Hid (∀ W, Below w4.heap.size w4 W → Calls Try.prog 25 #[.pointer (some ⟨P1, 0, none⟩)] W fun e w' => ∃ A c, e = .returned (.slice A m c) ∧ Below W.heap.size W w') := Lib.hid (fun W hb => (HD.out.rows W P1 S4 B word _ _ (HD.out.call HQ4.out hb)).mono fun e w' hx => by
    obtain ⟨A, c, R, he, _, hl, hb⟩ := hx
    refine ⟨A, c, ?_, hb⟩
    rw [he, ← hm, ← hl, ls_len])
  obtain ⟨mx, hmx⟩ : ∃ mx, max rk s = mx := ⟨_, rfl⟩
  obtain ⟨mn, hmn⟩ : ∃ mn, min rk s = mn := ⟨_, rfl⟩
  obtain ⟨d, hd⟩ : ∃ d, mx - mn = d := ⟨_, rfl⟩
  have hdb : 0 ≤ d ∧ d ≤ 400 := by omega
  have hdn : d * B ≤ 2 * T * m := by
    rcases Int.le_total rk s with h | h
    · have e : d = s - rk := by omega
      rw [e]; exact HNEAR.out.2
    · have e : d = rk - s := by omega
      rw [e]; exact HNEAR.out.1
  obtain ⟨p1, hp1⟩ : ∃ p, d * B = p := ⟨_, rfl⟩
  obtain ⟨t2, ht2⟩ : ∃ t, 2 * T = t := ⟨_, rfl⟩
  obtain ⟨p2, hp2⟩ : ∃ p, t2 * (m : Int) = p := ⟨_, rfl⟩
  have hple : p1 ≤ p2 := by rw [← hp1, ← hp2, ← ht2]; exact hdn
  have hp1b : 0 ≤ p1 := by rw [← hp1]; exact Int.mul_nonneg hdb.1 (by omega)
  have hp2b : p2 ≤ 20000 := by
    rw [← hp2]
    have := Int.mul_le_mul (show t2 ≤ 800 by omega) (show (m : Int) ≤ 13 by omega) (by omega) (by decide)
    omega
  have x1 : IntKind.u64.wrap B = B := by rw [IntKind.wrap_u64]; omega
  have x2 : IntKind.u64.wrap (d * B) = p1 := by rw [hp1, IntKind.wrap_u64]; omega
  have x3 : IntKind.u64.wrap (2 * T) = t2 := by rw [ht2, IntKind.wrap_u64]; omega
  have x4 : IntKind.u64.wrap (m : Int) = (m : Int) := by rw [IntKind.wrap_u64]; omega
  have x5 : IntKind.u64.wrap (t2 * (m : Int)) = p2 := by rw [hp2, IntKind.wrap_u64]; omega
  have x6 : decide (p1 ≤ p2) = true := decide_eq_true hple
  have x7 : (T == T) = true := by simp
  have x8 : IntKind.u64.wrap p1 = p1 := by rw [IntKind.wrap_u64]; omega
  have x9 : IntKind.u64.wrap p2 = p2 := by rw [IntKind.wrap_u64]; omega
  have y1 : IntKind.u64.wrap t2 = t2 := by rw [IntKind.wrap_u64]; omega
  obtain ⟨s0, s1⟩ := hsb
  obtain ⟨r0, r1⟩ := hrb
  obtain ⟨T0, T1⟩ := hTb
  obtain ⟨d0, d1⟩ := hdb
  have hm1 : mn ≤ mx := by omega
  have hm2 : 0 ≤ mn ∧ mx ≤ 400 := by omega
  obtain ⟨hm3, hm4⟩ := hm2
  clear hq4 hk4 hs4 hJ HTJ2 hTv hrk hT hm hdn
  go_wp2_with fail
  with_reducible (refine HRA.out.mono ?_)
  rintro e w5 ⟨rfl, b5⟩
  have HB5 := Lib.hid (HB4.out.trans (b5.mono HB4.out.size))
  have HC5 := Lib.hid b5
  clear b5
  go_wp2_with fail
  with_reducible (refine (HUA1.out _ HB5.out).mono ?_)
  rintro e w6 ⟨rfl, b6⟩
  have HB6 := Lib.hid (HB5.out.trans (b6.mono HB5.out.size))
  have HC6 := Lib.hid (HC5.out.trans (b6.mono HC5.out.size))
  clear b6
  go_wp2_with fail
  with_reducible (refine (HUB1.out _ HB6.out).mono ?_)
  rintro e w7 ⟨rfl, b7⟩
  have HB7 := Lib.hid (HB6.out.trans (b7.mono HB6.out.size))
  have HC7 := Lib.hid (HC6.out.trans (b7.mono HC6.out.size))
  have HS0 : Hid (w7.drew.cell? ⟨w.heap.size, 0, none⟩ = some (.int .i64 B) ∧ Below w4.heap.size w4 w7.drew) := Lib.hid ⟨cell_later HC7.out.drew HG0.out, HC7.out.drew⟩
  have HST := Lib.hid (fun (W W' : World) (h : W.cell? ⟨w.heap.size, 0, none⟩ = some (.int .i64 B) ∧ Below w4.heap.size w4 W) (hb : Below W.heap.size W W') => (⟨cell_later hb h.1, h.2.trans (hb.mono h.2.size)⟩ : W'.cell? ⟨w.heap.size, 0, none⟩ = some (.int .i64 B) ∧ Below w4.heap.size w4 W'))
  clear b7 g0 HNEAR
  go_wp2_with fail
  go_region_held3 (fun w' => w'.cell? ⟨w.heap.size, 0, none⟩ = some (.int .i64 B) ∧ Below w4.heap.size w4 w')
    (first | exact HS0.out | exact HST.out _ _ (by assumption) hbA | exact HST.out _ _ (by assumption) hbB | exact HST.out _ _ (by assumption) hbC | assumption)
    ((first
      | (go_at_call 25; (with_reducible (refine (HCR.out _ (And.right (by assumption))).mono ?_)); rintro e wA ⟨A4, k4, rfl, hbA⟩)
      | (go_at_call 21; (with_reducible (refine (HCT.out _ (And.right (by assumption))).mono ?_)); rintro e wB ⟨rfl, hbB⟩)
      | (go_at_call 19; (with_reducible (refine (HCM.out _ (And.right (by assumption))).mono ?_)); rintro e wC ⟨rfl, hbC⟩)))
  rename_i hHeld
  have HBH := Lib.hid (HB4.out.trans (hHeld.2.mono HB4.out.size))
  clear hHeld HS0 HST
  go_wp2_with fail
  go_ret
  exact ⟨rfl, HBH.out⟩
end Go.Proofs.Ytbdfmnlfdhhnjaa
