/-
  The law ReqLow, from the contracts.
-/
import Derived.Test.YtbdfmnlfdhhnjaaK5
namespace Go.Proofs.Ytbdfmnlfdhhnjaa
set_option linter.unusedVariables false
set_option linter.unusedSimpArgs false
open Go.RowKit

set_option maxRecDepth 100000 in
set_option maxHeartbeats 8000000 in
theorem low21_walk {Rq : RqT} (D : RqDoes Rq) (w : World) (B word : Int) (A1 A2 : List PairV) (a1 a2 : Option Addr) (k1 k2 : Nat) (x : Int) (hB : I64 B) (hw : Word word) (hA1 : Pairs w a1 A1) (hA2 : Pairs w a2 A2) (hl1 : A1.length ≤ 140737488351232) (hl2 : A2.length ≤ 140737488351232) (hx : I64 x) :
    Calls Try.prog 4 #[.agg #[.int .i64 B, .int .u64 word], .slice a1 A1.length k1, .slice a2 A2.length k2, .int .i64 x] w fun e w' => e = .returned (.bool true) ∧ Below w.heap.size w w' := by
  have HD := Lib.hid D
  have HA1 := Lib.hid hA1
  have HA2 := Lib.hid hA2
  have HX := Lib.hid hx
  have HAL := Lib.hid (fun W => alive21_any D W)
  have HBD1 := Lib.hid (fun W hW => build21_any D W B word A1 a1 k1 hB hw hW hl1)
  have HBD2 := Lib.hid (fun W hW => build21_any D W B word A2 a2 k2 hB hw hW hl2)
  obtain ⟨bx0, bx1⟩ := two_boxQ w (.int .i64 B) (.int .u64 word) 24
  have HBX : Hid (Below w.heap.size w (w.alloc (.cells #[.int .i64 B, .int .u64 word] 24))) := Lib.hid ((Below.refl _ _).alloc (Nat.le_refl _) _)
  have HX0 := Lib.hid bx0
  have HX1 := Lib.hid bx1
  obtain ⟨n1, hn1⟩ : ∃ n, A1.length = n := ⟨_, rfl⟩
  obtain ⟨n2, hn2⟩ : ∃ n, A2.length = n := ⟨_, rfl⟩
  rw [hn1] at HBD1 ⊢
  rw [hn2] at HBD2 ⊢
  have HN1 := Lib.hid hn1
  have HN2 := Lib.hid hn2
  clear D hA1 hA2 hl1 hl2 hx hB hw bx0 bx1 hn1 hn2
  go_enter Try.func4, Try.ntmps4
  go_wp2_with fail
  with_reducible (refine (HAL.out _).mono ?_)
  rintro e w1 ⟨rfl, b1⟩
  have HB1 := Lib.hid (HBX.out.trans (b1.mono HBX.out.size))
  have HC0 := Lib.hid (cell_later b1 HX0.out)
  have HC1 := Lib.hid (cell_later b1 HX1.out)
  have c0 := HC0.out
  have c1 := HC1.out
  have HZ1 : Hid (w.heap.size + 1 ≤ w1.heap.size) := Lib.hid (by have h := b1.size; rw [size_boxQ] at h; exact h)
  clear b1
  go_wp2_with fail
  with_reducible (refine (HBD1.out _ (HA1.out.call HB1.out)).mono ?_)
  rintro e w2 (⟨P1, S1, M1, hv1, R1, rfl, hg, hf1, hq1⟩ | ⟨rfl, hno1, hb2⟩)
  case inr =>
    have HB2 := Lib.hid (HB1.out.trans (hb2.mono HB1.out.size))
    have d0 := cell_later hb2 HC0.out
    have d1 := cell_later hb2 HC1.out
    clear hb2 c0 c1 hno1
    go_wp2_with fail
    with_reducible (refine (HBD2.out _ (HA2.out.call HB2.out)).mono ?_)
    rintro e w3 (⟨P2, S2, M2, hv2, R2, rfl, _, _, hq2⟩ | ⟨rfl, _, hb3⟩)
    · have HB3 := Lib.hid (HB2.out.trans (hq2.below.mono HB2.out.size))
      clear hq2 d0 d1
      go_wp2_with fail
      go_ret
      exact ⟨rfl, HB3.out⟩
    · have HB3 := Lib.hid (HB2.out.trans (hb3.mono HB2.out.size))
      clear hb3 d0 d1
      go_wp2_with fail
      go_ret
      exact ⟨rfl, HB3.out⟩
  case inl =>
  have HB2 := Lib.hid (HB1.out.trans (hq1.below.mono HB1.out.size))
  have HD0 := Lib.hid (cell_later hq1.below HC0.out)
  have HD1 := Lib.hid (cell_later hq1.below HC1.out)
  have d0 := HD0.out
  have d1 := HD1.out
  have HQ1 := Lib.hid hq1
  have HF1 := Lib.hid hf1
  obtain ⟨gb1, gb2, gb3⟩ := goodQ_iff.1 hg
  clear hq1 hf1 c0 c1 hg
  go_wp2_with fail
  with_reducible (refine (HBD2.out _ (HA2.out.call HB2.out)).mono ?_)
  rintro e w3 (⟨P2, S2, M2, hv2, R2, rfl, _, hf2, hq2⟩ | ⟨rfl, _, hb3⟩)
  case inr =>
    have HB3 := Lib.hid (HB2.out.trans (hb3.mono HB2.out.size))
    clear hb3 d0 d1
    go_wp2_with fail
    go_ret
    exact ⟨rfl, HB3.out⟩
  case inl =>
  have HF2 := Lib.hid hf2
  have HB3 := Lib.hid (HB2.out.trans (hq2.below.mono HB2.out.size))
  have e0 := cell_later hq2.below HD0.out
  have e1 := cell_later hq2.below HD1.out
  have HE0 := Lib.hid e0
  have hr1 := HD.out.call HQ1.out.rq hq2.below
  have hr2 := hq2.rq
  have hsep : ∀ i, S1 i → ¬ S2 i := fun i h1 h2 => by
    have := HD.out.lt _ _ _ _ _ _ _ HQ1.out.rq i h1
    have := hq2.newS i h2
    omega
  have HSW : Hid (∀ i, S1 i → w.heap.size ≤ i) := Lib.hid fun i h => by have := HQ1.out.newS i h; have := HB1.out.size; omega
  obtain ⟨V1, hV1⟩ : ∃ V, allG A1 = V := ⟨_, rfl⟩
  obtain ⟨V2, hV2⟩ : ∃ V, allG A2 = V := ⟨_, rfl⟩
  have HP1 := Lib.hid (all_lenQ HF1.out.one)
  have HP2 := Lib.hid (all_lenQ HF2.out.one)
  rw [hV1] at hr1 HP1
  rw [hV2] at hr2 HP2
  have HU1 := Lib.hid (fun y => (where_up (ok_pos HA1.out.ok) y).1)
  have HU2 := Lib.hid (fun y => (where_up (ok_pos HA2.out.ok) y).1)
  rw [hV1] at HU1
  rw [hV2] at HU2
  have HL1 : Hid ((V1.length : Int) ≤ 200) := Lib.hid (by have := HP1.out; have := HF1.out.sum; omega)
  have HL2 : Hid ((V2.length : Int) ≤ 200) := Lib.hid (by have := HP2.out; have := HF2.out.sum; omega)
  have HT1 := Lib.hid (tow_P (B := B) word gb3 gb1 V1)
  have HT2 := Lib.hid (tow_P (B := B) word gb3 gb1 V2)
  have HTJ := Lib.hid (joint_P word gb3 gb1 HT1.out HT2.out)
  have HJF := Lib.hid (fun W (hb : Below w3.heap.size w3 W) => HD.out.join W P1 S1 B word _ _ P2 S2 word _ _ (HD.out.call hr1 hb) (HD.out.call hr2 hb) hsep (by rw [HT1.out.wt, HT2.out.wt]; have := HL1.out; have := HL2.out; omega) (by have := tow_less (B := B) word gb3 gb1 gb2 V1 (by have := HL1.out; omega); have := HL1.out; omega))
  have HLT : Hid (∀ i, S1 i → w1.heap.size ≤ i) := Lib.hid HQ1.out.newS
  have HWZ : Hid (w.heap.size + 1 ≤ w1.heap.size) := Lib.hid HZ1.out
  have HR1 := Lib.hid hr1
  have HUA := Lib.hid (fun W (hb : Below w.heap.size w W) n hn => rup19_any W a1 k1 A1 x n (HA1.out.call hb) HX.out (by have := HF1.out.len; omega) (by have := HF1.out.sum; omega) hn)
  have HUB := Lib.hid (fun W (hb : Below w.heap.size w W) n hn => rup19_any W a2 k2 A2 x n (HA2.out.call hb) HX.out (by have := HF2.out.len; omega) (by have := HF2.out.sum; omega) hn)
  rw [HN1.out] at HUA
  rw [HN2.out] at HUB
  obtain ⟨u1, hu1⟩ : ∃ u, upV V1 x = u := ⟨_, rfl⟩
  obtain ⟨u2, hu2⟩ : ∃ u, upV V2 x = u := ⟨_, rfl⟩
  have hb1 := upV_bd V1 x
  have hb2 := upV_bd V2 x
  rw [hu1] at hb1
  rw [hu2] at hb2
  have HUA1 := Lib.hid (fun W hb => HUA.out W hb u1 (by rw [HU1.out, hu1]))
  have HUB1 := Lib.hid (fun W hb => HUB.out W hb u2 (by rw [HU2.out, hu2]))
  have HE1 : Hid (upV (V1 ++ V2) x = u1 + u2) := Lib.hid (by rw [upV_app, hu1, hu2])
  have HE2 := Lib.hid hu1
  obtain ⟨ub1, ub2⟩ : 0 ≤ u1 ∧ u1 ≤ 200 := by have := HL1.out; omega
  obtain ⟨ub3, ub4⟩ : 0 ≤ u2 ∧ u2 ≤ 200 := by have := HL2.out; omega
  clear hq2 hf2 d0 d1 hr1 hr2 hsep hV1 hV2 hu1 hu2 HUA HUB hb1 hb2
  obtain ⟨b2, hb2⟩ : ∃ b2, B / 2 = b2 := ⟨_, rfl⟩
  have t1 : B.tdiv 2 = b2 := by rw [Int.tdiv_eq_ediv_of_nonneg (by omega)]; exact hb2
  have bb : 0 ≤ b2 ∧ b2 ≤ 32 := by omega
  obtain ⟨bb1, bb2⟩ := bb
  have t2 : IntKind.u64.wrap b2 = b2 := by rw [IntKind.wrap_u64]; omega
  have HB22 := Lib.hid hb2
  have HRA := Lib.hid (fun W (hb : Below w3.heap.size w3 W) => HD.out.rank W P1 S1 B word _ _ x (HD.out.call HR1.out hb) HX.out)
  clear hb2
  go_wp2_with fail
  with_reducible (refine (HUA1.out _ HB3.out).mono ?_)
  rintro e w4 ⟨rfl, b4⟩
  have HB4 := Lib.hid (HB3.out.trans (b4.mono HB3.out.size))
  have HC4 := Lib.hid b4
  have f0 := cell_later b4 HE0.out
  clear b4 e0 e1
  by_cases q1 : u1 ≤ b2
  case pos =>
    have HRE : Hid (rankR x (towQ B word V1).1 = u1) := Lib.hid (by rw [HT1.out.exact x (by rw [HE2.out, HB22.out]; exact q1), HE2.out])
    have HRA4 := Lib.hid (HRA.out w4 HC4.out)
    rw [HRE.out] at HRA4
    have z1 : (u1 != u1) = false := by simp
    have z2 : (!(u1 == u1)) = false := by simp
    go_wp2_with fail
    with_reducible (refine HRA4.out.mono ?_)
    rintro e w5 ⟨rfl, b5⟩
    have HB5 := Lib.hid (HB4.out.trans (b5.mono HB4.out.size))
    have HC5 := Lib.hid (HC4.out.trans (b5.mono HC4.out.size))
    have g0 := cell_later b5 f0
    clear b5 f0
    have HJ5 := Lib.hid (HJF.out w5 HC5.out)
    go_wp2_with fail
    with_reducible (refine HJ5.out.mono ?_)
    rintro e w6 ⟨S6, rfl, hq6, hk6, hs6⟩
    have HQ6 := Lib.hid hq6
    have HB6 := Lib.hid (hk6.below HB5.out HB5.out.size HSW.out)
    have g1 := hk6.cell (fun h => by have := HLT.out _ h; have := HWZ.out; omega) g0
    have HG1 := Lib.hid g1
    clear hq6 hk6 hs6 g0
    go_wp2_with fail
    with_reducible (refine (HUB1.out _ HB6.out).mono ?_)
    rintro e w7 ⟨rfl, b7⟩
    have HB7 := Lib.hid (HB6.out.trans (b7.mono HB6.out.size))
    have h0 := cell_later b7 HG1.out
    have HQ7 := Lib.hid (HD.out.call HQ6.out b7)
    clear b7 g1
    obtain ⟨s, hs⟩ : ∃ s, u1 + u2 = s := ⟨_, rfl⟩
    obtain ⟨sb1, sb2⟩ : 0 ≤ s ∧ s ≤ 400 := by omega
    have HSS := Lib.hid hs
    by_cases q2 : s ≤ b2
    case pos =>
      have HRJ : Hid (rankR x (jointT B (coinB word) (towQ B word V1) (towQ B word V2)).1 = s) := Lib.hid (by rw [HTJ.out.exact x (by rw [HE1.out, HB22.out, HSS.out]; exact q2), HE1.out, HSS.out])
      have HRA7 := Lib.hid (HD.out.rank w7 P1 S6 B word _ _ x HQ7.out HX.out)
      rw [HRJ.out] at HRA7
      have z3 : ¬ b2 < s := by omega
      have z4 : (s == s) = true := by simp
      go_wp2_with fail
      with_reducible (refine HRA7.out.mono ?_)
      rintro e w8 ⟨rfl, b8⟩
      have HB8 := Lib.hid (HB7.out.trans (b8.mono HB7.out.size))
      clear b8
      go_wp2_with fail
      go_ret
      exact ⟨rfl, HB8.out⟩
    case neg =>
      have z3 : b2 < s := by omega
      go_wp2_with fail
      go_ret
      exact ⟨rfl, HB7.out⟩
  case neg =>
    have q1' : ¬ u1 ≤ b2 := q1
    obtain ⟨w5, hw5⟩ : ∃ w5, w5 = w4 := ⟨_, rfl⟩
    subst hw5
    have HB5 := HB4
    have HC5 := HC4
    have g0 := f0
    clear f0
    have HJ5 := Lib.hid (HJF.out w5 HC5.out)
    go_wp2_with fail
    with_reducible (refine HJ5.out.mono ?_)
    rintro e w6 ⟨S6, rfl, hq6, hk6, hs6⟩
    have HQ6 := Lib.hid hq6
    have HB6 := Lib.hid (hk6.below HB5.out HB5.out.size HSW.out)
    have g1 := hk6.cell (fun h => by have := HLT.out _ h; have := HWZ.out; omega) g0
    have HG1 := Lib.hid g1
    clear hq6 hk6 hs6 g0
    go_wp2_with fail
    with_reducible (refine (HUB1.out _ HB6.out).mono ?_)
    rintro e w7 ⟨rfl, b7⟩
    have HB7 := Lib.hid (HB6.out.trans (b7.mono HB6.out.size))
    have h0 := cell_later b7 HG1.out
    have HQ7 := Lib.hid (HD.out.call HQ6.out b7)
    clear b7 g1
    obtain ⟨s, hs⟩ : ∃ s, u1 + u2 = s := ⟨_, rfl⟩
    obtain ⟨sb1, sb2⟩ : 0 ≤ s ∧ s ≤ 400 := by omega
    have HSS := Lib.hid hs
    by_cases q2 : s ≤ b2
    case pos =>
      exfalso; have := HSS.out; omega
    case neg =>
      have z3 : b2 < s := by omega
      go_wp2_with fail
      go_ret
      exact ⟨rfl, HB7.out⟩
end Go.Proofs.Ytbdfmnlfdhhnjaa
