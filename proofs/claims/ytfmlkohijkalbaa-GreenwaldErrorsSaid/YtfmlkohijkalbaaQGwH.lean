/-
  The law GreenwaldErrors, walked from the contracts. (tools/gen_gw_h.py)
-/
import Derived.Test.YtfmlkohijkalbaaK4
namespace Go.Proofs.Ytfmlkohijkalbaa
set_option linter.unusedVariables false
set_option linter.unusedSimpArgs false
open Go.RowKit

set_option maxRecDepth 100000 in
set_option maxHeartbeats 16000000 in
theorem gw_errors_walk {Gw : GwT} (D : GwDoes Gw) (NI : GwNil) (u v : Int) (A : List PairV) (a : Option Addr) (cap : Nat) (x y : Int) (hu : Word u) (hv : Word v) (hx : Word x) (hy : Word y) (w : World) (hA : Pairs w a A) (hl : A.length ≤ 140737488351232) :
    Calls Try.prog 6 #[.agg #[.int .u64 u, .int .u64 v], .slice a A.length cap, .agg #[.int .u64 x, .int .u64 y]] w fun e w' => e = .returned (.bool true) ∧ Below w.heap.size w w' := by
  have HD := Lib.hid D
  have HNI := Lib.hid NI
  have HAL := Lib.hid (fun W => alive19_any D W)
  have HBD := Lib.hid (fun W hW => build19_any D W u v A a cap hu hv hW hl)
  have HGR := Lib.hid (fun W => good19_any W u v hu hv)
  obtain ⟨bx, bw⟩ := boxw_new w (.int .u64 u) (.int .u64 v) (.int .u64 x) (.int .u64 y) 24 24
  have HA := Lib.hid (hA.call bw)
  have HBX := Lib.hid bx
  have HB0 := Lib.hid bw
  have HU := Lib.hid hu
  have HV := Lib.hid hv
  have HX := Lib.hid hx
  have HY := Lib.hid hy
  clear hA D NI bx bw
  go_enter Try.func6, Try.ntmps6
  go_wp2_with fail
  refine (HAL.out _).mono ?_
  rintro e w1 ⟨rfl, b1⟩
  have HB1 := Lib.hid b1
  clear b1
  go_wp2_with fail
  refine (HNI.out.flush _).mono ?_
  rintro e w2 ⟨rfl, b2⟩
  have HB2 := Lib.hid (HB1.out.trans (b2.mono HB1.out.size))
  clear b2
  go_wp2_with fail
  refine (HNI.out.ends _).mono ?_
  rintro e w3 ⟨rfl, b3⟩
  have HB3 := Lib.hid (HB2.out.trans (b3.mono HB2.out.size))
  clear b3
  go_wp2_with fail
  refine (HNI.out.quantile _ 0 1 ⟨by decide, by decide⟩ ⟨by decide, by decide⟩).mono ?_
  rintro e w4 ⟨rfl, b4⟩
  have HB4 := Lib.hid (HB3.out.trans (b4.mono HB3.out.size))
  clear b4
  go_wp2_with fail
  refine (HNI.out.rank _ 1 ⟨by decide, by decide⟩).mono ?_
  rintro e w5 ⟨rfl, b5⟩
  have HB5 := Lib.hid (HB4.out.trans (b5.mono HB4.out.size))
  clear b5
  go_wp2_with fail
  refine (HNI.out.row _).mono ?_
  rintro e w6 ⟨r1, r2, r3, r4, rfl, b6⟩
  have HB6 := Lib.hid (HB5.out.trans (b6.mono HB5.out.size))
  clear b6
  go_wp2_with fail
  refine (HNI.out.put _ 1 1 ⟨by decide, by decide⟩ ⟨by decide, by decide⟩).mono ?_
  rintro e w7 ⟨rfl, b7⟩
  have HB7 := Lib.hid (HB6.out.trans (b7.mono HB6.out.size))
  clear b7
  go_wp2_with fail
  refine (HNI.out.join _).mono ?_
  rintro e w8 ⟨rfl, b8⟩
  have HB8 := Lib.hid (HB7.out.trans (b8.mono HB7.out.size))
  clear b8
  go_wp2_with fail
  refine (HNI.out.total _).mono ?_
  rintro e w9 ⟨rfl, b9⟩
  have HB9 := Lib.hid (HB8.out.trans (b9.mono HB8.out.size))
  clear b9
  go_wp2_with fail
  refine (HNI.out.part _).mono ?_
  rintro e w10 ⟨rfl, b10⟩
  have HB10 := Lib.hid (HB9.out.trans (b10.mono HB9.out.size))
  clear b10
  obtain ⟨c0, c1, p0, p1⟩ := boxw_later HBX.out HB10.out
  obtain ⟨g, hg⟩ : ∃ g, goodG u v = g := ⟨_, rfl⟩
  have HG := Lib.hid hg
  rw [hg] at HGR
  have HNW : Hid (∀ W, Calls Try.prog 24 #[.agg #[.int .u64 u, .int .u64 v]] W fun r w' => (∃ p c, r = .returned (.tuple #[.pointer p, .int .i64 c]) ∧ (c == 0) = g) ∧ Below W.heap.size W w') := Lib.hid fun W => by
    cases g with
    | true =>
      refine (HD.out.new W u v (goodG_iff.1 hg)).mono ?_
      rintro r w' ⟨B, S, rfl, _, _, hb⟩
      exact ⟨⟨_, _, rfl, rfl⟩, hb⟩
    | false =>
      refine (HD.out.bad W u v HU.out HV.out hg).mono ?_
      rintro r w' ⟨rfl, hb⟩
      exact ⟨⟨_, _, rfl, rfl⟩, hb⟩
  have g1 : (g != g) = false := by cases g <;> rfl
  clear hg
  go_wp2_with fail
  refine (HNW.out _).mono ?_
  rintro e w11 ⟨⟨np, nc, rfl, hnc⟩, b11⟩
  have HB11 := Lib.hid (HB10.out.trans (b11.mono HB10.out.size))
  clear b11 c0 c1 p0 p1
  obtain ⟨c0, c1, p0, p1⟩ := boxw_later HBX.out HB11.out
  go_wp2_with fail
  refine (HGR.out _).mono ?_
  rintro e w12 ⟨rfl, b12⟩
  have HB12 := Lib.hid (HB11.out.trans (b12.mono HB11.out.size))
  clear b12 c0 c1 p0 p1
  obtain ⟨c0, c1, p0, p1⟩ := boxw_later HBX.out HB12.out
  go_wp2_with fail
  refine (HBD.out _ (HA.out.call HB12.out)).mono ?_
  rintro e w13 (⟨B, S, M, vs, vw, rfl, hga, hfe, hbt⟩ | ⟨rfl, _, b13⟩)
  case inr =>
    have HE := Lib.hid (HB0.out.trans ((HB12.out.trans (b13.mono HB12.out.size)).mono HB0.out.size))
    clear b13 c0 c1 p0 p1
    go_wp2_with fail
    go_ret
    exact ⟨rfl, HE.out⟩
  have HB13 := Lib.hid (HB12.out.trans (hbt.below.mono HB12.out.size))
  have HBT := Lib.hid hbt
  have HGA := Lib.hid hga
  obtain ⟨f1, f2, f3, f4⟩ := build_facts u v _ A rfl HA.out.ok (by have := hfe.sum; omega)
  have HOK := Lib.hid f1
  obtain ⟨s, hs⟩ : ∃ s, buildG u v A = s := ⟨_, rfl⟩
  obtain ⟨en, hen⟩ : ∃ s, endAD A = s := ⟨_, rfl⟩
  have hgw := hbt.gw
  have hrf := hbt.ref
  rw [hs] at hgw hrf HOK
  rw [hen] at hgw
  have HGW := Lib.hid hgw
  have HRF := Lib.hid hrf
  clear hbt hga hfe f1 f2 f3 f4 hs hgw hrf hen c0 c1 p0 p1
  obtain ⟨c0, c1, p0, p1⟩ := boxw_later HBX.out HB13.out
  have HSA := Lib.hid (fun W (h : Below w13.heap.size w13 W) => same19_any HD.out W B S u v s en M vs vw (HD.out.call HGW.out h) (HRF.out.call h) HOK.out)
  have HZE := Lib.hid (fun W (h : Below w13.heap.size w13 W) => HD.out.zero W B S u v s en 1 (HD.out.call HGW.out h) ⟨by decide, by decide⟩)
  have HLO := Lib.hid (fun W (h : Below w13.heap.size w13 W) => HD.out.long W B S u v s en 1 1025 (HD.out.call HGW.out h) ⟨by decide, by decide⟩ ⟨by decide, by decide⟩ (by decide))
  have HJN := Lib.hid (fun W (h : Below w13.heap.size w13 W) => HD.out.join_nil W B S u v s en (HD.out.call HGW.out h))
  have HFI := Lib.hid (fun W (h : Below w13.heap.size w13 W) => HB0.out.trans ((HB13.out.trans (h.mono HB13.out.size)).mono HB0.out.size))
  cases hgo : goodG x y with
  | false =>
    have HBA := Lib.hid (HD.out.bad w13 x y HX.out HY.out hgo)
    clear hgo
    go_wp2_with fail
    refine HBA.out.mono ?_
    rintro e w14 ⟨rfl, b14⟩
    have HC1 := Lib.hid b14
    clear b14 c0 c1 p0 p1 HBA
    go_wp2_with fail
    refine (HZE.out _ HC1.out).mono ?_
    rintro e wa ⟨rfl, ba⟩
    have HCA := Lib.hid (HC1.out.trans (ba.mono HC1.out.size))
    clear ba
    go_wp2_with fail
    refine (HLO.out _ HCA.out).mono ?_
    rintro e wb ⟨rfl, bb⟩
    have HCB := Lib.hid (HCA.out.trans (bb.mono HCA.out.size))
    clear bb
    go_wp2_with fail
    refine (HJN.out _ HCB.out).mono ?_
    rintro e wc ⟨rfl, bc⟩
    have HCC := Lib.hid (HCB.out.trans (bc.mono HCB.out.size))
    clear bc
    go_wp2_with fail
    refine (HSA.out _ HCC.out).mono ?_
    rintro e wd ⟨rfl, bd⟩
    have HCD := Lib.hid (HFI.out _ (HCC.out.trans (bd.mono HCC.out.size)))
    clear bd
    go_wp2_with fail
    go_ret
    exact ⟨rfl, HCD.out⟩
  | true =>
    have HNO := Lib.hid (HD.out.new w13 x y (goodG_iff.1 hgo))
    clear hgo
    go_wp2_with fail
    refine HNO.out.mono ?_
    rintro e w14 ⟨Bo, So, rfl, hxo, _, b14⟩
    have HC1 := Lib.hid b14
    have HXO := Lib.hid hxo
    clear b14 c0 c1 p0 p1 hxo
    obtain ⟨c0, c1, p0, p1⟩ := boxw_later (boxw_later HBX.out HB13.out) HC1.out
    by_cases hxu : x = u
    · by_cases hyv : y = v
      · subst hxu hyv
        go_wp2_with fail
        refine (HZE.out _ HC1.out).mono ?_
        rintro e wa ⟨rfl, ba⟩
        have HCA := Lib.hid (HC1.out.trans (ba.mono HC1.out.size))
        clear ba
        go_wp2_with fail
        refine (HLO.out _ HCA.out).mono ?_
        rintro e wb ⟨rfl, bb⟩
        have HCB := Lib.hid (HCA.out.trans (bb.mono HCA.out.size))
        clear bb
        go_wp2_with fail
        refine (HJN.out _ HCB.out).mono ?_
        rintro e wc ⟨rfl, bc⟩
        have HCC := Lib.hid (HCB.out.trans (bc.mono HCB.out.size))
        clear bc
        go_wp2_with fail
        refine (HSA.out _ HCC.out).mono ?_
        rintro e wd ⟨rfl, bd⟩
        have HCD := Lib.hid (HFI.out _ (HCC.out.trans (bd.mono HCC.out.size)))
        clear bd
        go_wp2_with fail
        go_ret
        exact ⟨rfl, HCD.out⟩
      · subst hxu
        have e1 : (y == v) = false := by simp [hyv]
        have e2 : (y != v) = true := by simp [hyv]
        have HMA := Lib.hid (HD.out.match_ w14 B S x v s en Bo So x y ([], []) (0, 0, false) (HD.out.call HGW.out HC1.out) HXO.out (Or.inr fun h => hyv h.symm))
        go_wp2_with fail
        refine HMA.out.mono ?_
        rintro e w15 ⟨rfl, b15⟩
        have HC2 := Lib.hid (HC1.out.trans (b15.mono HC1.out.size))
        clear b15 c0 c1 p0 p1
        go_wp2_with fail
        refine (HZE.out _ HC2.out).mono ?_
        rintro e wa ⟨rfl, ba⟩
        have HCA := Lib.hid (HC2.out.trans (ba.mono HC2.out.size))
        clear ba
        go_wp2_with fail
        refine (HLO.out _ HCA.out).mono ?_
        rintro e wb ⟨rfl, bb⟩
        have HCB := Lib.hid (HCA.out.trans (bb.mono HCA.out.size))
        clear bb
        go_wp2_with fail
        refine (HJN.out _ HCB.out).mono ?_
        rintro e wc ⟨rfl, bc⟩
        have HCC := Lib.hid (HCB.out.trans (bc.mono HCB.out.size))
        clear bc
        go_wp2_with fail
        refine (HSA.out _ HCC.out).mono ?_
        rintro e wd ⟨rfl, bd⟩
        have HCD := Lib.hid (HFI.out _ (HCC.out.trans (bd.mono HCC.out.size)))
        clear bd
        go_wp2_with fail
        go_ret
        exact ⟨rfl, HCD.out⟩
    · have e1 : (x == u) = false := by simp [hxu]
      have e2 : (x != u) = true := by simp [hxu]
      have HMA := Lib.hid (HD.out.match_ w14 B S u v s en Bo So x y ([], []) (0, 0, false) (HD.out.call HGW.out HC1.out) HXO.out (Or.inl fun h => hxu h.symm))
      go_wp2_with fail
      refine HMA.out.mono ?_
      rintro e w15 ⟨rfl, b15⟩
      have HC2 := Lib.hid (HC1.out.trans (b15.mono HC1.out.size))
      clear b15 c0 c1 p0 p1
      go_wp2_with fail
      refine (HZE.out _ HC2.out).mono ?_
      rintro e wa ⟨rfl, ba⟩
      have HCA := Lib.hid (HC2.out.trans (ba.mono HC2.out.size))
      clear ba
      go_wp2_with fail
      refine (HLO.out _ HCA.out).mono ?_
      rintro e wb ⟨rfl, bb⟩
      have HCB := Lib.hid (HCA.out.trans (bb.mono HCA.out.size))
      clear bb
      go_wp2_with fail
      refine (HJN.out _ HCB.out).mono ?_
      rintro e wc ⟨rfl, bc⟩
      have HCC := Lib.hid (HCB.out.trans (bc.mono HCB.out.size))
      clear bc
      go_wp2_with fail
      refine (HSA.out _ HCC.out).mono ?_
      rintro e wd ⟨rfl, bd⟩
      have HCD := Lib.hid (HFI.out _ (HCC.out.trans (bd.mono HCC.out.size)))
      clear bd
      go_wp2_with fail
      go_ret
      exact ⟨rfl, HCD.out⟩
end Go.Proofs.Ytfmlkohijkalbaa
