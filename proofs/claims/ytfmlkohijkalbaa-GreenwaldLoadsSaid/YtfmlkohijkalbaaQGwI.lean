/-
  The law GreenwaldLoads, walked from the contracts. (tools/gen_gw_i.py)
-/
import Derived.Test.YtfmlkohijkalbaaQGwT
namespace Go.Proofs.Ytfmlkohijkalbaa
set_option linter.unusedVariables false
set_option linter.unusedSimpArgs false
open Go.RowKit

/-- What Row tells can be loaded. -/
theorem row_loadW {u v : Int} {V : List Int} {s : GwV} (ha : GoodA u v) (h : GwOk u v V s) (hl : (V.length : Int) ≤ 9223372036854775807) : LoadW u v (rowT 0 s.1) s.2 := by
  obtain ⟨F, hF, hp⟩ := h.told
  have hlen := hp.length_eq
  rw [List.length_append] at hlen
  have hg := hF.good (by omega)
  refine ⟨ha, hg, h.few, ?_⟩
  have e := sum_row hF.can
  have et := tot_told hF
  rw [e, ← et]
  exact steps_row h.tight

set_option maxRecDepth 100000 in
set_option maxHeartbeats 32000000 in
theorem gw_loads_walk {Gw : GwT} (D : GwDoes Gw) (TD : TupDoes) (u v : Int) (A : List PairV) (a : Option Addr) (cap : Nat) (x : Int) (R : List TupV) (A3 : Option Addr) (c3 : Nat) (W : List Int) (A4 : Option Addr) (c4 : Nat) (hu : Word u) (hv : Word v) (hx : I64 x) (w : World) (hA : Pairs w a A) (hl : A.length ≤ 140737488351232) (hR : Tups w A3 R) (hlR : R.length ≤ 140737488351232) (hW : Nums w A4 W) (hlW : W.length ≤ 140737488351232) :
    Calls Try.prog 7 #[.agg #[.int .u64 u, .int .u64 v], .slice a A.length cap, .int .i64 x, .slice A3 R.length c3, .slice A4 W.length c4] w fun e w' => e = .returned (.bool true) ∧ Below w.heap.size w w' := by
  have HD := Lib.hid D
  have HTD := Lib.hid TD
  have HAL := Lib.hid (fun W => alive19_any D W)
  have HBD := Lib.hid (fun W hW => build19_any D W u v A a cap hu hv hW hl)
  obtain ⟨bx0, bx1⟩ := two_boxW w (.int .u64 u) (.int .u64 v) 24
  have HBX := Lib.hid (And.intro bx0 bx1)
  have HB0 : Hid (Below w.heap.size w (w.alloc (.cells #[.int .u64 u, .int .u64 v] 24))) := Lib.hid ((Below.refl _ _).alloc (Nat.le_refl _) _)
  have HA := Lib.hid (hA.call HB0.out)
  have HTR := Lib.hid (hR.call HB0.out)
  have HNW := Lib.hid (hW.call HB0.out)
  obtain ⟨N, hN⟩ : ∃ N, R.length = N := ⟨_, rfl⟩
  obtain ⟨K, hK⟩ : ∃ K, W.length = K := ⟨_, rfl⟩
  have HRN := Lib.hid hN
  have HWK := Lib.hid hK
  rw [hN, hK]
  rw [hN] at hlR
  rw [hK] at hlW
  have HX := Lib.hid hx
  have HU := Lib.hid hu
  have HV := Lib.hid hv
  clear hA D TD bx0 bx1 hR hW hN hK
  go_enter Try.func7, Try.ntmps7
  go_wp2_with fail
  refine (HAL.out _).mono ?_
  rintro e w1 ⟨rfl, b1⟩
  have HB1 := Lib.hid b1
  obtain ⟨c0, c1⟩ := And.intro (cell_later b1 HBX.out.1) (cell_later b1 HBX.out.2)
  clear b1
  go_wp2_with fail
  refine (HBD.out _ (HA.out.call HB1.out)).mono ?_
  rintro e w2 (⟨B, S, M, vs, vw, rfl, hga, hfe, hbt⟩ | ⟨rfl, _, b2⟩)
  case inr =>
    have HE := Lib.hid (HB0.out.trans ((HB1.out.trans (b2.mono HB1.out.size)).mono HB0.out.size))
    clear b2 c0 c1
    go_wp2_with fail
    go_ret
    exact ⟨rfl, HE.out⟩
  have HB2 := Lib.hid (HB1.out.trans (hbt.below.mono HB1.out.size))
  have HGA := Lib.hid hga
  have HFE := Lib.hid hfe
  obtain ⟨f1, f2, f3, f4⟩ := build_facts u v _ A rfl HA.out.ok (by have := hfe.sum; omega)
  have hgok := build_ok (u := u) (v := v) (by have := hga.u1; omega) hga.v0 _ A rfl
  obtain ⟨s, hs⟩ : ∃ s, buildG u v A = s := ⟨_, rfl⟩
  obtain ⟨en, hen⟩ : ∃ s, endAD A = s := ⟨_, rfl⟩
  have hgw := hbt.gw
  have hrf := hbt.ref
  rw [hs] at hgw hrf f1 f2 f3 f4 hgok
  rw [hen] at hgw
  have HOK := Lib.hid f1
  have HF2 := Lib.hid f2
  have hsum := hfe.sum
  have htot : totG s ≤ 150 := by omega
  have hlen : lenG s ≤ 150 := by omega
  have HTT := Lib.hid htot
  have HLL := Lib.hid hlen
  have HLW := Lib.hid (row_loadW hga hgok (by have := hgok.tot; omega))
  have HGW := Lib.hid hgw
  have HRF := Lib.hid hrf
  have HNR : Hid (∀ k, rgS M vs vw k → (w.alloc (.cells #[.int .u64 u, .int .u64 v] 24)).heap.size ≤ k) := Lib.hid fun k hk => Nat.le_trans HB1.out.size (hbt.newR k hk)
  clear hbt hga hfe f1 f2 f3 f4 hgok hs hgw hrf hen c0 c1 hsum htot hlen
  have HFIN := Lib.hid (fun W' (h : Below (w.alloc (.cells #[.int .u64 u, .int .u64 v] 24)).heap.size (w.alloc (.cells #[.int .u64 u, .int .u64 v] 24)) W') => HB0.out.trans (h.mono HB0.out.size))
  by_cases q1 : 60 < N
  · have q1' : (60 : Int) < N := by omega
    go_wp2_with fail
    go_ret
    exact ⟨rfl, HFIN.out _ HB2.out⟩
  have q1' : ¬ (60 : Int) < N := by omega
  by_cases q2 : 60 < K
  · have q2' : (60 : Int) < K := by omega
    go_wp2_with fail
    go_ret
    exact ⟨rfl, HFIN.out _ HB2.out⟩
  have q2' : ¬ (60 : Int) < K := by omega
  have HRW := Lib.hid (HD.out.row w2 B S u v s en HGW.out)
  obtain ⟨n1, hn1⟩ : ∃ n, s.1.length = n := ⟨_, rfl⟩
  obtain ⟨n2, hn2⟩ : ∃ n, s.2.length = n := ⟨_, rfl⟩
  rw [hn1, hn2] at HRW
  have HN1 := Lib.hid hn1
  have HN2 := Lib.hid hn2
  clear hn1 hn2 q1 q2
  go_wp2_with fail
  refine HRW.out.mono ?_
  rintro e w3 ⟨A1, k1, A2, k2, rfl, hT3, hN3, b3⟩
  have HB3 := Lib.hid (HB2.out.trans (b3.mono HB2.out.size))
  have HLO := Lib.hid (HD.out.load w3 u v A1 k1 (rowT 0 s.1) A2 k2 s.2 HU.out HV.out hT3 hN3 (by rw [row_len]; have := HLL.out; unfold lenG at this; omega) (by have := HLL.out; unfold lenG at this; omega) (fun _ => by rw [sum_row HOK.out.can]; have := HTT.out; unfold totG at this; omega) HLW.out)
  rw [row_len, HN1.out, HN2.out, spots_row] at HLO
  have HRF3 := Lib.hid (HRF.out.call b3)
  have HZ23 : Hid (w2.heap.size ≤ w3.heap.size) := Lib.hid b3.size
  obtain ⟨c0, c1⟩ := And.intro (cell_later HB3.out HBX.out.1) (cell_later HB3.out HBX.out.2)
  clear hT3 hN3 b3
  go_wp2_with fail
  refine HLO.out.mono ?_
  rintro e w4 ⟨B2, S2, e2, rfl, hx4, hS2, b4⟩
  have HX4 := Lib.hid hx4
  have HS2 := Lib.hid hS2
  have HRF4 := Lib.hid (HRF3.out.call b4)
  have HB4 := Lib.hid (HB3.out.trans (b4.mono HB3.out.size))
  have HZ34 : Hid (w3.heap.size ≤ w4.heap.size) := Lib.hid b4.size
  have HSA := Lib.hid (same19_any HD.out w4 B2 S2 u v s e2 M vs vw hx4 HRF4.out HOK.out)
  clear hx4 hS2 b4 c0 c1 HLO HRW
  go_wp2_with fail
  refine HSA.out.mono ?_
  rintro e w5 ⟨rfl, b5⟩
  have HX5 := Lib.hid (HD.out.call HX4.out b5)
  have HRF5 := Lib.hid (HRF4.out.call b5)
  have HB5 := Lib.hid (HB4.out.trans (b5.mono HB4.out.size))
  have HZ35 : Hid (w3.heap.size ≤ w5.heap.size) := Lib.hid (Nat.le_trans HZ34.out b5.size)
  have HPU := Lib.hid (HD.out.put w5 B2 S2 u v s e2 x 20 HX5.out HX.out (by decide) (by decide) (by have := HLL.out; omega) (by have := HTT.out; omega))
  clear b5 HSA
  go_wp2_with fail
  refine HPU.out.mono ?_
  rintro e w6 ⟨S6, rfl, hx6, hk6, hs6⟩
  have HX6 := Lib.hid hx6
  have HS6 := Lib.hid hs6
  have HSEP : Hid (∀ k, rgS M vs vw k → ¬ S2 k) := Lib.hid fun k hk h => by have := HRF.out.blocks k hk; have := HS2.out k h; have := HZ23.out; omega
  have HRF6 := Lib.hid (HRF5.out.keep hk6 HSEP.out)
  have HB6 := Lib.hid (Keeps.below HB5.out hk6 HB5.out.size (fun k hk => Nat.le_trans HB3.out.size (HS2.out k hk)))
  have HRP := Lib.hid (rput19_any w6 M u v vs vw s x 20 HRF6.out HOK.out HF2.out HGA.out HX.out (by decide) (by have := HLL.out; omega) (by have := HTT.out; omega))
  clear hx6 hk6 hs6 HPU
  go_wp2_with fail
  refine HRP.out.mono ?_
  rintro e w7 ⟨rfl, vs', vw', hr7⟩
  have HX7 := Lib.hid (HD.out.past HX6.out hr7.keeps (fun k hk hr => by
    rcases HS6.out k hk with h | h
    · exact HSEP.out k hr h
    · have := HRF.out.blocks k hr; have := HZ23.out; have := HZ35.out; omega))
  have HB7 := Lib.hid (Keeps.below HB6.out hr7.keeps HB6.out.size HNR.out)
  have hok2 := put_ok (u := u) (v := v) HOK.out HX.out HF2.out 20 (by have := HLL.out; omega) (by have := HTT.out; omega)
  have HSB := Lib.hid (same19_any HD.out w7 B2 S6 u v _ _ M vs' vw' HX7.out hr7.ref hok2.1)
  clear hr7 hok2 HRP
  go_wp2_with fail
  refine HSB.out.mono ?_
  rintro e w8 ⟨rfl, b8⟩
  have HB8 := Lib.hid (HB7.out.trans (b8.mono HB7.out.size))
  clear b8 HSB
  have hRok := HTR.out.ok
  have hs0 := sumT_pos (L := R) fun p hp => (hRok p hp).2.1.1
  have HS0' := Lib.hid hs0
  have HLT := Lib.hid (fun W' (hW : Below (w.alloc (.cells #[.int .u64 u, .int .u64 v] 24)).heap.size (w.alloc (.cells #[.int .u64 u, .int .u64 v] 24)) W') => HTR.out.call hW)
  have HLN := Lib.hid (fun W' (hW : Below (w.alloc (.cells #[.int .u64 u, .int .u64 v] 24)).heap.size (w.alloc (.cells #[.int .u64 u, .int .u64 v] 24)) W') => HNW.out.call hW)
  have HCC := Lib.hid (fun W' (hW : Below (w.alloc (.cells #[.int .u64 u, .int .u64 v] 24)).heap.size (w.alloc (.cells #[.int .u64 u, .int .u64 v] 24)) W') => And.intro (cell_later hW HBX.out.1) (cell_later hW HBX.out.2))
  clear hRok hs0
  by_cases hfit : sumT R ≤ 9223372036854775807
  · obtain ⟨n, hn⟩ : ∃ n, sumT R = n := ⟨_, rfl⟩
    have HSE := Lib.hid hn
    have HTO := Lib.hid (fun W' (hW : Tups W' A3 R) => HTD.out.total W' A3 c3 R n true hW (by rw [HRN.out]; omega) (Or.inl ⟨hfit, hn.symm, rfl⟩))
    rw [HRN.out] at HTO
    have n0 : 0 ≤ n := by have := HS0'.out; omega
    have nm : n ≤ 9223372036854775807 := by omega
    clear hfit hn
    go_wp2_with fail
    refine (HTO.out _ (HLT.out _ HB8.out)).mono ?_
    rintro e w9 ⟨rfl, b9⟩
    have HB9' := Lib.hid (HB8.out.trans (b9.mono HB8.out.size))
    clear b9
    by_cases hgt : GoodT R
    · have HGT := Lib.hid hgt
      have HGO := Lib.hid (fun W' (hW : Tups W' A3 R) => HTD.out.good W' A3 c3 R true hW (by rw [HRN.out]; omega) ⟨fun _ => HGT.out, fun _ => rfl⟩)
      rw [HRN.out] at HGO
      clear hgt
      by_cases hk16 : K < 16
      · have k16 : (K : Int) < 16 := by omega
        by_cases hbig : n < 4611686018427387904
        · have hbig2 : ¬ (4611686018427387904 : Int) ≤ n := by omega
          go_wp2_with fail
          refine (HGO.out _ (HLT.out _ HB9'.out)).mono ?_
          rintro e w13 ⟨rfl, b13⟩
          have HB13 := Lib.hid (HB9'.out.trans (b13.mono HB9'.out.size))
          clear b13
          obtain ⟨b1, b2, b3⟩ := HGA.out.ovB (n := n) (by omega) (by omega)
          obtain ⟨q, hq⟩ : ∃ q, 2 * u * n / v = q := ⟨_, rfl⟩
          have hq0 := quo_nn (u := u) (n := n) (by have := HGA.out.u1; omega) HGA.out.v0 (by omega)
          have hqn := quo_le (u := u) (n := n) HGA.out.v0 HGA.out.uv (by omega)
          rw [hq] at b2 b3 hqn hq0
          obtain ⟨lm, hlm⟩ : ∃ m, limG u v n = m := ⟨_, rfl⟩
          have HLM := Lib.hid hlm
          rw [hlm] at b3
          have hu1 := HGA.out.u1
          have huv := HGA.out.uv
          have hv2 := HGA.out.v2
          have hv0 := HGA.out.v0
          have hmul : 0 ≤ 2 * u * n ∧ 2 * u * n < 340282366920938463463374607431768211456 := mul_bd (by unfold Word; omega) ⟨by omega, by omega⟩
          obtain ⟨rr, hrr⟩ : ∃ q, ovR (2 * u * n) v = q := ⟨_, rfl⟩
          obtain ⟨ph, hph⟩ : ∃ x, hiW (2 * u * n) = x := ⟨_, rfl⟩
          obtain ⟨pl', hpl'⟩ : ∃ x, loW (2 * u * n) = x := ⟨_, rfl⟩
          have CM := Lib.hid (fun W => rtimes_any (2 * u) n (by unfold Word; omega) ⟨by omega, by omega⟩ W)
          have CO := Lib.hid (fun W => rover_num (2 * u * n) v hmul.1 hmul.2 ⟨by omega, by omega⟩ W)
          rw [hph, hpl'] at CM CO
          rw [b1, b2, hrr] at CO
          have u2 : IntKind.u64.wrap (2 * u) = 2 * u := by rw [IntKind.wrap_u64]; omega
          have HS0 : Hid (w13.drew.cell? ⟨w.heap.size, 0, none⟩ = some (.int .u64 u) ∧ w13.drew.cell? ⟨w.heap.size, 1, none⟩ = some (.int .u64 v) ∧ Below w13.heap.size w13 w13.drew) := Lib.hid ⟨cell_later ((Below.refl _ _).drew) (HCC.out _ HB13.out).1, cell_later ((Below.refl _ _).drew) (HCC.out _ HB13.out).2, (Below.refl _ _).drew⟩
          have HST := Lib.hid (fun (W W' : World) (h : W.cell? ⟨w.heap.size, 0, none⟩ = some (.int .u64 u) ∧ W.cell? ⟨w.heap.size, 1, none⟩ = some (.int .u64 v) ∧ Below w13.heap.size w13 W) (hb : Below W.heap.size W W') => (⟨cell_later hb h.1, cell_later hb h.2.1, h.2.2.trans (hb.mono h.2.2.size)⟩ : W'.cell? ⟨w.heap.size, 0, none⟩ = some (.int .u64 u) ∧ W'.cell? ⟨w.heap.size, 1, none⟩ = some (.int .u64 v) ∧ Below w13.heap.size w13 W'))
          clear b1 hmul hrr hph hpl' hq hlm
          go_wp2_with fail
          go_region_held3 (fun w' => w'.cell? ⟨w.heap.size, 0, none⟩ = some (.int .u64 u) ∧ w'.cell? ⟨w.heap.size, 1, none⟩ = some (.int .u64 v) ∧ Below w13.heap.size w13 w')
            (first | exact HS0.out | exact HST.out _ _ (by assumption) hbA | exact HST.out _ _ (by assumption) hbB | assumption)
            ((first
              | (go_at_call 29; with_reducible refine (CM.out _).mono ?_; rintro e wA ⟨rfl, hbA⟩)
              | (go_at_call 28; with_reducible refine (CO.out _).mono ?_; rintro e wB ⟨rfl, hbB⟩)))
          rename_i hHeld
          have HB10 := Lib.hid (HB13.out.trans (hHeld.2.2.mono HB13.out.size))
          clear hHeld HS0 HST CM CO hbA hbB
          have HSR : Hid (∀ p, p ∈ R → IntKind.u64.wrap (p.st + p.sl) = p.st + p.sl) := Lib.hid fun p hp => by
            obtain ⟨i, hi, rfl⟩ := List.mem_iff_getElem.1 hp
            have := good_at HGT.out (List.getElem?_eq_getElem hi)
            rw [IntKind.wrap_u64]; omega
          go_wp2_with fail
          go_loopw [20, 112] (fun wv jv w9 => ∃ (k : Nat), k ≤ N ∧ jv = .int .i64 k ∧ wv = .bool ((R.take k).all fun p => decide (p.st + p.sl ≤ lm)) ∧ Below (w.alloc (.cells #[.int .u64 u, .int .u64 v] 24)).heap.size (w.alloc (.cells #[.int .u64 u, .int .u64 v] 24)) w9) (fun _ jv _ => N - (intOf jv).toNat)
          case atStart => exact ⟨0, Nat.zero_le _, rfl, rfl, HB10.out⟩
          case round =>
            obtain ⟨k, hk, rfl, rfl, hb9⟩ := hrel
            have HB9 := Lib.hid hb9
            clear hb9
            by_cases hlk : k < N
            · have kl2 : (k : Int) < N := by omega
              have hlk' : k < R.length := by rw [HRN.out]; exact hlk
              have hyk : R[k]? = some R[k] := List.getElem?_eq_getElem hlk'
              generalize hjt : R[k] = r at *
              have hro := HTR.out.ok r (List.mem_of_getElem? hyk)
              obtain ⟨rx, rs, rl⟩ := r
              obtain ⟨bc, off', rfl, hbl', e0, e1, e2'⟩ := (HLT.out _ HB9.out).at_ k _ hyk
              obtain ⟨⟨y1, y2⟩, ⟨y3, y4⟩, y5, y6⟩ := hro
              simp only at e0 e1 e2' y1 y2 y3 y4 y5 y6
              have HAL9 : Hid (Below wr.heap.size wr (wr.alloc (.cells #[.int .i64 rx, .int .u64 rs, .int .u64 rl] 68))) := Lib.hid ((Below.refl _ _).alloc (Nat.le_refl _) _)
              have hz9 := HB9.out.size
              have HSTP : Hid (((R.take (k + 1)).all fun p => decide (p.st + p.sl ≤ lm)) = (((R.take k).all fun p => decide (p.st + p.sl ≤ lm)) && decide (rs + rl ≤ lm))) := Lib.hid (by rw [snocS hyk, List.all_append]; simp)
              have yw := HSR.out _ (List.mem_of_getElem? hyk)
              simp only at yw
              obtain ⟨pb, hpb⟩ : ∃ b, ((R.take k).all fun p => decide (p.st + p.sl ≤ lm)) = b := ⟨_, rfl⟩
              rw [hpb] at HSTP ⊢
              clear hyk hjt hlk' hpb
              cases pb with
              | false =>
                go_wp2_with fail
                go_roundw
                case rel => exact ⟨k + 1, by omega, by go_num, by rw [HSTP.out]; rfl, HB9.out.trans (HAL9.out.mono hz9)⟩
                case measure => simp [intOf]; omega
              | true =>
                go_wp2_with fail
                go_roundw
                case rel => exact ⟨k + 1, by omega, by go_num, by rw [HSTP.out]; simp, HB9.out.trans (HAL9.out.mono hz9)⟩
                case measure => simp [intOf]; omega
            · obtain rfl : k = N := by omega
              have kl2 : ¬ (k : Int) < k := by omega
              obtain ⟨c0, c1⟩ := HCC.out _ HB9.out
              have hta : R.take k = R := List.take_of_length_le (by rw [HRN.out]; exact Nat.le_refl _)
              rw [hta]
              cases hwf : (R.all fun p => decide (p.st + p.sl ≤ lm)) with
              | false =>
                have HUF := Lib.hid (HD.out.unfit wr u v A3 c3 R A4 c4 W HU.out HV.out (HLT.out _ HB9.out) (HLN.out _ HB9.out) (by rw [HRN.out]; omega) (by rw [HWK.out]; omega) (fun _ => by have := HSE.out; omega) (fun hLW => by
                  rw [List.all_eq_false] at hwf
                  obtain ⟨p, hp, hf⟩ := hwf
                  have := hLW.tight p hp
                  rw [HSE.out, HLM.out] at this
                  simp at hf
                  omega))
                rw [HRN.out, HWK.out] at HUF
                clear hwf hta
                go_wp2_with fail
                refine HUF.out.mono ?_
                rintro e w11 ⟨rfl, b11⟩
                have HE := Lib.hid (HFIN.out _ (HB9.out.trans (b11.mono HB9.out.size)))
                clear b11
                go_wp2_with fail
                go_ret
                exact ⟨rfl, HE.out⟩
              | true =>
                have hLW : LoadW u v R W := ⟨HGA.out, HGT.out, by rw [HWK.out]; omega, fun p hp => by
                  rw [List.all_eq_true] at hwf
                  have := hwf p hp
                  rw [HSE.out, HLM.out]
                  exact of_decide_eq_true this⟩
                have HLO := Lib.hid (HD.out.load wr u v A3 c3 R A4 c4 W HU.out HV.out (HLT.out _ HB9.out) (HLN.out _ HB9.out) (by rw [HRN.out]; omega) (by rw [HWK.out]; omega) (fun _ => by have := HSE.out; omega) hLW)
                rw [HRN.out, HWK.out] at HLO
                have htt : totG (spotsT 0 R, W) = n + K := by
                  show totS (spotsT 0 R) + (W.length : Int) = _
                  rw [tot_last, last_sum, HSE.out, HWK.out]; omega
                have HTO := Lib.hid (fun W' B3 S3 e3 (h : Gw W' B3 S3 u v (spotsT 0 R, W) e3) => HD.out.total W' B3 S3 u v _ e3 h)
                rw [htt] at HTO
                obtain ⟨tt, ht2⟩ : ∃ tt, n + (K : Int) = tt := ⟨_, rfl⟩
                have z2 : IntKind.u64.wrap (K : Int) = K := by rw [IntKind.wrap_u64]; omega
                have z3 : IntKind.u64.wrap (n + K) = tt := by rw [IntKind.wrap_u64]; omega
                have z5 : (tt == tt) = true := by simp
                rw [ht2] at HTO
                clear hwf hta hLW htt ht2
                go_wp2_with fail
                refine HLO.out.mono ?_
                rintro e w11 ⟨B3, S3, e3, rfl, hx3, hS3, b11⟩
                have HB11 := Lib.hid (HB9.out.trans (b11.mono HB9.out.size))
                have HX3 := Lib.hid hx3
                clear hx3 hS3 b11
                go_wp2_with fail
                refine (HTO.out _ _ _ _ HX3.out).mono ?_
                rintro e w12 ⟨rfl, b12⟩
                have HE := Lib.hid (HFIN.out _ (HB11.out.trans (b12.mono HB11.out.size)))
                clear b12
                go_wp2_with fail
                go_ret
                exact ⟨rfl, HE.out⟩
        · have hbig2 : (4611686018427387904 : Int) ≤ n := by omega
          go_wp2_with fail
          refine (HGO.out _ (HLT.out _ HB9'.out)).mono ?_
          rintro e w13 ⟨rfl, b13⟩
          have HB13 := Lib.hid (HB9'.out.trans (b13.mono HB9'.out.size))
          clear b13
          go_wp2_with fail
          go_ret
          exact ⟨rfl, HFIN.out _ HB13.out⟩
      · have k16 : ¬ (K : Int) < 16 := by omega
        by_cases hbig : n < 4611686018427387904
        · have hbig2 : ¬ (4611686018427387904 : Int) ≤ n := by omega
          go_wp2_with fail
          refine (HGO.out _ (HLT.out _ HB9'.out)).mono ?_
          rintro e w13 ⟨rfl, b13⟩
          have HB13 := Lib.hid (HB9'.out.trans (b13.mono HB9'.out.size))
          clear b13
          obtain ⟨b1, b2, b3⟩ := HGA.out.ovB (n := n) (by omega) (by omega)
          obtain ⟨q, hq⟩ : ∃ q, 2 * u * n / v = q := ⟨_, rfl⟩
          have hq0 := quo_nn (u := u) (n := n) (by have := HGA.out.u1; omega) HGA.out.v0 (by omega)
          have hqn := quo_le (u := u) (n := n) HGA.out.v0 HGA.out.uv (by omega)
          rw [hq] at b2 b3 hqn hq0
          obtain ⟨lm, hlm⟩ : ∃ m, limG u v n = m := ⟨_, rfl⟩
          have HLM := Lib.hid hlm
          rw [hlm] at b3
          have hu1 := HGA.out.u1
          have huv := HGA.out.uv
          have hv2 := HGA.out.v2
          have hv0 := HGA.out.v0
          have hmul : 0 ≤ 2 * u * n ∧ 2 * u * n < 340282366920938463463374607431768211456 := mul_bd (by unfold Word; omega) ⟨by omega, by omega⟩
          obtain ⟨rr, hrr⟩ : ∃ q, ovR (2 * u * n) v = q := ⟨_, rfl⟩
          obtain ⟨ph, hph⟩ : ∃ x, hiW (2 * u * n) = x := ⟨_, rfl⟩
          obtain ⟨pl', hpl'⟩ : ∃ x, loW (2 * u * n) = x := ⟨_, rfl⟩
          have CM := Lib.hid (fun W => rtimes_any (2 * u) n (by unfold Word; omega) ⟨by omega, by omega⟩ W)
          have CO := Lib.hid (fun W => rover_num (2 * u * n) v hmul.1 hmul.2 ⟨by omega, by omega⟩ W)
          rw [hph, hpl'] at CM CO
          rw [b1, b2, hrr] at CO
          have u2 : IntKind.u64.wrap (2 * u) = 2 * u := by rw [IntKind.wrap_u64]; omega
          have HS0 : Hid (w13.drew.cell? ⟨w.heap.size, 0, none⟩ = some (.int .u64 u) ∧ w13.drew.cell? ⟨w.heap.size, 1, none⟩ = some (.int .u64 v) ∧ Below w13.heap.size w13 w13.drew) := Lib.hid ⟨cell_later ((Below.refl _ _).drew) (HCC.out _ HB13.out).1, cell_later ((Below.refl _ _).drew) (HCC.out _ HB13.out).2, (Below.refl _ _).drew⟩
          have HST := Lib.hid (fun (W W' : World) (h : W.cell? ⟨w.heap.size, 0, none⟩ = some (.int .u64 u) ∧ W.cell? ⟨w.heap.size, 1, none⟩ = some (.int .u64 v) ∧ Below w13.heap.size w13 W) (hb : Below W.heap.size W W') => (⟨cell_later hb h.1, cell_later hb h.2.1, h.2.2.trans (hb.mono h.2.2.size)⟩ : W'.cell? ⟨w.heap.size, 0, none⟩ = some (.int .u64 u) ∧ W'.cell? ⟨w.heap.size, 1, none⟩ = some (.int .u64 v) ∧ Below w13.heap.size w13 W'))
          clear b1 hmul hrr hph hpl' hq hlm
          go_wp2_with fail
          go_region_held3 (fun w' => w'.cell? ⟨w.heap.size, 0, none⟩ = some (.int .u64 u) ∧ w'.cell? ⟨w.heap.size, 1, none⟩ = some (.int .u64 v) ∧ Below w13.heap.size w13 w')
            (first | exact HS0.out | exact HST.out _ _ (by assumption) hbA | exact HST.out _ _ (by assumption) hbB | assumption)
            ((first
              | (go_at_call 29; with_reducible refine (CM.out _).mono ?_; rintro e wA ⟨rfl, hbA⟩)
              | (go_at_call 28; with_reducible refine (CO.out _).mono ?_; rintro e wB ⟨rfl, hbB⟩)))
          rename_i hHeld
          have HB10 := Lib.hid (HB13.out.trans (hHeld.2.2.mono HB13.out.size))
          clear hHeld HS0 HST CM CO hbA hbB
          go_wp2_with fail
          go_loopw [20, 112] (fun wv jv w9 => ∃ (k : Nat), k ≤ N ∧ jv = .int .i64 k ∧ wv = .bool false ∧ Below (w.alloc (.cells #[.int .u64 u, .int .u64 v] 24)).heap.size (w.alloc (.cells #[.int .u64 u, .int .u64 v] 24)) w9) (fun _ jv _ => N - (intOf jv).toNat)
          case atStart => exact ⟨0, Nat.zero_le _, rfl, rfl, HB10.out⟩
          case round =>
            obtain ⟨k, hk, rfl, rfl, hb9⟩ := hrel
            have HB9 := Lib.hid hb9
            clear hb9
            by_cases hlk : k < N
            · have kl2 : (k : Int) < N := by omega
              have hlk' : k < R.length := by rw [HRN.out]; exact hlk
              have hyk : R[k]? = some R[k] := List.getElem?_eq_getElem hlk'
              generalize hjt : R[k] = r at *
              have hro := HTR.out.ok r (List.mem_of_getElem? hyk)
              obtain ⟨rx, rs, rl⟩ := r
              obtain ⟨bc, off', rfl, hbl', e0, e1, e2'⟩ := (HLT.out _ HB9.out).at_ k _ hyk
              obtain ⟨⟨y1, y2⟩, ⟨y3, y4⟩, y5, y6⟩ := hro
              simp only at e0 e1 e2' y1 y2 y3 y4 y5 y6
              have HAL9 : Hid (Below wr.heap.size wr (wr.alloc (.cells #[.int .i64 rx, .int .u64 rs, .int .u64 rl] 68))) := Lib.hid ((Below.refl _ _).alloc (Nat.le_refl _) _)
              have hz9 := HB9.out.size
              clear hyk hjt hlk'
              go_wp2_with fail
              go_roundw
              case rel => exact ⟨k + 1, by omega, by go_num, rfl, HB9.out.trans (HAL9.out.mono hz9)⟩
              case measure => simp [intOf]; omega
            · obtain rfl : k = N := by omega
              have kl2 : ¬ (k : Int) < k := by omega
              obtain ⟨c0, c1⟩ := HCC.out _ HB9.out
              have HUF := Lib.hid (HD.out.unfit wr u v A3 c3 R A4 c4 W HU.out HV.out (HLT.out _ HB9.out) (HLN.out _ HB9.out) (by rw [HRN.out]; omega) (by rw [HWK.out]; omega) (by intro _; have := HSE.out; omega) (fun hLW => by have := hLW.few; rw [HWK.out] at this; omega))
              rw [HRN.out, HWK.out] at HUF
              go_wp2_with fail
              refine HUF.out.mono ?_
              rintro e w11 ⟨rfl, b11⟩
              have HE := Lib.hid (HFIN.out _ (HB9.out.trans (b11.mono HB9.out.size)))
              clear b11
              go_wp2_with fail
              go_ret
              exact ⟨rfl, HE.out⟩
        · have hbig2 : (4611686018427387904 : Int) ≤ n := by omega
          go_wp2_with fail
          refine (HGO.out _ (HLT.out _ HB9'.out)).mono ?_
          rintro e w13 ⟨rfl, b13⟩
          have HB13 := Lib.hid (HB9'.out.trans (b13.mono HB9'.out.size))
          clear b13
          go_wp2_with fail
          go_ret
          exact ⟨rfl, HFIN.out _ HB13.out⟩
    · have HGT := Lib.hid hgt
      have HGO := Lib.hid (fun W' (hW : Tups W' A3 R) => HTD.out.good W' A3 c3 R false hW (by rw [HRN.out]; omega) ⟨fun h => (by cases h), fun h => absurd h HGT.out⟩)
      rw [HRN.out] at HGO
      clear hgt
      by_cases hbig : n < 4611686018427387904
      · have hbig2 : ¬ (4611686018427387904 : Int) ≤ n := by omega
        go_wp2_with fail
        refine (HGO.out _ (HLT.out _ HB9'.out)).mono ?_
        rintro e w13 ⟨rfl, b13⟩
        have HB13 := Lib.hid (HB9'.out.trans (b13.mono HB9'.out.size))
        clear b13
        obtain ⟨b1, b2, b3⟩ := HGA.out.ovB (n := n) (by omega) (by omega)
        obtain ⟨q, hq⟩ : ∃ q, 2 * u * n / v = q := ⟨_, rfl⟩
        have hq0 := quo_nn (u := u) (n := n) (by have := HGA.out.u1; omega) HGA.out.v0 (by omega)
        have hqn := quo_le (u := u) (n := n) HGA.out.v0 HGA.out.uv (by omega)
        rw [hq] at b2 b3 hqn hq0
        obtain ⟨lm, hlm⟩ : ∃ m, limG u v n = m := ⟨_, rfl⟩
        have HLM := Lib.hid hlm
        rw [hlm] at b3
        have hu1 := HGA.out.u1
        have huv := HGA.out.uv
        have hv2 := HGA.out.v2
        have hv0 := HGA.out.v0
        have hmul : 0 ≤ 2 * u * n ∧ 2 * u * n < 340282366920938463463374607431768211456 := mul_bd (by unfold Word; omega) ⟨by omega, by omega⟩
        obtain ⟨rr, hrr⟩ : ∃ q, ovR (2 * u * n) v = q := ⟨_, rfl⟩
        obtain ⟨ph, hph⟩ : ∃ x, hiW (2 * u * n) = x := ⟨_, rfl⟩
        obtain ⟨pl', hpl'⟩ : ∃ x, loW (2 * u * n) = x := ⟨_, rfl⟩
        have CM := Lib.hid (fun W => rtimes_any (2 * u) n (by unfold Word; omega) ⟨by omega, by omega⟩ W)
        have CO := Lib.hid (fun W => rover_num (2 * u * n) v hmul.1 hmul.2 ⟨by omega, by omega⟩ W)
        rw [hph, hpl'] at CM CO
        rw [b1, b2, hrr] at CO
        have u2 : IntKind.u64.wrap (2 * u) = 2 * u := by rw [IntKind.wrap_u64]; omega
        have HS0 : Hid (w13.drew.cell? ⟨w.heap.size, 0, none⟩ = some (.int .u64 u) ∧ w13.drew.cell? ⟨w.heap.size, 1, none⟩ = some (.int .u64 v) ∧ Below w13.heap.size w13 w13.drew) := Lib.hid ⟨cell_later ((Below.refl _ _).drew) (HCC.out _ HB13.out).1, cell_later ((Below.refl _ _).drew) (HCC.out _ HB13.out).2, (Below.refl _ _).drew⟩
        have HST := Lib.hid (fun (W W' : World) (h : W.cell? ⟨w.heap.size, 0, none⟩ = some (.int .u64 u) ∧ W.cell? ⟨w.heap.size, 1, none⟩ = some (.int .u64 v) ∧ Below w13.heap.size w13 W) (hb : Below W.heap.size W W') => (⟨cell_later hb h.1, cell_later hb h.2.1, h.2.2.trans (hb.mono h.2.2.size)⟩ : W'.cell? ⟨w.heap.size, 0, none⟩ = some (.int .u64 u) ∧ W'.cell? ⟨w.heap.size, 1, none⟩ = some (.int .u64 v) ∧ Below w13.heap.size w13 W'))
        clear b1 hmul hrr hph hpl' hq hlm
        go_wp2_with fail
        go_region_held3 (fun w' => w'.cell? ⟨w.heap.size, 0, none⟩ = some (.int .u64 u) ∧ w'.cell? ⟨w.heap.size, 1, none⟩ = some (.int .u64 v) ∧ Below w13.heap.size w13 w')
          (first | exact HS0.out | exact HST.out _ _ (by assumption) hbA | exact HST.out _ _ (by assumption) hbB | assumption)
          ((first
            | (go_at_call 29; with_reducible refine (CM.out _).mono ?_; rintro e wA ⟨rfl, hbA⟩)
            | (go_at_call 28; with_reducible refine (CO.out _).mono ?_; rintro e wB ⟨rfl, hbB⟩)))
        rename_i hHeld
        have HB10 := Lib.hid (HB13.out.trans (hHeld.2.2.mono HB13.out.size))
        clear hHeld HS0 HST CM CO hbA hbB
        go_wp2_with fail
        go_loopw [20, 112] (fun wv jv w9 => ∃ (k : Nat), k ≤ N ∧ jv = .int .i64 k ∧ wv = .bool false ∧ Below (w.alloc (.cells #[.int .u64 u, .int .u64 v] 24)).heap.size (w.alloc (.cells #[.int .u64 u, .int .u64 v] 24)) w9) (fun _ jv _ => N - (intOf jv).toNat)
        case atStart => exact ⟨0, Nat.zero_le _, rfl, rfl, HB10.out⟩
        case round =>
          obtain ⟨k, hk, rfl, rfl, hb9⟩ := hrel
          have HB9 := Lib.hid hb9
          clear hb9
          by_cases hlk : k < N
          · have kl2 : (k : Int) < N := by omega
            have hlk' : k < R.length := by rw [HRN.out]; exact hlk
            have hyk : R[k]? = some R[k] := List.getElem?_eq_getElem hlk'
            generalize hjt : R[k] = r at *
            have hro := HTR.out.ok r (List.mem_of_getElem? hyk)
            obtain ⟨rx, rs, rl⟩ := r
            obtain ⟨bc, off', rfl, hbl', e0, e1, e2'⟩ := (HLT.out _ HB9.out).at_ k _ hyk
            obtain ⟨⟨y1, y2⟩, ⟨y3, y4⟩, y5, y6⟩ := hro
            simp only at e0 e1 e2' y1 y2 y3 y4 y5 y6
            have HAL9 : Hid (Below wr.heap.size wr (wr.alloc (.cells #[.int .i64 rx, .int .u64 rs, .int .u64 rl] 68))) := Lib.hid ((Below.refl _ _).alloc (Nat.le_refl _) _)
            have hz9 := HB9.out.size
            clear hyk hjt hlk'
            go_wp2_with fail
            go_roundw
            case rel => exact ⟨k + 1, by omega, by go_num, rfl, HB9.out.trans (HAL9.out.mono hz9)⟩
            case measure => simp [intOf]; omega
          · obtain rfl : k = N := by omega
            have kl2 : ¬ (k : Int) < k := by omega
            obtain ⟨c0, c1⟩ := HCC.out _ HB9.out
            have HUF := Lib.hid (HD.out.unfit wr u v A3 c3 R A4 c4 W HU.out HV.out (HLT.out _ HB9.out) (HLN.out _ HB9.out) (by rw [HRN.out]; omega) (by rw [HWK.out]; omega) (by intro _; have := HSE.out; omega) (fun hLW => by exact HGT.out hLW.row))
            rw [HRN.out, HWK.out] at HUF
            go_wp2_with fail
            refine HUF.out.mono ?_
            rintro e w11 ⟨rfl, b11⟩
            have HE := Lib.hid (HFIN.out _ (HB9.out.trans (b11.mono HB9.out.size)))
            clear b11
            go_wp2_with fail
            go_ret
            exact ⟨rfl, HE.out⟩
      · have hbig2 : (4611686018427387904 : Int) ≤ n := by omega
        go_wp2_with fail
        refine (HGO.out _ (HLT.out _ HB9'.out)).mono ?_
        rintro e w13 ⟨rfl, b13⟩
        have HB13 := Lib.hid (HB9'.out.trans (b13.mono HB9'.out.size))
        clear b13
        go_wp2_with fail
        go_ret
        exact ⟨rfl, HFIN.out _ HB13.out⟩
  · have HNF := Lib.hid hfit
    have HTO := Lib.hid (fun W' (hW : Tups W' A3 R) => HTD.out.total W' A3 c3 R 0 false hW (by rw [HRN.out]; omega) (Or.inr ⟨by omega, rfl, rfl⟩))
    rw [HRN.out] at HTO
    clear hfit
    go_wp2_with fail
    refine (HTO.out _ (HLT.out _ HB8.out)).mono ?_
    rintro e w9 ⟨rfl, b9⟩
    have HB13 := Lib.hid (HB8.out.trans (b9.mono HB8.out.size))
    clear b9
    obtain ⟨w13, hw13⟩ : ∃ w13, w9 = w13 := ⟨_, rfl⟩
    subst hw13
    obtain ⟨b1, b2, b3⟩ := HGA.out.ovB (n := 0) (by omega) (by omega)
    obtain ⟨q, hq⟩ : ∃ q, 2 * u * 0 / v = q := ⟨_, rfl⟩
    have hq0 := quo_nn (u := u) (n := 0) (by have := HGA.out.u1; omega) HGA.out.v0 (by omega)
    have hqn := quo_le (u := u) (n := 0) HGA.out.v0 HGA.out.uv (by omega)
    rw [hq] at b2 b3 hqn hq0
    obtain ⟨lm, hlm⟩ : ∃ m, limG u v 0 = m := ⟨_, rfl⟩
    have HLM := Lib.hid hlm
    rw [hlm] at b3
    have hu1 := HGA.out.u1
    have huv := HGA.out.uv
    have hv2 := HGA.out.v2
    have hv0 := HGA.out.v0
    have hmul : 0 ≤ 2 * u * 0 ∧ 2 * u * 0 < 340282366920938463463374607431768211456 := mul_bd (by unfold Word; omega) ⟨by omega, by omega⟩
    obtain ⟨rr, hrr⟩ : ∃ q, ovR (2 * u * 0) v = q := ⟨_, rfl⟩
    obtain ⟨ph, hph⟩ : ∃ x, hiW (2 * u * 0) = x := ⟨_, rfl⟩
    obtain ⟨pl', hpl'⟩ : ∃ x, loW (2 * u * 0) = x := ⟨_, rfl⟩
    have CM := Lib.hid (fun W => rtimes_any (2 * u) 0 (by unfold Word; omega) ⟨by omega, by omega⟩ W)
    have CO := Lib.hid (fun W => rover_num (2 * u * 0) v hmul.1 hmul.2 ⟨by omega, by omega⟩ W)
    rw [hph, hpl'] at CM CO
    rw [b1, b2, hrr] at CO
    have u2 : IntKind.u64.wrap (2 * u) = 2 * u := by rw [IntKind.wrap_u64]; omega
    have HS0 : Hid (w9.drew.cell? ⟨w.heap.size, 0, none⟩ = some (.int .u64 u) ∧ w9.drew.cell? ⟨w.heap.size, 1, none⟩ = some (.int .u64 v) ∧ Below w9.heap.size w9 w9.drew) := Lib.hid ⟨cell_later ((Below.refl _ _).drew) (HCC.out _ HB13.out).1, cell_later ((Below.refl _ _).drew) (HCC.out _ HB13.out).2, (Below.refl _ _).drew⟩
    have HST := Lib.hid (fun (W W' : World) (h : W.cell? ⟨w.heap.size, 0, none⟩ = some (.int .u64 u) ∧ W.cell? ⟨w.heap.size, 1, none⟩ = some (.int .u64 v) ∧ Below w9.heap.size w9 W) (hb : Below W.heap.size W W') => (⟨cell_later hb h.1, cell_later hb h.2.1, h.2.2.trans (hb.mono h.2.2.size)⟩ : W'.cell? ⟨w.heap.size, 0, none⟩ = some (.int .u64 u) ∧ W'.cell? ⟨w.heap.size, 1, none⟩ = some (.int .u64 v) ∧ Below w9.heap.size w9 W'))
    clear b1 hmul hrr hph hpl' hq hlm
    go_wp2_with fail
    go_region_held3 (fun w' => w'.cell? ⟨w.heap.size, 0, none⟩ = some (.int .u64 u) ∧ w'.cell? ⟨w.heap.size, 1, none⟩ = some (.int .u64 v) ∧ Below w9.heap.size w9 w')
      (first | exact HS0.out | exact HST.out _ _ (by assumption) hbA | exact HST.out _ _ (by assumption) hbB | assumption)
      ((first
        | (go_at_call 29; with_reducible refine (CM.out _).mono ?_; rintro e wA ⟨rfl, hbA⟩)
        | (go_at_call 28; with_reducible refine (CO.out _).mono ?_; rintro e wB ⟨rfl, hbB⟩)))
    rename_i hHeld
    have HB10 := Lib.hid (HB13.out.trans (hHeld.2.2.mono HB13.out.size))
    clear hHeld HS0 HST CM CO hbA hbB
    go_wp2_with fail
    go_loopw [20, 112] (fun wv jv w9 => ∃ (k : Nat), k ≤ N ∧ jv = .int .i64 k ∧ wv = .bool false ∧ Below (w.alloc (.cells #[.int .u64 u, .int .u64 v] 24)).heap.size (w.alloc (.cells #[.int .u64 u, .int .u64 v] 24)) w9) (fun _ jv _ => N - (intOf jv).toNat)
    case atStart => exact ⟨0, Nat.zero_le _, rfl, rfl, HB10.out⟩
    case round =>
      obtain ⟨k, hk, rfl, rfl, hb9⟩ := hrel
      have HB9 := Lib.hid hb9
      clear hb9
      by_cases hlk : k < N
      · have kl2 : (k : Int) < N := by omega
        have hlk' : k < R.length := by rw [HRN.out]; exact hlk
        have hyk : R[k]? = some R[k] := List.getElem?_eq_getElem hlk'
        generalize hjt : R[k] = r at *
        have hro := HTR.out.ok r (List.mem_of_getElem? hyk)
        obtain ⟨rx, rs, rl⟩ := r
        obtain ⟨bc, off', rfl, hbl', e0, e1, e2'⟩ := (HLT.out _ HB9.out).at_ k _ hyk
        obtain ⟨⟨y1, y2⟩, ⟨y3, y4⟩, y5, y6⟩ := hro
        simp only at e0 e1 e2' y1 y2 y3 y4 y5 y6
        have HAL9 : Hid (Below wr.heap.size wr (wr.alloc (.cells #[.int .i64 rx, .int .u64 rs, .int .u64 rl] 68))) := Lib.hid ((Below.refl _ _).alloc (Nat.le_refl _) _)
        have hz9 := HB9.out.size
        clear hyk hjt hlk'
        go_wp2_with fail
        go_roundw
        case rel => exact ⟨k + 1, by omega, by go_num, rfl, HB9.out.trans (HAL9.out.mono hz9)⟩
        case measure => simp [intOf]; omega
      · obtain rfl : k = N := by omega
        have kl2 : ¬ (k : Int) < k := by omega
        obtain ⟨c0, c1⟩ := HCC.out _ HB9.out
        have HUF := Lib.hid (HD.out.unfit wr u v A3 c3 R A4 c4 W HU.out HV.out (HLT.out _ HB9.out) (HLN.out _ HB9.out) (by rw [HRN.out]; omega) (by rw [HWK.out]; omega) (by intro h; have := HNF.out; omega) (fun hLW => by have := HNF.out; have := hLW.row.max; omega))
        rw [HRN.out, HWK.out] at HUF
        go_wp2_with fail
        refine HUF.out.mono ?_
        rintro e w11 ⟨rfl, b11⟩
        have HE := Lib.hid (HFIN.out _ (HB9.out.trans (b11.mono HB9.out.size)))
        clear b11
        go_wp2_with fail
        go_ret
        exact ⟨rfl, HE.out⟩
end Go.Proofs.Ytfmlkohijkalbaa
