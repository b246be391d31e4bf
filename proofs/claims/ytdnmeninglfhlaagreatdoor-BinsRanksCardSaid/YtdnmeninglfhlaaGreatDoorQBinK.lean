/-
  Walks: the law BinsRanks, from what package bins is to do.
-/
import Derived.Test.YtdnmeninglfhlaaGreatDoorK6
namespace Go.Proofs.YtdnmeninglfhlaaGreatDoor
set_option linter.unusedVariables false
set_option linter.unusedSimpArgs false
open Go.RowKit

theorem lost_bd {P : Pt} (hP : P.ok) (s : Bool) (m : Int) {A : List PairV} (h : FineV A) (hl : A.length ≤ 1000) :
    0 ≤ (stV P s m A).t1 - sumP (stV P s m A).k1 ∧ 0 ≤ (stV P s m A).t2 - sumP (stV P s m A).k2 ∧ (stV P s m A).t1 - sumP (stV P s m A).k1 + ((stV P s m A).t2 - sumP (stV P s m A).k2) ≤ sumP A := by
  have S1 := row_sum50 hP true h hl
  have S2 := row_sum50 hP false h hl
  have g1 := keeps_sum s m (ok_pos S1.ok)
  have g2 := keeps_sum s m (ok_pos S2.ok)
  have hz : 0 ≤ zeroV A := cnt_bd (fine_pos h)
  have := sides_all hP h hl
  show 0 ≤ sumP (rowV P true A) - sumP (keepS s m (rowV P true A)) ∧ 0 ≤ sumP (rowV P false A) - sumP (keepS s m (rowV P false A)) ∧ sumP (rowV P true A) - sumP (keepS s m (rowV P true A)) + (sumP (rowV P false A) - sumP (keepS s m (rowV P false A))) ≤ sumP A
  omega

set_option maxRecDepth 100000 in
set_option maxHeartbeats 8000000 in
theorem bins_ranks_walk {Bn : BnT} (D : BinsDoes Bn) (u v dg sd m : Int) (A : List PairV) (a : Option Addr) (cap : Nat) (x : Int) (wu : Word u) (wv : Word v) (wd : I64 dg) (ws : I64 sd) (wm : I64 m) (hl : A.length ≤ 140737488351232) (wx : I64 x) (w : World) (hA : Pairs w a A) (ht : Tens w) :
    Calls Tryz.prog 5 #[.agg #[.int .u64 u, .int .u64 v, .int .i64 dg, .int .i64 sd, .int .i64 m, .slice a A.length cap], .int .i64 x] w fun e w' => e = .returned (.bool true) ∧ Below w.heap.size w w' := by
  have HD := Lib.hid D
  have BC := ((Below.refl w.heap.size w).alloc (Nat.le_refl _) (.cells #[.int .u64 u, .int .u64 v, .int .i64 dg, .int .i64 sd, .int .i64 m, .slice a A.length cap] 27))
  have hcs := case_new w u v dg sd m a A.length cap 27
  have HTN := Lib.hid (ht.call BC)
  have HA := Lib.hid hA
  have HXI := Lib.hid wx
  obtain ⟨wx0, wx1⟩ := id wx
  have HBD := Lib.hid (fun W hW hp => build13_any D W u v dg sd m A a cap hW wu wv wd ws wm hp hl)
  have hsz : (w.alloc (.cells #[.int .u64 u, .int .u64 v, .int .i64 dg, .int .i64 sd, .int .i64 m, .slice a A.length cap] 27)).heap.size = w.heap.size + 1 := by simp
  obtain ⟨ln, hln⟩ : ∃ ln : Nat, A.length = ln := ⟨_, rfl⟩
  have HLN := Lib.hid hln
  rw [hln] at hcs HBD BC hsz HTN ⊢
  clear ht hA hl D hln wx
  go_enter Tryz.func5, Tryz.ntmps5
  go_wp2_with fail
  generalize (w.alloc (.cells #[.int .u64 u, .int .u64 v, .int .i64 dg, .int .i64 sd, .int .i64 m, .slice a ln cap] 27)) = wC at *
  refine (alive13_any HD.out wC HTN.out).mono ?_
  rintro e w2 ⟨rfl, hb2⟩
  obtain ⟨p0, p1, p2, p3, p4, p5⟩ := hcs.call hb2
  have b2 := BC.trans (hb2.mono (by omega))
  have HT2 := Lib.hid (HTN.out.call hb2)
  clear hcs
  go_wp2_with fail
  refine (HBD.out w2 HT2.out (HA.out.call b2)).mono ?_
  rintro e w3 (⟨B, S, R, M, P, s, n, rfl, hsi, hP, hof, m1, m2, hf, hl, hbn, hrk, hsr, hn1, hn2, d0, d4, hb3, _, _⟩ | ⟨rfl, hb3⟩)
  case inr =>
    have b3 := b2.trans (hb3.mono b2.size)
    go_wp2_with fail
    go_ret
    exact ⟨rfl, b3⟩
  have b3 := b2.trans (hb3.mono b2.size)
  have hsl := stv_len hP s m hf (by omega)
  have HRA := Lib.hid (HD.out.rank w3 B S R P s m _ x hbn (by omega) (by omega) HXI.out)
  have HLO := Lib.hid (fun W hW => HD.out.lost W B S R P s m (stV P s m A) hW)
  have hri := rank_in hP s (show 0 < m by omega) hf (by omega) HXI.out
  obtain ⟨lb1, lb2, lb3⟩ := lost_bd hP s m hf (by omega)
  have hfit := fine_fit hf (by omega)
  obtain ⟨lo, hlo⟩ : ∃ lo, (rankSt P s m (stV P s m A) x).1 = lo := ⟨_, rfl⟩
  obtain ⟨hi, hhi⟩ : ∃ hi, (rankSt P s m (stV P s m A) x).2 = hi := ⟨_, rfl⟩
  obtain ⟨l1, hl1⟩ : ∃ l1, (stV P s m A).t1 - sumP (stV P s m A).k1 = l1 := ⟨_, rfl⟩
  obtain ⟨l2, hl2⟩ : ∃ l2, (stV P s m A).t2 - sumP (stV P s m A).k2 = l2 := ⟨_, rfl⟩
  rw [hlo, hhi] at HRA
  rw [hl1] at lb1
  rw [hl2] at lb2
  rw [hl1, hl2] at HLO lb3 hri
  rw [hlo, hhi] at hri
  obtain ⟨up, hup⟩ : ∃ up, upV A x = up := ⟨_, rfl⟩
  have HUP := Lib.hid (fun W a' c' (hW : Pairs W a' A) => rup_any W a' c' A x up hW HXI.out (by omega) (by omega) hup)
  rw [hup] at hri
  obtain ⟨ri1, ri2, ri3⟩ := hri
  have HRI := Lib.hid ri3
  rw [HLN.out] at HUP
  have HRK := Lib.hid hrk
  have HBN := Lib.hid hbn
  have HF := Lib.hid hf
  have HPP := Lib.hid hP
  have c1 : ¬ up < lo := by omega
  have c2 : ¬ hi < up := by omega
  clear hrk hbn hsr hf hP hof hlo hhi hl1 hl2 hup ri3 hsl hfit
  go_wp2_with fail
  refine HRA.out.mono ?_
  rintro e w4 ⟨rfl, hb4⟩
  have b4 := b3.trans (hb4.mono b3.size)
  have RK4 := Lib.hid (HRK.out.call hb4 hn2)
  have hn4 : n ≤ w4.heap.size := by have := hb4.size; omega
  obtain ⟨rlo, rre, rdg, ra, rcap, hpr, hpv, hcl⟩ := RK4.out.ref.cells
  have y5 := hcl.c5
  rw [HLN.out] at y5
  have HPV := Lib.hid hpv
  clear hcl hpr hpv
  go_wp2_with fail
  refine (HUP.out _ ra rcap HPV.out).mono ?_
  rintro e w5 ⟨rfl, hb5⟩
  have b5 := b4.trans (hb5.mono b4.size)
  have y5 := cell_later hb5 y5
  go_wp2_with fail
  refine (HLO.out _ (HD.out.call (HD.out.call HBN.out hb4) hb5)).mono ?_
  rintro e w6 ⟨rfl, hb6⟩
  have b6 := b5.trans (hb6.mono b5.size)
  have y5 := cell_later hb6 y5
  have HRW := Lib.hid (((RK4.out.call hb5 hn4).call hb6 (by have := hb5.size; omega)).ref)
  have HPV := Lib.hid ((HPV.out.call hb5).call hb6)
  have hfit := fine_fit HF.out (by omega)
  clear hb4 hb5 hb6 b3 b4 b5 hn4 RK4 HRK HBN HRA HUP HLO
  by_cases hls : 0 < l1 + l2
  · go_wp2_with fail
    go_ret
    exact ⟨rfl, b6⟩
  have hri := HRI.out (by omega)
  obtain ⟨hri0, hri1⟩ := hri
  have HR0 := Lib.hid hri0
  have HR1 := Lib.hid hri1
  have HCP := Lib.hid (fun (f : Int → Bool) k => cnt_part (f := f) (A := A) k (fine_pos HF.out))
  have HPT := Lib.hid (fun W y i (hW : RefN W M P s m A) h1 h2 hi => rpart13_any W M P s m A y i hW HPP.out h1 h2 hi)
  clear hri0 hri1 HRI
  go_wp2_with fail
  go_loopw [13, 14, 62] (fun ah ow j wr => ∃ k : Nat, k ≤ ln ∧ j = .int .i64 k ∧ ah = .int .u64 (cntV (fun y => !(sameV P x y) && decide (y < x)) (A.take k)) ∧ ow = .int .u64 (cntV (sameV P x) (A.take k)) ∧ Below w6.heap.size w6 wr) (fun _ _ j _ => ln - (intOf j).toNat)
  case atStart => exact ⟨0, Nat.zero_le _, rfl, rfl, rfl, Below.refl _ _⟩
  case round =>
    obtain ⟨k, hk, rfl, rfl, rfl, hb7⟩ := hrel
    have hbs7 := hb7.size
    have hk60 : k ≤ 60 := by have := HLN.out; omega
    obtain ⟨cl, hcl⟩ : ∃ cl, cntV (fun y => !(sameV P x y) && decide (y < x)) (A.take k) = cl := ⟨_, rfl⟩
    obtain ⟨co, hco⟩ : ∃ co, cntV (sameV P x) (A.take k) = co := ⟨_, rfl⟩
    have HCL := Lib.hid hcl
    have HCO := Lib.hid hco
    have g1 := HCP.out (fun y => !(sameV P x y) && decide (y < x)) k
    have g2 := HCP.out (sameV P x) k
    rw [hcl] at g1 ⊢
    rw [hco] at g2 ⊢
    obtain ⟨g11, g12⟩ := g1
    obtain ⟨g21, g22⟩ := g2
    clear hcl hco
    by_cases hlt : k < ln
    · have kk : (k : Int) < ln := by omega
      obtain ⟨p, hxk⟩ : ∃ p, A[k]? = some p := ⟨A[k]'(by rw [HLN.out]; exact hlt), List.getElem?_eq_getElem _⟩
      obtain ⟨px, pc⟩ := p
      obtain ⟨bb, off, rfl, hbl, c0, c1⟩ := (HPV.out.call hb7).at_ k _ hxk
      have hok := HF.out _ (List.mem_of_getElem? hxk)
      have HFP := Lib.hid hok.1
      obtain ⟨⟨o1, o2⟩, o3, o4⟩ := hok
      have HS1 := Lib.hid (cnt_take (f := fun y => !(sameV P x y) && decide (y < x)) hxk)
      have HS2 := Lib.hid (cnt_take (f := sameV P x) hxk)
      have n1 := HCP.out (fun y => !(sameV P x y) && decide (y < x)) (k + 1)
      have n2 := HCP.out (sameV P x) (k + 1)
      rw [HS1.out, HCL.out] at n1
      rw [HS2.out, HCO.out] at n2
      simp only at c0 c1 o1 o2 o3 o4 HFP
      have HB0 := Lib.hid (hb7.alloc hbs7 (.cells #[.int .i64 px, .int .u64 pc] 62))
      have v0 : (wr.alloc (.cells #[.int .i64 px, .int .u64 pc] 62)).cell? ⟨wr.heap.size, 0, none⟩ = some (.int .i64 px) := by go_simp
      have v1 : (wr.alloc (.cells #[.int .i64 px, .int .u64 pc] 62)).cell? ⟨wr.heap.size, 1, none⟩ = some (.int .u64 pc) := by go_simp
      clear hxk
      by_cases hx0 : x = 0
      · have x1 : (x == 0) = true := by simp [hx0]
        by_cases p0 : px = 0
        · subst p0
          have p1 : ((0 : Int) == 0) = true := rfl
          have hsm : sameV P x 0 = true := by unfold sameV; simp [hx0]
          have hah : (!(sameV P x 0) && decide (0 < x)) = false := by rw [hsm]; simp; try omega
          rw [hah] at n1 HS1
          rw [hsm] at n2 HS2
          simp only [if_true, Bool.false_eq_true, if_false, Int.add_zero] at n1 n2 HS1 HS2
          obtain ⟨n11, n12⟩ := n1
          obtain ⟨n21, n22⟩ := n2
          clear hsm hah
          go_wp2_with fail
          go_roundw
          case rel => exact ⟨k + 1, by omega, by go_num, by rw [HS1.out, HCL.out], by rw [HS2.out, HCO.out], HB0.out⟩
          case measure => simp [intOf]; omega
        · have p1 : (px == 0) = false := by simp [p0]
          by_cases pn : px < 0
          · have px1 : px < x := by omega
            have hsm : sameV P x px = false := by unfold sameV; simp [hx0, p0, pn]
            have hah : (!(sameV P x px) && decide (px < x)) = true := by rw [hsm]; simp; try omega
            rw [hah] at n1 HS1
            rw [hsm] at n2 HS2
            simp only [if_true, Bool.false_eq_true, if_false, Int.add_zero] at n1 n2 HS1 HS2
            obtain ⟨n11, n12⟩ := n1
            obtain ⟨n21, n22⟩ := n2
            clear hsm hah
            go_wp2_with fail
            go_roundw
            case rel => exact ⟨k + 1, by omega, by go_num, by rw [HS1.out, HCL.out], by rw [HS2.out, HCO.out], HB0.out⟩
            case measure => simp [intOf]; omega
          · have px1 : ¬ px < x := by omega
            have hsm : sameV P x px = false := by unfold sameV; simp [hx0, p0, pn]
            have hah : (!(sameV P x px) && decide (px < x)) = false := by rw [hsm]; simp; try omega
            rw [hah] at n1 HS1
            rw [hsm] at n2 HS2
            simp only [if_true, Bool.false_eq_true, if_false, Int.add_zero] at n1 n2 HS1 HS2
            obtain ⟨n11, n12⟩ := n1
            obtain ⟨n21, n22⟩ := n2
            clear hsm hah
            go_wp2_with fail
            go_roundw
            case rel => exact ⟨k + 1, by omega, by go_num, by rw [HS1.out, HCL.out], by rw [HS2.out, HCO.out], HB0.out⟩
            case measure => simp [intOf]; omega
      · have x1 : (x == 0) = false := by simp [hx0]
        have HMX := Lib.hid (mag_in HXI.out hx0)
        obtain ⟨mx, hmx⟩ : ∃ mx, mag x = mx := ⟨_, rfl⟩
        obtain ⟨ix, hix⟩ : ∃ ix, P.idx mx = ix := ⟨_, rfl⟩
        have HIX := Lib.hid hix
        have HMXE := Lib.hid hmx
        rw [hmx] at HMX
        by_cases xn : x < 0
        · by_cases pn : px < 0
          · have p0 : px ≠ 0 := by omega
            have p1 : (px == 0) = false := by simp [p0]
            have HMP := Lib.hid (mag_in HFP.out p0)
            obtain ⟨mp, hmp⟩ : ∃ mp, mag px = mp := ⟨_, rfl⟩
            obtain ⟨ip, hip⟩ : ∃ ip, P.idx mp = ip := ⟨_, rfl⟩
            have HIP := Lib.hid hip
            have HMPE := Lib.hid hmp
            rw [hmp] at HMP
            have HSZ : Hid (∀ (W : World) (y : Int), I64 y → Calls Tryz.prog 26 #[.int .i64 y] W fun e w' => e = .returned (.int .u64 (mag y)) ∧ W = w') := Lib.hid (fun W y hy => size_any y hy W)
            by_cases he : ip = ix
            · have he1 : (ip == ix) = true := by simp [he]
              have hsm : sameV P x px = true := by unfold sameV; rw [hmp, hip, hmx, hix, he1, x1, p1]; simp [xn, pn]
              have hah : (!(sameV P x px) && decide (px < x)) = false := by rw [hsm]; simp; try omega
              rw [hah] at n1 HS1
              rw [hsm] at n2 HS2
              simp only [if_true, Bool.false_eq_true, if_false, Int.add_zero] at n1 n2 HS1 HS2
              obtain ⟨n11, n12⟩ := n1
              obtain ⟨n21, n22⟩ := n2
              clear hsm hah
              go_wp2_with fail
              refine (HSZ.out _ _ HFP.out).mono ?_
              rintro e w7 ⟨rfl, rfl⟩
              rw [HMPE.out]
              go_wp2_with fail
              refine (HPT.out _ mp ip (HRW.out.call HB0.out) HMP.out.1 HMP.out.2 HIP.out).mono ?_
              rintro e w7 ⟨rfl, hb7c⟩
              have HB7 := Lib.hid (HB0.out.trans (hb7c.mono HB0.out.size))
              go_wp2_with fail
              refine (HSZ.out _ _ HXI.out).mono ?_
              rintro e w8 ⟨rfl, rfl⟩
              rw [HMXE.out]
              go_wp2_with fail
              refine (HPT.out _ mx ix (HRW.out.call HB7.out) HMX.out.1 HMX.out.2 HIX.out).mono ?_
              rintro e w8 ⟨rfl, hb8⟩
              have HB8 := Lib.hid (HB7.out.trans (hb8.mono HB7.out.size))
              have v1 := cell_later hb8 (cell_later hb7c v1)
              have v0 := cell_later hb8 (cell_later hb7c v0)
              go_wp2_with fail
              go_roundw
              case rel => exact ⟨k + 1, by omega, by go_num, by rw [HS1.out, HCL.out], by rw [HS2.out, HCO.out], HB8.out⟩
              case measure => simp [intOf]; omega
            · have he1 : (ip == ix) = false := by simp [he]
              by_cases pl : px < x
              · have hsm : sameV P x px = false := by unfold sameV; rw [hmp, hip, hmx, hix, he1, x1, p1]; simp [xn, pn]
                have hah : (!(sameV P x px) && decide (px < x)) = true := by rw [hsm]; simp; try omega
                rw [hah] at n1 HS1
                rw [hsm] at n2 HS2
                simp only [if_true, Bool.false_eq_true, if_false, Int.add_zero] at n1 n2 HS1 HS2
                obtain ⟨n11, n12⟩ := n1
                obtain ⟨n21, n22⟩ := n2
                clear hsm hah
                go_wp2_with fail
                refine (HSZ.out _ _ HFP.out).mono ?_
                rintro e w7 ⟨rfl, rfl⟩
                rw [HMPE.out]
                go_wp2_with fail
                refine (HPT.out _ mp ip (HRW.out.call HB0.out) HMP.out.1 HMP.out.2 HIP.out).mono ?_
                rintro e w7 ⟨rfl, hb7c⟩
                have HB7 := Lib.hid (HB0.out.trans (hb7c.mono HB0.out.size))
                go_wp2_with fail
                refine (HSZ.out _ _ HXI.out).mono ?_
                rintro e w8 ⟨rfl, rfl⟩
                rw [HMXE.out]
                go_wp2_with fail
                refine (HPT.out _ mx ix (HRW.out.call HB7.out) HMX.out.1 HMX.out.2 HIX.out).mono ?_
                rintro e w8 ⟨rfl, hb8⟩
                have HB8 := Lib.hid (HB7.out.trans (hb8.mono HB7.out.size))
                have v1 := cell_later hb8 (cell_later hb7c v1)
                have v0 := cell_later hb8 (cell_later hb7c v0)
                go_wp2_with fail
                go_roundw
                case rel => exact ⟨k + 1, by omega, by go_num, by rw [HS1.out, HCL.out], by rw [HS2.out, HCO.out], HB8.out⟩
                case measure => simp [intOf]; omega
              · have hsm : sameV P x px = false := by unfold sameV; rw [hmp, hip, hmx, hix, he1, x1, p1]; simp [xn, pn]
                have hah : (!(sameV P x px) && decide (px < x)) = false := by rw [hsm]; simp; try omega
                rw [hah] at n1 HS1
                rw [hsm] at n2 HS2
                simp only [if_true, Bool.false_eq_true, if_false, Int.add_zero] at n1 n2 HS1 HS2
                obtain ⟨n11, n12⟩ := n1
                obtain ⟨n21, n22⟩ := n2
                clear hsm hah
                go_wp2_with fail
                refine (HSZ.out _ _ HFP.out).mono ?_
                rintro e w7 ⟨rfl, rfl⟩
                rw [HMPE.out]
                go_wp2_with fail
                refine (HPT.out _ mp ip (HRW.out.call HB0.out) HMP.out.1 HMP.out.2 HIP.out).mono ?_
                rintro e w7 ⟨rfl, hb7c⟩
                have HB7 := Lib.hid (HB0.out.trans (hb7c.mono HB0.out.size))
                go_wp2_with fail
                refine (HSZ.out _ _ HXI.out).mono ?_
                rintro e w8 ⟨rfl, rfl⟩
                rw [HMXE.out]
                go_wp2_with fail
                refine (HPT.out _ mx ix (HRW.out.call HB7.out) HMX.out.1 HMX.out.2 HIX.out).mono ?_
                rintro e w8 ⟨rfl, hb8⟩
                have HB8 := Lib.hid (HB7.out.trans (hb8.mono HB7.out.size))
                have v1 := cell_later hb8 (cell_later hb7c v1)
                have v0 := cell_later hb8 (cell_later hb7c v0)
                go_wp2_with fail
                go_roundw
                case rel => exact ⟨k + 1, by omega, by go_num, by rw [HS1.out, HCL.out], by rw [HS2.out, HCO.out], HB8.out⟩
                case measure => simp [intOf]; omega
          · have px1 : ¬ px < x := by omega
            have hsm : sameV P x px = false := by unfold sameV; simp [xn, pn]
            have hah : (!(sameV P x px) && decide (px < x)) = false := by rw [hsm]; simp; try omega
            rw [hah] at n1 HS1
            rw [hsm] at n2 HS2
            simp only [if_true, Bool.false_eq_true, if_false, Int.add_zero] at n1 n2 HS1 HS2
            obtain ⟨n11, n12⟩ := n1
            obtain ⟨n21, n22⟩ := n2
            clear hsm hah
            go_wp2_with fail
            go_roundw
            case rel => exact ⟨k + 1, by omega, by go_num, by rw [HS1.out, HCL.out], by rw [HS2.out, HCO.out], HB0.out⟩
            case measure => simp [intOf]; omega
        · by_cases pn : px < 0
          · have px1 : px < x := by omega
            have hsm : sameV P x px = false := by unfold sameV; simp [xn, pn]
            have hah : (!(sameV P x px) && decide (px < x)) = true := by rw [hsm]; simp; try omega
            rw [hah] at n1 HS1
            rw [hsm] at n2 HS2
            simp only [if_true, Bool.false_eq_true, if_false, Int.add_zero] at n1 n2 HS1 HS2
            obtain ⟨n11, n12⟩ := n1
            obtain ⟨n21, n22⟩ := n2
            clear hsm hah
            go_wp2_with fail
            go_roundw
            case rel => exact ⟨k + 1, by omega, by go_num, by rw [HS1.out, HCL.out], by rw [HS2.out, HCO.out], HB0.out⟩
            case measure => simp [intOf]; omega
          · by_cases p0 : px = 0
            · subst p0
              have p1 : ((0 : Int) == 0) = true := rfl
              have px1 : 0 < x := by omega
              have hsm : sameV P x 0 = false := by unfold sameV; simp [hx0]
              have hah : (!(sameV P x 0) && decide (0 < x)) = true := by rw [hsm]; simp; try omega
              rw [hah] at n1 HS1
              rw [hsm] at n2 HS2
              simp only [if_true, Bool.false_eq_true, if_false, Int.add_zero] at n1 n2 HS1 HS2
              obtain ⟨n11, n12⟩ := n1
              obtain ⟨n21, n22⟩ := n2
              clear hsm hah
              go_wp2_with fail
              go_roundw
              case rel => exact ⟨k + 1, by omega, by go_num, by rw [HS1.out, HCL.out], by rw [HS2.out, HCO.out], HB0.out⟩
              case measure => simp [intOf]; omega
            · have p1 : (px == 0) = false := by simp [p0]
              have HMP := Lib.hid (mag_in HFP.out p0)
              obtain ⟨mp, hmp⟩ : ∃ mp, mag px = mp := ⟨_, rfl⟩
              obtain ⟨ip, hip⟩ : ∃ ip, P.idx mp = ip := ⟨_, rfl⟩
              have HIP := Lib.hid hip
              have HMPE := Lib.hid hmp
              rw [hmp] at HMP
              have HSZ : Hid (∀ (W : World) (y : Int), I64 y → Calls Tryz.prog 26 #[.int .i64 y] W fun e w' => e = .returned (.int .u64 (mag y)) ∧ W = w') := Lib.hid (fun W y hy => size_any y hy W)
              by_cases he : ip = ix
              · have he1 : (ip == ix) = true := by simp [he]
                have hsm : sameV P x px = true := by unfold sameV; rw [hmp, hip, hmx, hix, he1, x1, p1]; simp [xn, pn]
                have hah : (!(sameV P x px) && decide (px < x)) = false := by rw [hsm]; simp; try omega
                rw [hah] at n1 HS1
                rw [hsm] at n2 HS2
                simp only [if_true, Bool.false_eq_true, if_false, Int.add_zero] at n1 n2 HS1 HS2
                obtain ⟨n11, n12⟩ := n1
                obtain ⟨n21, n22⟩ := n2
                clear hsm hah
                go_wp2_with fail
                refine (HSZ.out _ _ HFP.out).mono ?_
                rintro e w7 ⟨rfl, rfl⟩
                rw [HMPE.out]
                go_wp2_with fail
                refine (HPT.out _ mp ip (HRW.out.call HB0.out) HMP.out.1 HMP.out.2 HIP.out).mono ?_
                rintro e w7 ⟨rfl, hb7c⟩
                have HB7 := Lib.hid (HB0.out.trans (hb7c.mono HB0.out.size))
                go_wp2_with fail
                refine (HSZ.out _ _ HXI.out).mono ?_
                rintro e w8 ⟨rfl, rfl⟩
                rw [HMXE.out]
                go_wp2_with fail
                refine (HPT.out _ mx ix (HRW.out.call HB7.out) HMX.out.1 HMX.out.2 HIX.out).mono ?_
                rintro e w8 ⟨rfl, hb8⟩
                have HB8 := Lib.hid (HB7.out.trans (hb8.mono HB7.out.size))
                have v1 := cell_later hb8 (cell_later hb7c v1)
                have v0 := cell_later hb8 (cell_later hb7c v0)
                go_wp2_with fail
                go_roundw
                case rel => exact ⟨k + 1, by omega, by go_num, by rw [HS1.out, HCL.out], by rw [HS2.out, HCO.out], HB8.out⟩
                case measure => simp [intOf]; omega
              · have he1 : (ip == ix) = false := by simp [he]
                by_cases pl : px < x
                · have hsm : sameV P x px = false := by unfold sameV; rw [hmp, hip, hmx, hix, he1, x1, p1]; simp [xn, pn]
                  have hah : (!(sameV P x px) && decide (px < x)) = true := by rw [hsm]; simp; try omega
                  rw [hah] at n1 HS1
                  rw [hsm] at n2 HS2
                  simp only [if_true, Bool.false_eq_true, if_false, Int.add_zero] at n1 n2 HS1 HS2
                  obtain ⟨n11, n12⟩ := n1
                  obtain ⟨n21, n22⟩ := n2
                  clear hsm hah
                  go_wp2_with fail
                  refine (HSZ.out _ _ HFP.out).mono ?_
                  rintro e w7 ⟨rfl, rfl⟩
                  rw [HMPE.out]
                  go_wp2_with fail
                  refine (HPT.out _ mp ip (HRW.out.call HB0.out) HMP.out.1 HMP.out.2 HIP.out).mono ?_
                  rintro e w7 ⟨rfl, hb7c⟩
                  have HB7 := Lib.hid (HB0.out.trans (hb7c.mono HB0.out.size))
                  go_wp2_with fail
                  refine (HSZ.out _ _ HXI.out).mono ?_
                  rintro e w8 ⟨rfl, rfl⟩
                  rw [HMXE.out]
                  go_wp2_with fail
                  refine (HPT.out _ mx ix (HRW.out.call HB7.out) HMX.out.1 HMX.out.2 HIX.out).mono ?_
                  rintro e w8 ⟨rfl, hb8⟩
                  have HB8 := Lib.hid (HB7.out.trans (hb8.mono HB7.out.size))
                  have v1 := cell_later hb8 (cell_later hb7c v1)
                  have v0 := cell_later hb8 (cell_later hb7c v0)
                  go_wp2_with fail
                  go_roundw
                  case rel => exact ⟨k + 1, by omega, by go_num, by rw [HS1.out, HCL.out], by rw [HS2.out, HCO.out], HB8.out⟩
                  case measure => simp [intOf]; omega
                · have hsm : sameV P x px = false := by unfold sameV; rw [hmp, hip, hmx, hix, he1, x1, p1]; simp [xn, pn]
                  have hah : (!(sameV P x px) && decide (px < x)) = false := by rw [hsm]; simp; try omega
                  rw [hah] at n1 HS1
                  rw [hsm] at n2 HS2
                  simp only [if_true, Bool.false_eq_true, if_false, Int.add_zero] at n1 n2 HS1 HS2
                  obtain ⟨n11, n12⟩ := n1
                  obtain ⟨n21, n22⟩ := n2
                  clear hsm hah
                  go_wp2_with fail
                  refine (HSZ.out _ _ HFP.out).mono ?_
                  rintro e w7 ⟨rfl, rfl⟩
                  rw [HMPE.out]
                  go_wp2_with fail
                  refine (HPT.out _ mp ip (HRW.out.call HB0.out) HMP.out.1 HMP.out.2 HIP.out).mono ?_
                  rintro e w7 ⟨rfl, hb7c⟩
                  have HB7 := Lib.hid (HB0.out.trans (hb7c.mono HB0.out.size))
                  go_wp2_with fail
                  refine (HSZ.out _ _ HXI.out).mono ?_
                  rintro e w8 ⟨rfl, rfl⟩
                  rw [HMXE.out]
                  go_wp2_with fail
                  refine (HPT.out _ mx ix (HRW.out.call HB7.out) HMX.out.1 HMX.out.2 HIX.out).mono ?_
                  rintro e w8 ⟨rfl, hb8⟩
                  have HB8 := Lib.hid (HB7.out.trans (hb8.mono HB7.out.size))
                  have v1 := cell_later hb8 (cell_later hb7c v1)
                  have v0 := cell_later hb8 (cell_later hb7c v0)
                  go_wp2_with fail
                  go_roundw
                  case rel => exact ⟨k + 1, by omega, by go_num, by rw [HS1.out, HCL.out], by rw [HS2.out, HCO.out], HB8.out⟩
                  case measure => simp [intOf]; omega
    · obtain rfl : k = ln := by omega
      have kk : ¬ (k : Int) < k := by omega
      have ht : A.take k = A := by rw [← HLN.out, List.take_length]
      rw [ht] at HCL HCO
      have ea : aheadV P A x = cl := HCL.out
      have eo : ownV P A x = co := HCO.out
      by_cases hx0 : x = 0
      · have r0 := HR0.out hx0
        rw [ea, eo] at r0
        have x1 : (x == 0) = true := by simp [hx0]
        have r1 : (lo == cl + co) = true := by simp; omega
        have r2 : (hi == lo) = true := by simp; omega
        have r3 : lo = cl + co := by omega
        clear ea eo
        go_wp2_with fail
        go_ret
        exact ⟨rfl, b6.trans (hb7.mono b6.size)⟩
      · have r0 := HR1.out hx0
        rw [ea, eo] at r0
        have x1 : (x == 0) = false := by simp [hx0]
        have r1 : (lo == cl) = true := by simp; omega
        have r2 : (hi == cl + co) = true := by simp; omega
        clear ea eo
        go_wp2_with fail
        go_ret
        exact ⟨rfl, b6.trans (hb7.mono b6.size)⟩
end Go.Proofs.YtdnmeninglfhlaaGreatDoor
