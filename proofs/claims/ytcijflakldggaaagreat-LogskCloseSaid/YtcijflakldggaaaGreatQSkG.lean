/-
  Walks: the law LogskClose.
-/
import Derived.Test.YtcijflakldggaaaGreatK7
import Derived.Test.YtcijflakldggaaaGreatQSignC
import Derived.Deep.RegionHeld3
import Derived.Maps.OwnSet
import Derived.Maps.OwnOps
namespace Go.Proofs.YtcijflakldggaaaGreat
set_option linter.unusedVariables false
set_option linter.unusedSimpArgs false
open Go.RowKit

theorem lawInt : Maps.Keyed Tryz.prog 3 := Maps.int_keyed Tryz.underlying3
theorem wf_i64 {x : Int} (h : I64 x) : (Lit.int .i64 x).wf = true := by
  unfold I64 at h
  have e1 : IntKind.i64.min = -9223372036854775808 := by decide
  have e2 : IntKind.i64.max = 9223372036854775807 := by decide
  simp [Lit.wf, e1, e2]; omega
theorem ownsmap_below {H : Type} {w w' : World} {k : TypeId} {R : Value → Option (DataW H × List MemPlace)} {b n : Nat} {D : DataW H} (h : w.ownsMap Tryz.prog k R b n D) (hb : Below w.heap.size w w') : w'.ownsMap Tryz.prog k R b n D := by
  have hlt := h.lt
  obtain ⟨es, clock, h1, h2⟩ := h
  exact ⟨es, clock, (hb.block b hlt).trans h1, h2⟩
theorem put_pos {w : World} {k : TypeId} {R : Value → Option (DataW Unit × List MemPlace)} {b n : Nat} {D : DataW Unit} (h : w.ownsMap Tryz.prog k R b n D) (kl : Lit) (d : DataW Unit) : 1 ≤ Maps.size (D.put kl d) := by
  obtain ⟨es, clock, _, _, _, rfl⟩ := h
  show 1 ≤ (DataW.insert _ _).length
  rw [length_insert]; omega
/-- A value further out. -/
def farV (s : Bool) (x : Int) (v : Int) : Prop := v ≠ 0 ∧ decide (v < 0) = decide (x < 0) ∧ (if s = true then mag v < mag x else mag x < mag v)
theorem far_step {s : Bool} {x : Int} {A : List PairV} {k : Nat} {p : PairV} {z z' : Nat} (hk : A[k]? = some p) (h : ∀ i v, i < k → A[i]? = some v → farV s x v.1 → 1 ≤ z) (hz : z ≤ z') (hp : farV s x p.1 → 1 ≤ z') : ∀ i v, i < k + 1 → A[i]? = some v → farV s x v.1 → 1 ≤ z' := by
  intro i v hi hv hf
  by_cases e : i = k
  · subst e
    obtain rfl : p = v := Option.some.inj (hk.symm.trans hv)
    exact hp hf
  · have := h i v (by omega) hv hf
    omega

set_option maxRecDepth 100000 in
set_option maxHeartbeats 4000000 in
theorem logsk_close_walk {Bn : BnT} (D : BinsDoes Bn) (u v sd m : Int) (A : List PairV) (a : Option Addr) (cap : Nat) (pa pb : Int) (wu : Word u) (wv : Word v) (ws : I64 sd) (wm : I64 m) (hl : A.length ≤ 140737488351232) (wpa : Word pa) (wpb : Word pb) (w : World) (hA : Pairs w a A) :
    Calls Tryz.prog 4 #[.agg #[.int .u64 u, .int .u64 v, .int .i64 sd, .int .i64 m, .slice a A.length cap], .agg #[.int .u64 pa, .int .u64 pb]] w fun e w' => e = .returned (.bool true) ∧ Below w.heap.size w w' := by
  have HD := Lib.hid D
  obtain ⟨ln, hln⟩ : ∃ ln : Nat, A.length = ln := ⟨_, rfl⟩
  have HBD := Lib.hid (fun W hp => build14_any D W u v sd m A a cap wu wv ws wm hp hl)
  rw [hln] at HBD ⊢
  have HLN := Lib.hid hln
  have HA := Lib.hid hA
  have hcs := casek_new w u v sd m (.slice a ln cap) 27
  have BC := grew_one w (.cells #[.int .u64 u, .int .u64 v, .int .i64 sd, .int .i64 m, .slice a ln cap] 27)
  have hcs := hcs.call (grew_one (w.alloc (.cells #[.int .u64 u, .int .u64 v, .int .i64 sd, .int .i64 m, .slice a ln cap] 27)) (.cells #[.int .u64 pa, .int .u64 pb] 24))
  have Tp := Two.new (w.alloc (.cells #[.int .u64 u, .int .u64 v, .int .i64 sd, .int .i64 m, .slice a ln cap] 27)) (.int .u64 pa) (.int .u64 pb) 24
  have BC := below_new BC (.cells #[.int .u64 pa, .int .u64 pb] 24)
  have hsz : ((w.alloc (.cells #[.int .u64 u, .int .u64 v, .int .i64 sd, .int .i64 m, .slice a ln cap] 27)).alloc (.cells #[.int .u64 pa, .int .u64 pb] 24)).heap.size = w.heap.size + 2 := by simp
  have hsp : (w.alloc (.cells #[.int .u64 u, .int .u64 v, .int .i64 sd, .int .i64 m, .slice a ln cap] 27)).heap.size = w.heap.size + 1 := by simp
  rw [hsp] at Tp
  clear hsp
  clear hA hl D hln
  have hmm := @run_makeMap Tryz.prog
  go_enter Tryz.func4, Tryz.ntmps4
  go_wp2_with fail
  generalize ((w.alloc (.cells #[.int .u64 u, .int .u64 v, .int .i64 sd, .int .i64 m, .slice a ln cap] 27)).alloc (.cells #[.int .u64 pa, .int .u64 pb] 24)) = wC at *
  refine (alive14_any HD.out wC).mono ?_
  rintro e w2 ⟨rfl, hb2⟩
  have hcs := hcs.call hb2
  have Tp := Tp.call hb2
  have b2 := BC.trans (hb2.mono BC.size)
  have hz2 : w.heap.size + 2 ≤ w2.heap.size := by have := hb2.size; omega
  clear BC hb2 hsz
  obtain ⟨c0, c1, c2, c3, c4⟩ := id hcs
  obtain ⟨p0, p1, _, _⟩ := id Tp
  go_wp2_with fail
  refine (HBD.out w2 (HA.out.call b2)).mono ?_
  rintro e w3 (⟨B, C, S, R, M, P, s, n, lo, hi, rfl, hsi, hP, hof, m1, m2, hf, hl, hsk, hrk, hsr, hn1, hn2, v100, hb3, hfar, hv5, hM⟩ | ⟨rfl, hb3⟩)
  case inr =>
    have b3 := b2.trans (hb3.mono b2.size)
    go_wp2_with fail
    go_ret
    exact ⟨rfl, b3⟩
  have b3 := b2.trans (hb3.mono b2.size)
  have hcs := hcs.call hb3
  have Tp := Tp.call hb3
  have HCS := Lib.hid hcs
  have hz3 : w2.heap.size ≤ w3.heap.size := hb3.size
  clear c0 c1 c2 c3 c4 p0 p1 hb3 HBD hcs
  have hsl := stv_len hP s m hf (by omega)
  have hall := stv_all hP s m hf (by omega)
  have hsum0 := (fine_sum hf).1
  have hsum1 := fine_fit hf (by omega)
  obtain ⟨rp, ep, hqp⟩ : ∃ r c, quanA P s m A pa pb = (r, c) := ⟨_, _, rfl⟩
  have HQp := Lib.hid (fun W (hb : Below w3.heap.size w3 W) => kquan_any HD.out (hsk.x.call HD.out hb) (by omega) (by omega) pa pb rp ep wpa wpb (by rw [hall]; unfold Word; omega) ((quan_same hP s (by omega) hf (by omega) hsk.e pa pb).trans hqp))
  have HGP := Lib.hid (fun W => rgood_any pa pb wpa wpb W)
  obtain ⟨T, hT⟩ : ∃ T, sumP A = T := ⟨_, rfl⟩
  have HTO := Lib.hid (fun W (hb : Below w3.heap.size w3 W) => rtotal13_any W M P s m A T (hrk.ref.call hb) (by omega) hT (by omega))
  rw [hT] at hsum0 hsum1
  have HTp := Lib.hid Tp
  have HSTp := Lib.hid (fun (W W' : World) (h : W.cell? ⟨w.heap.size + 1, 0, none⟩ = some (.int .u64 pa) ∧ W.cell? ⟨w.heap.size + 1, 1, none⟩ = some (.int .u64 pb) ∧ Below w3.heap.size w3 W) (hb : Below W.heap.size W W') => (⟨cell_later hb h.1, cell_later hb h.2.1, h.2.2.trans (hb.mono h.2.2.size)⟩ : W'.cell? ⟨w.heap.size + 1, 0, none⟩ = some (.int .u64 pa) ∧ W'.cell? ⟨w.heap.size + 1, 1, none⟩ = some (.int .u64 pb) ∧ Below w3.heap.size w3 W'))
  have HPLp := Lib.hid (fun W => rplace_any pa pb T wpa wpb (by unfold Word; omega) W)
  have HLC := Lib.hid (HCS.out.c4)
  have HNE : Hid (ln = 0 ↔ A = []) := Lib.hid (by rw [← HLN.out]; exact List.length_eq_zero_iff)
  have HV5 : Hid (w3.cell? ⟨M, 5, none⟩ = some (.slice a ln cap)) := Lib.hid (by rw [← HLN.out]; exact hv5)
  have HA3 := Lib.hid (HA.out.call b3)
  have HRK := Lib.hid hrk.ref
  have HPO := Lib.hid hP
  have HOF := Lib.hid hof
  have HF := Lib.hid hf
  have HQQ := Lib.hid hqp
  have HWU := Lib.hid wu
  have HWV := Lib.hid wv
  have HTT := Lib.hid hT
  have HWT := Lib.hid (pl_word (n := T) wpa wpb (by unfold Word; omega))
  have HSB := Lib.hid (show sumP A < 9223372036854775808 by rw [hT]; exact hsum1)
  obtain ⟨t, ht⟩ : ∃ t, plV pa pb T = t := ⟨_, rfl⟩
  have HTV := Lib.hid ht
  rw [ht] at HPLp HWT
  have hll : A.length = ln := HLN.out
  clear hqp ht hT hsl hall hsk hrk hsr hfar hv5 hP hof hf Tp
  obtain ⟨p0, p1, _, _⟩ := id HTp.out
  cases hg : gdB pa pb with
  | false =>
    rw [hg] at HGP
    clear hg
    go_wp2_with fail
    refine (HGP.out _).mono ?_
    rintro e w4 ⟨rfl, b4⟩
    go_wp2_with fail
    go_ret
    exact ⟨rfl, b3.trans (b4.mono b3.size)⟩
  | true =>
  rw [hg] at HGP
  have HG := Lib.hid hg
  clear hg
  go_wp2_with fail
  refine (HGP.out _).mono ?_
  rintro e w5 ⟨rfl, b5⟩
  have hc4 := cell_later b5 HLC.out
  clear p0 p1
  by_cases hn : ln = 0
  · have hn0 : ((ln : Int) == 0) = true := by simp [hn]
    go_wp2_with fail
    go_ret
    exact ⟨rfl, b3.trans (b5.mono b3.size)⟩
  have hn0 : ((ln : Int) == 0) = false := beq_eq_false_iff_ne.2 (by omega)
  have HA0 := Lib.hid (fun e => hn (HNE.out.2 e))
  obtain ⟨hp0, x, hx⟩ := place_in HF.out (by omega) HA0.out wpa wpb HG.out
  rw [HTT.out, HTV.out] at hx
  have HX := Lib.hid hx
  have HP0 := Lib.hid hp0
  have HEX := Lib.hid (fun W (hb : Below w3.heap.size w3 W) => rexact_any W a cap A t x true (HA3.out.call hb) HWT.out (by omega) HSB.out (by rw [hx]; rfl) (by rw [hx]; rfl))
  rw [hll] at HEX
  have HXI := Lib.hid (exact_i64 HF.out hx)
  obtain ⟨x0, x1⟩ := HXI.out
  clear hx hp0
  obtain ⟨p0, p1, _, _⟩ := id (HTp.out.call b5)
  go_wp2_with fail
  have hs0 : w5.drew.cell? ⟨w.heap.size + 1, 0, none⟩ = some (.int .u64 pa) ∧ w5.drew.cell? ⟨w.heap.size + 1, 1, none⟩ = some (.int .u64 pb) ∧ Below w3.heap.size w3 w5.drew := ⟨cell_later (Below.refl _ _).drew p0, cell_later (Below.refl _ _).drew p1, b5.drew⟩
  have HS0 := Lib.hid hs0
  clear hs0
  go_region_held3 (fun w' => w'.cell? ⟨w.heap.size + 1, 0, none⟩ = some (.int .u64 pa) ∧ w'.cell? ⟨w.heap.size + 1, 1, none⟩ = some (.int .u64 pb) ∧ Below w3.heap.size w3 w')
    (first | exact HS0.out | exact HSTp.out _ _ (by assumption) hbA | assumption)
    ((first
      | (go_at_call 17; refine (HTO.out _ (And.right (And.right (by assumption)))).mono ?_; rintro e wA ⟨rfl, hbA⟩)
      | (go_at_call 16; refine (HPLp.out _).mono ?_; rintro e wA ⟨rfl, hbA⟩)))
  rename_i hHeld
  obtain ⟨_, _, b6⟩ := hHeld
  have HB6 := Lib.hid b6
  clear HS0 b6 hbA
  generalize wA = w6 at *
  have g5 := cell_later HB6.out HV5.out
  clear p0 p1 hc4 b5
  go_wp2_with fail
  refine (HEX.out _ HB6.out).mono ?_
  rintro e w7 ⟨rfl, b7⟩
  have b7 := HB6.out.trans (b7.mono HB6.out.size)
  obtain ⟨p0, p1, _, _⟩ := id (HTp.out.call b7)
  clear g5
  go_wp2_with fail
  refine (HQp.out _ b7).mono ?_
  rintro e w8 ⟨rfl, b8⟩
  have b8 := b7.trans (b8.mono b7.size)
  clear p0 p1 b7
  by_cases e1 : ep = 0
  · have hnear : nearB rp x u v = true := quan_near HPO.out HOF.out HWV.out.1 HF.out (by rw [HQQ.out, e1]) (by rw [HTT.out, HTV.out]; exact HX.out)
    have hri : I64 rp := by
      have h := quan_in HA0.out (show quanA P s m A pa pb = (rp, 0) by rw [HQQ.out, e1])
      have h2 := ends_i64 HF.out
      unfold I64 at *; omega
    have HWI := Lib.hid (fun W => rwithin_any rp x u v hri HXI.out HWU.out HWV.out W)
    rw [hnear] at HWI
    obtain ⟨c0, c1, _, _, _⟩ := HCS.out.call b8
    clear hnear hri
    subst e1
    go_wp2_with fail
    refine (HWI.out _).mono ?_
    rintro e w9 ⟨rfl, b9⟩
    have b9 := b8.trans (b9.mono b8.size)
    go_wp2_with fail
    go_ret
    exact ⟨rfl, b3.trans (b9.mono b3.size)⟩
  obtain ⟨h9, hxn, hcn⟩ := quan_lost HQQ.out e1 HP0.out (by rw [HTT.out, HTV.out]; exact HX.out)
  subst h9
  have hfar : ∃ v, v ∈ A ∧ farV s x v.1 := by
    obtain ⟨v, hv, hvx, _⟩ := exact_of HX.out
    obtain ⟨v', hv', h1, h2, h3⟩ := lost_far HPO.out s (show 0 < m by omega) HF.out (by omega) HXI.out hxn ⟨v, hv, hvx⟩ hcn
    exact ⟨v', hv', h1, h2, h3⟩
  have HFAR := Lib.hid hfar
  have HXN := Lib.hid hxn
  have hxn0 : (x == 0) = false := beq_eq_false_iff_ne.2 hxn
  have HSX := Lib.hid (fun W => size_any x HXI.out W)
  obtain ⟨mx, hmx⟩ : ∃ mx, mag x = mx := ⟨_, rfl⟩
  have hmb := mag_bd HXI.out
  rw [hmx] at HSX hmb
  obtain ⟨mx0, mx1⟩ := hmb
  have HMX := Lib.hid hmx
  have g5 := cell_later b8 HV5.out
  have hms := World.ownsMap_made w8 Tryz.prog 3 (plainElem (H := Unit) Tryz.prog 4)
  have HMS := Lib.hid hms
  have hbm : Below w8.heap.size w8 (w8.alloc (.map #[] 0)) := (Below.refl _ _).alloc (Nat.le_refl _) _
  have HBM := Lib.hid hbm
  have HB8 := Lib.hid b8
  clear hfar hcn hmx hms e1 b8
  have g5' := cell_later HBM.out g5
  clear hbm
  cases s with
  | false =>
    obtain rfl : sd = 0 := hsi.symm
    clear hsi
    go_wp2_with fail
    go_loopw [74] (fun j wr => ∃ (k nb : Nat) (D : DataW Unit), k ≤ ln ∧ j = .int .i64 k ∧ wr.ownsMap Tryz.prog 3 (plainElem Tryz.prog 4) w8.heap.size nb D ∧ nb ≤ k ∧ Below w8.heap.size w8 wr ∧ ∀ i v, i < k → A[i]? = some v → farV false x v.1 → 1 ≤ Maps.size D) (fun j _ => ln - (intOf j).toNat)
    case atStart => exact ⟨0, 0, _, Nat.zero_le _, rfl, HMS.out, Nat.le_refl _, HBM.out, fun i v hi => by omega⟩
    case round =>
      obtain ⟨k, nb, D, hk, rfl, hown, hnb, hb2, hfr⟩ := hrel
      have HOW := Lib.hid hown
      have HFR := Lib.hid hfr
      have hbs := hb2.size
      have HB2 := Lib.hid (HB8.out.trans (hb2.mono HB8.out.size))
      clear hown hfr
      by_cases hlt : k < ln
      · have kk : (k : Int) < ln := by omega
        have hlt' : k < A.length := by omega
        have hxk : A[k]? = some A[k] := List.getElem?_eq_getElem hlt'
        generalize hit : A[k] = p at *
        obtain ⟨px, pc⟩ := p
        have HXK := Lib.hid hxk
        obtain ⟨bb, off, rfl, hbl, d0, d1⟩ := (HA3.out.call HB2.out).at_ k _ hxk
        have hok := HA3.out.ok _ (List.mem_of_getElem? hxk)
        have HPI := Lib.hid hok.1
        obtain ⟨⟨o1, o2⟩, o3, o4⟩ := hok
        simp only at d0 d1 o1 o2 o3 o4 HPI
        clear hxk hit
        have HSP := Lib.hid (fun W => size_any px HPI.out W)
        obtain ⟨my, hmy⟩ : ∃ my, mag px = my := ⟨_, rfl⟩
        have hmb := mag_bd HPI.out
        rw [hmy] at HSP hmb
        obtain ⟨my0, my1⟩ := hmb
        have HMY := Lib.hid hmy
        have hal : Below wr.heap.size wr (wr.alloc (.cells #[.int .i64 px, .int .u64 pc] 52)) := (Below.refl _ _).alloc (Nat.le_refl _) _
        have HAL := Lib.hid hal
        have y0 : (wr.alloc (.cells #[.int .i64 px, .int .u64 pc] 52)).cell? ⟨wr.heap.size, 0, none⟩ = some (.int .i64 px) := by go_simp
        have y2 := (HCS.out.call (HB2.out.trans (HAL.out.mono HB2.out.size))).c2
        have hb3 := hb2.trans (HAL.out.mono hb2.size)
        have HB3 := Lib.hid hb3
        have hz0 : px = 0 → my = 0 := fun e => by rw [← HMY.out, e]; rfl
        clear hmy hal hb3
        -- nothing is put: it isn't further out
        have HNO := Lib.hid (fun (hf : ¬ farV false x px) => far_step HXK.out HFR.out (Nat.le_refl (Maps.size D)) (fun h => absurd h hf))
        have HIDX := Lib.hid (fun (h : px ≠ 0) W (hb : Below w3.heap.size w3 W) => rpart13_any W M P false m A my _ (HRK.out.call hb) HPO.out (by rw [← HMY.out]; exact (mag_in HPI.out h).1) (by omega) rfl)
        go_wp2_with fail
        refine (HSP.out _).mono ?_
        rintro e w9 ⟨rfl, rfl⟩
        go_wp2_with fail
        refine (HSX.out _).mono ?_
        rintro e w9 ⟨rfl, rfl⟩
        by_cases ho : mx < my
        · have ho1 : decide (mx < my) = true := decide_eq_true ho
          by_cases sg : decide (px < 0) = decide (x < 0)
          · have sg1 : (decide (px < 0) == decide (x < 0)) = true := by simp [sg]
            have hpn : px ≠ 0 := fun e => by have := hz0 e; omega
            have HID := Lib.hid (HIDX.out hpn)
            obtain ⟨ii, hii⟩ : ∃ ii, P.idx my = ii := ⟨_, rfl⟩
            have hib := pt_idx HPO.out (m := my) (by omega) (by omega)
            rw [hii] at HID hib
            have hkey : keyOf Tryz.prog 3 (.int .i64 ii) = some (.int .i64 ii) := Maps.keyOf_int_mk Tryz.underlying3 (wf_i64 (by unfold I64; omega))
            have HKEY := Lib.hid hkey
            have hpp := put_pos HOW.out (.int .i64 ii) (.lit (.bool true))
            have HST : Hid (∀ (i : Nat) (v : PairV), i < k + 1 → A[i]? = some v → farV false x v.1 → 1 ≤ Maps.size (D.put (.int .i64 ii) (.lit (.bool true)))) := Lib.hid (fun i v _ _ _ => hpp)
            clear hib hkey hpp hii hz0
            go_wp2_with fail
            refine (HSP.out _).mono ?_
            rintro e w9 ⟨rfl, rfl⟩
            go_wp2_with fail
            refine (HID.out _ (HB2.out.trans (HAL.out.mono HB2.out.size))).mono ?_
            rintro e w10 ⟨rfl, b10⟩
            have HOW2 := Lib.hid (ownsmap_below (ownsmap_below HOW.out HAL.out) b10)
            have HB10 := Lib.hid (HB3.out.trans (b10.mono HB3.out.size))
            have hz10 := HB10.out.size
            clear b10
            go_wp2_with (at_mapUpdate; refine wpList_mapUpdate_own _ rfl _ _ _ 50 rfl 3 4 lawInt Tryz.underlying50 _ w8.heap.size nb _ rfl HOW2.out (by unfold maxLen; omega) _ _ _ rfl rfl HKEY.out _ [] (plainElem_bool Tryz.underlying4 true) ?_; intro w11 hown11 hg11)
            go_roundw
            case rel => exact ⟨k + 1, nb + 1, _, by omega, by go_num, hown11, by omega, HB10.out.grown hg11 HB10.out.size (fun j hj => by cases hj; exact Nat.le_refl _), HST.out⟩
            case measure => simp [intOf]; omega
          · have sg1 : (decide (px < 0) == decide (x < 0)) = false := beq_eq_false_iff_ne.2 sg
            clear hz0
            go_wp2_with fail
            go_roundw
            case rel => exact ⟨k + 1, nb, D, by omega, by go_num, ownsmap_below HOW.out HAL.out, by omega, HB3.out, HNO.out (fun h => sg h.2.1)⟩
            case measure => simp [intOf]; omega
        · have ho1 : decide (mx < my) = false := decide_eq_false ho
          clear hz0
          go_wp2_with fail
          go_roundw
          case rel => exact ⟨k + 1, nb, D, by omega, by go_num, ownsmap_below HOW.out HAL.out, by omega, HB3.out, HNO.out (fun h => by have h3 := h.2.2; rw [if_neg (by decide), HMX.out, HMY.out] at h3; omega)⟩
          case measure => simp [intOf]; omega
      · obtain rfl : k = ln := by omega
        have kk : ¬ (k : Int) < k := by omega
        obtain ⟨v, hv, hfv⟩ := HFAR.out
        obtain ⟨i, hi⟩ := List.getElem?_of_mem hv
        have hil : i < k := by
          have := (List.getElem?_eq_some_iff.1 hi).1
          omega
        have h1 := HFR.out i v hil hi hfv
        have hlen := fun ty => HOW.out.len Tryz.underlying50 ty
        obtain ⟨z, hzz⟩ : ∃ z : Nat, Maps.size D = z := ⟨_, rfl⟩
        rw [hzz] at hlen h1
        have h1i : (0 : Int) < z := by omega
        clear hv hi hil hfv hzz
        go_wp2_with fail
        go_ret
        exact ⟨ret_bool (by simp [HXN.out]; omega), b3.trans (HB2.out.mono b3.size)⟩
  | true =>
    obtain rfl : sd = 1 := hsi.symm
    clear hsi
    go_wp2_with fail
    go_loopw [74] (fun j wr => ∃ (k nb : Nat) (D : DataW Unit), k ≤ ln ∧ j = .int .i64 k ∧ wr.ownsMap Tryz.prog 3 (plainElem Tryz.prog 4) w8.heap.size nb D ∧ nb ≤ k ∧ Below w8.heap.size w8 wr ∧ ∀ i v, i < k → A[i]? = some v → farV true x v.1 → 1 ≤ Maps.size D) (fun j _ => ln - (intOf j).toNat)
    case atStart => exact ⟨0, 0, _, Nat.zero_le _, rfl, HMS.out, Nat.le_refl _, HBM.out, fun i v hi => by omega⟩
    case round =>
      obtain ⟨k, nb, D, hk, rfl, hown, hnb, hb2, hfr⟩ := hrel
      have HOW := Lib.hid hown
      have HFR := Lib.hid hfr
      have hbs := hb2.size
      have HB2 := Lib.hid (HB8.out.trans (hb2.mono HB8.out.size))
      clear hown hfr
      by_cases hlt : k < ln
      · have kk : (k : Int) < ln := by omega
        have hlt' : k < A.length := by omega
        have hxk : A[k]? = some A[k] := List.getElem?_eq_getElem hlt'
        generalize hit : A[k] = p at *
        obtain ⟨px, pc⟩ := p
        have HXK := Lib.hid hxk
        obtain ⟨bb, off, rfl, hbl, d0, d1⟩ := (HA3.out.call HB2.out).at_ k _ hxk
        have hok := HA3.out.ok _ (List.mem_of_getElem? hxk)
        have HPI := Lib.hid hok.1
        obtain ⟨⟨o1, o2⟩, o3, o4⟩ := hok
        simp only at d0 d1 o1 o2 o3 o4 HPI
        clear hxk hit
        have HSP := Lib.hid (fun W => size_any px HPI.out W)
        obtain ⟨my, hmy⟩ : ∃ my, mag px = my := ⟨_, rfl⟩
        have hmb := mag_bd HPI.out
        rw [hmy] at HSP hmb
        obtain ⟨my0, my1⟩ := hmb
        have HMY := Lib.hid hmy
        have hal : Below wr.heap.size wr (wr.alloc (.cells #[.int .i64 px, .int .u64 pc] 52)) := (Below.refl _ _).alloc (Nat.le_refl _) _
        have HAL := Lib.hid hal
        have y0 : (wr.alloc (.cells #[.int .i64 px, .int .u64 pc] 52)).cell? ⟨wr.heap.size, 0, none⟩ = some (.int .i64 px) := by go_simp
        have y2 := (HCS.out.call (HB2.out.trans (HAL.out.mono HB2.out.size))).c2
        have hb3 := hb2.trans (HAL.out.mono hb2.size)
        have HB3 := Lib.hid hb3
        have hz0 : px = 0 → my = 0 := fun e => by rw [← HMY.out, e]; rfl
        clear hmy hal hb3
        -- nothing is put: it isn't further out
        have HNO := Lib.hid (fun (hf : ¬ farV true x px) => far_step HXK.out HFR.out (Nat.le_refl (Maps.size D)) (fun h => absurd h hf))
        have HIDX := Lib.hid (fun (h : px ≠ 0) W (hb : Below w3.heap.size w3 W) => rpart13_any W M P true m A my _ (HRK.out.call hb) HPO.out (by rw [← HMY.out]; exact (mag_in HPI.out h).1) (by omega) rfl)
        go_wp2_with fail
        refine (HSP.out _).mono ?_
        rintro e w9 ⟨rfl, rfl⟩
        go_wp2_with fail
        refine (HSX.out _).mono ?_
        rintro e w9 ⟨rfl, rfl⟩
        obtain ⟨db, hdb⟩ : ∃ db, decide (mx < my) = db := ⟨_, rfl⟩
        go_wp2_with fail
        refine (HSP.out _).mono ?_
        rintro e w9 ⟨rfl, rfl⟩
        go_wp2_with fail
        refine (HSX.out _).mono ?_
        rintro e w9 ⟨rfl, rfl⟩
        by_cases ho : my < mx
        · have ho1 : decide (my < mx) = true := decide_eq_true ho
          by_cases hpz : px = 0
          · subst hpz
            go_wp2_with fail
            go_roundw
            case rel => exact ⟨k + 1, nb, D, by omega, by go_num, ownsmap_below HOW.out HAL.out, by omega, HB3.out, HNO.out (fun h => h.1 rfl)⟩
            case measure => simp [intOf]; omega
          · have hpz1 : (px == 0) = false := beq_eq_false_iff_ne.2 hpz
            by_cases sg : decide (px < 0) = decide (x < 0)
            · have sg1 : (decide (px < 0) == decide (x < 0)) = true := by simp [sg]
              have hpn : px ≠ 0 := hpz
              have HID := Lib.hid (HIDX.out hpn)
              obtain ⟨ii, hii⟩ : ∃ ii, P.idx my = ii := ⟨_, rfl⟩
              have hib := pt_idx HPO.out (m := my) (by rw [← HMY.out]; exact (mag_in HPI.out hpz).1) (by omega)
              rw [hii] at HID hib
              have hkey : keyOf Tryz.prog 3 (.int .i64 ii) = some (.int .i64 ii) := Maps.keyOf_int_mk Tryz.underlying3 (wf_i64 (by unfold I64; omega))
              have HKEY := Lib.hid hkey
              have hpp := put_pos HOW.out (.int .i64 ii) (.lit (.bool true))
              have HST : Hid (∀ (i : Nat) (v : PairV), i < k + 1 → A[i]? = some v → farV true x v.1 → 1 ≤ Maps.size (D.put (.int .i64 ii) (.lit (.bool true)))) := Lib.hid (fun i v _ _ _ => hpp)
              clear hib hkey hpp hii hz0
              go_wp2_with fail
              refine (HSP.out _).mono ?_
              rintro e w9 ⟨rfl, rfl⟩
              go_wp2_with fail
              refine (HID.out _ (HB2.out.trans (HAL.out.mono HB2.out.size))).mono ?_
              rintro e w10 ⟨rfl, b10⟩
              have HOW2 := Lib.hid (ownsmap_below (ownsmap_below HOW.out HAL.out) b10)
              have HB10 := Lib.hid (HB3.out.trans (b10.mono HB3.out.size))
              have hz10 := HB10.out.size
              clear b10
              go_wp2_with (at_mapUpdate; refine wpList_mapUpdate_own _ rfl _ _ _ 50 rfl 3 4 lawInt Tryz.underlying50 _ w8.heap.size nb _ rfl HOW2.out (by unfold maxLen; omega) _ _ _ rfl rfl HKEY.out _ [] (plainElem_bool Tryz.underlying4 true) ?_; intro w11 hown11 hg11)
              go_roundw
              case rel => exact ⟨k + 1, nb + 1, _, by omega, by go_num, hown11, by omega, HB10.out.grown hg11 HB10.out.size (fun j hj => by cases hj; exact Nat.le_refl _), HST.out⟩
              case measure => simp [intOf]; omega
            · have sg1 : (decide (px < 0) == decide (x < 0)) = false := beq_eq_false_iff_ne.2 sg
              clear hz0
              go_wp2_with fail
              go_roundw
              case rel => exact ⟨k + 1, nb, D, by omega, by go_num, ownsmap_below HOW.out HAL.out, by omega, HB3.out, HNO.out (fun h => sg h.2.1)⟩
              case measure => simp [intOf]; omega
        · have ho1 : decide (my < mx) = false := decide_eq_false ho
          clear hz0
          go_wp2_with fail
          go_roundw
          case rel => exact ⟨k + 1, nb, D, by omega, by go_num, ownsmap_below HOW.out HAL.out, by omega, HB3.out, HNO.out (fun h => by have h3 := h.2.2; rw [if_pos rfl, HMX.out, HMY.out] at h3; omega)⟩
          case measure => simp [intOf]; omega
      · obtain rfl : k = ln := by omega
        have kk : ¬ (k : Int) < k := by omega
        obtain ⟨v, hv, hfv⟩ := HFAR.out
        obtain ⟨i, hi⟩ := List.getElem?_of_mem hv
        have hil : i < k := by
          have := (List.getElem?_eq_some_iff.1 hi).1
          omega
        have h1 := HFR.out i v hil hi hfv
        have hlen := fun ty => HOW.out.len Tryz.underlying50 ty
        obtain ⟨z, hzz⟩ : ∃ z : Nat, Maps.size D = z := ⟨_, rfl⟩
        rw [hzz] at hlen h1
        have h1i : (0 : Int) < z := by omega
        clear hv hi hil hfv hzz
        go_wp2_with fail
        go_ret
        exact ⟨ret_bool (by simp [HXN.out]; omega), b3.trans (HB2.out.mono b3.size)⟩
end Go.Proofs.YtcijflakldggaaaGreat
