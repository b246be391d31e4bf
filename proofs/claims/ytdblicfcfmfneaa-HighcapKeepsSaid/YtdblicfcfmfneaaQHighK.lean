/-
  The law HighcapKeeps, walked (written by wip/tools/gen_low_k.py).
-/
import Derived.Test.YtdblicfcfmfneaaK2
import Derived.BigQuiet
namespace Go.Proofs.Ytdblicfcfmfneaa
set_option linter.unusedVariables false
set_option linter.unusedSimpArgs false
open Go.RowKit

set_option maxRecDepth 100000 in
set_option maxHeartbeats 8000000 in
theorem lkeeps_walk {Hw : World → Nat → (Nat → Prop) → Int → List PairV → Int → Prop} (D : HighDoes Hw) (w : World) (m : Int) (A : Option Addr) (cap : Nat) (L : List PairV) (o : Int) (hm : I64 m) (h : Pairs w A L) (hl : L.length ≤ 140737488351232) (ho : I64 o) :
    Calls Try.prog 3 #[.int .i64 m, .slice A L.length cap, .int .i64 o] w fun e w' => e = .returned (.bool true) ∧ Below w.heap.size w w' := by
  have HD := Lib.hid D
  have HP := Lib.hid h
  have HO := Lib.hid ho
  obtain ⟨gb, hgb⟩ : ∃ b, grtB m L = b := ⟨_, rfl⟩
  have HGR : Hid (∀ w', Below w.heap.size w w' → Calls Try.prog 9 #[.int .i64 m, .slice A L.length cap] w' fun e w'' => e = .returned (.bool gb) ∧ Below w'.heap.size w' w'') := Lib.hid (fun w' hw => grt_any w' m A cap L gb (h.call hw) hl hm hgb)
  have HGB := Lib.hid hgb
  obtain ⟨m0, m1'⟩ := hm
  obtain ⟨o0, o1'⟩ := ho
  clear D h hgb
  cases gb with
  | true =>
    go_enter Try.func3, Try.ntmps3
    go_wp2_with fail
    refine (lalive_any HD.out _).mono ?_
    rintro e w0 ⟨rfl, b0⟩
    go_wp2_with fail
    refine (HGR.out _ b0).mono ?_
    rintro e w1 ⟨rfl, b1⟩
    go_wp2_with fail
    go_ret
    exact ⟨rfl, b0.trans (b1.mono b0.size)⟩
  | false =>
    have PL := Lib.hid (grt_false.1 HGB.out)
    have m1 := PL.out.m1
    have m2 := PL.out.m2
    have hll := PL.out.len
    have HE := Lib.hid PL.out.each
    go_enter Try.func3, Try.ntmps3
    go_wp2_with fail
    refine (lalive_any HD.out _).mono ?_
    rintro e w0 ⟨rfl, b0⟩
    go_wp2_with fail
    refine (HGR.out _ b0).mono ?_
    rintro e w00 ⟨rfl, b00⟩
    have HB0 := Lib.hid (b0.trans (b00.mono b0.size))
    clear b0 b00
    go_wp2_with fail
    refine (HD.out.new _ m m1 m2).mono ?_
    rintro e w1 ⟨B, S, rfl, h1, hs1, b1⟩
    obtain ⟨M, hM⟩ : ∃ M, w1.heap.size = M := ⟨_, rfl⟩
    have hlt1 := HD.out.lt _ _ _ _ _ _ h1
    have hbm : Below w1.heap.size w1 (w1.alloc (.cells #[.int .i64 m, .slice none 0 0] 31)) := (Below.refl _ _).alloc (Nat.le_refl _) _
    have HSD : Hid (SideH Hw w.heap.size (w1.alloc (.cells #[.int .i64 m, .slice none 0 0] 31)) B S m [] M (.slice none 0 0)) := Lib.hid
      ⟨HD.out.call h1 hbm, by rw [← hM]; exact RefS.mk_new w1 m _, fun k hk => Nat.le_trans HB0.out.size (hs1 k hk), fun x hx => ⟨by have := hlt1 x hx; omega, by simp [Value.ownBlock]⟩, by rw [← hM]; exact Nat.le_trans HB0.out.size b1.size⟩
    have hb01 := HB0.out.trans (b1.mono HB0.out.size)
    have hbb := hb01.alloc hb01.size (.cells #[.int .i64 m, .slice none 0 0] 31)
    clear h1 hs1 b1 hlt1 hbm hb01
    go_wp2_with fail
    clear hM
    go_loopg [28] L.length (fun g j wr => ∃ (k : Nat) (S' : Nat → Prop) (v : Value) (R : List PairV), k ≤ L.length ∧ g = L.length - k ∧ j = .int .i64 k ∧ R = foldP (L.take k) ∧ SideH Hw w.heap.size wr B S' m R M v ∧ Sum50 R k ∧ Below w.heap.size w wr)
    case atStart => exact ⟨0, S, _, [], Nat.zero_le _, rfl, rfl, rfl, HSD.out, Sum50.nil, hbb⟩
    case round =>
      clear hbb HSD
      obtain ⟨k, S', v, R, hk, rfl, rfl, hR, hsd, hsum, hb2⟩ := hrel
      have hbs := hb2.size
      have HSD := Lib.hid hsd
      have HSM := Lib.hid hsum
      have HRR := Lib.hid hR
      clear hsd hsum hR
      by_cases hlt : k < L.length
      · have kk : (k : Int) < L.length := by omega
        have hxk : L[k]? = some L[k] := List.getElem?_eq_getElem hlt
        generalize hit : L[k] = x at *
        obtain ⟨xi, xc⟩ := x
        obtain ⟨b1, off, rfl, hbl, c0, c1⟩ := (HP.out.call hb2).at_ k _ hxk
        simp only at c0 c1
        have hok := HP.out.ok _ (List.mem_of_getElem? hxk)
        have hfe := HE.out _ (List.mem_of_getElem? hxk)
        have HOK := Lib.hid hok
        obtain ⟨hs50, hsadd⟩ := HSM.out.add hok hfe.1 hfe.2 (by omega)
        simp only at hs50 hsadd hfe
        have hRk : addP R xi xc = foldP (L.take (k + 1)) := by rw [take_snocP hxk, fold_snoc, ← HRR.out]
        have HRK := Lib.hid hRk
        have HS50 := Lib.hid hs50
        have HSA := Lib.hid hsadd
        obtain ⟨⟨o1, o2⟩, o3, o4⟩ := hok
        simp only at o1 o2 o3 o4
        have hba := hb2.alloc hbs (.cells #[.int .i64 xi, .int .u64 xc] 34)
        have HSDA := Lib.hid (SideH.call HD.out HSD.out ((Below.refl _ _).alloc (Nat.le_refl _) (.cells #[.int .i64 xi, .int .u64 xc] 34)))
        have hz : lwErr (sumP R) xc = 0 := by
          have h3 := HSM.out.sum
          unfold lwErr; rw [if_neg (by omega), if_neg (by omega)]
        have hle : (keepH m R).length ≤ 700 := Nat.le_trans (keeph_le m R) (by have := HSM.out.len; omega)
        have hrow : hgRow m (keepH m R) (sumP R) xi xc = keepH m (addP R xi xc) := by
          unfold hgRow; rw [if_pos hz]; exact keeph_add (by omega) HSM.out.good (by have := HSM.out.sum; have := count_le_sum xi (ok_pos HSM.out.ok); omega) hfe.1
        have hsumm : lwSum (sumP R) xc = sumP (addP R xi xc) := by unfold lwSum; rw [if_pos hz, hsadd]
        have HADD := Lib.hid (HD.out.add _ B S' m (keepH m R) (sumP R) xi xc HSDA.out.st hle HOK.out.1 HOK.out.2)
        rw [hz, hrow, hsumm] at HADD
        have HBA := Lib.hid hba
        obtain ⟨q0, q1⟩ := two_new9 wr (.int .i64 xi) (.int .u64 xc) 34
        obtain ⟨wa, hwa⟩ : ∃ wa, wr.alloc (.cells #[.int .i64 xi, .int .u64 xc] 34) = wa := ⟨_, rfl⟩
        have hza : wa.heap.size = wr.heap.size + 1 := by rw [← hwa]; simp
        rw [hwa] at HSDA HADD HBA q0 q1
        have HZA := Lib.hid hza
        clear hxk hit hs50 hsadd hRk hz hrow hsumm hle hba hza
        go_wp2_with fail
        clear hwa
        refine HADD.out.mono ?_
        rintro e w3 ⟨S3, rfl, h3, k3, hs3⟩
        have hnw : ¬ S' wr.heap.size := fun hx => by have := HD.out.lt _ _ _ _ _ _ HSD.out.st _ hx; omega
        have pp0 := k3.cell hnw q0
        have pp1 := k3.cell hnw q1
        have hr3 := HSDA.out.past k3
        obtain ⟨av, cv, hve, hPv, d0, d1⟩ := hr3.row HSM.out.ok
        have H3 := Lib.hid h3
        have K3 := Lib.hid k3
        have HS3 := Lib.hid hs3
        have HPV := Lib.hid hPv
        have hb3 := k3.below HBA.out HBA.out.size HSDA.out.above
        have HB3 := Lib.hid hb3
        have frC : Hid (∀ wx, Below w3.drew.heap.size w3.drew wx → wx.frozen? ⟨M, 1, none⟩ = false) := Lib.hid (fun wx hx => (hr3.1.call ((Below.refl _ _).drew.trans hx)).f1)
        have HADR : Hid (∀ wx, Below w3.heap.size w3 wx → Calls Try.prog 12 #[.slice av R.length cv, .int .i64 xi, .int .u64 xc] wx fun e w' => ∃ v, e = .returned v ∧ OwnP w' wx.heap.size v (addP R xi xc) ∧ Below wx.heap.size wx w') := Lib.hid (fun wx hx =>
          radd_any wx av cv R xi xc _ (HPV.out.call hx) (by have := HSM.out.len; omega) HOK.out.1 HOK.out.2 rfl (by have := count_le_sum xi (ok_pos HSM.out.ok); have := HSM.out.sum; omega))
        have hMP : M ≠ wr.heap.size := by have := HSD.out.rf.lt; omega
        have D1 := Lib.hid d1
        have PP0 := Lib.hid pp0
        have PP1 := Lib.hid pp1
        clear h3 k3 hs3 hPv hb3 hr3 hnw c0 c1 q0 q1 d0
        go_wp2_with fail
        refine wp_region_noPanic ?_
        refine wp_region_held_drew (S := fun w' => w'.cell? ⟨wr.heap.size, 0, none⟩ = some (.int .i64 xi) ∧ w'.cell? ⟨wr.heap.size, 1, none⟩ = some (.int .u64 xc)) (by kernel_rfl) (⟨by go_simp, by go_simp⟩) (fun hHeld => ?_)
        refine wpAnyH_take (i := 0) (oi := _) (v := ?v1) (by simp only [List.getElem?_toArray, List.getElem?_cons_succ, List.getElem?_cons_zero]; rfl) (by kernel_rfl) (by kernel_rfl) (by kernel_rfl) (fun _ _ _ h => h) (Or.inl ⟨by rfl, ?y1⟩) hHeld ?r1
        case y1 => (intro w hSw; (try dsimp only at hSw); go_simp; try with_reducible rfl)
        try simp only [Act.put, List.setIfInBounds_toArray, List.set_cons_zero, List.set_cons_succ]
        refine wpAnyH_take (i := 1) (oi := _) (v := ?v2) (by simp only [List.getElem?_toArray, List.getElem?_cons_succ, List.getElem?_cons_zero]; rfl) (by kernel_rfl) (by kernel_rfl) (by kernel_rfl) (fun _ _ _ h => h) (Or.inl ⟨by rfl, ?y2⟩) hHeld ?r2
        case y2 => (intro w hSw; (try dsimp only at hSw); go_simp; try with_reducible rfl)
        try simp only [Act.put, List.setIfInBounds_toArray, List.set_cons_zero, List.set_cons_succ]
        refine wpAnyH_take (i := 2) (oi := _) (v := ?v3) (by simp only [List.getElem?_toArray, List.getElem?_cons_succ, List.getElem?_cons_zero]; rfl) (by kernel_rfl) (by kernel_rfl) (by kernel_rfl) (fun _ _ _ h => h) (Or.inl ⟨by rfl, ?y3⟩) hHeld ?r3
        case y3 => (intro w hSw; (try dsimp only at hSw); go_simp; try with_reducible rfl)
        try simp only [Act.put, List.setIfInBounds_toArray, List.set_cons_zero, List.set_cons_succ]
        refine wpAnyH_take (i := 3) (oi := _) (v := ?v4) (by simp only [List.getElem?_toArray, List.getElem?_cons_succ, List.getElem?_cons_zero]; rfl) (by kernel_rfl) (by kernel_rfl) (by kernel_rfl) (fun _ _ _ h => h) (Or.inl ⟨by rfl, ?y4⟩) hHeld ?r4
        case y4 => (intro w hSw; (try dsimp only at hSw); go_simp; try with_reducible rfl)
        try simp only [Act.put, List.setIfInBounds_toArray, List.set_cons_zero, List.set_cons_succ]
        refine wpAnyH_take (i := 5) (oi := _) (v := ?v5) (by simp only [List.getElem?_toArray, List.getElem?_cons_succ, List.getElem?_cons_zero]; rfl) (by kernel_rfl) (by kernel_rfl) (by kernel_rfl) (fun _ _ _ h => h) (Or.inl ⟨by rfl, ?y5⟩) hHeld ?r5
        case y5 => (intro w hSw; (try dsimp only at hSw); go_simp; try with_reducible rfl)
        try simp only [Act.put, List.setIfInBounds_toArray, List.set_cons_zero, List.set_cons_succ]
        refine wpAnyH_take (i := 6) (oi := _) (v := ?v6) (by simp only [List.getElem?_toArray, List.getElem?_cons_succ, List.getElem?_cons_zero]; rfl) (by kernel_rfl) (by kernel_rfl) (by kernel_rfl) (fun _ _ _ h => h) (Or.inl ⟨by rfl, ?y6⟩) hHeld ?r6
        case y6 => (intro w hSw; (try dsimp only at hSw); go_simp; try with_reducible rfl)
        try simp only [Act.put, List.setIfInBounds_toArray, List.set_cons_zero, List.set_cons_succ]
        refine wpAnyH_take (i := 7) (oi := _) (v := ?v7) (by simp only [List.getElem?_toArray, List.getElem?_cons_succ, List.getElem?_cons_zero]; rfl) (by kernel_rfl) (by kernel_rfl) (by kernel_rfl) (fun _ _ _ h => h) (Or.inl ⟨by rfl, ?y7⟩) hHeld ?r7
        case y7 => (intro w hSw; (try dsimp only at hSw); go_simp; try with_reducible rfl)
        try simp only [Act.put, List.setIfInBounds_toArray, List.set_cons_zero, List.set_cons_succ]
        refine wpAnyH_take (i := 8) (oi := _) (v := ?v8) (by simp only [List.getElem?_toArray, List.getElem?_cons_succ, List.getElem?_cons_zero]; rfl) (by kernel_rfl) (by kernel_rfl) (by kernel_rfl) (fun _ _ _ h => h) (Or.inl ⟨by rfl, ?y8⟩) hHeld ?r8
        case y8 => (intro w hSw; (try dsimp only at hSw); go_simp; try with_reducible rfl)
        try simp only [Act.put, List.setIfInBounds_toArray, List.set_cons_zero, List.set_cons_succ]
        have dd1 : w3.drew.cell? ⟨M, 1, none⟩ = some (.slice av R.length cv) := cell_later (Below.refl _ _).drew D1.out
        refine wpAnyH_ready (rs := [4]) (by kernel_rfl) (by simp) ?_
        refine AllReadyH.cons (o := _) (by simp only [List.getElem?_toArray, List.getElem?_cons_succ, List.getElem?_cons_zero]; rfl) (fun K hK => ?_) AllReadyH.nil
        go_simp
        try (go_wp2_with fail)
        refine hK.out _ _ (⟨hHeld.1, hHeld.2⟩) (fun hHeld => ?_)
        clear hK K
        try simp only [Act.put, List.setIfInBounds_toArray, List.set_cons_zero, List.set_cons_succ]
        refine wpAnyH_ready (rs := [9]) (by kernel_rfl) (by simp) ?_
        refine AllReadyH.cons (o := _) (by simp only [List.getElem?_toArray, List.getElem?_cons_succ, List.getElem?_cons_zero]; rfl) (fun K hK => ?_) AllReadyH.nil
        go_simp
        refine (HADR.out _ (Below.refl _ _).drew).mono ?_
        rintro e wC ⟨v4, rfl, ho4, hbC⟩
        obtain ⟨A4, c4, rfl⟩ := ho4.form
        have gC := cell_later hbC dd1
        have fC := frC.out _ hbC
        try (go_wp2_with fail)
        refine hK.out _ _ (⟨cell_later hbC hHeld.1, cell_later hbC hHeld.2⟩) (fun hHeld => ?_)
        clear hK K
        try simp only [Act.put, List.setIfInBounds_toArray, List.set_cons_zero, List.set_cons_succ]
        have HBC := Lib.hid hbC
        have HO4 := Lib.hid ho4
        clear hbC ho4
        refine wpAnyH_take (i := 10) (oi := _) (v := ?v9) (by simp only [List.getElem?_toArray, List.getElem?_cons_succ, List.getElem?_cons_zero]; rfl) (by kernel_rfl) (by kernel_rfl) (by kernel_rfl) (fun _ _ _ h => h) (Or.inl ⟨by rfl, ?y9⟩) hHeld ?r9
        case y9 => (intro w hSw; (try dsimp only at hSw); go_simp; try with_reducible rfl)
        try simp only [Act.put, List.setIfInBounds_toArray, List.set_cons_zero, List.set_cons_succ]
        refine wpAnyH_take (i := 11) (oi := _) (v := ?v10) (by simp only [List.getElem?_toArray, List.getElem?_cons_succ, List.getElem?_cons_zero]; rfl) (by kernel_rfl) (by kernel_rfl) (by kernel_rfl) (fun _ _ _ h => h) (Or.inl ⟨by rfl, ?y10⟩) hHeld ?r10
        case y10 => (intro w hSw; (try dsimp only at hSw); go_simp; try with_reducible rfl)
        try simp only [Act.put, List.setIfInBounds_toArray, List.set_cons_zero, List.set_cons_succ]
        refine wpAnyH_ready (rs := [12]) (by kernel_rfl) (by simp) ?_
        refine AllReadyH.cons (o := _) (by simp only [List.getElem?_toArray, List.getElem?_cons_succ, List.getElem?_cons_zero]; rfl) (fun K hK => ?_) AllReadyH.nil
        go_simp
        try (go_wp2_with fail)
        refine hK.out _ _ (⟨by rw [World.cell?_setCell_other _ _ _ _ (two_far hMP)]; exact hHeld.1, by rw [World.cell?_setCell_other _ _ _ _ (two_far hMP)]; exact hHeld.2⟩) (fun hHeld => ?_)
        clear hK K
        try simp only [Act.put, List.setIfInBounds_toArray, List.set_cons_zero, List.set_cons_succ]
        clear gC fC dd1
        refine wpAnyH_done (by kernel_rfl) ?_ _
        refine NoPanic.normal ?_
        have hbC2 : Below w3.heap.size w3 wC := (Below.refl w3.heap.size w3).drew.trans HBC.out
        have hst := SideH.step HD.out HSDA.out H3.out K3.out HS3.out HBA.out.size hbC2 HO4.out
        have hb9 := (HB3.out.trans (hbC2.mono HB3.out.size)).setCell (p := ⟨M, 1, none⟩) HSDA.out.mab (.slice A4 (addP R xi xc).length c4)
        obtain ⟨wK, hwK⟩ : ∃ wK, wC.setCell ⟨M, 1, none⟩ (.slice A4 (addP R xi xc).length c4) = wK := ⟨_, rfl⟩
        rw [hwK] at hst hb9
        rw [hwK]
        have HST := Lib.hid hst
        have HB9 := Lib.hid hb9
        obtain ⟨RR, hRR⟩ : ∃ RR, addP R xi xc = RR := ⟨_, rfl⟩
        rw [hRR] at HST HRK HS50
        rw [hRR]
        have HRRE := Lib.hid hRR
        have hRl := HS50.out.len
        have hRs := HS50.out.sum
        have hRp := sumP_pos (ok_pos HS50.out.ok)
        have hkl : (keepH m RR).length ≤ 700 := Nat.le_trans (keeph_le m RR) (by omega)
        have HKL := Lib.hid hkl
        have hkm := keeph_len (m := m) (L := RR) (by omega) HS50.out.good
        obtain ⟨KN, hKN⟩ : ∃ n, (keepH m RR).length = n := ⟨_, rfl⟩
        have HKN := Lib.hid hKN
        rw [hKN] at hkm
        have hkm2 : ¬ m < (KN : Int) := by omega
        have hkm3 : decide (m < (KN : Int)) = false := decide_eq_false hkm2
        obtain ⟨T, hT⟩ : ∃ T, sumP RR = T := ⟨_, rfl⟩
        have HT := Lib.hid hT
        rw [hT] at hRs hRp
        obtain ⟨ls, hls⟩ : ∃ ls, T - sumP (keepH m RR) = ls := ⟨_, rfl⟩
        obtain ⟨cn, hcn⟩ : ∃ cn, countP (keepH m RR) o = cn := ⟨_, rfl⟩
        have HLS := Lib.hid hls
        have HCN := Lib.hid hcn
        have hks := keeph_sum m (ok_pos HS50.out.ok)
        have hcs := count_le_sum (L := keepH m RR) o (ok_pos (keeph_ok HS50.out.ok))
        rw [hcn] at hcs
        obtain ⟨av5, cv5, hv5, hP5, d50, d51⟩ := hst.rf.row (by rw [hRR]; exact HS50.out.ok)
        rw [hRR] at hv5 hP5 d51
        injection hv5 with g1 g2 g3
        subst g1 g3
        have HP5 := Lib.hid hP5
        have D51 := Lib.hid d51
        clear hst hb9 hRR hkl hKN hT hls hcn hbC2 hP5 d50 d51 D1 d1 pp0 pp1 PP0 PP1 HBC HO4 hwK H3 K3 HS3 HPV frC HADR hve hHeld
        have DD := D51.out
        go_wp2_with fail
        refine (hrkept_any wK M m _ RR HST.out.rf HS50.out.good HS50.out.ok (by omega) (by omega) m2).mono ?_
        rintro e w5 ⟨u5, rfl, hu5, b5⟩
        obtain ⟨a5, c5, rfl, hq5⟩ := hu5.pairs (keeph_ok HS50.out.ok)
        have HQ5 := Lib.hid hq5
        have HB5 := Lib.hid b5
        have dd5 := cell_later b5 DD
        have DD5 := Lib.hid dd5
        rw [HKN.out]
        clear hu5 hq5 b5 DD
        go_wp2_with fail
        refine wp_region_noPanic ?_
        refine wp_region_held_drew (S := fun w' => w'.cell? ⟨M, 1, none⟩ = some (.slice A4 RR.length c4) ∧ Below w5.heap.size w5 w') (by kernel_rfl) (⟨by go_simp, (Below.refl _ _).drew⟩) (fun hHeld => ?_)
        refine wpAnyH_take (i := 0) (oi := _) (v := ?v11) (by simp only [List.getElem?_toArray, List.getElem?_cons_succ, List.getElem?_cons_zero]; rfl) (by kernel_rfl) (by kernel_rfl) (by kernel_rfl) (fun _ _ _ h => h) (Or.inl ⟨by rfl, ?y11⟩) hHeld ?r11
        case y11 => (intro w hSw; (try dsimp only at hSw); go_simp; try with_reducible rfl)
        try simp only [Act.put, List.setIfInBounds_toArray, List.set_cons_zero, List.set_cons_succ]
        refine wpAnyH_take (i := 2) (oi := _) (v := ?v12) (by simp only [List.getElem?_toArray, List.getElem?_cons_succ, List.getElem?_cons_zero]; rfl) (by kernel_rfl) (by kernel_rfl) (by kernel_rfl) (fun _ _ _ h => h) (Or.inl ⟨by rfl, ?y12⟩) hHeld ?r12
        case y12 => (intro w hSw; (try dsimp only at hSw); go_simp; try with_reducible rfl)
        try simp only [Act.put, List.setIfInBounds_toArray, List.set_cons_zero, List.set_cons_succ]
        refine wpAnyH_ready (rs := [1]) (by kernel_rfl) (by simp) ?_
        refine AllReadyH.cons (o := _) (by simp only [List.getElem?_toArray, List.getElem?_cons_succ, List.getElem?_cons_zero]; rfl) (fun K hK => ?_) AllReadyH.nil
        go_simp
        refine (HD.out.pairs _ B S3 m _ _ (HD.out.call HST.out.st (HB5.out.trans (hHeld.2.mono HB5.out.size))) HKL.out).mono ?_
        rintro e wP ⟨vP, rfl, hoP, bN⟩
        obtain ⟨aP, cP, rfl, hPP⟩ := hoP.pairs (keeph_ok HS50.out.ok)
        rw [HKN.out]
        try (go_wp2_with fail)
        refine hK.out _ _ (⟨cell_later bN hHeld.1, hHeld.2.trans (bN.mono hHeld.2.size)⟩) (fun hHeld => ?_)
        clear hK K
        try simp only [Act.put, List.setIfInBounds_toArray, List.set_cons_zero, List.set_cons_succ]
        have HPP := Lib.hid hPP
        clear hoP hPP bN
        refine wpAnyH_ready (rs := [3]) (by kernel_rfl) (by simp) ?_
        refine AllReadyH.cons (o := _) (by simp only [List.getElem?_toArray, List.getElem?_cons_succ, List.getElem?_cons_zero]; rfl) (fun K hK => ?_) AllReadyH.nil
        go_simp
        have HSAME := Lib.hid (same_any _ aP a5 cP c5 _ _ true (decide_eq_true rfl) HPP.out (HQ5.out.call hHeld.2) (by have := HKL.out; omega) (by have := HKL.out; omega))
        rw [HKN.out] at HSAME
        refine HSAME.out.mono ?_
        rintro e wN ⟨rfl, bN⟩
        try (go_wp2_with fail)
        refine hK.out _ _ (⟨cell_later bN hHeld.1, hHeld.2.trans (bN.mono hHeld.2.size)⟩) (fun hHeld => ?_)
        clear hK K
        try simp only [Act.put, List.setIfInBounds_toArray, List.set_cons_zero, List.set_cons_succ]
        clear bN HSAME
        refine wpAnyH_take (i := 4) (oi := _) (v := ?v13) (by simp only [List.getElem?_toArray, List.getElem?_cons_succ, List.getElem?_cons_zero]; rfl) (by kernel_rfl) (by kernel_rfl) (by kernel_rfl) (fun _ _ _ h => h) (Or.inl ⟨by rfl, ?y13⟩) hHeld ?r13
        case y13 => (intro w hSw; (try dsimp only at hSw); go_simp; try with_reducible rfl)
        try simp only [Act.put, List.setIfInBounds_toArray, List.set_cons_zero, List.set_cons_succ]
        refine wpAnyH_take (i := 5) (oi := _) (v := ?v14) (by simp only [List.getElem?_toArray, List.getElem?_cons_succ, List.getElem?_cons_zero]; rfl) (by kernel_rfl) (by kernel_rfl) (by kernel_rfl) (fun _ _ _ h => h) (Or.inl ⟨by rfl, ?y14⟩) hHeld ?r14
        case y14 => (intro w hSw; (try dsimp only at hSw); go_simp; try with_reducible rfl)
        try simp only [Act.put, List.setIfInBounds_toArray, List.set_cons_zero, List.set_cons_succ]
        refine wpAnyH_take (i := 6) (oi := _) (v := ?v15) (by simp only [List.getElem?_toArray, List.getElem?_cons_succ, List.getElem?_cons_zero]; rfl) (by kernel_rfl) (by kernel_rfl) (by kernel_rfl) (fun _ _ _ h => h) (Or.inl ⟨by rfl, ?y15⟩) hHeld ?r15
        case y15 => (intro w hSw; (try dsimp only at hSw); go_simp; try with_reducible rfl)
        try simp only [Act.put, List.setIfInBounds_toArray, List.set_cons_zero, List.set_cons_succ]
        refine wpAnyH_take (i := 8) (oi := _) (v := ?v16) (by simp only [List.getElem?_toArray, List.getElem?_cons_succ, List.getElem?_cons_zero]; rfl) (by kernel_rfl) (by kernel_rfl) (by kernel_rfl) (fun _ _ _ h => h) (Or.inl ⟨by rfl, ?y16⟩) hHeld ?r16
        case y16 => (intro w hSw; (try dsimp only at hSw); go_simp; try with_reducible rfl)
        try simp only [Act.put, List.setIfInBounds_toArray, List.set_cons_zero, List.set_cons_succ]
        refine wpAnyH_ready (rs := [7]) (by kernel_rfl) (by simp) ?_
        refine AllReadyH.cons (o := _) (by simp only [List.getElem?_toArray, List.getElem?_cons_succ, List.getElem?_cons_zero]; rfl) (fun K hK => ?_) AllReadyH.nil
        go_simp
        refine (HD.out.lost _ B S3 m _ _ (HD.out.call HST.out.st (HB5.out.trans (hHeld.2.mono HB5.out.size)))).mono ?_
        rintro e wN ⟨rfl, bN⟩
        rw [HT.out, HLS.out]
        try (go_wp2_with fail)
        refine hK.out _ _ (⟨cell_later bN hHeld.1, hHeld.2.trans (bN.mono hHeld.2.size)⟩) (fun hHeld => ?_)
        clear hK K
        try simp only [Act.put, List.setIfInBounds_toArray, List.set_cons_zero, List.set_cons_succ]
        clear bN
        refine wpAnyH_ready (rs := [9]) (by kernel_rfl) (by simp) ?_
        refine AllReadyH.cons (o := _) (by simp only [List.getElem?_toArray, List.getElem?_cons_succ, List.getElem?_cons_zero]; rfl) (fun K hK => ?_) AllReadyH.nil
        go_simp
        refine (hrlost_any _ M m _ RR ls (HST.out.rf.call (HB5.out.trans (hHeld.2.mono HB5.out.size))) HS50.out.good HS50.out.ok (by omega) (by omega) m2 (by have := HT.out; omega) (by rw [HT.out]; exact HLS.out)).mono ?_
        rintro e wN ⟨rfl, bN⟩
        try (go_wp2_with fail)
        refine hK.out _ _ (⟨cell_later bN hHeld.1, hHeld.2.trans (bN.mono hHeld.2.size)⟩) (fun hHeld => ?_)
        clear hK K
        try simp only [Act.put, List.setIfInBounds_toArray, List.set_cons_zero, List.set_cons_succ]
        clear bN
        refine wpAnyH_take (i := 10) (oi := _) (v := ?v17) (by simp only [List.getElem?_toArray, List.getElem?_cons_succ, List.getElem?_cons_zero]; rfl) (by kernel_rfl) (by kernel_rfl) (by kernel_rfl) (fun _ _ _ h => h) (Or.inl ⟨by rfl, ?y17⟩) hHeld ?r17
        case y17 => (intro w hSw; (try dsimp only at hSw); go_simp; try with_reducible rfl)
        try simp only [Act.put, List.setIfInBounds_toArray, List.set_cons_zero, List.set_cons_succ]
        refine wpAnyH_take (i := 11) (oi := _) (v := ?v18) (by simp only [List.getElem?_toArray, List.getElem?_cons_succ, List.getElem?_cons_zero]; rfl) (by kernel_rfl) (by kernel_rfl) (by kernel_rfl) (fun _ _ _ h => h) (Or.inl ⟨by rfl, ?y18⟩) hHeld ?r18
        case y18 => (intro w hSw; (try dsimp only at hSw); go_simp; try with_reducible rfl)
        try simp only [Act.put, List.setIfInBounds_toArray, List.set_cons_zero, List.set_cons_succ]
        refine wpAnyH_take (i := 12) (oi := _) (v := ?v19) (by simp only [List.getElem?_toArray, List.getElem?_cons_succ, List.getElem?_cons_zero]; rfl) (by kernel_rfl) (by kernel_rfl) (by kernel_rfl) (fun _ _ _ h => h) (Or.inl ⟨by rfl, ?y19⟩) hHeld ?r19
        case y19 => (intro w hSw; (try dsimp only at hSw); go_simp; try with_reducible rfl)
        try simp only [Act.put, List.setIfInBounds_toArray, List.set_cons_zero, List.set_cons_succ]
        refine wpAnyH_take (i := 13) (oi := _) (v := ?v20) (by simp only [List.getElem?_toArray, List.getElem?_cons_succ, List.getElem?_cons_zero]; rfl) (by kernel_rfl) (by kernel_rfl) (by kernel_rfl) (fun _ _ _ h => h) (Or.inl ⟨by rfl, ?y20⟩) hHeld ?r20
        case y20 => (intro w hSw; (try dsimp only at hSw); go_simp; try with_reducible rfl)
        try simp only [Act.put, List.setIfInBounds_toArray, List.set_cons_zero, List.set_cons_succ]
        refine wpAnyH_take (i := 15) (oi := _) (v := ?v21) (by simp only [List.getElem?_toArray, List.getElem?_cons_succ, List.getElem?_cons_zero]; rfl) (by kernel_rfl) (by kernel_rfl) (by kernel_rfl) (fun _ _ _ h => h) (Or.inl ⟨by rfl, ?y21⟩) hHeld ?r21
        case y21 => (intro w hSw; (try dsimp only at hSw); go_simp; try with_reducible rfl)
        try simp only [Act.put, List.setIfInBounds_toArray, List.set_cons_zero, List.set_cons_succ]
        refine wpAnyH_take (i := 16) (oi := _) (v := ?v22) (by simp only [List.getElem?_toArray, List.getElem?_cons_succ, List.getElem?_cons_zero]; rfl) (by kernel_rfl) (by kernel_rfl) (by kernel_rfl) (fun _ _ _ h => h) (Or.inl ⟨by rfl, ?y22⟩) hHeld ?r22
        case y22 => (intro w hSw; (try dsimp only at hSw); go_simp; try with_reducible rfl)
        try simp only [Act.put, List.setIfInBounds_toArray, List.set_cons_zero, List.set_cons_succ]
        refine wpAnyH_take (i := 17) (oi := _) (v := ?v23) (by simp only [List.getElem?_toArray, List.getElem?_cons_succ, List.getElem?_cons_zero]; rfl) (by kernel_rfl) (by kernel_rfl) (by kernel_rfl) (fun _ _ _ h => h) (Or.inl ⟨by rfl, ?y23⟩) hHeld ?r23
        case y23 => (intro w hSw; (try dsimp only at hSw); go_simp; try with_reducible rfl)
        try simp only [Act.put, List.setIfInBounds_toArray, List.set_cons_zero, List.set_cons_succ]
        refine wpAnyH_take (i := 18) (oi := _) (v := ?v24) (by simp only [List.getElem?_toArray, List.getElem?_cons_succ, List.getElem?_cons_zero]; rfl) (by kernel_rfl) (by kernel_rfl) (by kernel_rfl) (fun _ _ _ h => h) (Or.inl ⟨by rfl, ?y24⟩) hHeld ?r24
        case y24 => (intro w hSw; (try dsimp only at hSw); go_simp; try with_reducible rfl)
        try simp only [Act.put, List.setIfInBounds_toArray, List.set_cons_zero, List.set_cons_succ]
        refine wpAnyH_ready (rs := [14]) (by kernel_rfl) (by simp) ?_
        refine AllReadyH.cons (o := _) (by simp only [List.getElem?_toArray, List.getElem?_cons_succ, List.getElem?_cons_zero]; rfl) (fun K hK => ?_) AllReadyH.nil
        go_simp
        refine (HD.out.total _ B S3 m _ _ (HD.out.call HST.out.st (HB5.out.trans (hHeld.2.mono HB5.out.size))) HKL.out).mono ?_
        rintro e wN ⟨rfl, bN⟩
        rw [HT.out]
        try (go_wp2_with fail)
        refine hK.out _ _ (⟨cell_later bN hHeld.1, hHeld.2.trans (bN.mono hHeld.2.size)⟩) (fun hHeld => ?_)
        clear hK K
        try simp only [Act.put, List.setIfInBounds_toArray, List.set_cons_zero, List.set_cons_succ]
        clear bN
        refine wpAnyH_ready (rs := [19]) (by kernel_rfl) (by simp) ?_
        refine AllReadyH.cons (o := _) (by simp only [List.getElem?_toArray, List.getElem?_cons_succ, List.getElem?_cons_zero]; rfl) (fun K hK => ?_) AllReadyH.nil
        go_simp
        refine (rtotal_any _ A4 c4 RR T (HP5.out.call (HB5.out.trans (hHeld.2.mono HB5.out.size))) (by omega) HT.out (by omega)).mono ?_
        rintro e wN ⟨rfl, bN⟩
        try (go_wp2_with fail)
        refine hK.out _ _ (⟨cell_later bN hHeld.1, hHeld.2.trans (bN.mono hHeld.2.size)⟩) (fun hHeld => ?_)
        clear hK K
        try simp only [Act.put, List.setIfInBounds_toArray, List.set_cons_zero, List.set_cons_succ]
        clear bN
        refine wpAnyH_take (i := 20) (oi := _) (v := ?v25) (by simp only [List.getElem?_toArray, List.getElem?_cons_succ, List.getElem?_cons_zero]; rfl) (by kernel_rfl) (by kernel_rfl) (by kernel_rfl) (fun _ _ _ h => h) (Or.inl ⟨by rfl, ?y25⟩) hHeld ?r25
        case y25 => (intro w hSw; (try dsimp only at hSw); go_simp; try with_reducible rfl)
        try simp only [Act.put, List.setIfInBounds_toArray, List.set_cons_zero, List.set_cons_succ]
        refine wpAnyH_take (i := 21) (oi := _) (v := ?v26) (by simp only [List.getElem?_toArray, List.getElem?_cons_succ, List.getElem?_cons_zero]; rfl) (by kernel_rfl) (by kernel_rfl) (by kernel_rfl) (fun _ _ _ h => h) (Or.inl ⟨by rfl, ?y26⟩) hHeld ?r26
        case y26 => (intro w hSw; (try dsimp only at hSw); go_simp; try with_reducible rfl)
        try simp only [Act.put, List.setIfInBounds_toArray, List.set_cons_zero, List.set_cons_succ]
        refine wpAnyH_take (i := 22) (oi := _) (v := ?v27) (by simp only [List.getElem?_toArray, List.getElem?_cons_succ, List.getElem?_cons_zero]; rfl) (by kernel_rfl) (by kernel_rfl) (by kernel_rfl) (fun _ _ _ h => h) (Or.inl ⟨by rfl, ?y27⟩) hHeld ?r27
        case y27 => (intro w hSw; (try dsimp only at hSw); go_simp; try with_reducible rfl)
        try simp only [Act.put, List.setIfInBounds_toArray, List.set_cons_zero, List.set_cons_succ]
        refine wpAnyH_take (i := 23) (oi := _) (v := ?v28) (by simp only [List.getElem?_toArray, List.getElem?_cons_succ, List.getElem?_cons_zero]; rfl) (by kernel_rfl) (by kernel_rfl) (by kernel_rfl) (fun _ _ _ h => h) (Or.inl ⟨by rfl, ?y28⟩) hHeld ?r28
        case y28 => (intro w hSw; (try dsimp only at hSw); go_simp; try with_reducible rfl)
        try simp only [Act.put, List.setIfInBounds_toArray, List.set_cons_zero, List.set_cons_succ]
        refine wpAnyH_take (i := 24) (oi := _) (v := ?v29) (by simp only [List.getElem?_toArray, List.getElem?_cons_succ, List.getElem?_cons_zero]; rfl) (by kernel_rfl) (by kernel_rfl) (by kernel_rfl) (fun _ _ _ h => h) (Or.inl ⟨by rfl, ?y29⟩) hHeld ?r29
        case y29 => (intro w hSw; (try dsimp only at hSw); go_simp; try with_reducible rfl)
        try simp only [Act.put, List.setIfInBounds_toArray, List.set_cons_zero, List.set_cons_succ]
        refine wpAnyH_take (i := 25) (oi := _) (v := ?v30) (by simp only [List.getElem?_toArray, List.getElem?_cons_succ, List.getElem?_cons_zero]; rfl) (by kernel_rfl) (by kernel_rfl) (by kernel_rfl) (fun _ _ _ h => h) (Or.inl ⟨by rfl, ?y30⟩) hHeld ?r30
        case y30 => (intro w hSw; (try dsimp only at hSw); go_simp; try with_reducible rfl)
        try simp only [Act.put, List.setIfInBounds_toArray, List.set_cons_zero, List.set_cons_succ]
        refine wpAnyH_take (i := 26) (oi := _) (v := ?v31) (by simp only [List.getElem?_toArray, List.getElem?_cons_succ, List.getElem?_cons_zero]; rfl) (by kernel_rfl) (by kernel_rfl) (by kernel_rfl) (fun _ _ _ h => h) (Or.inl ⟨by rfl, ?y31⟩) hHeld ?r31
        case y31 => (intro w hSw; (try dsimp only at hSw); go_simp; try with_reducible rfl)
        try simp only [Act.put, List.setIfInBounds_toArray, List.set_cons_zero, List.set_cons_succ]
        refine wpAnyH_take (i := 27) (oi := _) (v := ?v32) (by simp only [List.getElem?_toArray, List.getElem?_cons_succ, List.getElem?_cons_zero]; rfl) (by kernel_rfl) (by kernel_rfl) (by kernel_rfl) (fun _ _ _ h => h) (Or.inl ⟨by rfl, ?y32⟩) hHeld ?r32
        case y32 => (intro w hSw; (try dsimp only at hSw); go_simp; try with_reducible rfl)
        try simp only [Act.put, List.setIfInBounds_toArray, List.set_cons_zero, List.set_cons_succ]
        refine wpAnyH_take (i := 28) (oi := _) (v := ?v33) (by simp only [List.getElem?_toArray, List.getElem?_cons_succ, List.getElem?_cons_zero]; rfl) (by kernel_rfl) (by kernel_rfl) (by kernel_rfl) (fun _ _ _ h => h) (Or.inl ⟨by rfl, ?y33⟩) hHeld ?r33
        case y33 => (intro w hSw; (try dsimp only at hSw); go_simp; try with_reducible rfl)
        try simp only [Act.put, List.setIfInBounds_toArray, List.set_cons_zero, List.set_cons_succ]
        refine wpAnyH_take (i := 29) (oi := _) (v := ?v34) (by simp only [List.getElem?_toArray, List.getElem?_cons_succ, List.getElem?_cons_zero]; rfl) (by kernel_rfl) (by kernel_rfl) (by kernel_rfl) (fun _ _ _ h => h) (Or.inl ⟨by rfl, ?y34⟩) hHeld ?r34
        case y34 => (intro w hSw; (try dsimp only at hSw); go_simp; try with_reducible rfl)
        try simp only [Act.put, List.setIfInBounds_toArray, List.set_cons_zero, List.set_cons_succ]
        refine wpAnyH_take (i := 30) (oi := _) (v := ?v35) (by simp only [List.getElem?_toArray, List.getElem?_cons_succ, List.getElem?_cons_zero]; rfl) (by kernel_rfl) (by kernel_rfl) (by kernel_rfl) (fun _ _ _ h => h) (Or.inl ⟨by rfl, ?y35⟩) hHeld ?r35
        case y35 => (intro w hSw; (try dsimp only at hSw); go_simp; try with_reducible rfl)
        try simp only [Act.put, List.setIfInBounds_toArray, List.set_cons_zero, List.set_cons_succ]
        refine wpAnyH_take (i := 32) (oi := _) (v := ?v36) (by simp only [List.getElem?_toArray, List.getElem?_cons_succ, List.getElem?_cons_zero]; rfl) (by kernel_rfl) (by kernel_rfl) (by kernel_rfl) (fun _ _ _ h => h) (Or.inl ⟨by rfl, ?y36⟩) hHeld ?r36
        case y36 => (intro w hSw; (try dsimp only at hSw); go_simp; try with_reducible rfl)
        try simp only [Act.put, List.setIfInBounds_toArray, List.set_cons_zero, List.set_cons_succ]
        refine wpAnyH_take (i := 33) (oi := _) (v := ?v37) (by simp only [List.getElem?_toArray, List.getElem?_cons_succ, List.getElem?_cons_zero]; rfl) (by kernel_rfl) (by kernel_rfl) (by kernel_rfl) (fun _ _ _ h => h) (Or.inl ⟨by rfl, ?y37⟩) hHeld ?r37
        case y37 => (intro w hSw; (try dsimp only at hSw); go_simp; try with_reducible rfl)
        try simp only [Act.put, List.setIfInBounds_toArray, List.set_cons_zero, List.set_cons_succ]
        refine wpAnyH_ready (rs := [31]) (by kernel_rfl) (by simp) ?_
        refine AllReadyH.cons (o := _) (by simp only [List.getElem?_toArray, List.getElem?_cons_succ, List.getElem?_cons_zero]; rfl) (fun K hK => ?_) AllReadyH.nil
        go_simp
        refine (HD.out.at_ _ B S3 m _ _ o (HD.out.call HST.out.st (HB5.out.trans (hHeld.2.mono HB5.out.size))) HKL.out HO.out).mono ?_
        rintro e wN ⟨rfl, bN⟩
        rw [HCN.out]
        try (go_wp2_with fail)
        refine hK.out _ _ (⟨cell_later bN hHeld.1, hHeld.2.trans (bN.mono hHeld.2.size)⟩) (fun hHeld => ?_)
        clear hK K
        try simp only [Act.put, List.setIfInBounds_toArray, List.set_cons_zero, List.set_cons_succ]
        clear bN
        refine wpAnyH_ready (rs := [34]) (by kernel_rfl) (by simp) ?_
        refine AllReadyH.cons (o := _) (by simp only [List.getElem?_toArray, List.getElem?_cons_succ, List.getElem?_cons_zero]; rfl) (fun K hK => ?_) AllReadyH.nil
        go_simp
        have HCNT := Lib.hid (rcount_any _ a5 c5 (keepH m RR) o cn (HQ5.out.call hHeld.2) (by have := HKL.out; omega) HO.out HCN.out (by have := HT.out; omega))
        rw [HKN.out] at HCNT
        refine HCNT.out.mono ?_
        rintro e wN ⟨rfl, bN⟩
        try (go_wp2_with fail)
        refine hK.out _ _ (⟨cell_later bN hHeld.1, hHeld.2.trans (bN.mono hHeld.2.size)⟩) (fun hHeld => ?_)
        clear hK K
        try simp only [Act.put, List.setIfInBounds_toArray, List.set_cons_zero, List.set_cons_succ]
        clear bN HCNT
        refine wpAnyH_take (i := 35) (oi := _) (v := ?v38) (by simp only [List.getElem?_toArray, List.getElem?_cons_succ, List.getElem?_cons_zero]; rfl) (by kernel_rfl) (by kernel_rfl) (by kernel_rfl) (fun _ _ _ h => h) (Or.inl ⟨by rfl, ?y38⟩) hHeld ?r38
        case y38 => (intro w hSw; (try dsimp only at hSw); go_simp; try with_reducible rfl)
        try simp only [Act.put, List.setIfInBounds_toArray, List.set_cons_zero, List.set_cons_succ]
        refine wpAnyH_take (i := 36) (oi := _) (v := ?v39) (by simp only [List.getElem?_toArray, List.getElem?_cons_succ, List.getElem?_cons_zero]; rfl) (by kernel_rfl) (by kernel_rfl) (by kernel_rfl) (fun _ _ _ h => h) (Or.inl ⟨by rfl, ?y39⟩) hHeld ?r39
        case y39 => (intro w hSw; (try dsimp only at hSw); go_simp; try with_reducible rfl)
        try simp only [Act.put, List.setIfInBounds_toArray, List.set_cons_zero, List.set_cons_succ]
        refine wpAnyH_done (by kernel_rfl) ?_ _
        refine NoPanic.normal ?_
        have HBE := Lib.hid (HB9.out.trans ((HB5.out.trans (hHeld.2.mono HB5.out.size)).mono HB9.out.size))
        have HSE := Lib.hid (SideH.call HD.out HST.out (HB5.out.trans (hHeld.2.mono HB5.out.size)))
        clear hHeld dd5
        go_wp2_with fail
        go_roundg (L.length - (k + 1))
        case measure => omega
        case rel => exact ⟨k + 1, S3, _, _, hlt, rfl, by go_num, HRK.out, HSE.out, HS50.out, HBE.out⟩
      · obtain rfl : k = L.length := by omega
        have kk : ¬ (L.length : Int) < L.length := by omega
        go_wp2_with fail
        refine (HD.out.most wr B S' m _ _ HSD.out.st).mono ?_
        rintro e w9 ⟨rfl, b9⟩
        go_wp2_with fail
        go_ret
        exact ⟨rfl, hb2.trans (b9.mono hb2.size)⟩
end Go.Proofs.Ytdblicfcfmfneaa
