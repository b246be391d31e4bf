/-
  Walks: the law LogskJoins.
-/
import Derived.Test.YtcijflakldggaaaGreatK7
import Derived.Test.YtcijflakldggaaaGreatQValT
import Derived.Deep.RegionHeld3
namespace Go.Proofs.YtcijflakldggaaaGreat
set_option linter.unusedVariables false
set_option linter.unusedSimpArgs false
open Go.RowKit

theorem join_ends {A B : List PairV} (hA : FineV A) (hB : FineV B) {lo hi lo' hi' : Int} (he : A ≠ [] → lo = loV A ∧ hi = hiV A) (he' : B ≠ [] → lo' = loV B ∧ hi' = hiV B) (hne : A ++ B ≠ []) :
    (if (!(sumP B == 0)) = true then reachL (!(sumP A == 0)) lo' lo else lo) = loV (A ++ B) ∧ (if (!(sumP B == 0)) = true then reachH (!(sumP A == 0)) hi' hi else hi) = hiV (A ++ B) := by
  by_cases zB : B = []
  · have h1 : (sumP B == 0) = true := by simp [(sum_zero hB).2 zB]
    rw [h1]
    subst zB
    rw [List.append_nil] at hne ⊢
    exact he hne
  · have h1 : (sumP B == 0) = false := beq_eq_false_iff_ne.2 (fun e => zB ((sum_zero hB).1 e))
    obtain ⟨e1, e2⟩ := he' zB
    rw [h1]
    by_cases zA : A = []
    · have h2 : (sumP A == 0) = true := by simp [(sum_zero hA).2 zA]
      rw [h2]
      subst zA
      exact ⟨e1, e2⟩
    · have h2 : (sumP A == 0) = false := beq_eq_false_iff_ne.2 (fun e => zA ((sum_zero hA).1 e))
      obtain ⟨e3, e4⟩ := he zA
      obtain ⟨e5, e6⟩ := ends_app zA zB
      rw [h2, e5, e6, e1, e2, e3, e4]
      exact ⟨by show min (loV B) (loV A) = _; omega, by show max (hiV B) (hiV A) = _; omega⟩

set_option maxRecDepth 100000 in
set_option maxHeartbeats 4000000 in
theorem logsk_joins_walk {Bn : BnT} (D : BinsDoes Bn) (u v sd m : Int) (A : List PairV) (a : Option Addr) (cap : Nat) (a2 : Option Addr) (cap2 : Nat) (A2 : List PairV) (pa pb : Int) (wu : Word u) (wv : Word v) (ws : I64 sd) (wm : I64 m) (hl : A.length ≤ 140737488351232) (w : World) (hA2 : Pairs w a2 A2) (hl2 : A2.length ≤ 140737488351232) (wpa : Word pa) (wpb : Word pb) (hA : Pairs w a A) :
    Calls Tryz.prog 5 #[.agg #[.int .u64 u, .int .u64 v, .int .i64 sd, .int .i64 m, .slice a A.length cap], .slice a2 A2.length cap2, .agg #[.int .u64 pa, .int .u64 pb]] w fun e w' => e = .returned (.bool true) ∧ Below w.heap.size w w' := by
  have HD := Lib.hid D
  obtain ⟨ln, hln⟩ : ∃ ln : Nat, A.length = ln := ⟨_, rfl⟩
  have HBD := Lib.hid (fun W hp => build14_any D W u v sd m A a cap wu wv ws wm hp hl)
  rw [hln] at HBD ⊢
  have HLN := Lib.hid hln
  have HA := Lib.hid hA
  have hcs := casek_new w u v sd m (.slice a ln cap) 27
  have BC := grew_one w (.cells #[.int .u64 u, .int .u64 v, .int .i64 sd, .int .i64 m, .slice a ln cap] 27)
  have hcs := hcs.call (grew_one (w.alloc (.cells #[.int .u64 u, .int .u64 v, .int .i64 sd, .int .i64 m, .slice a ln cap] 27)) (.cells #[.int .u64 pa, .int .u64 pb] 24))
  have Tp := Two.new (w.alloc (.cells #[.int .u64 u, .int .u64 v, .int .i64 sd, .int .i64 m, .slice a ln cap] 27)) (.int .u64 pa) (.int .u64 pb) 24
  have BC := below_new BC (.cells #[.int .u64 pa, .int .u64 pb] 24)
  have hsz : ((w.alloc (.cells #[.int .u64 u, .int .u64 v, .int .i64 sd, .int .i64 m, .slice a ln cap] 27)).alloc (.cells #[.int .u64 pa, .int .u64 pb] 24)).heap.size = w.heap.size + 2 := by simp
  have hsp : (w.alloc (.cells #[.int .u64 u, .int .u64 v, .int .i64 sd, .int .i64 m, .slice a ln cap] 27)).heap.size = w.heap.size + 1 := by simp
  rw [hsp] at Tp
  clear hsp
  obtain ⟨ln2, hln2⟩ : ∃ ln2 : Nat, A2.length = ln2 := ⟨_, rfl⟩
  have HB2 := Lib.hid (fun W hp => build14_any HD.out W u v sd m A2 a2 cap2 wu wv ws wm hp hl2)
  rw [hln2] at HB2 ⊢
  have HLN2 := Lib.hid hln2
  have HA2 := Lib.hid hA2
  clear hA2 hl2 hln2
  clear hA hl D hln
  go_enter Tryz.func5, Tryz.ntmps5
  go_wp2_with fail
  generalize ((w.alloc (.cells #[.int .u64 u, .int .u64 v, .int .i64 sd, .int .i64 m, .slice a ln cap] 27)).alloc (.cells #[.int .u64 pa, .int .u64 pb] 24)) = wC at *
  refine (alive14_any HD.out wC).mono ?_
  rintro e w2 ⟨rfl, hb2⟩
  have hcs := hcs.call hb2
  have Tp := Tp.call hb2
  have b2 := BC.trans (hb2.mono BC.size)
  have hz2 : w.heap.size + 2 ≤ w2.heap.size := by have := hb2.size; omega
  clear BC hb2 hsz
  obtain ⟨c0, c1, c2, c3, c4⟩ := id hcs
  obtain ⟨p0, p1, _, _⟩ := id Tp
  have hD3 := casek_new w2 u v sd m (.slice a2 ln2 cap2) 27
  have hb3 := grew_one w2 (.cells #[.int .u64 u, .int .u64 v, .int .i64 sd, .int .i64 m, .slice a2 ln2 cap2] 27)
  have hz3 := size_new w2 (.cells #[.int .u64 u, .int .u64 v, .int .i64 sd, .int .i64 m, .slice a2 ln2 cap2] 27)
  have HD3 := Lib.hid hD3
  have HC3 := Lib.hid (hcs.call hb3)
  have HT3 := Lib.hid (Tp.call hb3)
  have HB3 := Lib.hid (b2.trans (hb3.mono b2.size))
  clear hD3 hb3 hcs Tp
  obtain ⟨r0, r1, r2, r3, r4⟩ := id HC3.out
  go_wp2_with fail
  generalize (w2.alloc (.cells #[.int .u64 u, .int .u64 v, .int .i64 sd, .int .i64 m, .slice a2 ln2 cap2] 27)) = w3 at *
  have b3 := HB3.out
  clear c0 c1 c2 c3 c4 p0 p1
  refine (HBD.out w3 (HA.out.call b3)).mono ?_
  rintro e w4 (⟨B, C, S, R, M, P, s, n, lo, hi, rfl, hsi, hP, hof, m1, m2, hf, hl, hsk, hrk, hsr, hn1, hn2, v100, hb4, hfar, hv5, hM⟩ | ⟨rfl, hb4⟩)
  case inr =>
    have b4 := b3.trans (hb4.mono b3.size)
    obtain ⟨q0, q1, q2, q3, q4⟩ := id (HD3.out.call hb4)
    go_wp2_with fail
    refine (HB2.out w4 (HA2.out.call b4)).mono ?_
    rintro e w5 (⟨B', C', S', R', M', P', s', n', lo', hi', rfl, _, _, _, _, _, _, _, _, _, _, _, _, _, hb5, _, _, _⟩ | ⟨rfl, hb5⟩)
    all_goals
      have b5 := b4.trans (hb5.mono b4.size)
      go_wp2_with fail
      go_ret
      exact ⟨rfl, b5⟩
  have b4 := b3.trans (hb4.mono b3.size)
  have HD4 := Lib.hid (HD3.out.call hb4)
  have HC4 := Lib.hid (HC3.out.call hb4)
  have HT4 := Lib.hid (HT3.out.call hb4)
  have HSI := Lib.hid hsi
  have HP := Lib.hid hP
  have HOF := Lib.hid hof
  have HF := Lib.hid hf
  have HSK := Lib.hid hsk
  have HSR := Lib.hid hsr
  have hz4 := hb4.size
  clear hb4 hsi hP hof hf hsk hrk hsr hfar hv5 HC3 HT3 HD3 r0 r1 r2 r3 r4 HBD
  obtain ⟨q0, q1, q2, q3, q4⟩ := id HD4.out
  go_wp2_with fail
  refine (HB2.out w4 (HA2.out.call b4)).mono ?_
  rintro e w5 (⟨B', C', S', R', M', P', s', n', lo', hi', rfl, hsi', hP', hof', _, _, hf', hl', hsk', hrk', hsr', hn1', hn2', _, hb5, hfar', hv5', hM'⟩ | ⟨rfl, hb5⟩)
  case inr =>
    have b5 := b4.trans (hb5.mono b4.size)
    go_wp2_with fail
    go_ret
    exact ⟨rfl, b5⟩
  obtain rfl : P' = P := pt_one hP' HP.out hof' HOF.out
  obtain rfl : s' = s := side_inj (hsi'.trans HSI.out.symm)
  have b5 := b4.trans (hb5.mono b4.size)
  have HLT := Lib.hid (HSK.out.x.all_lt HD.out)
  have HLT' := Lib.hid (hsk'.x.all_lt HD.out)
  have HSK5 := Lib.hid (HSK.out.call HD.out hb5)
  have HSK' := Lib.hid hsk'
  have HSR' := Lib.hid hsr'
  have HF' := Lib.hid hf'
  have HRG : Hid (RefG w5 M' w4.heap.size P' s' m A2 a2 cap2) := Lib.hid ⟨hrk'.ref, hfar', hv5'⟩
  have HC5 := Lib.hid (HC4.out.call hb5)
  have HT5 := Lib.hid (HT4.out.call hb5)
  have hz5 := hb5.size
  have HA5 := Lib.hid (HA.out.call b5)
  have HA25 := Lib.hid (HA2.out.call b5)
  have HMlt := Lib.hid hrk'.ref.lt
  clear hb5 hsi' hP' hof' hf' hsk' hrk' hsr' hfar' hv5' HD4 HC4 HT4 HSK HB2 q0 q1 q2 q3 q4
  have HB5 := Lib.hid b5
  -- the region in which all values are told together
  obtain ⟨lov, rev, dg, av, cpv, hpt, hpv, hcn⟩ := HRG.out.ref.cells
  obtain ⟨nn, hPc⟩ := pt_cells HP.out HOF.out
  rw [hPc] at hpt
  obtain ⟨rfl, gl, gr, cl, cr, rfl, rfl, _⟩ := hpt
  have hav : av = a2 ∧ cpv = cap2 := by
    have h1 := hcn.c5; rw [HRG.out.v5] at h1
    have h2 : Value.slice a2 A2.length cap2 = .slice av A2.length cpv := Option.some.inj h1
    injection h2 with h3 h4 h5
    exact ⟨h3.symm, h5.symm⟩
  obtain ⟨rfl, rfl⟩ := hav
  have HCN := Lib.hid hcn
  obtain ⟨c0, c1, c2, c3, c4, c5⟩ := id hcn
  have HST : Hid (∀ W, Below w5.heap.size w5 W → W.cell? ⟨M', 0, none⟩ = some (.slice (some ⟨gl, 0, none⟩) nn cl) ∧ W.cell? ⟨M', 1, none⟩ = some (.slice (some ⟨gr, 0, none⟩) nn cr) ∧ W.cell? ⟨M', 3, none⟩ = some (.int .i64 (sideI s')) ∧ W.cell? ⟨M', 4, none⟩ = some (.int .i64 m) ∧ W.cell? ⟨w.heap.size, 4, none⟩ = some (.slice a ln cap) ∧ Below w5.heap.size w5 W) := Lib.hid (fun W hb => ⟨cell_later hb hcn.c0, cell_later hb hcn.c1, cell_later hb hcn.c3, cell_later hb hcn.c4, cell_later hb HC5.out.c4, hb⟩)
  have hdr : Below w5.heap.size w5 w5.drew := (Below.refl _ _).drew
  have hal : Below w5.heap.size w5 (w5.drew.alloc (.cells #[] 52)) := hdr.alloc (Nat.le_refl _) _
  have HDR := Lib.hid hdr
  have HAL := Lib.hid hal
  have hO := World.ownsRow_made (base := w5.heap.size) (e := 52) (size := 2) w5.drew #[] 0 (by simp) (by decide) rfl
  have HO0 : Hid (OwnV (w5.drew.alloc (.cells #[] 52)) w5.heap.size (.slice (some ⟨w5.heap.size, 0, none⟩) 0 0) []) := Lib.hid hO
  have HBS : Hid (w5.heap.size ≤ (w5.drew.alloc (.cells #[] 52)).heap.size) := Lib.hid hal.size
  have HN1 : Hid (([] : List PairV).length + ln ≤ 100000) := Lib.hid (by have := HLN.out; simp; omega)
  have HN2 : Hid (A.length + ln2 ≤ 100000) := Lib.hid (by have := HLN2.out; omega)
  have HLL := Lib.hid (show A.length = ln from HLN.out)
  have HLL2 := Lib.hid (show A2.length = ln2 from HLN2.out)
  clear hpv hcn hPc hO hdr hal
  go_wp2_with fail
  go_region_held3 (fun w' => w'.cell? ⟨M', 0, none⟩ = some (.slice (some ⟨gl, 0, none⟩) nn cl) ∧ w'.cell? ⟨M', 1, none⟩ = some (.slice (some ⟨gr, 0, none⟩) nn cr) ∧ w'.cell? ⟨M', 3, none⟩ = some (.int .i64 (sideI s')) ∧ w'.cell? ⟨M', 4, none⟩ = some (.int .i64 m) ∧ w'.cell? ⟨w.heap.size, 4, none⟩ = some (.slice a ln cap) ∧ Below w5.heap.size w5 w')
    (first | exact HST.out _ HDR.out | exact HST.out _ HAL.out | exact HST.out _ hbv1 | exact HST.out _ hbv2 | exact HST.out _ (hbv2.alloc hbv2.size _) | assumption)
    ((first
      | (refine step_append_vals rfl (.tmp 58) (.tmp 60) rfl w5.heap.size _ [] a ln cap A rfl HO0.out rfl HLL.out (HA5.out.call HAL.out) HN1.out HBS.out ?_; intro v1 w6 hv1 hg1; have hbv1 := OwnV.below HO0.out HAL.out hg1 HBS.out)
      | (refine step_append_vals rfl (.tmp 61) (.tmp 62) rfl w5.heap.size _ A av ln2 cpv A2 rfl hv1 rfl HLL2.out (HA25.out.call hbv1) HN2.out hbv1.size ?_; intro v2 w7 hv2 hg2; have hbv2 := OwnV.below hv1 hbv1 hg2 hbv1.size; obtain ⟨a9, k9, rfl⟩ := hv2.form)))
  rename_i hHeld
  obtain ⟨_, _, _, _, _, b8⟩ := hHeld
  clear hg2
  have hok9 : ∀ p, p ∈ A ++ A2 → okP p := fun p hp => by
    rcases List.mem_append.1 hp with h | h
    · exact HA5.out.ok p h
    · exact HA25.out.ok p h
  have hz7 := hbv2.size
  have hRG3 := RefG.copy HP.out HRG.out HCN.out b8 (M2 := w7.heap.size) (A := A ++ A2) (a := a9) (cap := k9) hz7 ((hv2.row hok9).call (grew_one w7 _)) (by rw [List.length_append]; exact heap_new w7 _)
  have hRG8 := HRG.out.call b8
  have HBLK := Lib.hid hv2.lies
  have HM3 := Lib.hid (show w5.heap.size ≤ w7.heap.size from hz7)
  have hM3lt := size_new w7 (.cells #[.slice (some ⟨gl, 0, none⟩) nn cl, .slice (some ⟨gr, 0, none⟩) nn cr, .int .i64 0, .int .i64 (sideI s'), .int .i64 m, .slice a9 (A.length + A2.length) k9] 48)
  generalize (w7.alloc (.cells #[.slice (some ⟨gl, 0, none⟩) nn cl, .slice (some ⟨gr, 0, none⟩) nn cr, .int .i64 0, .int .i64 (sideI s'), .int .i64 m, .slice a9 (A.length + A2.length) k9] 48)) = w8 at *
  obtain ⟨M3, hM3⟩ : ∃ M3, w7.heap.size = M3 := ⟨_, rfl⟩
  rw [hM3] at hRG3 HM3 hM3lt ⊢
  have HRG3 := Lib.hid hRG3
  have HRG8 := Lib.hid hRG8
  have HSK8 := Lib.hid (HSK5.out.call HD.out b8)
  have HSK8' := Lib.hid (HSK'.out.call HD.out b8)
  have hb8w := HB5.out.trans (b8.mono HB5.out.size)
  have HB8 := Lib.hid hb8w
  have hz8 := b8.size
  have HT8 := Lib.hid (HT5.out.call b8)
  clear hRG3 hRG8 hv2 hbv2 hok9 hM3 c0 c1 c2 c3 c4 c5 hb8w
  have hf12 := fine_app HF.out HF'.out
  have hl12 : (A ++ A2).length ≤ 120 := by rw [List.length_append]; omega
  have hfit := fine_fit hf12 (by omega)
  have ha1 := stv_all HP.out s' m HF.out (by omega)
  have ha2 := stv_all HP.out s' m HF'.out (by omega)
  have ha12 := stv_all HP.out s' m hf12 (by omega)
  have hq1 := stv_len HP.out s' m HF.out (by omega)
  have hq2 := stv_len HP.out s' m HF'.out (by omega)
  have hq12 := stv_len HP.out s' m hf12 (by omega)
  have hap := stv_app HP.out s' (show 0 < m by omega) HF.out HF'.out (by omega)
  have hs0 := (fine_sum hf12).1
  have HAP := Lib.hid hap
  have HF12 := Lib.hid hf12
  have HJO := Lib.hid (kjoin_any HD.out HSK8.out.x HSK8'.out.x (fun k hk => ⟨fun x => by have h1 := HLT.out k (Or.inl hk); have h2 := HSR'.out k (Or.inl x); omega, fun x => by have h1 := HLT.out k (Or.inl hk); have h2 := HSR'.out k (Or.inr x); omega⟩) (by omega) (by omega) (by omega) (by omega) (by rw [ha1, ha2, ← sumP_app]; omega) _ _ rfl rfl _ _ rfl rfl)
  have hje := fun hne => join_ends HF.out HF'.out HSK8.out.e HSK8'.out.e hne
  rw [ha1, ha2] at HJO
  have HJE := Lib.hid hje
  have HFIT := Lib.hid (And.intro hs0 hfit)
  have HA12 := Lib.hid ha12
  have HQ12 := Lib.hid hq12
  clear hf12 hfit ha1 ha2 ha12 hq1 hq2 hq12 hap hje hs0
  go_wp2_with fail
  refine HJO.out.mono ?_
  rintro e w9 ⟨S2, rfl, hx9, hk9, hS2⟩
  rw [← HAP.out] at hx9
  have hsk9 : SkV Bn w9 B C S2 R P' u v s' m (A ++ A2) _ _ := ⟨hx9, fun hne => HJE.out hne⟩
  have HSK9 := Lib.hid hsk9
  have b9 : Below w.heap.size w w9 := hk9.below HB8.out HB8.out.size (fun i hi => by have := HSR.out i (Or.inl hi); omega)
  have HSK9' := Lib.hid (HSK8'.out.past HD.out hk9 (fun k hk x => by have h1 := HLT.out k (Or.inl x); have h2 := HSR'.out k hk; omega))
  have HRG9 : Hid (RefG w9 M' w4.heap.size P' s' m A2 av cpv) := Lib.hid (RefG.skip (X := skB B S) HRG8.out (fun k hk => HLT.out k (Or.inl hk)) (fun x => by have := HLT.out _ (Or.inl x); omega) (fun i p hi => by
    obtain ⟨b, off, e, hb, _⟩ := HA2.out.at_ i p hi
    exact ⟨b, off, e, fun x => by have := HSR.out _ (Or.inl x); omega⟩) (fun k hk hn => hk9.block k hk hn) hk9.size)
  have HRG93 : Hid (RefG w9 M3 w4.heap.size P' s' m (A ++ A2) a9 k9) := Lib.hid (RefG.skip (X := skB B S) HRG3.out (fun k hk => HLT.out k (Or.inl hk)) (fun x => by have := HLT.out _ (Or.inl x); have := HM3.out; omega) (fun i p hi => by
    obtain ⟨b, off, e, hb⟩ := HBLK.out i p hi
    exact ⟨b, off, e, fun x => by have := HLT.out _ (Or.inl x); omega⟩) (fun k hk hn => hk9.block k hk hn) hk9.size)
  have p0 := hk9.cell (fun x => by have := HSR.out _ (Or.inl x); omega) HT8.out.c0
  have p1 := hk9.cell (fun x => by have := HSR.out _ (Or.inl x); omega) HT8.out.c1
  have P0 := Lib.hid p0
  have P1 := Lib.hid p1
  obtain ⟨r, c, hq⟩ : ∃ r c, quanA P' s' m (A ++ A2) pa pb = (r, c) := ⟨_, _, rfl⟩
  have HQ := Lib.hid (kquan_any HD.out hsk9.x (by have := HQ12.out; omega) (by have := HQ12.out; omega) pa pb r c wpa wpb (by rw [HA12.out]; have := HFIT.out; unfold Word; omega) ((quan_same HP.out s' (show 0 < m by omega) HF12.out (by omega) hsk9.e pa pb).trans hq))
  have HRQ := Lib.hid (fun W (hb : Below w9.heap.size w9 W) => rquan_any W M3 P' s' m (A ++ A2) pa pb r c wpa wpb (HRG93.out.ref.call hb) HP.out HF12.out (by omega) m1 m2 hq)
  have HSA := Lib.hid (fun W (hb : Below w9.heap.size w9 W) => same14_any HD.out W B C M3 S2 R P' u v s' m (A ++ A2) _ _ (HSK9.out.call HD.out hb) (HRG93.out.ref.call hb) HP.out HF12.out (by omega) m1 m2)
  have HSB := Lib.hid (fun W (hb : Below w9.heap.size w9 W) => same14_any HD.out W B' C' M' S' R' P' u v s' m A2 _ _ (HSK9'.out.call HD.out hb) (HRG9.out.ref.call hb) HP.out HF'.out (by omega) m1 m2)
  have hrr : (r == r) = true := by simp
  have hcc : (c == c) = true := by simp
  clear hx9 hsk9 hk9 hS2 hq HJO
  go_wp2_with fail
  refine HQ.out.mono ?_
  rintro e w10 ⟨rfl, b10⟩
  have p0 := cell_later b10 P0.out
  have p1 := cell_later b10 P1.out
  go_wp2_with fail
  refine (HRQ.out _ b10).mono ?_
  rintro e w11 ⟨rfl, b11⟩
  have b11 := b10.trans (b11.mono b10.size)
  go_wp2_with fail
  refine (HSA.out _ b11).mono ?_
  rintro e w12 ⟨rfl, b12⟩
  have b12 := b11.trans (b12.mono b11.size)
  go_wp2_with fail
  refine (HSB.out _ b12).mono ?_
  rintro e w13 ⟨rfl, b13⟩
  have b13 := b12.trans (b13.mono b12.size)
  go_wp2_with fail
  go_ret
  exact ⟨rfl, b9.trans (b13.mono b9.size)⟩
end Go.Proofs.YtcijflakldggaaaGreat
