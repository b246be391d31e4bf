/-
  The law ReqErrors, from the contracts. (Written by tools/gen_req_e.py.)
-/
import Derived.Test.YtbdfmnlfdhhnjaaK5
import Derived.Deep.RegionHeld3
namespace Go.Proofs.Ytbdfmnlfdhhnjaa
set_option linter.unusedVariables false
set_option linter.unusedSimpArgs false
open Go.RowKit

theorem i64_1Q : I64 1 := ⟨by decide, by decide⟩
theorem word_1Q : Word 1 := ⟨by decide, by decide⟩
theorem quan_err (pa pb : Int) (R : List (List Int)) : (quanT pa pb R).2 = plE pa pb (wtR R) := by
  unfold quanT
  split
  · next h => exact h.symm
  · rfl

set_option maxRecDepth 100000 in
set_option maxHeartbeats 16000000 in
theorem errors21_walk {Rq : RqT} (D : RqDoes Rq) (Z : RqNil) (w : World) (B word : Int) (A : List PairV) (a : Option Addr) (cap : Nat) (o pa pb : Int) (hB : I64 B) (hw : Word word) (hA : Pairs w a A) (hl : A.length ≤ 140737488351232) (ho : I64 o) (wa : Word pa) (wb : Word pb) :
    Calls Try.prog 8 #[.agg #[.int .i64 B, .int .u64 word], .slice a A.length cap, .int .i64 o, .agg #[.int .u64 pa, .int .u64 pb]] w fun e w' => e = .returned (.bool true) ∧ Below w.heap.size w w' := by
  have HD := Lib.hid D
  have HZ := Lib.hid Z
  have HA := Lib.hid hA
  have HBI := Lib.hid hB
  have HWD := Lib.hid hw
  have HOI := Lib.hid ho
  have HWA := Lib.hid wa
  have HWB := Lib.hid wb
  have HAL := Lib.hid (fun W => alive21_any D W)
  have HBD := Lib.hid (fun W hW => build21_any D W B word A a cap hB hw hW hl)
  have HBX := Lib.hid (boxes_newQ w (.int .i64 B) (.int .u64 word) (.int .u64 pa) (.int .u64 pb) 24 27)
  obtain ⟨c0, c1, p0, p1, b0⟩ := HBX.out
  obtain ⟨n, hn⟩ : ∃ n, A.length = n := ⟨_, rfl⟩
  rw [hn] at HBD ⊢
  have HN := Lib.hid hn
  clear D Z hA hl hB hw ho wa wb hn
  go_enter Try.func8, Try.ntmps8
  go_wp2_with fail
  with_reducible (refine (HAL.out _).mono ?_)
  rintro e v0 ⟨rfl, b1⟩
  have HB0 := Lib.hid (boxq_later HBX.out b1)
  clear b1 c0 c1 p0 p1 b0
  obtain ⟨c0, c1, p0, p1, _⟩ := HB0.out
  go_wp2_with fail
  with_reducible (refine (HZ.out.ends v0).mono ?_)
  rintro e v1 ⟨rfl, b1⟩
  have HB1 := Lib.hid (boxq_later HB0.out b1)
  clear b1 c0 c1 p0 p1
  obtain ⟨c0, c1, p0, p1, _⟩ := HB1.out
  go_wp2_with fail
  with_reducible (refine (HZ.out.quantile v1 pa pb HWA.out HWB.out).mono ?_)
  rintro e v2 ⟨rfl, b1⟩
  have HB2 := Lib.hid (boxq_later HB1.out b1)
  clear b1 c0 c1 p0 p1
  obtain ⟨c0, c1, p0, p1, _⟩ := HB2.out
  go_wp2_with fail
  with_reducible (refine (HZ.out.put v2 1 1 i64_1Q word_1Q).mono ?_)
  rintro e v3 ⟨rfl, b1⟩
  have HB3 := Lib.hid (boxq_later HB2.out b1)
  clear b1 c0 c1 p0 p1
  obtain ⟨c0, c1, p0, p1, _⟩ := HB3.out
  go_wp2_with fail
  with_reducible (refine (HZ.out.join v3).mono ?_)
  rintro e v4 ⟨rfl, b1⟩
  have HB4 := Lib.hid (boxq_later HB3.out b1)
  clear b1 c0 c1 p0 p1
  obtain ⟨c0, c1, p0, p1, _⟩ := HB4.out
  go_wp2_with fail
  with_reducible (refine (HZ.out.total v4).mono ?_)
  rintro e v5 ⟨rfl, b1⟩
  have HB5 := Lib.hid (boxq_later HB4.out b1)
  clear b1 c0 c1 p0 p1
  obtain ⟨c0, c1, p0, p1, _⟩ := HB5.out
  go_wp2_with fail
  with_reducible (refine (HZ.out.most v5).mono ?_)
  rintro e v6 ⟨rfl, b1⟩
  have HB6 := Lib.hid (boxq_later HB5.out b1)
  clear b1 c0 c1 p0 p1
  obtain ⟨c0, c1, p0, p1, _⟩ := HB6.out
  go_wp2_with fail
  with_reducible (refine (HZ.out.rank v6 1 i64_1Q).mono ?_)
  rintro e v7 ⟨rfl, b1⟩
  have HB7 := Lib.hid (boxq_later HB6.out b1)
  clear b1 c0 c1 p0 p1
  obtain ⟨c0, c1, p0, p1, _⟩ := HB7.out
  go_wp2_with fail
  with_reducible (refine (HZ.out.rows v7).mono ?_)
  rintro e v8 ⟨A9, k9, rfl, b1⟩
  have HB8 := Lib.hid (boxq_later HB7.out b1)
  clear b1 c0 c1 p0 p1
  obtain ⟨c0, c1, p0, p1, _⟩ := HB8.out
  go_wp2_with fail
  with_reducible (refine (HZ.out.used v8).mono ?_)
  rintro e v9 ⟨rfl, b1⟩
  have HB9 := Lib.hid (boxq_later HB8.out b1)
  clear b1 c0 c1 p0 p1
  obtain ⟨c0, c1, p0, p1, _⟩ := HB9.out
  go_wp2_with fail
  with_reducible (refine (HZ.out.config v9).mono ?_)
  rintro e v10 ⟨rfl, b1⟩
  have HB10 := Lib.hid (boxq_later HB9.out b1)
  clear b1 c0 c1 p0 p1
  obtain ⟨c0, c1, p0, p1, _⟩ := HB10.out
  cases hg : goodQ B with
  | false =>
    have HNW := Lib.hid (HD.out.bad v10 B word HBI.out HWD.out hg)
    have HGD := Lib.hid (fun W => good21_any W B HBI.out)
    rw [hg] at HGD
    have HG := Lib.hid hg
    clear hg
    go_wp2_with fail
    with_reducible (refine HNW.out.mono ?_)
    rintro e v11 ⟨rfl, b1⟩
    have HB11 := Lib.hid (boxq_later HB10.out b1)
    clear b1 c0 c1 p0 p1
    obtain ⟨c0, c1, p0, p1, _⟩ := HB11.out
    go_wp2_with fail
    with_reducible (refine (HGD.out _).mono ?_)
    rintro e v12 ⟨rfl, rfl⟩
    go_wp2_with fail
    with_reducible (refine (HBD.out _ (HA.out.call HB11.out.2.2.2.2)).mono ?_)
    rintro e v12 (⟨P, S, M, hv, R, _, hg, _⟩ | ⟨rfl, _, b1⟩)
    · rw [HG.out] at hg; cases hg
    · have HB12 := Lib.hid (HB11.out.2.2.2.2.trans (b1.mono HB11.out.2.2.2.2.size))
      clear b1 c0 c1 p0 p1
      go_wp2_with fail
      go_ret
      exact ⟨rfl, HB12.out⟩
  | true =>
  have HNW := Lib.hid (HD.out.new v10 B word hg HWD.out)
  have HGD := Lib.hid (fun W => good21_any W B HBI.out)
  rw [hg] at HGD
  have HG := Lib.hid hg
  clear hg
  go_wp2_with fail
  with_reducible (refine HNW.out.mono ?_)
  rintro e v11 ⟨P0, S0, rfl, _, _, b1⟩
  have HB11 := Lib.hid (boxq_later HB10.out b1)
  clear b1 c0 c1 p0 p1
  obtain ⟨c0, c1, p0, p1, _⟩ := HB11.out
  go_wp2_with fail
  with_reducible (refine (HGD.out _).mono ?_)
  rintro e v12 ⟨rfl, rfl⟩
  go_wp2_with fail
  with_reducible (refine (HBD.out _ (HA.out.call HB11.out.2.2.2.2)).mono ?_)
  rintro e w2 (⟨P, S, M, hv, R, rfl, hg, hf, hq⟩ | ⟨rfl, _, b1⟩)
  case inr =>
    have HB12 := Lib.hid (HB11.out.2.2.2.2.trans (b1.mono HB11.out.2.2.2.2.size))
    clear b1 c0 c1 p0 p1
    go_wp2_with fail
    go_ret
    exact ⟨rfl, HB12.out⟩
  case inl =>
  have HB12 := Lib.hid (boxq_later HB11.out hq.below)
  clear c0 c1 p0 p1
  have HF := Lib.hid hf
  obtain ⟨gb1, gb2, gb3⟩ := goodQ_iff.1 hg
  obtain ⟨V, hV⟩ : ∃ V, allG A = V := ⟨_, rfl⟩
  have HPL := Lib.hid (all_lenQ HF.out.one)
  rw [hV] at HPL
  have HL : Hid ((V.length : Int) ≤ 200) := Lib.hid (by have := HPL.out; have := HF.out.sum; omega)
  have HTP := Lib.hid (tow_P (B := B) word gb3 gb1 V)
  obtain ⟨t, ht⟩ : ∃ t, towQ B word V = t := ⟨_, rfl⟩
  rw [ht] at HTP
  have hrq := hq.rq
  rw [hV, ht] at hrq
  have href := hq.ref
  rw [hV, ht] at href
  have hrows := hq.rows
  rw [hV, ht] at hrows
  have hfu := HTP.out.fuel gb1 gb2 (by have := HL.out; omega)
  have hne : R ≠ [] := fun e => by
    rw [e] at hrows
    exact HTP.out.ne hrows.symm
  have hR20 : R.length ≤ 20 := by rw [← ls_len, hrows]; omega
  have hRs : ∀ r, r ∈ R → r.l.length ≤ 20000 := fun r hr => by
    have := hfu.2.2 r.l (by rw [← hrows]; exact List.mem_map.2 ⟨r, hr, rfl⟩)
    omega
  obtain ⟨T, hT⟩ : ∃ T, wtR t.1 = T := ⟨_, rfl⟩
  have hTv : T = (V.length : Int) := by rw [← hT]; exact HTP.out.wt
  obtain ⟨qx, qe, hqq⟩ : ∃ a b, quanT pa pb t.1 = (a, b) := ⟨_, _, rfl⟩
  have hqe : plE pa pb T = qe := by
    have h := quan_err pa pb t.1
    rw [hqq, hT] at h
    exact h.symm
  have HQU := Lib.hid (fun W (hb : Below w2.heap.size w2 W) => HD.out.quantile W P S B word t _ pa pb (HD.out.call hrq hb) HWA.out HWB.out)
  rw [hqq] at HQU
  have HSM := Lib.hid (fun W (hb : Below w2.heap.size w2 W) => same21_any HD.out W P S B word word t _ M hv R (HD.out.call hrq hb) (href.call hb) hrows hne hR20 hRs)
  have HTO := Lib.hid (fun W (hb : Below w2.heap.size w2 W) => HD.out.total W P S B word t _ (HD.out.call hrq hb))
  rw [hT] at HTO
  have HPC := Lib.hid (fun W => rplace_any pa pb T HWA.out HWB.out (by have := HL.out; unfold Word; omega) W)
  rw [hqe] at HPC
  have HP0 := Lib.hid (fun W (hb : Below w2.heap.size w2 W) => HD.out.zero W P S B word t _ 1 (HD.out.call hrq hb) ⟨by decide, by decide⟩)
  have HP1 := Lib.hid (fun W (hb : Below w2.heap.size w2 W) => HD.out.long W P S B word t _ 1 1025 (HD.out.call hrq hb) ⟨by decide, by decide⟩ ⟨by decide, by decide⟩ (by decide))
  have HJN := Lib.hid (fun W (hb : Below w2.heap.size w2 W) => HD.out.join_nil W P S B word t _ (HD.out.call hrq hb))
  have HMA := Lib.hid (fun W (hb : Below w2.heap.size w2 W) P' S' B' word' t' e' (h : Rq W P' S' B' word' t' e') (hne : B ≠ B') => HD.out.match_ W P S B word t _ P' S' B' word' t' e' (HD.out.call hrq hb) h hne)
  have y2 : (qe == qe) = true := by simp
  clear hq hf hg hV ht hrq href hrows hfu hne hR20 hRs hT hTv hqq hqe gb1 gb2 gb3
  obtain ⟨c0, c1, p0, p1, _⟩ := HB12.out
  have HE2 : Hid (Below w2.heap.size w2 w2) := Lib.hid (Below.refl _ _)
  cases hgo : goodQ o with
  | false =>
    have HNO := Lib.hid (HD.out.bad w2 o 0 HOI.out ⟨by decide, by decide⟩ hgo)
    clear hgo
    go_wp2_with fail
    with_reducible (refine HNO.out.mono ?_)
    rintro e w3 ⟨rfl, b1⟩
    have HB13 := Lib.hid (boxq_later HB12.out b1)
    have HE3 := Lib.hid b1
    clear b1 c0 c1 p0 p1
    obtain ⟨c0, c1, p0, p1, _⟩ := HB13.out
    go_wp2_with fail
    with_reducible (refine (HQU.out _ HE3.out).mono ?_)
    rintro e x5 ⟨rfl, b1⟩
    have HX5 := Lib.hid (boxq_later HB13.out b1)
    have HY5 := Lib.hid (HE3.out.trans (b1.mono HE3.out.size))
    clear b1 c0 c1 p0 p1
    have HS0 : Hid (x5.drew.cell? ⟨w.heap.size + 1, 0, none⟩ = some (.int .u64 pa) ∧ x5.drew.cell? ⟨w.heap.size + 1, 1, none⟩ = some (.int .u64 pb) ∧ Below w2.heap.size w2 x5.drew) := Lib.hid ⟨HX5.out.2.2.1, HX5.out.2.2.2.1, HY5.out.drew⟩
    have HST := Lib.hid (fun (W W' : World) (h : W.cell? ⟨w.heap.size + 1, 0, none⟩ = some (.int .u64 pa) ∧ W.cell? ⟨w.heap.size + 1, 1, none⟩ = some (.int .u64 pb) ∧ Below w2.heap.size w2 W) (hb : Below W.heap.size W W') => (⟨cell_later hb h.1, cell_later hb h.2.1, h.2.2.trans (hb.mono h.2.2.size)⟩ : W'.cell? ⟨w.heap.size + 1, 0, none⟩ = some (.int .u64 pa) ∧ W'.cell? ⟨w.heap.size + 1, 1, none⟩ = some (.int .u64 pb) ∧ Below w2.heap.size w2 W'))
    go_wp2_with fail
    go_region_held3 (fun w' => w'.cell? ⟨w.heap.size + 1, 0, none⟩ = some (.int .u64 pa) ∧ w'.cell? ⟨w.heap.size + 1, 1, none⟩ = some (.int .u64 pb) ∧ Below w2.heap.size w2 w')
      (first | exact HS0.out | exact HST.out _ _ (by assumption) hbA | exact HST.out _ _ (by assumption) hbB | assumption)
      ((first
        | (go_at_call 21; (with_reducible (refine (HTO.out _ (And.right (And.right (by assumption)))).mono ?_)); rintro e wA ⟨rfl, hbA⟩)
        | (go_at_call 31; (with_reducible (refine (HPC.out _).mono ?_)); rintro e wB ⟨rfl, hbB⟩)))
    rename_i hHeld
    have HY6 := Lib.hid hHeld.2.2
    clear hHeld HS0 HST
    have HWX := Lib.hid HB12.out.2.2.2.2
    go_wp2_with fail
    with_reducible (refine (HP0.out _ HY6.out).mono ?_)
    rintro e x7 ⟨rfl, b1⟩
    have HY7 := Lib.hid (HY6.out.trans (b1.mono HY6.out.size))
    clear b1
    go_wp2_with fail
    with_reducible (refine (HP1.out _ HY7.out).mono ?_)
    rintro e x8 ⟨rfl, b1⟩
    have HY8 := Lib.hid (HY7.out.trans (b1.mono HY7.out.size))
    clear b1
    go_wp2_with fail
    with_reducible (refine (HJN.out _ HY8.out).mono ?_)
    rintro e x9 ⟨rfl, b1⟩
    have HY9 := Lib.hid (HY8.out.trans (b1.mono HY8.out.size))
    clear b1
    go_wp2_with fail
    with_reducible (refine (HSM.out _ HY9.out).mono ?_)
    rintro e xA ⟨rfl, b1⟩
    have HYA := Lib.hid (HWX.out.trans ((HY9.out.trans (b1.mono HY9.out.size)).mono HWX.out.size))
    clear b1
    go_wp2_with fail
    go_ret
    exact ⟨rfl, HYA.out⟩
  | true =>
  have HNO := Lib.hid (HD.out.new w2 o 0 hgo ⟨by decide, by decide⟩)
  clear hgo
  go_wp2_with fail
  with_reducible (refine HNO.out.mono ?_)
  rintro e w3 ⟨P4, S4, rfl, hq4, _, b1⟩
  have HB13 := Lib.hid (boxq_later HB12.out b1)
  have HE3 := Lib.hid b1
  have HQ4 := Lib.hid hq4
  clear b1 c0 c1 p0 p1 hq4
  obtain ⟨c0, c1, p0, p1, _⟩ := HB13.out
  by_cases hob : o = B
  · have z1 : (o != B) = false := by rw [hob]; simp
    have z2 : (!(o == B)) = false := by rw [hob]; simp
    clear hob
    go_wp2_with fail
    with_reducible (refine (HQU.out _ HE3.out).mono ?_)
    rintro e x5 ⟨rfl, b1⟩
    have HX5 := Lib.hid (boxq_later HB13.out b1)
    have HY5 := Lib.hid (HE3.out.trans (b1.mono HE3.out.size))
    clear b1 c0 c1 p0 p1
    have HS0 : Hid (x5.drew.cell? ⟨w.heap.size + 1, 0, none⟩ = some (.int .u64 pa) ∧ x5.drew.cell? ⟨w.heap.size + 1, 1, none⟩ = some (.int .u64 pb) ∧ Below w2.heap.size w2 x5.drew) := Lib.hid ⟨HX5.out.2.2.1, HX5.out.2.2.2.1, HY5.out.drew⟩
    have HST := Lib.hid (fun (W W' : World) (h : W.cell? ⟨w.heap.size + 1, 0, none⟩ = some (.int .u64 pa) ∧ W.cell? ⟨w.heap.size + 1, 1, none⟩ = some (.int .u64 pb) ∧ Below w2.heap.size w2 W) (hb : Below W.heap.size W W') => (⟨cell_later hb h.1, cell_later hb h.2.1, h.2.2.trans (hb.mono h.2.2.size)⟩ : W'.cell? ⟨w.heap.size + 1, 0, none⟩ = some (.int .u64 pa) ∧ W'.cell? ⟨w.heap.size + 1, 1, none⟩ = some (.int .u64 pb) ∧ Below w2.heap.size w2 W'))
    go_wp2_with fail
    go_region_held3 (fun w' => w'.cell? ⟨w.heap.size + 1, 0, none⟩ = some (.int .u64 pa) ∧ w'.cell? ⟨w.heap.size + 1, 1, none⟩ = some (.int .u64 pb) ∧ Below w2.heap.size w2 w')
      (first | exact HS0.out | exact HST.out _ _ (by assumption) hbA | exact HST.out _ _ (by assumption) hbB | assumption)
      ((first
        | (go_at_call 21; (with_reducible (refine (HTO.out _ (And.right (And.right (by assumption)))).mono ?_)); rintro e wA ⟨rfl, hbA⟩)
        | (go_at_call 31; (with_reducible (refine (HPC.out _).mono ?_)); rintro e wB ⟨rfl, hbB⟩)))
    rename_i hHeld
    have HY6 := Lib.hid hHeld.2.2
    clear hHeld HS0 HST
    have HWX := Lib.hid HB12.out.2.2.2.2
    go_wp2_with fail
    with_reducible (refine (HP0.out _ HY6.out).mono ?_)
    rintro e x7 ⟨rfl, b1⟩
    have HY7 := Lib.hid (HY6.out.trans (b1.mono HY6.out.size))
    clear b1
    go_wp2_with fail
    with_reducible (refine (HP1.out _ HY7.out).mono ?_)
    rintro e x8 ⟨rfl, b1⟩
    have HY8 := Lib.hid (HY7.out.trans (b1.mono HY7.out.size))
    clear b1
    go_wp2_with fail
    with_reducible (refine (HJN.out _ HY8.out).mono ?_)
    rintro e x9 ⟨rfl, b1⟩
    have HY9 := Lib.hid (HY8.out.trans (b1.mono HY8.out.size))
    clear b1
    go_wp2_with fail
    with_reducible (refine (HSM.out _ HY9.out).mono ?_)
    rintro e xA ⟨rfl, b1⟩
    have HYA := Lib.hid (HWX.out.trans ((HY9.out.trans (b1.mono HY9.out.size)).mono HWX.out.size))
    clear b1
    go_wp2_with fail
    go_ret
    exact ⟨rfl, HYA.out⟩
  · have z1 : (o != B) = true := by simpa using hob
    have z2 : (!(o == B)) = true := by simpa using hob
    have HMM := Lib.hid (HMA.out w3 HE3.out P4 S4 o 0 _ _ HQ4.out (fun e => hob e.symm))
    clear hob
    go_wp2_with fail
    with_reducible (refine HMM.out.mono ?_)
    rintro e w4 ⟨rfl, b1⟩
    have HB14 := Lib.hid (boxq_later HB13.out b1)
    have HE4 := Lib.hid (HE3.out.trans (b1.mono HE3.out.size))
    clear b1 c0 c1 p0 p1
    obtain ⟨c0, c1, p0, p1, _⟩ := HB14.out
    go_wp2_with fail
    with_reducible (refine (HQU.out _ HE4.out).mono ?_)
    rintro e x5 ⟨rfl, b1⟩
    have HX5 := Lib.hid (boxq_later HB14.out b1)
    have HY5 := Lib.hid (HE4.out.trans (b1.mono HE4.out.size))
    clear b1 c0 c1 p0 p1
    have HS0 : Hid (x5.drew.cell? ⟨w.heap.size + 1, 0, none⟩ = some (.int .u64 pa) ∧ x5.drew.cell? ⟨w.heap.size + 1, 1, none⟩ = some (.int .u64 pb) ∧ Below w2.heap.size w2 x5.drew) := Lib.hid ⟨HX5.out.2.2.1, HX5.out.2.2.2.1, HY5.out.drew⟩
    have HST := Lib.hid (fun (W W' : World) (h : W.cell? ⟨w.heap.size + 1, 0, none⟩ = some (.int .u64 pa) ∧ W.cell? ⟨w.heap.size + 1, 1, none⟩ = some (.int .u64 pb) ∧ Below w2.heap.size w2 W) (hb : Below W.heap.size W W') => (⟨cell_later hb h.1, cell_later hb h.2.1, h.2.2.trans (hb.mono h.2.2.size)⟩ : W'.cell? ⟨w.heap.size + 1, 0, none⟩ = some (.int .u64 pa) ∧ W'.cell? ⟨w.heap.size + 1, 1, none⟩ = some (.int .u64 pb) ∧ Below w2.heap.size w2 W'))
    go_wp2_with fail
    go_region_held3 (fun w' => w'.cell? ⟨w.heap.size + 1, 0, none⟩ = some (.int .u64 pa) ∧ w'.cell? ⟨w.heap.size + 1, 1, none⟩ = some (.int .u64 pb) ∧ Below w2.heap.size w2 w')
      (first | exact HS0.out | exact HST.out _ _ (by assumption) hbA | exact HST.out _ _ (by assumption) hbB | assumption)
      ((first
        | (go_at_call 21; (with_reducible (refine (HTO.out _ (And.right (And.right (by assumption)))).mono ?_)); rintro e wA ⟨rfl, hbA⟩)
        | (go_at_call 31; (with_reducible (refine (HPC.out _).mono ?_)); rintro e wB ⟨rfl, hbB⟩)))
    rename_i hHeld
    have HY6 := Lib.hid hHeld.2.2
    clear hHeld HS0 HST
    have HWX := Lib.hid HB12.out.2.2.2.2
    go_wp2_with fail
    with_reducible (refine (HP0.out _ HY6.out).mono ?_)
    rintro e x7 ⟨rfl, b1⟩
    have HY7 := Lib.hid (HY6.out.trans (b1.mono HY6.out.size))
    clear b1
    go_wp2_with fail
    with_reducible (refine (HP1.out _ HY7.out).mono ?_)
    rintro e x8 ⟨rfl, b1⟩
    have HY8 := Lib.hid (HY7.out.trans (b1.mono HY7.out.size))
    clear b1
    go_wp2_with fail
    with_reducible (refine (HJN.out _ HY8.out).mono ?_)
    rintro e x9 ⟨rfl, b1⟩
    have HY9 := Lib.hid (HY8.out.trans (b1.mono HY8.out.size))
    clear b1
    go_wp2_with fail
    with_reducible (refine (HSM.out _ HY9.out).mono ?_)
    rintro e xA ⟨rfl, b1⟩
    have HYA := Lib.hid (HWX.out.trans ((HY9.out.trans (b1.mono HY9.out.size)).mono HWX.out.size))
    clear b1
    go_wp2_with fail
    go_ret
    exact ⟨rfl, HYA.out⟩
end Go.Proofs.Ytbdfmnlfdhhnjaa
