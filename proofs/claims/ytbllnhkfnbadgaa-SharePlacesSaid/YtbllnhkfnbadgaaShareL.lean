/-
  Walks of the laws of layer 3: ShareGoods, SharePlaces.
-/
import Derived.Test.YtbllnhkfnbadgaaShareV
namespace Go.Proofs.Ytbllnhkfnbadgaa
set_option linter.unusedVariables false
set_option linter.unusedSimpArgs false
open Go.RowKit Go.Shelf

set_option maxHeartbeats 1000000 in
theorem goods_walk (a b n : Int) (wa : Word a) (wb : Word b) (wn : Word n) (w : World) :
    Calls Try.prog 3 #[.agg #[.int .u64 a, .int .u64 b], .int .u64 n] w fun e w' =>
      e = .returned (.bool true) ∧ Below w.heap.size w w' := by
  have T := Two.new w (.int .u64 a) (.int .u64 b) 24
  have B := (Below.refl w.heap.size w).alloc (Nat.le_refl _) (.cells #[.int .u64 a, .int .u64 b] 24)
  go_enter Try.func3, Try.ntmps3
  go_wp2_with fail
  refine (alive3_any _).mono ?_
  rintro e wA ⟨rfl, hbA⟩
  have TA := T.call hbA
  have BA := B.trans (hbA.mono (by simp))
  clear T B hbA
  obtain ⟨c0, c1, f0, f1⟩ := TA
  have TA : Two wA w.heap.size (.int .u64 a) (.int .u64 b) := ⟨c0, c1, f0, f1⟩
  go_wp2_with fail
  refine (place_any a b n wa wb wn _).mono ?_
  rintro e wB ⟨rfl, hbB⟩
  have TB := TA.call hbB
  have BB := BA.trans (hbB.mono BA.size)
  clear TA BA hbB c0 c1 f0 f1
  obtain ⟨c0, c1, f0, f1⟩ := TB
  have TB : Two wB w.heap.size (.int .u64 a) (.int .u64 b) := ⟨c0, c1, f0, f1⟩
  go_wp2_with fail
  refine (rplace_any a b n wa wb wn _).mono ?_
  rintro e wC ⟨rfl, hbC⟩
  have TC := TB.call hbC
  have BC := BB.trans (hbC.mono BB.size)
  clear TB BB hbC c0 c1 f0 f1
  obtain ⟨c0, c1, f0, f1⟩ := TC
  have q1 : (gdB a b == gdB a b) = true := by simp
  have q2 : (plV a b n == plV a b n) = true := by simp
  have q3 : (plE a b n == plE a b n) = true := by simp
  go_wp2_with fail
  have BB := BC.drew
  have d0 : wC.drew.cell? ⟨w.heap.size, 0, none⟩ = some (.int .u64 a) := c0
  have d1 : wC.drew.cell? ⟨w.heap.size, 1, none⟩ = some (.int .u64 b) := c1
  clear BC c0 c1 f0 f1
  go_region_held3 (fun w' => w'.cell? ⟨w.heap.size, 0, none⟩ = some (.int .u64 a) ∧ w'.cell? ⟨w.heap.size, 1, none⟩ = some (.int .u64 b) ∧ Below w.heap.size w w')
    ((first | exact ⟨d0, d1, BB⟩ | exact keep2 (by assumption) hbA | assumption))
    (first
      | (go_at_call 12; refine (good_any _ _ wa wb _).mono ?_; rintro e wA ⟨rfl, hbA⟩)
      | (go_at_call 13; refine (rgood_any _ _ wa wb _).mono ?_; rintro e wA ⟨rfl, hbA⟩))
  go_wp2_with fail
  refine bodyPost_ret (v := .bool true) (by simp [results, Try.results3, go_sem]) rfl ⟨rfl, ?_⟩
  exact keep2_bel (by assumption)

set_option maxHeartbeats 12000000 in
theorem places_walk (a b c d n : Int) (wa : Word a) (wb : Word b) (wc : Word c) (wd : Word d) (wn : Word n) (w : World) :
    Calls Try.prog 4 #[.agg #[.int .u64 a, .int .u64 b], .agg #[.int .u64 c, .int .u64 d], .int .u64 n] w fun e w' =>
      e = .returned (.bool true) ∧ Below w.heap.size w w' := by
  have T0 : Two ((w.alloc (.cells #[.int .u64 a, .int .u64 b] 24)).alloc (.cells #[.int .u64 c, .int .u64 d] 24)) w.heap.size (.int .u64 a) (.int .u64 b) := (Two.new w (.int .u64 a) (.int .u64 b) 24).alloc _
  have U0 : Two ((w.alloc (.cells #[.int .u64 a, .int .u64 b] 24)).alloc (.cells #[.int .u64 c, .int .u64 d] 24)) (w.heap.size + 1) (.int .u64 c) (.int .u64 d) := by
    have h := Two.new (w.alloc (.cells #[.int .u64 a, .int .u64 b] 24)) (.int .u64 c) (.int .u64 d) 24
    rw [World.size_alloc] at h
    exact h
  have B0 : Below w.heap.size w ((w.alloc (.cells #[.int .u64 a, .int .u64 b] 24)).alloc (.cells #[.int .u64 c, .int .u64 d] 24)) := ((Below.refl w.heap.size w).alloc (Nat.le_refl _) _).alloc (by simp) _
  go_enter Try.func4, Try.ntmps4
  go_wp2_with fail
  refine (alive3_any _).mono ?_
  rintro e wA ⟨rfl, hbA⟩
  have TA := T0.call hbA
  have UA := U0.call hbA
  have BA := B0.trans (hbA.mono B0.size)
  clear T0 U0 B0 hbA
  obtain ⟨p0, p1, p2, p3⟩ := id TA
  obtain ⟨r0, r1, r2, r3⟩ := id UA
  go_wp2_with fail
  cases h1 : gdB a b with
  | false =>
    have H := Lib.hid h1
    clear p0 p1 p2 p3 r0 r1 r2 r3
    refine (rgood_any a b wa wb _).mono ?_
    rw [H.out]
    rintro e wB ⟨rfl, hbB⟩
    have TB := TA.call hbB
    have UB := UA.call hbB
    have BB := BA.trans (hbB.mono BA.size)
    clear TA UA BA hbB
    obtain ⟨p0, p1, p2, p3⟩ := id TB
    obtain ⟨r0, r1, r2, r3⟩ := id UB
    go_wp2_with fail
    refine bodyPost_ret (v := .bool true) (by simp [results, Try.results4, go_sem]) rfl ⟨rfl, ?_⟩
    exact BB
  | true =>
    have H := Lib.hid h1
    clear p0 p1 p2 p3 r0 r1 r2 r3
    refine (rgood_any a b wa wb _).mono ?_
    rw [H.out]
    rintro e wB ⟨rfl, hbB⟩
    have TB := TA.call hbB
    have UB := UA.call hbB
    have BB := BA.trans (hbB.mono BA.size)
    clear TA UA BA hbB
    obtain ⟨p0, p1, p2, p3⟩ := id TB
    obtain ⟨r0, r1, r2, r3⟩ := id UB
    go_wp2_with fail
    cases h2 : gdB c d with
    | false =>
      have H2 := Lib.hid h2
      clear p0 p1 p2 p3 r0 r1 r2 r3
      refine (rgood_any c d wc wd _).mono ?_
      rw [H2.out]
      rintro e wC ⟨rfl, hbC⟩
      have TC := TB.call hbC
      have UC := UB.call hbC
      have BC := BB.trans (hbC.mono BB.size)
      clear TB UB BB hbC
      obtain ⟨p0, p1, p2, p3⟩ := id TC
      obtain ⟨r0, r1, r2, r3⟩ := id UC
      go_wp2_with fail
      refine bodyPost_ret (v := .bool true) (by simp [results, Try.results4, go_sem]) rfl ⟨rfl, ?_⟩
      exact BC
    | true =>
      have H2 := Lib.hid h2
      clear p0 p1 p2 p3 r0 r1 r2 r3
      by_cases hn : n = 0
      · have hn0 : (n == 0) = true := by simp [hn]
        refine (rgood_any c d wc wd _).mono ?_
        rw [H2.out]
        rintro e wC ⟨rfl, hbC⟩
        have TC := TB.call hbC
        have UC := UB.call hbC
        have BC := BB.trans (hbC.mono BB.size)
        clear TB UB BB hbC
        obtain ⟨p0, p1, p2, p3⟩ := id TC
        obtain ⟨r0, r1, r2, r3⟩ := id UC
        go_wp2_with fail
        refine bodyPost_ret (v := .bool true) (by simp [results, Try.results4, go_sem]) rfl ⟨rfl, ?_⟩
        exact BC
      · have hn0 : (n == 0) = false := by simp [hn]
        obtain ⟨t0, t1, _, _⟩ := pl_spec wa wb wn h1 hn
        have wt := pl_word wa wb wn
        have wu := pl_word wc wd wn
        have Upto := Lib.hid (pl_upto wa wb wn h1 hn)
        have Whole := Lib.hid (pl_whole wb wn h1 hn)
        refine (rgood_any c d wc wd _).mono ?_
        rw [H2.out]
        rintro e wC ⟨rfl, hbC⟩
        have TC := TB.call hbC
        have UC := UB.call hbC
        have BC := BB.trans (hbC.mono BB.size)
        clear TB UB BB hbC
        obtain ⟨p0, p1, p2, p3⟩ := id TC
        obtain ⟨r0, r1, r2, r3⟩ := id UC
        go_wp2_with fail
        clear p0 p1 p2 p3 r0 r1 r2 r3
        refine (place_any a b n wa wb wn _).mono ?_
        rintro e wD ⟨rfl, hbD⟩
        have TD := TC.call hbD
        have UD := UC.call hbD
        have BD := BC.trans (hbD.mono BC.size)
        clear TC UC BC hbD
        obtain ⟨p0, p1, p2, p3⟩ := id TD
        obtain ⟨r0, r1, r2, r3⟩ := id UD
        go_wp2_with fail
        clear p0 p1 p2 p3 r0 r1 r2 r3
        refine (place_any c d n wc wd wn _).mono ?_
        rintro e wE ⟨rfl, hbE⟩
        have TE := TD.call hbE
        have UE := UD.call hbE
        have BE := BD.trans (hbE.mono BD.size)
        clear TD UD BD hbE
        obtain ⟨p0, p1, p2, p3⟩ := id TE
        obtain ⟨r0, r1, r2, r3⟩ := id UE
        go_wp2_with fail
        clear p0 p1 p2 p3 r0 r1 r2 r3
        refine (place_any b b n wb wb wn _).mono ?_
        rw [Whole.out]
        rintro e wF ⟨rfl, hbF⟩
        have TF := TE.call hbF
        have UF := UE.call hbF
        have BF := BE.trans (hbF.mono BE.size)
        clear TE UE BE hbF
        obtain ⟨p0, p1, p2, p3⟩ := id TF
        obtain ⟨r0, r1, r2, r3⟩ := id UF
        have i1 : ¬ plV a b n < 1 := by omega
        have i2 : ¬ n < plV a b n := by omega
        have i3 : (!n == n) = false := by simp
        have t2 := wt.2
        have Rise := Lib.hid (pl_rise wa wb wc wd wn h1 h2 hn)
        have Ahead := Lib.hid (pl_ahead wa wb wn h1 hn)
        by_cases hr : plV a b n < plV c d n
        · have R := Lib.hid (Rise.out hr)
          by_cases ht : plV a b n = 1
          · have ht0 : (plV a b n == 1) = true := by simp [ht]
            clear ht
            go_wp2_with fail
            refine (rfewer_any a b c d wa wb wc wd _).mono ?_
            rw [R.out]
            rintro e wG ⟨rfl, hbG⟩
            have TG := TF.call hbG
            have UG := UF.call hbG
            have BG := BF.trans (hbG.mono BF.size)
            clear TF UF BF hbG p0 p1 p2 p3 r0 r1 r2 r3
            obtain ⟨p0, p1, p2, p3⟩ := id TG
            obtain ⟨r0, r1, r2, r3⟩ := id UG
            go_wp2_with fail
            refine (rfewer_any (plV a b n) n a b wt wn wa wb _).mono ?_
            rw [Upto.out]
            rintro e wZ ⟨rfl, hbZ⟩
            have TZ := TG.call hbZ
            have UZ := UG.call hbZ
            have BZ := BG.trans (hbZ.mono BG.size)
            clear TG UG BG hbZ p0 p1 p2 p3 r0 r1 r2 r3
            obtain ⟨p0, p1, p2, p3⟩ := id TZ
            obtain ⟨r0, r1, r2, r3⟩ := id UZ
            go_wp2_with fail
            refine bodyPost_ret (v := .bool true) (by simp [results, Try.results4, go_sem]) rfl ⟨rfl, ?_⟩
            exact BZ
          · have ht0 : (plV a b n == 1) = false := by simp [ht]
            have A := Lib.hid (Ahead.out ht)
            have e1 : plV a b n - 1 < 18446744073709551616 := by omega
            clear ht
            go_wp2_with fail
            refine (rfewer_any a b c d wa wb wc wd _).mono ?_
            rw [R.out]
            rintro e wG ⟨rfl, hbG⟩
            have TG := TF.call hbG
            have UG := UF.call hbG
            have BG := BF.trans (hbG.mono BF.size)
            clear TF UF BF hbG p0 p1 p2 p3 r0 r1 r2 r3
            obtain ⟨p0, p1, p2, p3⟩ := id TG
            obtain ⟨r0, r1, r2, r3⟩ := id UG
            go_wp2_with fail
            refine (rfewer_any (plV a b n - 1) n a b ⟨by omega, by omega⟩ wn wa wb _).mono ?_
            rw [A.out]
            rintro e wY ⟨rfl, hbY⟩
            have TY := TG.call hbY
            have UY := UG.call hbY
            have BY := BG.trans (hbY.mono BG.size)
            clear TG UG BG hbY p0 p1 p2 p3 r0 r1 r2 r3
            obtain ⟨p0, p1, p2, p3⟩ := id TY
            obtain ⟨r0, r1, r2, r3⟩ := id UY
            go_wp2_with fail
            refine (rfewer_any (plV a b n) n a b wt wn wa wb _).mono ?_
            rw [Upto.out]
            rintro e wZ ⟨rfl, hbZ⟩
            have TZ := TY.call hbZ
            have UZ := UY.call hbZ
            have BZ := BY.trans (hbZ.mono BY.size)
            clear TY UY BY hbZ p0 p1 p2 p3 r0 r1 r2 r3
            obtain ⟨p0, p1, p2, p3⟩ := id TZ
            obtain ⟨r0, r1, r2, r3⟩ := id UZ
            go_wp2_with fail
            refine bodyPost_ret (v := .bool true) (by simp [results, Try.results4, go_sem]) rfl ⟨rfl, ?_⟩
            exact BZ
        · by_cases ht : plV a b n = 1
          · have ht0 : (plV a b n == 1) = true := by simp [ht]
            clear ht
            go_wp2_with fail
            refine (rfewer_any (plV a b n) n a b wt wn wa wb _).mono ?_
            rw [Upto.out]
            rintro e wZ ⟨rfl, hbZ⟩
            have TZ := TF.call hbZ
            have UZ := UF.call hbZ
            have BZ := BF.trans (hbZ.mono BF.size)
            clear TF UF BF hbZ p0 p1 p2 p3 r0 r1 r2 r3
            obtain ⟨p0, p1, p2, p3⟩ := id TZ
            obtain ⟨r0, r1, r2, r3⟩ := id UZ
            go_wp2_with fail
            refine bodyPost_ret (v := .bool true) (by simp [results, Try.results4, go_sem]) rfl ⟨rfl, ?_⟩
            exact BZ
          · have ht0 : (plV a b n == 1) = false := by simp [ht]
            have A := Lib.hid (Ahead.out ht)
            have e1 : plV a b n - 1 < 18446744073709551616 := by omega
            clear ht
            go_wp2_with fail
            refine (rfewer_any (plV a b n - 1) n a b ⟨by omega, by omega⟩ wn wa wb _).mono ?_
            rw [A.out]
            rintro e wY ⟨rfl, hbY⟩
            have TY := TF.call hbY
            have UY := UF.call hbY
            have BY := BF.trans (hbY.mono BF.size)
            clear TF UF BF hbY p0 p1 p2 p3 r0 r1 r2 r3
            obtain ⟨p0, p1, p2, p3⟩ := id TY
            obtain ⟨r0, r1, r2, r3⟩ := id UY
            go_wp2_with fail
            refine (rfewer_any (plV a b n) n a b wt wn wa wb _).mono ?_
            rw [Upto.out]
            rintro e wZ ⟨rfl, hbZ⟩
            have TZ := TY.call hbZ
            have UZ := UY.call hbZ
            have BZ := BY.trans (hbZ.mono BY.size)
            clear TY UY BY hbZ p0 p1 p2 p3 r0 r1 r2 r3
            obtain ⟨p0, p1, p2, p3⟩ := id TZ
            obtain ⟨r0, r1, r2, r3⟩ := id UZ
            go_wp2_with fail
            refine bodyPost_ret (v := .bool true) (by simp [results, Try.results4, go_sem]) rfl ⟨rfl, ?_⟩
            exact BZ
end Go.Proofs.Ytbllnhkfnbadgaa
