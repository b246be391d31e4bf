/-
  The walk of WideRounds.
-/
import Derived.Test.YtdkkpiplfkdkgaaSmall
import Derived.Test.YtdkkpiplfkdkgaaOpen
namespace Go.Proofs.Ytdkkpiplfkdkgaa
set_option linter.unusedVariables false
set_option linter.unusedSimpArgs false
open Go.RowKit Go.Shelf

/-- Ceil is Floor, or 1 more: where it answers. -/
theorem cl_cases {n y : Int} (h0 : 0 ≤ n) (wy : Word y) :
    clB n y = false ∨ (clB n y = true ∧ ovR n y = 0 ∧ clQ n y = ovQ n y) ∨ (clB n y = true ∧ 0 < ovR n y ∧ clQ n y = ovQ n y + 1 ∧ ovQ n y + 1 < 18446744073709551616) := by
  cases hc : clB n y with
  | false => exact .inl rfl
  | true =>
    refine .inr ?_
    have hb : ovB n y = true := by
      cases hb : ovB n y with
      | true => rfl
      | false => rw [(cl_no hb).1] at hc; cases hc
    obtain ⟨⟨q0, q1⟩, ⟨r0, r1⟩⟩ := ov_word (n := n) h0 wy
    by_cases hr : 0 < ovR n y
    · by_cases hq : ovQ n y = 18446744073709551615
      · rw [(cl_full hb hr hq).1] at hc; cases hc
      · exact .inr ⟨rfl, hr, (cl_up hb hr hq).2, by omega⟩
    · exact .inl ⟨rfl, by omega, (cl_zero (by omega)).2⟩

set_option maxHeartbeats 1000000 in
theorem rounds_walk (a b y : Int) (wa : Word a) (wb : Word b) (wy : Word y) (w : World) :
    Calls Try.prog 5 #[.int .u64 a, .int .u64 b, .int .u64 y] w fun e w' =>
      e = .returned (.bool true) ∧ Below w.heap.size w w' := by
  obtain ⟨n0, n1⟩ := mul_bd wa wb
  obtain ⟨⟨q0, q1⟩, ⟨r0, r1⟩⟩ := ov_word (n := a * b) n0 wy
  rcases cl_cases n0 wy with hc | ⟨hc, hr, hq⟩ | ⟨hc, hr, hq, hm⟩
  · go_enter Try.func5, Try.ntmps5
    go_wp2_with fail
    refine (alive_any _).mono ?_
    rintro e wA ⟨rfl, hbA⟩
    go_wp2_with fail
    refine (floor_any a b y wa wb wy _).mono ?_
    rintro e wB ⟨rfl, hbB⟩
    have BB := hbA.trans (hbB.mono hbA.size)
    clear hbA hbB
    go_wp2_with fail
    refine (ceil_any a b y wa wb wy _).mono ?_
    rintro e wC ⟨rfl, hbC⟩
    have BC := BB.trans (hbC.mono BB.size)
    clear BB hbC
    go_wp2_with fail
    refine (rtimes_any a b wa wb _).mono ?_
    rintro e wD ⟨rfl, hbD⟩
    have BD := BC.trans (hbD.mono BC.size)
    clear BC hbD
    go_wp2_with fail
    refine (rover_num (a * b) y n0 n1 wy _).mono ?_
    rintro e wE ⟨rfl, hbE⟩
    have BE := BD.trans (hbE.mono BD.size)
    clear BD hbE
    go_wp2_with fail
    refine (rceil_any a b y wa wb wy _).mono ?_
    rintro e wF ⟨rfl, hbF⟩
    have BF := BE.trans (hbF.mono BE.size)
    clear BE hbF
    go_wp2_with fail
    refine bodyPost_ret (v := .bool true) (by simp [results, Try.results5, go_sem]) rfl ⟨rfl, ?_⟩
    exact BF
  · have hq0 : (clQ (a * b) y == ovQ (a * b) y) = true := by simp [hq]
    have hr0 : (ovR (a * b) y == 0) = true := by simp [hr]
    clear hq hr
    go_enter Try.func5, Try.ntmps5
    go_wp2_with fail
    refine (alive_any _).mono ?_
    rintro e wA ⟨rfl, hbA⟩
    go_wp2_with fail
    refine (floor_any a b y wa wb wy _).mono ?_
    rintro e wB ⟨rfl, hbB⟩
    have BB := hbA.trans (hbB.mono hbA.size)
    clear hbA hbB
    go_wp2_with fail
    refine (ceil_any a b y wa wb wy _).mono ?_
    rintro e wC ⟨rfl, hbC⟩
    have BC := BB.trans (hbC.mono BB.size)
    clear BB hbC
    go_wp2_with fail
    refine (rtimes_any a b wa wb _).mono ?_
    rintro e wD ⟨rfl, hbD⟩
    have BD := BC.trans (hbD.mono BC.size)
    clear BC hbD
    go_wp2_with fail
    refine (rover_num (a * b) y n0 n1 wy _).mono ?_
    rintro e wE ⟨rfl, hbE⟩
    have BE := BD.trans (hbE.mono BD.size)
    clear BD hbE
    go_wp2_with fail
    refine (rceil_any a b y wa wb wy _).mono ?_
    rintro e wF ⟨rfl, hbF⟩
    have BF := BE.trans (hbF.mono BE.size)
    clear BE hbF
    go_wp2_with fail
    refine bodyPost_ret (v := .bool true) (by simp [results, Try.results5, go_sem]) rfl ⟨rfl, ?_⟩
    exact BF
  · have hq0 : (clQ (a * b) y == ovQ (a * b) y) = false := by rw [beq_eq_false_iff_ne]; omega
    have hq1 : (clQ (a * b) y == ovQ (a * b) y + 1) = true := by rw [beq_iff_eq]; omega
    clear hq
    go_enter Try.func5, Try.ntmps5
    go_wp2_with fail
    refine (alive_any _).mono ?_
    rintro e wA ⟨rfl, hbA⟩
    go_wp2_with fail
    refine (floor_any a b y wa wb wy _).mono ?_
    rintro e wB ⟨rfl, hbB⟩
    have BB := hbA.trans (hbB.mono hbA.size)
    clear hbA hbB
    go_wp2_with fail
    refine (ceil_any a b y wa wb wy _).mono ?_
    rintro e wC ⟨rfl, hbC⟩
    have BC := BB.trans (hbC.mono BB.size)
    clear BB hbC
    go_wp2_with fail
    refine (rtimes_any a b wa wb _).mono ?_
    rintro e wD ⟨rfl, hbD⟩
    have BD := BC.trans (hbD.mono BC.size)
    clear BC hbD
    go_wp2_with fail
    refine (rover_num (a * b) y n0 n1 wy _).mono ?_
    rintro e wE ⟨rfl, hbE⟩
    have BE := BD.trans (hbE.mono BD.size)
    clear BD hbE
    go_wp2_with fail
    refine (rceil_any a b y wa wb wy _).mono ?_
    rintro e wF ⟨rfl, hbF⟩
    have BF := BE.trans (hbF.mono BE.size)
    clear BE hbF
    go_wp2_with fail
    refine bodyPost_ret (v := .bool true) (by simp [results, Try.results5, go_sem]) rfl ⟨rfl, ?_⟩
    exact BF
end Go.Proofs.Ytdkkpiplfkdkgaa
