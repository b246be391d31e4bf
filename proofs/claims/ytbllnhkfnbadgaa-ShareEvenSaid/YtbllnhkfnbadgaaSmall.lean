/-
  Walks: the reference's Ceil, wide.Log, wide.Plus, the laws' alive.
-/
import Derived.Test.YtbllnhkfnbadgaaLess
namespace Go.Proofs.Ytbllnhkfnbadgaa
set_option linter.unusedVariables false
open Go.RowKit Go.Shelf

theorem cl_no {n y : Int} (h : ovB n y = false) : clB n y = false ∧ clQ n y = 0 := by
  have e : clB n y = false := by unfold clB; rw [h]; rfl
  exact ⟨e, by unfold clQ; rw [e]; rfl⟩
theorem cl_full {n y : Int} (h : ovB n y = true) (hr : 0 < ovR n y) (hq : ovQ n y = 18446744073709551615) : clB n y = false ∧ clQ n y = 0 := by
  have e : clB n y = false := by unfold clB; rw [h, decide_eq_true hr, hq]; rfl
  exact ⟨e, by unfold clQ; rw [e]; rfl⟩
theorem cl_up {n y : Int} (h : ovB n y = true) (hr : 0 < ovR n y) (hq : ¬ ovQ n y = 18446744073709551615) : clB n y = true ∧ clQ n y = ovQ n y + 1 := by
  have e : clB n y = true := by unfold clB; rw [h, decide_eq_true hr]; simp [hq]
  exact ⟨e, by unfold clQ; rw [if_pos e, if_pos hr]⟩

set_option maxHeartbeats 1000000 in
theorem rceil_any (a b y : Int) (wa : Word a) (wb : Word b) (wy : Word y) (w : World) :
    Calls Try.prog 21 #[.int .u64 a, .int .u64 b, .int .u64 y] w fun e w' =>
      e = .returned (.tuple #[.int .u64 (clQ (a * b) y), .bool (clB (a * b) y)]) ∧ Below w.heap.size w w' := by
  obtain ⟨n0, n1⟩ := mul_bd wa wb
  obtain ⟨⟨q0, q1⟩, ⟨r0, r1⟩⟩ := ov_word (n := a * b) n0 wy
  by_cases ho : ovB (a * b) y = true
  · by_cases hr : 0 < ovR (a * b) y
    · by_cases hq : ovQ (a * b) y = 18446744073709551615
      · have E := Lib.hid (cl_full ho hr hq)
        have hq0 : (ovQ (a * b) y == 18446744073709551615) = true := by simp [hq]
        clear hq
        go_enter Try.func21, Try.ntmps21
        go_wp2_with fail
        refine (rtimes_any a b wa wb _).mono ?_
        rintro e wA ⟨rfl, hbA⟩
        go_wp2_with fail
        refine (rover_num (a * b) y n0 n1 wy _).mono ?_
        rintro e wB ⟨rfl, hbB⟩
        go_wp2_with fail
        refine bodyPost_ret (v := .tuple #[.int .u64 0, .bool false]) (by simp [results, Try.results21, go_sem]) rfl ⟨by rw [E.out.1, E.out.2], ?_⟩
        exact hbA.trans (hbB.mono hbA.size)
      · have E := Lib.hid (cl_up ho hr hq)
        have hq0 : (ovQ (a * b) y == 18446744073709551615) = false := by simp [hq]
        have hq1 : ovQ (a * b) y + 1 < 18446744073709551616 := by omega
        clear hq
        go_enter Try.func21, Try.ntmps21
        go_wp2_with fail
        refine (rtimes_any a b wa wb _).mono ?_
        rintro e wA ⟨rfl, hbA⟩
        go_wp2_with fail
        refine (rover_num (a * b) y n0 n1 wy _).mono ?_
        rintro e wB ⟨rfl, hbB⟩
        go_wp2_with fail
        refine bodyPost_ret (v := .tuple #[.int .u64 (ovQ (a * b) y + 1), .bool true]) (by simp [results, Try.results21, go_sem]) rfl ⟨by rw [E.out.1, E.out.2], ?_⟩
        exact hbA.trans (hbB.mono hbA.size)
    · have E := Lib.hid (cl_zero (n := a * b) (y := y) (by omega))
      go_enter Try.func21, Try.ntmps21
      go_wp2_with fail
      refine (rtimes_any a b wa wb _).mono ?_
      rintro e wA ⟨rfl, hbA⟩
      go_wp2_with fail
      refine (rover_num (a * b) y n0 n1 wy _).mono ?_
      rintro e wB ⟨rfl, hbB⟩
      go_wp2_with fail
      refine bodyPost_ret (v := .tuple #[.int .u64 (ovQ (a * b) y), .bool true]) (by simp [results, Try.results21, go_sem]) rfl ⟨by rw [E.out.1, E.out.2, ho], ?_⟩
      exact hbA.trans (hbB.mono hbA.size)
  · have ho' : ovB (a * b) y = false := by simpa using ho
    have E := Lib.hid (cl_no ho')
    clear ho
    go_enter Try.func21, Try.ntmps21
    go_wp2_with fail
    refine (rtimes_any a b wa wb _).mono ?_
    rintro e wA ⟨rfl, hbA⟩
    go_wp2_with fail
    refine (rover_num (a * b) y n0 n1 wy _).mono ?_
    rintro e wB ⟨rfl, hbB⟩
    go_wp2_with fail
    refine bodyPost_ret (v := .tuple #[.int .u64 0, .bool false]) (by simp [results, Try.results21, go_sem]) rfl ⟨by rw [E.out.1, E.out.2], ?_⟩
    exact hbA.trans (hbB.mono hbA.size)

theorem ceil_712 (w : World) : Calls Try.prog 20 #[.int .u64 7, .int .u64 1, .int .u64 2] w fun e w' =>
      e = .returned (.tuple #[.int .u64 4, .bool true]) ∧ Below w.heap.size w w' := by
  have h := ceil_any 7 1 2 (by unfold Word; omega) (by unfold Word; omega) (by unfold Word; omega) w
  rw [show clQ (7 * 1) 2 = 4 by decide, show clB (7 * 1) 2 = true by decide] at h
  exact h
theorem times_634 (w : World) : Calls Try.prog 29 #[.int .u64 9223372036854775808, .int .u64 4] w fun e w' =>
      e = .returned (.agg #[.int .u64 2, .int .u64 0]) ∧ Below w.heap.size w w' := by
  have h := times_any 9223372036854775808 4 (by unfold Word; omega) (by unfold Word; omega) w
  rw [show hiW (9223372036854775808 * 4) = 2 by decide, show loW (9223372036854775808 * 4) = 0 by decide] at h
  exact h

end Go.Proofs.Ytbllnhkfnbadgaa