/-
  Walks: the reference's Ceil, wide.Log, wide.Plus, the laws' alive.
-/
import Derived.Test.YtdkkpiplfkdkgaaLess
namespace Go.Proofs.Ytdkkpiplfkdkgaa
set_option linter.unusedVariables false
open Go.RowKit Go.Shelf

theorem cl_no {n y : Int} (h : ovB n y = false) : clB n y = false ∧ clQ n y = 0 := by
  have e : clB n y = false := by unfold clB; rw [h]; rfl
  exact ⟨e, by unfold clQ; rw [e]; rfl⟩
theorem cl_full {n y : Int} (h : ovB n y = true) (hr : 0 < ovR n y) (hq : ovQ n y = 18446744073709551615) : clB n y = false ∧ clQ n y = 0 := by
  have e : clB n y = false := by unfold clB; rw [h, decide_eq_true hr, hq]; rfl
  exact ⟨e, by unfold clQ; rw [e]; rfl⟩
theorem cl_up {n y : Int} (h : ovB n y = true) (hr : 0 < ovR n y) (hq : ¬ ovQ n y = 18446744073709551615) : clB n y = true ∧ clQ n y = ovQ n y + 1 := by
  have e : clB n y = true := by unfold clB; rw [h, decide_eq_true hr]; simp [hq]
  exact ⟨e, by unfold clQ; rw [if_pos e, if_pos hr]⟩

set_option maxHeartbeats 1000000 in
theorem rceil_any (a b y : Int) (wa : Word a) (wb : Word b) (wy : Word y) (w : World) :
    Calls Try.prog 21 #[.int .u64 a, .int .u64 b, .int .u64 y] w fun e w' =>
      e = .returned (.tuple #[.int .u64 (clQ (a * b) y), .bool (clB (a * b) y)]) ∧ Below w.heap.size w w' := by
  obtain ⟨n0, n1⟩ := mul_bd wa wb
  obtain ⟨⟨q0, q1⟩, ⟨r0, r1⟩⟩ := ov_word (n := a * b) n0 wy
  by_cases ho : ovB (a * b) y = true
  · by_cases hr : 0 < ovR (a * b) y
    · by_cases hq : ovQ (a * b) y = 18446744073709551615
      · have E := Lib.hid (cl_full ho hr hq)
        have hq0 : (ovQ (a * b) y == 18446744073709551615) = true := by simp [hq]
        clear hq
        go_enter Try.func21, Try.ntmps21
        go_wp2_with fail
        refine (rtimes_any a b wa wb _).mono ?_
        rintro e wA ⟨rfl, hbA⟩
        go_wp2_with fail
        refine (rover_num (a * b) y n0 n1 wy _).mono ?_
        rintro e wB ⟨rfl, hbB⟩
        go_wp2_with fail
        refine bodyPost_ret (v := .tuple #[.int .u64 0, .bool false]) (by simp [results, Try.results21, go_sem]) rfl ⟨by rw [E.out.1, E.out.2], ?_⟩
        exact hbA.trans (hbB.mono hbA.size)
      · have E := Lib.hid (cl_up ho hr hq)
        have hq0 : (ovQ (a * b) y == 18446744073709551615) = false := by simp [hq]
        have hq1 : ovQ (a * b) y + 1 < 18446744073709551616 := by omega
        clear hq
        go_enter Try.func21, Try.ntmps21
        go_wp2_with fail
        refine (rtimes_any a b wa wb _).mono ?_
        rintro e wA ⟨rfl, hbA⟩
        go_wp2_with fail
        refine (rover_num (a * b) y n0 n1 wy _).mono ?_
        rintro e wB ⟨rfl, hbB⟩
        go_wp2_with fail
        refine bodyPost_ret (v := .tuple #[.int .u64 (ovQ (a * b) y + 1), .bool true]) (by simp [results, Try.results21, go_sem]) rfl ⟨by rw [E.out.1, E.out.2], ?_⟩
        exact hbA.trans (hbB.mono hbA.size)
    · have E := Lib.hid (cl_zero (n := a * b) (y := y) (by omega))
      go_enter Try.func21, Try.ntmps21
      go_wp2_with fail
      refine (rtimes_any a b wa wb _).mono ?_
      rintro e wA ⟨rfl, hbA⟩
      go_wp2_with fail
      refine (rover_num (a * b) y n0 n1 wy _).mono ?_
      rintro e wB ⟨rfl, hbB⟩
      go_wp2_with fail
      refine bodyPost_ret (v := .tuple #[.int .u64 (ovQ (a * b) y), .bool true]) (by simp [results, Try.results21, go_sem]) rfl ⟨by rw [E.out.1, E.out.2, ho], ?_⟩
      exact hbA.trans (hbB.mono hbA.size)
  · have ho' : ovB (a * b) y = false := by simpa using ho
    have E := Lib.hid (cl_no ho')
    clear ho
    go_enter Try.func21, Try.ntmps21
    go_wp2_with fail
    refine (rtimes_any a b wa wb _).mono ?_
    rintro e wA ⟨rfl, hbA⟩
    go_wp2_with fail
    refine (rover_num (a * b) y n0 n1 wy _).mono ?_
    rintro e wB ⟨rfl, hbB⟩
    go_wp2_with fail
    refine bodyPost_ret (v := .tuple #[.int .u64 0, .bool false]) (by simp [results, Try.results21, go_sem]) rfl ⟨by rw [E.out.1, E.out.2], ?_⟩
    exact hbA.trans (hbB.mono hbA.size)

theorem ceil_712 (w : World) : Calls Try.prog 20 #[.int .u64 7, .int .u64 1, .int .u64 2] w fun e w' =>
      e = .returned (.tuple #[.int .u64 4, .bool true]) ∧ Below w.heap.size w w' := by
  have h := ceil_any 7 1 2 (by unfold Word; omega) (by unfold Word; omega) (by unfold Word; omega) w
  rw [show clQ (7 * 1) 2 = 4 by decide, show clB (7 * 1) 2 = true by decide] at h
  exact h
theorem times_634 (w : World) : Calls Try.prog 15 #[.int .u64 9223372036854775808, .int .u64 4] w fun e w' =>
      e = .returned (.agg #[.int .u64 2, .int .u64 0]) ∧ Below w.heap.size w w' := by
  have h := times_any 9223372036854775808 4 (by unfold Word; omega) (by unfold Word; omega) w
  rw [show hiW (9223372036854775808 * 4) = 2 by decide, show loW (9223372036854775808 * 4) = 0 by decide] at h
  exact h

set_option maxHeartbeats 400000 in
theorem alive_any (w : World) : Calls Try.prog 8 #[] w fun e w' =>
      e = .returned (.bool true) ∧ Below w.heap.size w w' := by
  go_enter Try.func8, Try.ntmps8
  go_wp2_with fail
  refine (ceil_712 _).mono ?_
  rintro e wA ⟨rfl, hbA⟩
  go_wp2_with fail
  refine (times_634 _).mono ?_
  rintro e wB ⟨rfl, hbB⟩
  go_wp2_with fail
  refine bodyPost_ret (v := .bool true) (by simp [results, Try.results8, go_sem]) rfl ⟨rfl, ?_⟩
  exact hbA.trans (hbB.mono hbA.size)

set_option maxHeartbeats 400000 in
theorem log_any (a : Int) (wa : Word a) (w : World) : Calls Try.prog 24 #[.int .u64 a] w fun e w' =>
      e = .returned (.tuple #[.int .i64 ((Lib.bitLen a.toNat : Int) - 1), .bool (a != 0)]) ∧ w = w' := by
  have hl := Lib.bitLen_le a.toNat 64 (Nat.le_refl _) (by have := wa.1; have := wa.2; omega)
  go_enter Try.func24, Try.ntmps24
  go_wp2_with fail
  refine (Try.bits_Len64 a _ wa.1 (by have := wa.2; omega)).mono ?_
  rintro e w' ⟨rfl, rfl⟩
  go_wp2_with fail
  exact bodyPost_ret (v := .tuple #[.int .i64 ((Lib.bitLen a.toNat : Int) - 1), .bool (a != 0)]) (by simp [results, Try.results24, go_sem]) rfl ⟨rfl, rfl⟩

set_option maxHeartbeats 400000 in
theorem plus_nil (cap : Nat) (w : World) : Calls Try.prog 25 #[.slice none 0 cap] w fun e w' =>
      e = .returned (.tuple #[.int .u64 0, .bool true]) ∧ w = w' := by
  go_enter Try.func25, Try.ntmps25
  go_wp2_with fail
  go_loop [4, 9] (fun s i => s = .int .u64 0 ∧ i = .int .i64 0) (fun _ _ => 0)
  case atStart => exact ⟨rfl, rfl⟩
  case round =>
    obtain ⟨rfl, rfl⟩ := hrel
    go_wp2_with fail
    exact bodyPost_ret (v := .tuple #[.int .u64 0, .bool true]) (by simp [results, Try.results25, go_sem]) rfl ⟨rfl, rfl⟩

set_option maxHeartbeats 400000 in
theorem plus_any (xs : List Int) (b off cap : Nat) (w : World) (hm : xs.length ≤ maxLen) (hw : ∀ x ∈ xs, Word x)
    (hcell : ∀ i x, xs[i]? = some x → w.cell? ⟨b, off + i, none⟩ = some (.int .u64 x)) :
    Calls Try.prog 25 #[.slice (some ⟨b, off, none⟩) xs.length cap] w fun e w' =>
      e = .returned (.tuple #[.int .u64 (plQ xs), .bool (plB xs)]) ∧ w = w' := by
  unfold maxLen at hm
  have hpos : ∀ x ∈ xs, 0 ≤ x := fun x hx => (hw x hx).1
  have Hpos := Lib.hid hpos
  have Hw := Lib.hid hw
  have Hcell := Lib.hid hcell
  clear hpos hw hcell
  go_enter Try.func25, Try.ntmps25
  go_wp2_with fail
  go_loop [4, 9] (fun s i => ∃ k : Nat, k ≤ xs.length ∧ i = .int .i64 k ∧ s = .int .u64 (sumI (xs.take k)) ∧ sumI (xs.take k) ≤ 9223372036854775807) (fun _ i => xs.length - (intOf i).toNat)
  case atStart => exact ⟨0, Nat.zero_le _, rfl, rfl, by simp [sumI]⟩
  case round =>
    obtain ⟨k, hk, rfl, rfl, hs⟩ := hrel
    have s0 : 0 ≤ sumI (xs.take k) := sumI_nonneg (fun x hx => Hpos.out x (List.mem_of_mem_take hx))
    by_cases hlt : k < xs.length
    · obtain ⟨x, hx⟩ : ∃ x, xs[k]? = some x := ⟨_, List.getElem?_eq_getElem hlt⟩
      have e1 := Hcell.out k x hx
      have HS := Lib.hid (sumI_take hx)
      obtain ⟨x0, x1⟩ := Hw.out x (List.mem_of_getElem? hx)
      have HM := Lib.hid (sumI_mono Hpos.out (k + 1))
      clear hx
      generalize sumI (xs.take k) = s at *
      by_cases hg : 9223372036854775807 - s < x
      · have e : plB xs = false := by
          have a := HS.out; have b := HM.out
          unfold plB; apply decide_eq_false; omega
        have e2 : plQ xs = 0 := by unfold plQ; rw [e]; rfl
        have E := Lib.hid e; have E2 := Lib.hid e2
        clear e e2
        go_wp2_with fail
        exact bodyPost_ret (v := .tuple #[.int .u64 0, .bool false]) (by simp [results, Try.results25, go_sem]) rfl ⟨by rw [E.out, E2.out], rfl⟩
      · go_wp2_with fail
        go_round
        case rel => exact ⟨k + 1, by omega, by go_num, by rw [HS.out], by rw [HS.out]; omega⟩
        case measure => simp [intOf]; omega
    · obtain rfl : k = xs.length := by omega
      rw [List.take_length] at *
      have e : plB xs = true := by unfold plB; exact decide_eq_true hs
      have e2 : plQ xs = sumI xs := by unfold plQ; rw [if_pos e]
      have E := Lib.hid e; have E2 := Lib.hid e2
      clear e e2
      go_wp2_with fail
      exact bodyPost_ret (v := .tuple #[.int .u64 (sumI xs), .bool true]) (by simp [results, Try.results25, go_sem]) rfl ⟨by rw [E.out, E2.out], rfl⟩
end Go.Proofs.Ytdkkpiplfkdkgaa
