/-
  The walk of WideQuotients.
-/
import Derived.Test.YtdkkpiplfkdkgaaSmall
import Derived.Test.YtdkkpiplfkdkgaaOpen
namespace Go.Proofs.Ytdkkpiplfkdkgaa
set_option linter.unusedVariables false
set_option linter.unusedSimpArgs false
open Go.RowKit Go.Shelf

/-- Multiplied again, with what is left, it is as it was. -/
theorem quot_back {h l y : Int} (wh : Word h) (wl : Word l) (wy : Word y) (ho : ovB (wval h l) y = true) :
    wval (hiW (ovQ (wval h l) y * y)) (loW (ovQ (wval h l) y * y)) + wval 0 (ovR (wval h l) y) = wval h l ∧ ovR (wval h l) y < y := by
  have hy := (ov_iff (l := l) wh wl wy).1 ho
  obtain ⟨_, e2, e3⟩ := ov_yes wh wl wy hy
  obtain ⟨a0, a1⟩ := wval_bd wh wl
  have yp : 0 < y := by have := wh.1; omega
  rw [e2, e3]
  have h1 := Int.ediv_mul_add_emod (wval h l) y
  have h2 := Int.emod_nonneg (wval h l) (show y ≠ 0 by omega)
  have h3 := Int.emod_lt_of_pos (wval h l) yp
  have h4 := Int.mul_nonneg (Int.ediv_nonneg a0 (show 0 ≤ y by omega)) (show 0 ≤ y by omega)
  rw [wval_split h4 (by omega)]
  refine ⟨?_, h3⟩
  have e : ∀ r, wval 0 r = r := fun r => by unfold wval; omega
  rw [e]; exact h1

set_option maxHeartbeats 1000000 in
theorem quot_walk (h l y : Int) (wh : Word h) (wl : Word l) (wy : Word y) (w : World) :
    Calls Try.prog 4 #[.agg #[.int .u64 h, .int .u64 l], .int .u64 y] w fun e w' =>
      e = .returned (.bool true) ∧ Below w.heap.size w w' := by
  obtain ⟨wq, wr⟩ := ov_word (n := wval h l) (wval_bd wh wl).1 wy
  by_cases ho : ovB (wval h l) y = true
  · obtain ⟨e1, e2⟩ := quot_back wh wl wy ho
    have s1 : hiW (wval h l) = h := hi_wval wh wl
    have s2 : loW (wval h l) = l := lo_wval wl
    have s3 : carryB (wval h l) = false := by unfold carryB; apply decide_eq_false; have := (wval_bd wh wl).2; omega
    have E1 := Lib.hid e1; have S1 := Lib.hid s1; have S2 := Lib.hid s2; have S3 := Lib.hid s3
    clear e1 s1 s2 s3
    go_enter Try.func4, Try.ntmps4
    go_wp2_with fail
    refine (alive_any _).mono ?_
    rintro e wA ⟨rfl, hbA⟩
    have a0 : wA.cell? ⟨w.heap.size, 0, none⟩ = some (.int .u64 h) := cell_later hbA (by go_simp)
    have a1 : wA.cell? ⟨w.heap.size, 1, none⟩ = some (.int .u64 l) := cell_later hbA (by go_simp)
    have BA : Below w.heap.size w wA := ((Below.refl _ _).alloc (Nat.le_refl _) _).trans (hbA.mono (by simp))
    go_wp2_with fail
    refine (over_any h l y wh wl wy _).mono ?_
    rintro e wB ⟨rfl, hbB⟩
    have b0 := cell_later hbB a0
    have b1 := cell_later hbB a1
    have BB := BA.trans (hbB.mono BA.size)
    clear a0 a1 hbA hbB BA
    go_wp2_with fail
    refine (rover_any h l y wh wl wy _).mono ?_
    rintro e wC ⟨rfl, hbC⟩
    have c0 := cell_later hbC b0
    have c1 := cell_later hbC b1
    have BC := BB.trans (hbC.mono BB.size)
    clear b0 b1 hbC BB
    go_wp2_with fail
    refine (rtimes_any (ovQ (wval h l) y) y wq wy _).mono ?_
    rintro e wD ⟨rfl, hbD⟩
    have d0 := cell_later hbD c0
    have d1 := cell_later hbD c1
    have BD := BC.trans (hbD.mono BC.size)
    clear c0 c1 hbD BC
    go_wp2_with fail
    refine (radd_any _ _ 0 (ovR (wval h l) y) (word_hi _) (word_lo _) (by unfold Word; omega) wr _).mono ?_
    rw [E1.out, S1.out, S2.out, S3.out]
    rintro e wE ⟨rfl, hbE⟩
    have f0 := cell_later hbE d0
    have f1 := cell_later hbE d1
    have BE := BD.trans (hbE.mono BD.size)
    have zE : w.heap.size < wE.heap.size := World.block_lt_of_cell? _ _ f0
    clear d0 d1 hbE BD
    go_wp2_with fail
    refine bodyPost_ret (v := .bool true) (by simp [results, Try.results4, go_sem]) rfl ⟨rfl, ?_⟩
    exact BE.alloc (by omega) _
  · have ho' : ovB (wval h l) y = false := by simpa using ho
    clear ho
    go_enter Try.func4, Try.ntmps4
    go_wp2_with fail
    refine (alive_any _).mono ?_
    rintro e wA ⟨rfl, hbA⟩
    have a0 : wA.cell? ⟨w.heap.size, 0, none⟩ = some (.int .u64 h) := cell_later hbA (by go_simp)
    have a1 : wA.cell? ⟨w.heap.size, 1, none⟩ = some (.int .u64 l) := cell_later hbA (by go_simp)
    have BA : Below w.heap.size w wA := ((Below.refl _ _).alloc (Nat.le_refl _) _).trans (hbA.mono (by simp))
    go_wp2_with fail
    refine (over_any h l y wh wl wy _).mono ?_
    rintro e wB ⟨rfl, hbB⟩
    have b0 := cell_later hbB a0
    have b1 := cell_later hbB a1
    have BB := BA.trans (hbB.mono BA.size)
    clear a0 a1 hbA hbB BA
    go_wp2_with fail
    refine (rover_any h l y wh wl wy _).mono ?_
    rintro e wC ⟨rfl, hbC⟩
    have BC := BB.trans (hbC.mono BB.size)
    clear b0 b1 hbC BB
    go_wp2_with fail
    refine bodyPost_ret (v := .bool true) (by simp [results, Try.results4, go_sem]) rfl ⟨rfl, ?_⟩
    exact BC
end Go.Proofs.Ytdkkpiplfkdkgaa
