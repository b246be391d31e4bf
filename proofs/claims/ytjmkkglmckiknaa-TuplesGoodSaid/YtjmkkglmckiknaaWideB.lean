/-
  Walks: the reference's Sub.
-/
import Derived.Test.YtjmkkglmckiknaaWideA
namespace Go.Proofs.Ytjmkkglmckiknaa
set_option linter.unusedVariables false
open Go.RowKit Go.Shelf

set_option maxHeartbeats 400000 in
theorem rsub_any (ah al bh bl : Int) (w1 : Word ah) (w2 : Word al) (w3 : Word bh) (w4 : Word bl) (w : World) :
    Calls Try.prog 41 #[.agg #[.int .u64 ah, .int .u64 al], .agg #[.int .u64 bh, .int .u64 bl]] w fun e w' =>
      e = .returned (.tuple #[.agg #[.int .u64 (hiW (wval ah al - wval bh bl)), .int .u64 (loW (wval ah al - wval bh bl))], .bool (belowB (wval ah al - wval bh bl))]) ∧ Below w.heap.size w w' := by
  have n3 := word_comp w3; have n4 := word_comp w4
  have hq := w3.1; have hq' := w3.2; have hr := w4.1; have hr' := w4.2
  go_enter Try.func41, Try.ntmps41
  go_wp2_with fail
  refine (rwadd_any ah al _ _ w1 w2 n3 n4 _).mono ?_
  rintro e wA ⟨rfl, hbA⟩
  obtain ⟨hcA, hfA⟩ := bcell hbA
  have hzA : w.heap.size + 1 + 1 + 1 + 1 ≤ wA.heap.size := by have := hbA.size; simp at this; omega
  have g0 : w.heap.size < wA.heap.size := by omega
  have g1 : w.heap.size + 1 < wA.heap.size := by omega
  have g2 : w.heap.size + 1 + 1 < wA.heap.size := by omega
  have g0' : w.heap.size ≤ wA.heap.size := by omega
  have g1' : w.heap.size + 1 ≤ wA.heap.size := by omega
  have g2' : w.heap.size + 1 + 1 ≤ wA.heap.size := by omega
  go_wp2_with fail
  refine (rwadd_any _ _ 0 1 (word_hi _) (word_lo _) (by unfold Word; omega) (by unfold Word; omega) _).mono ?_
  rintro e wB ⟨rfl, hbB⟩
  obtain ⟨hcB, hfB⟩ := bcell hbB
  have hzB : wA.heap.size + 1 ≤ wB.heap.size := by have := hbB.size; simp at this; omega
  go_wp2_with fail
  simp only [comp_wval, rsub_hi, rsub_lo]
  generalize hx : hiW (wval ah al - wval bh bl) = x
  generalize hy : loW (wval ah al - wval bh bl) = y
  have HX := Lib.hid hx; have HY := Lib.hid hy
  clear hx hy
  have ne1 : wA.heap.size ≠ w.heap.size := by omega
  have ne2 : wA.heap.size ≠ w.heap.size + 1 := by omega
  have ne3 : wA.heap.size ≠ w.heap.size + 1 + 1 := by omega
  have ne3' : w.heap.size + 1 + 1 ≠ wA.heap.size := by omega
  obtain ⟨W, hW⟩ : ∃ W : World, W = (wB.setCell ⟨wA.heap.size, 0, none⟩ (.int .u64 x)).setCell ⟨wA.heap.size, 1, none⟩ (.int .u64 y) := ⟨_, rfl⟩
  have s1 : W.cell? ⟨wA.heap.size, 0, none⟩ = some (.int .u64 x) := by subst hW; go_simp
  have s2 : W.cell? ⟨wA.heap.size, 1, none⟩ = some (.int .u64 y) := by subst hW; go_simp
  have s3 : W.cell? ⟨w.heap.size, 0, none⟩ = some (.int .u64 ah) := by subst hW; go_simp
  have s4 : W.cell? ⟨w.heap.size, 1, none⟩ = some (.int .u64 al) := by subst hW; go_simp
  have s5 : W.cell? ⟨w.heap.size + 1, 0, none⟩ = some (.int .u64 bh) := by subst hW; go_simp
  have s6 : W.cell? ⟨w.heap.size + 1, 1, none⟩ = some (.int .u64 bl) := by subst hW; go_simp
  have s7 : (W.cell? ⟨w.heap.size + 1 + 1, 0, none⟩) = some (.int .u64 0) := by subst hW; go_simp
  have s8 : (W.cell? ⟨w.heap.size + 1 + 1, 1, none⟩) = some (.int .u64 0) := by subst hW; go_simp
  have f7 : (W.frozen? ⟨w.heap.size + 1 + 1, 0, none⟩) = false := by subst hW; go_simp
  have f8 : (W.frozen? ⟨w.heap.size + 1 + 1, 1, none⟩) = false := by subst hW; go_simp
  have hz : wA.heap.size < W.heap.size := by subst hW; simp; omega
  have hBel : Below w.heap.size w W := by
    subst hW
    refine Below.setCell (Below.setCell ?_ (by simp; omega) _) (by simp; omega) _
    refine Below.trans ?_ (hbB.mono (by simp; omega))
    refine Below.alloc ?_ (by omega) _
    refine Below.trans ?_ (hbA.mono (by simp; omega))
    refine Below.alloc ?_ (by simp; omega) _
    refine Below.alloc ?_ (by simp; omega) _
    refine Below.alloc ?_ (by simp) _
    exact Below.alloc (Below.refl _ _) (Nat.le_refl _) _
  rw [← hW]
  clear hW hcA hfA hcB hfB hbA hbB
  go_region_held3 (fun w' => w'.cell? ⟨wA.heap.size, 0, none⟩ = some (.int .u64 x) ∧ w'.cell? ⟨wA.heap.size, 1, none⟩ = some (.int .u64 y) ∧ w'.cell? ⟨w.heap.size, 0, none⟩ = some (.int .u64 ah) ∧ w'.cell? ⟨w.heap.size, 1, none⟩ = some (.int .u64 al) ∧ w'.cell? ⟨w.heap.size + 1, 0, none⟩ = some (.int .u64 bh) ∧ w'.cell? ⟨w.heap.size + 1, 1, none⟩ = some (.int .u64 bl)) (go_simp)
    (first
      | (go_at_call 40; refine (less_any ah al bh bl w1 w2 w3 w4 _).mono ?_; rintro e wC ⟨rfl, hbC⟩; have t1 := cell_later hbC s1; have t2 := cell_later hbC s2; have t3 := cell_later hbC s3; have t4 := cell_later hbC s4; have t5 := cell_later hbC s5; have t6 := cell_later hbC s6; have t7 := cell_later hbC s7; have t8 := cell_later hbC s8; have u7 := (bcell hbC).2 (w.heap.size + 1 + 1) 0 (by simp; omega); have u8 := (bcell hbC).2 (w.heap.size + 1 + 1) 1 (by simp; omega)))
  go_wp2
  refine bodyPost_ret (v := .tuple #[.agg #[.int .u64 x, .int .u64 y], .bool (belowB (wval ah al - wval bh bl))]) (by simp [results, Try.results41, go_sem, t7, t8]) rfl ⟨by rw [HX.out, HY.out], ?_⟩
  exact Below.setCell (Below.setCell ((Below.drew hBel).trans (hbC.mono (by simp; omega))) (by simp; omega) _) (by simp; omega) _
end Go.Proofs.Ytjmkkglmckiknaa
