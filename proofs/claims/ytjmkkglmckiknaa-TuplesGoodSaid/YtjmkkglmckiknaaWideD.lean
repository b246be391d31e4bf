/-
  Walks: the reference's Times.
-/
import Derived.Test.YtjmkkglmckiknaaWideA
namespace Go.Proofs.Ytjmkkglmckiknaa
set_option linter.unusedVariables false
open Go.RowKit Go.Shelf

/-- What the reference's product has come to, behind so many of its two middle parts. -/
def tmsTo (a b : Int) (k : Nat) : Int :=
  if k = 0 then wval (a / 4294967296 * (b / 4294967296)) (a % 4294967296 * (b % 4294967296))
  else if k = 1 then wval (a / 4294967296 * (b / 4294967296)) (a % 4294967296 * (b % 4294967296)) + (a / 4294967296 * (b % 4294967296)) * 4294967296
  else a * b
theorem tms0 (a b : Int) : tmsTo a b 0 = wval (a / 4294967296 * (b / 4294967296)) (a % 4294967296 * (b % 4294967296)) := rfl
theorem tms1 (a b : Int) : tmsTo a b 0 + (a / 4294967296 * (b % 4294967296)) * 4294967296 = tmsTo a b 1 := rfl
theorem tms2 (a b : Int) : tmsTo a b 1 + (a % 4294967296 * (b / 4294967296)) * 4294967296 = tmsTo a b 2 := times_parts a b
theorem tmsE (a b : Int) : tmsTo a b 2 = a * b := rfl

set_option maxHeartbeats 400000 in
theorem rtimes_any (a b : Int) (wa : Word a) (wb : Word b) (w : World) :
    Calls Try.prog 26 #[.int .u64 a, .int .u64 b] w fun e w' =>
      e = .returned (.agg #[.int .u64 (hiW (a * b)), .int .u64 (loW (a * b))]) ∧ Below w.heap.size w w' := by
  obtain ⟨a1, a2⟩ := wa
  obtain ⟨b1, b2⟩ := wb
  obtain ⟨p1, p2⟩ := half_mul (x := a / 4294967296) (y := b / 4294967296) (by omega) (by omega) (by omega) (by omega)
  obtain ⟨q1, q2⟩ := half_mul (x := a % 4294967296) (y := b % 4294967296) (by omega) (by omega) (by omega) (by omega)
  obtain ⟨r1, r2⟩ := half_mul (x := a / 4294967296) (y := b % 4294967296) (by omega) (by omega) (by omega) (by omega)
  obtain ⟨s1, s2⟩ := half_mul (x := a % 4294967296) (y := b / 4294967296) (by omega) (by omega) (by omega) (by omega)
  have E0 := Lib.hid (tms0 a b); have E1 := Lib.hid (tms1 a b); have E2 := Lib.hid (tms2 a b)
  go_enter Try.func26, Try.ntmps26
  go_wp2_with fail
  generalize a / 4294967296 * (b % 4294967296) = m0 at *
  generalize a % 4294967296 * (b / 4294967296) = m1 at *
  generalize a / 4294967296 * (b / 4294967296) = x0 at *
  generalize a % 4294967296 * (b % 4294967296) = y0 at *
  have X0 : hiW (tmsTo a b 0) = x0 := by rw [E0.out]; exact hi_wval ⟨by omega, by omega⟩ ⟨by omega, by omega⟩
  have Y0 : loW (tmsTo a b 0) = y0 := by rw [E0.out]; exact lo_wval ⟨by omega, by omega⟩
  have HX0 := Lib.hid X0; have HY0 := Lib.hid Y0
  clear X0 Y0 E0
  go_loopw [35] (fun i wr => ∃ k : Nat, k ≤ 2 ∧ i = .int .i64 k ∧
      wr.cell? ⟨w.heap.size + 1, 0, none⟩ = some (.int .u64 (hiW (tmsTo a b k))) ∧ wr.cell? ⟨w.heap.size + 1, 1, none⟩ = some (.int .u64 (loW (tmsTo a b k))) ∧
      wr.cell? ⟨w.heap.size, 0, none⟩ = some (.int .u64 0) ∧ wr.cell? ⟨w.heap.size, 1, none⟩ = some (.int .u64 0) ∧
      wr.cell? ⟨w.heap.size + 1 + 1, 0, none⟩ = some (.int .u64 m0) ∧ wr.cell? ⟨w.heap.size + 1 + 1, 1, none⟩ = some (.int .u64 m1) ∧
      wr.frozen? ⟨w.heap.size + 1, 0, none⟩ = false ∧ wr.frozen? ⟨w.heap.size + 1, 1, none⟩ = false ∧ wr.frozen? ⟨w.heap.size, 0, none⟩ = false ∧ wr.frozen? ⟨w.heap.size, 1, none⟩ = false ∧
      w.heap.size + 1 + 1 < wr.heap.size ∧ Below w.heap.size w wr) (fun i _ => 2 - (intOf i).toNat)
  case atStart => exact ⟨0, Nat.zero_le _, rfl, by go_simp; rw [HX0.out], by go_simp; rw [HY0.out], by go_simp, by go_simp, by go_simp, by go_simp, by go_simp, by go_simp, by go_simp, by go_simp, by simp, (((Below.refl _ _).alloc (Nat.le_refl _) _).alloc (by simp) _).alloc (by simp; omega) _⟩
  case round =>
    obtain ⟨k, hk, rfl, c1, c2, c3, c4, c5, c6, f1, f2, f3, f4, hz, hb⟩ := hrel
    have hz0 : w.heap.size < wr.heap.size := by omega
    have hz1 : w.heap.size + 1 < wr.heap.size := by omega
    have k3 : k = 0 ∨ k = 1 ∨ k = 2 := by omega
    rcases k3 with rfl | rfl | rfl
    · clear E2
      go_wp2_with fail
      refine (rwadd_any (hiW (tmsTo a b 0)) (loW (tmsTo a b 0)) _ _ (word_hi _) (word_lo _) ⟨by omega, by omega⟩ ⟨by omega, by omega⟩ _).mono ?_
      rintro e wA ⟨rfl, hbA⟩
      have d1 := cell_later hbA c1; have d2 := cell_later hbA c2; have d3 := cell_later hbA c3; have d4 := cell_later hbA c4; have d5 := cell_later hbA c5; have d6 := cell_later hbA c6
      have g1 := ((bcell hbA).2 (w.heap.size + 1) 0 (by omega)).trans f1; have g2 := ((bcell hbA).2 (w.heap.size + 1) 1 (by omega)).trans f2; have g3 := ((bcell hbA).2 w.heap.size 0 (by omega)).trans f3; have g4 := ((bcell hbA).2 w.heap.size 1 (by omega)).trans f4
      have hbS := hbA.size
      clear c1 c2 c3 c4 c5 c6 f1 f2 f3 f4
      go_wp2_with fail
      go_roundw
      case rel =>
        refine ⟨1, by omega, rfl, by go_simp; rw [shift_wval, hi_add, E1.out], by go_simp; rw [shift_wval, lo_add, E1.out], by go_simp, by go_simp, by go_simp, by go_simp, by go_simp, by go_simp, by go_simp, by go_simp, by simp; omega, ?_⟩
        exact (((hb.trans (hbA.mono (by omega))).setCell (p := ⟨w.heap.size + 1, 0, none⟩) (Nat.le_succ _) _).setCell (p := ⟨w.heap.size + 1, 1, none⟩) (Nat.le_succ _) _)
      case measure => simp [intOf]
    · clear E1
      go_wp2_with fail
      refine (rwadd_any (hiW (tmsTo a b 1)) (loW (tmsTo a b 1)) _ _ (word_hi _) (word_lo _) ⟨by omega, by omega⟩ ⟨by omega, by omega⟩ _).mono ?_
      rintro e wA ⟨rfl, hbA⟩
      have d1 := cell_later hbA c1; have d2 := cell_later hbA c2; have d3 := cell_later hbA c3; have d4 := cell_later hbA c4; have d5 := cell_later hbA c5; have d6 := cell_later hbA c6
      have g1 := ((bcell hbA).2 (w.heap.size + 1) 0 (by omega)).trans f1; have g2 := ((bcell hbA).2 (w.heap.size + 1) 1 (by omega)).trans f2; have g3 := ((bcell hbA).2 w.heap.size 0 (by omega)).trans f3; have g4 := ((bcell hbA).2 w.heap.size 1 (by omega)).trans f4
      have hbS := hbA.size
      clear c1 c2 c3 c4 c5 c6 f1 f2 f3 f4
      go_wp2_with fail
      go_roundw
      case rel =>
        refine ⟨2, by omega, rfl, by go_simp; rw [shift_wval, hi_add, E2.out], by go_simp; rw [shift_wval, lo_add, E2.out], by go_simp, by go_simp, by go_simp, by go_simp, by go_simp, by go_simp, by go_simp, by go_simp, by simp; omega, ?_⟩
        exact (((hb.trans (hbA.mono (by omega))).setCell (p := ⟨w.heap.size + 1, 0, none⟩) (Nat.le_succ _) _).setCell (p := ⟨w.heap.size + 1, 1, none⟩) (Nat.le_succ _) _)
      case measure => simp [intOf]
    · go_wp2_with fail
      refine bodyPost_ret (v := .agg #[.int .u64 (hiW (tmsTo a b 2)), .int .u64 (loW (tmsTo a b 2))]) (by simp [results, Try.results26, go_sem, c3, c4]) rfl ⟨by rw [tmsE], ?_⟩
      exact (hb.setCell (p := ⟨w.heap.size, 0, none⟩) (Nat.le_refl _) _).setCell (p := ⟨w.heap.size, 1, none⟩) (Nat.le_refl _) _
end Go.Proofs.Ytjmkkglmckiknaa
