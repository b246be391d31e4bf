/-
  Walks: the reference's Ceil, wide.Log, wide.Plus, the laws' alive.
-/
import Derived.Test.YtnngjcpdnfchbaaDoorLess
namespace Go.Proofs.YtnngjcpdnfchbaaDoor
set_option linter.unusedVariables false
open Go.RowKit Go.Shelf

theorem cl_no {n y : Int} (h : ovB n y = false) : clB n y = false ∧ clQ n y = 0 := by
  have e : clB n y = false := by unfold clB; rw [h]; rfl
  exact ⟨e, by unfold clQ; rw [e]; rfl⟩
theorem cl_full {n y : Int} (h : ovB n y = true) (hr : 0 < ovR n y) (hq : ovQ n y = 18446744073709551615) : clB n y = false ∧ clQ n y = 0 := by
  have e : clB n y = false := by unfold clB; rw [h, decide_eq_true hr, hq]; rfl
  exact ⟨e, by unfold clQ; rw [e]; rfl⟩
theorem cl_up {n y : Int} (h : ovB n y = true) (hr : 0 < ovR n y) (hq : ¬ ovQ n y = 18446744073709551615) : clB n y = true ∧ clQ n y = ovQ n y + 1 := by
  have e : clB n y = true := by unfold clB; rw [h, decide_eq_true hr]; simp [hq]
  exact ⟨e, by unfold clQ; rw [if_pos e, if_pos hr]⟩

set_option maxHeartbeats 400000 in
theorem log_any (a : Int) (wa : Word a) (w : World) : Calls Tryd.prog 19 #[.int .u64 a] w fun e w' =>
      e = .returned (.tuple #[.int .i64 ((Lib.bitLen a.toNat : Int) - 1), .bool (a != 0)]) ∧ w = w' := by
  have hl := Lib.bitLen_le a.toNat 64 (Nat.le_refl _) (by have := wa.1; have := wa.2; omega)
  go_enter Tryd.func19, Tryd.ntmps19
  go_wp2_with fail
  refine (Tryd.bits_Len64 a _ wa.1 (by have := wa.2; omega)).mono ?_
  rintro e w' ⟨rfl, rfl⟩
  go_wp2_with fail
  exact bodyPost_ret (v := .tuple #[.int .i64 ((Lib.bitLen a.toNat : Int) - 1), .bool (a != 0)]) (by simp [results, Tryd.results19, go_sem]) rfl ⟨rfl, rfl⟩

end Go.Proofs.YtnngjcpdnfchbaaDoor