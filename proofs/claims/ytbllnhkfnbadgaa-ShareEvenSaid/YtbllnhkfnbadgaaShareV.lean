/-
  Walks of the laws of layer 3: what is alive.
-/
import Derived.Test.YtbllnhkfnbadgaaShareS
import Derived.Test.YtbllnhkfnbadgaaShareP
namespace Go.Proofs.Ytbllnhkfnbadgaa
set_option linter.unusedVariables false
set_option linter.unusedSimpArgs false
open Go.RowKit Go.Shelf

theorem place_125 (w : World) : Calls Try.prog 10 #[.agg #[.int .u64 1, .int .u64 2], .int .u64 5] w fun e w' =>
      e = .returned (.tuple #[.int .u64 3, .int .i64 0]) ∧ Below w.heap.size w w' := by
  have h := place_any 1 2 5 (by unfold Word; omega) (by unfold Word; omega) (by unfold Word; omega) w
  have e1 : plV 1 2 5 = 3 := by decide
  have e2 : plE 1 2 5 = 0 := by decide
  rw [e1, e2] at h
  exact h
theorem read_25 (w : World) : Calls Try.prog 18 #[.string ⟨#[50, 53, 37]⟩] w fun e w' =>
      e = .returned (.tuple #[.agg #[.int .u64 25, .int .u64 100], .bool true]) ∧ Below w.heap.size w w' := by
  have h := read_any ⟨#[50, 53, 37]⟩ (by decide) w
  have e1 : rdA (⟨#[50, 53, 37]⟩ : ByteArray).data.toList = 25 := by decide
  have e2 : rdB (⟨#[50, 53, 37]⟩ : ByteArray).data.toList = 100 := by decide
  have e3 : rdO (⟨#[50, 53, 37]⟩ : ByteArray).data.toList = true := by decide
  rw [e1, e2, e3] at h
  exact h

set_option maxHeartbeats 400000 in
theorem alive3_any (w : World) : Calls Try.prog 9 #[] w fun e w' =>
      e = .returned (.bool true) ∧ Below w.heap.size w w' := by
  go_enter Try.func9, Try.ntmps9
  go_wp2_with fail
  refine (place_125 _).mono ?_
  rintro e wA ⟨rfl, hbA⟩
  go_wp2_with fail
  refine (read_25 _).mono ?_
  rintro e wB ⟨rfl, hbB⟩
  go_wp2_with fail
  go_ret
  exact ⟨rfl, (hbA.trans (hbB.mono hbA.size)).alloc (by have := hbA.size; have := hbB.size; omega) _⟩
end Go.Proofs.Ytbllnhkfnbadgaa
