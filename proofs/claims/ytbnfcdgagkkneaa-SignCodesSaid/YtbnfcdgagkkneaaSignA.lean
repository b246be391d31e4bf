/-
  Walks: package sign's calls, and the reference's of layer 2.
-/
import Derived.Test.YtbnfcdgagkkneaaRows
import Derived.Test.YtbnfcdgagkkneaaSignM
import Derived.WalkKit
import Derived.WalkSpells
import Derived.WalkLawsBesides
namespace Go.Proofs.Ytbnfcdgagkkneaa
set_option linter.unusedVariables false
open Go.RowKit

theorem ret_pair {k : IntKind} {a b : Int} {c d : Bool} (h : a = b) (h' : c = d) : Ending.returned (.tuple #[.int k a, .bool c]) = .returned (.tuple #[.int k b, .bool d]) := by rw [h, h']

set_option maxHeartbeats 400000 in
theorem of_any (x : Int) (hx : I64 x) (w : World) :
    Calls Try.prog 9 #[.int .i64 x] w fun e w' =>
      e = .returned (.tuple #[.int .u64 (mag x), .bool (decide (x < 0))]) ∧ w = w' := by
  obtain ⟨h1, h2⟩ := hx
  by_cases h : x < 0
  · have E1 : Hid (IntKind.u64.wrap (-IntKind.u64.wrap x) = mag x) := Lib.hid (by simp only [IntKind.wrap_u64]; unfold mag; rw [if_pos h]; omega)
    have E2 : Hid (true = decide (x < 0)) := Lib.hid (by simp [h])
    go_enter Try.func9, Try.ntmps9
    go_wp2_with fail
    go_ret2
    exact ⟨ret_pair E1.out E2.out, rfl⟩
  · have E1 : Hid (x = mag x) := Lib.hid (by unfold mag; rw [if_neg h])
    have E2 : Hid (false = decide (x < 0)) := Lib.hid (by simp [h])
    go_enter Try.func9, Try.ntmps9
    go_wp2_with fail
    go_ret2
    exact ⟨ret_pair E1.out E2.out, rfl⟩

set_option maxHeartbeats 400000 in
theorem value_any (m : Int) (b : Bool) (hm : Word m) (w : World) :
    Calls Try.prog 10 #[.int .u64 m, .bool b] w fun e w' =>
      e = .returned (.tuple #[.int .i64 (valI m b), .bool (canB m b)]) ∧ w = w' := by
  obtain ⟨h1, h2⟩ := hm
  go_enter Try.func10, Try.ntmps10
  go_wp2_with fail
  all_goals go_ret2
  all_goals refine ⟨ret_pair ?_ ?_, rfl⟩
  all_goals (cases b <;> simp_all [valI, canB, wrap64, IntKind.wrap_u64] <;> first | omega | (split <;> omega))

set_option maxHeartbeats 400000 in
theorem zig_any (x : Int) (hx : I64 x) (w : World) :
    Calls Try.prog 14 #[.int .i64 x] w fun e w' =>
      e = .returned (.int .u64 (zig x)) ∧ w = w' := by
  have E := Lib.hid (not_i64 hx)
  obtain ⟨h1, h2⟩ := hx
  by_cases h : x < 0
  · have E1 : Hid (bits BinOp.or IntKind.u64 (IntKind.u64.wrap (IntKind.u64.wrap (bits BinOp.xor IntKind.i64 (-1) x) * 2)) 1 = zig x) := Lib.hid (by
      rw [E.out, IntKind.wrap_u64, IntKind.wrap_u64, or_one (by omega) (by omega) (by omega)]; unfold zig; rw [if_pos h]; omega)
    go_enter Try.func14, Try.ntmps14
    go_wp2_with fail
    go_ret
    exact ⟨ret_int E1.out, rfl⟩
  · have E1 : Hid (x * 2 = zig x) := Lib.hid (by unfold zig; rw [if_neg h]; omega)
    go_enter Try.func14, Try.ntmps14
    go_wp2_with fail
    go_ret
    exact ⟨ret_int E1.out, rfl⟩

set_option maxHeartbeats 400000 in
theorem zag_any (x : Int) (hx : Word x) (w : World) :
    Calls Try.prog 16 #[.int .u64 x] w fun e w' =>
      e = .returned (.int .i64 (zag x)) ∧ w = w' := by
  have E := Lib.hid (and_one hx.1 hx.2)
  obtain ⟨h1, h2⟩ := hx
  have E2 := Lib.hid (not_i64 (x := x / 2) (by unfold I64; omega))
  by_cases h : x % 2 = 1
  · have hb : (bits BinOp.and IntKind.u64 x 1 == 1) = true := by rw [E.out]; simp [h]
    have E1 : Hid (bits BinOp.xor IntKind.i64 (-1) (x / 2) = zag x) := Lib.hid (by rw [E2.out]; unfold zag; rw [if_pos h])
    clear h
    go_enter Try.func16, Try.ntmps16
    go_wp2_with fail
    go_ret
    exact ⟨ret_int E1.out, rfl⟩
  · have hb : (bits BinOp.and IntKind.u64 x 1 == 1) = false := by rw [E.out]; simp [h]
    have E1 : Hid (x / 2 = zag x) := Lib.hid (by unfold zag; rw [if_neg h])
    clear h
    go_enter Try.func16, Try.ntmps16
    go_wp2_with fail
    go_ret
    exact ⟨ret_int E1.out, rfl⟩

set_option maxHeartbeats 400000 in
theorem gap_any (a b : Int) (ha : I64 a) (hb : I64 b) (w : World) :
    Calls Try.prog 12 #[.int .i64 a, .int .i64 b] w fun e w' =>
      e = .returned (.int .u64 (gap a b)) ∧ w = w' := by
  obtain ⟨h1, h2⟩ := ha
  obtain ⟨h3, h4⟩ := hb
  go_enter Try.func12, Try.ntmps12
  go_wp2_with fail
  all_goals go_ret
  all_goals refine ⟨ret_int ?_, rfl⟩
  all_goals (simp only [IntKind.wrap_u64]; unfold gap; split <;> omega)

set_option maxHeartbeats 400000 in
theorem size_any (x : Int) (hx : I64 x) (w : World) :
    Calls Try.prog 11 #[.int .i64 x] w fun e w' =>
      e = .returned (.int .u64 (mag x)) ∧ w = w' := by
  obtain ⟨h1, h2⟩ := hx
  go_enter Try.func11, Try.ntmps11
  go_wp2_with fail
  all_goals go_ret
  all_goals refine ⟨ret_int ?_, rfl⟩
  all_goals (unfold mag; split <;> omega)

set_option maxHeartbeats 400000 in
theorem key_any (x : Int) (hx : I64 x) (w : World) :
    Calls Try.prog 17 #[.int .i64 x] w fun e w' =>
      e = .returned (.int .u64 (key x)) ∧ w = w' := by
  obtain ⟨h1, h2⟩ := hx
  go_enter Try.func17, Try.ntmps17
  go_wp2_with fail
  go_ret
  exact ⟨ret_int (by simp only [IntKind.wrap_u64]; unfold key; omega), rfl⟩

set_option maxHeartbeats 400000 in
theorem back_any (u : Int) (hu : Word u) (w : World) :
    Calls Try.prog 18 #[.int .u64 u] w fun e w' =>
      e = .returned (.int .i64 (back u)) ∧ w = w' := by
  obtain ⟨h1, h2⟩ := hu
  go_enter Try.func18, Try.ntmps18
  go_wp2_with fail
  go_ret
  exact ⟨ret_int (by simp only [IntKind.wrap_u64, wrap64]; unfold back; omega), rfl⟩

set_option maxHeartbeats 400000 in
theorem rgap_any (a b : Int) (ha : I64 a) (hb : I64 b) (w : World) :
    Calls Try.prog 13 #[.int .i64 a, .int .i64 b] w fun e w' =>
      e = .returned (.int .u64 (gap a b)) ∧ w = w' := by
  have b1 := mag_bd ha; have b2 := mag_bd hb
  by_cases h : decide (a < 0) = decide (b < 0)
  · have E := Lib.hid (gap_one h)
    have hg : (!decide (a < 0) == decide (b < 0)) = false := by simp [h]
    clear h
    go_enter Try.func13, Try.ntmps13
    go_wp2_with (go_at_call 11; refine (size_any _ (by assumption) _).mono ?_; rintro e w' ⟨rfl, rfl⟩)
    all_goals go_ret
    all_goals refine ⟨ret_int ?_, rfl⟩
    all_goals (obtain ⟨g1, g2⟩ := gap_word ha hb; rw [E.out] at *; first | omega | (rw [IntKind.wrap_u64]; omega))
  · have E := Lib.hid (gap_two (a := a) (b := b) (by simpa using h))
    have hg : (!decide (a < 0) == decide (b < 0)) = true := by simp [h]
    clear h
    go_enter Try.func13, Try.ntmps13
    go_wp2_with (go_at_call 11; refine (size_any _ (by assumption) _).mono ?_; rintro e w' ⟨rfl, rfl⟩)
    all_goals go_ret
    all_goals refine ⟨ret_int ?_, rfl⟩
    all_goals (obtain ⟨g1, g2⟩ := gap_word ha hb; rw [E.out] at *; first | omega | (rw [IntKind.wrap_u64]; omega))

set_option maxHeartbeats 400000 in
theorem rzig_any (x : Int) (hx : I64 x) (w : World) :
    Calls Try.prog 15 #[.int .i64 x] w fun e w' =>
      e = .returned (.int .u64 (zig x)) ∧ w = w' := by
  have b1 := mag_bd hx
  by_cases h : x < 0
  · have E := Lib.hid (zig_neg h)
    have hp : 1 ≤ mag x := by unfold mag; rw [if_pos h]; omega
    go_enter Try.func15, Try.ntmps15
    go_wp2_with (go_at_call 11; refine (size_any _ (by assumption) _).mono ?_; rintro e w' ⟨rfl, rfl⟩)
    go_ret
    refine ⟨ret_int ?_, rfl⟩
    all_goals (obtain ⟨g1, g2⟩ := zig_word hx; rw [E.out] at *; first | done | (rw [IntKind.wrap_u64]; omega))
  · have E := Lib.hid (zig_pos h)
    go_enter Try.func15, Try.ntmps15
    go_wp2_with (go_at_call 11; refine (size_any _ (by assumption) _).mono ?_; rintro e w' ⟨rfl, rfl⟩)
    go_ret
    refine ⟨ret_int ?_, rfl⟩
    all_goals (obtain ⟨g1, g2⟩ := zig_word hx; rw [E.out] at *; first | done | (rw [IntKind.wrap_u64]; omega))
end Go.Proofs.Ytbnfcdgagkkneaa
