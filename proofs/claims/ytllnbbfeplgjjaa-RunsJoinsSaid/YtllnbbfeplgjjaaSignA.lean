/-
  Walks: package sign's calls, and the reference's of layer 2.
-/
import Derived.Test.YtllnbbfeplgjjaaRows
import Derived.Test.YtllnbbfeplgjjaaSignM
import Derived.WalkKit
import Derived.WalkSpells
import Derived.WalkLawsBesides
namespace Go.Proofs.Ytllnbbfeplgjjaa
set_option linter.unusedVariables false
open Go.RowKit

theorem ret_pair {k : IntKind} {a b : Int} {c d : Bool} (h : a = b) (h' : c = d) : Ending.returned (.tuple #[.int k a, .bool c]) = .returned (.tuple #[.int k b, .bool d]) := by rw [h, h']

set_option maxHeartbeats 400000 in
theorem zig_any (x : Int) (hx : I64 x) (w : World) :
    Calls Try.prog 46 #[.int .i64 x] w fun e w' =>
      e = .returned (.int .u64 (zig x)) ∧ w = w' := by
  have E := Lib.hid (not_i64 hx)
  obtain ⟨h1, h2⟩ := hx
  by_cases h : x < 0
  · have E1 : Hid (bits BinOp.or IntKind.u64 (IntKind.u64.wrap (IntKind.u64.wrap (bits BinOp.xor IntKind.i64 (-1) x) * 2)) 1 = zig x) := Lib.hid (by
      rw [E.out, IntKind.wrap_u64, IntKind.wrap_u64, or_one (by omega) (by omega) (by omega)]; unfold zig; rw [if_pos h]; omega)
    go_enter Try.func46, Try.ntmps46
    go_wp2_with fail
    go_ret
    exact ⟨ret_int E1.out, rfl⟩
  · have E1 : Hid (x * 2 = zig x) := Lib.hid (by unfold zig; rw [if_neg h]; omega)
    go_enter Try.func46, Try.ntmps46
    go_wp2_with fail
    go_ret
    exact ⟨ret_int E1.out, rfl⟩

set_option maxHeartbeats 400000 in
theorem zag_any (x : Int) (hx : Word x) (w : World) :
    Calls Try.prog 62 #[.int .u64 x] w fun e w' =>
      e = .returned (.int .i64 (zag x)) ∧ w = w' := by
  have E := Lib.hid (and_one hx.1 hx.2)
  obtain ⟨h1, h2⟩ := hx
  have E2 := Lib.hid (not_i64 (x := x / 2) (by unfold I64; omega))
  by_cases h : x % 2 = 1
  · have hb : (bits BinOp.and IntKind.u64 x 1 == 1) = true := by rw [E.out]; simp [h]
    have E1 : Hid (bits BinOp.xor IntKind.i64 (-1) (x / 2) = zag x) := Lib.hid (by rw [E2.out]; unfold zag; rw [if_pos h])
    clear h
    go_enter Try.func62, Try.ntmps62
    go_wp2_with fail
    go_ret
    exact ⟨ret_int E1.out, rfl⟩
  · have hb : (bits BinOp.and IntKind.u64 x 1 == 1) = false := by rw [E.out]; simp [h]
    have E1 : Hid (x / 2 = zag x) := Lib.hid (by unfold zag; rw [if_neg h])
    clear h
    go_enter Try.func62, Try.ntmps62
    go_wp2_with fail
    go_ret
    exact ⟨ret_int E1.out, rfl⟩

set_option maxHeartbeats 400000 in
theorem gap_any (a b : Int) (ha : I64 a) (hb : I64 b) (w : World) :
    Calls Try.prog 37 #[.int .i64 a, .int .i64 b] w fun e w' =>
      e = .returned (.int .u64 (gap a b)) ∧ w = w' := by
  obtain ⟨h1, h2⟩ := ha
  obtain ⟨h3, h4⟩ := hb
  go_enter Try.func37, Try.ntmps37
  go_wp2_with fail
  all_goals go_ret
  all_goals refine ⟨ret_int ?_, rfl⟩
  all_goals (simp only [IntKind.wrap_u64]; unfold gap; split <;> omega)

set_option maxHeartbeats 400000 in
theorem size_any (x : Int) (hx : I64 x) (w : World) :
    Calls Try.prog 50 #[.int .i64 x] w fun e w' =>
      e = .returned (.int .u64 (mag x)) ∧ w = w' := by
  obtain ⟨h1, h2⟩ := hx
  go_enter Try.func50, Try.ntmps50
  go_wp2_with fail
  all_goals go_ret
  all_goals refine ⟨ret_int ?_, rfl⟩
  all_goals (unfold mag; split <;> omega)

set_option maxHeartbeats 400000 in
theorem rzig_any (x : Int) (hx : I64 x) (w : World) :
    Calls Try.prog 43 #[.int .i64 x] w fun e w' =>
      e = .returned (.int .u64 (zig x)) ∧ w = w' := by
  have b1 := mag_bd hx
  by_cases h : x < 0
  · have E := Lib.hid (zig_neg h)
    have hp : 1 ≤ mag x := by unfold mag; rw [if_pos h]; omega
    go_enter Try.func43, Try.ntmps43
    go_wp2_with (go_at_call 50; refine (size_any _ (by assumption) _).mono ?_; rintro e w' ⟨rfl, rfl⟩)
    go_ret
    refine ⟨ret_int ?_, rfl⟩
    all_goals (obtain ⟨g1, g2⟩ := zig_word hx; rw [E.out] at *; first | done | (rw [IntKind.wrap_u64]; omega))
  · have E := Lib.hid (zig_pos h)
    go_enter Try.func43, Try.ntmps43
    go_wp2_with (go_at_call 50; refine (size_any _ (by assumption) _).mono ?_; rintro e w' ⟨rfl, rfl⟩)
    go_ret
    refine ⟨ret_int ?_, rfl⟩
    all_goals (obtain ⟨g1, g2⟩ := zig_word hx; rw [E.out] at *; first | done | (rw [IntKind.wrap_u64]; omega))
end Go.Proofs.Ytllnbbfeplgjjaa
