/-
  Walks of the laws of layer 2: SignParts, SignGaps, SignCodes, SignSides.
-/
import Derived.Test.YtcijflakldggaaaGreatK7
namespace Go.Proofs.YtcijflakldggaaaGreat
set_option linter.unusedVariables false
open Go.RowKit

theorem value_back (x : Int) (hx : I64 x) (w : World) :
    Calls Tryz.prog 80 #[.int .u64 (mag x), .bool (decide (x < 0))] w fun e w' =>
      e = .returned (.tuple #[.int .i64 x, .bool true]) ∧ w = w' := by
  have h := value_any (mag x) (decide (x < 0)) (mag_word hx) w
  rw [(valI_mag hx).1, (valI_mag hx).2] at h
  exact h

theorem i64_min : I64 (-9223372036854775808) := by unfold I64; omega
theorem i64_max : I64 9223372036854775807 := by unfold I64; omega
theorem of_min (w : World) : Calls Tryz.prog 73 #[.int .i64 (-9223372036854775808)] w fun e w' =>
      e = .returned (.tuple #[.int .u64 9223372036854775808, .bool true]) ∧ w = w' := of_any _ i64_min w

theorem gap_ends (w : World) : Calls Tryz.prog 135 #[.int .i64 (-9223372036854775808), .int .i64 9223372036854775807] w fun e w' =>
      e = .returned (.int .u64 18446744073709551615) ∧ w = w' := gap_any _ _ i64_min i64_max w

theorem of_back (m : Int) (b : Bool) (hm : Word m) (hc : canB m b = true) (w : World) :
    Calls Tryz.prog 73 #[.int .i64 (valI m b)] w fun e w' =>
      e = .returned (.tuple #[.int .u64 m, .bool (b && decide (0 < m))]) ∧ w = w' := by
  have h := of_any (valI m b) (valI_i64 hm) w
  rw [mag_valI hm hc, neg_valI hm hc] at h
  exact h

theorem value_can (m : Int) (b : Bool) (hm : Word m) (hc : canB m b = true) (w : World) :
    Calls Tryz.prog 80 #[.int .u64 m, .bool b] w fun e w' =>
      e = .returned (.tuple #[.int .i64 (valI m b), .bool true]) ∧ w = w' := by
  have h := value_any m b hm w
  rw [hc] at h
  exact h

theorem value_not (m : Int) (b : Bool) (hm : Word m) (hc : canB m b = false) (w : World) :
    Calls Tryz.prog 80 #[.int .u64 m, .bool b] w fun e w' =>
      e = .returned (.tuple #[.int .i64 0, .bool false]) ∧ w = w' := by
  have h := value_any m b hm w
  rw [hc, valI_no hc] at h
  exact h

end Go.Proofs.YtcijflakldggaaaGreat