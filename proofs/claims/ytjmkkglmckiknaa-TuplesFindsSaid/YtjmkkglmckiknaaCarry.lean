/-
  math/bits.Add64 and Sub64 at this translation: equations on a call, over whole numbers; Mul64 and Len64 likewise as contracts over whole numbers.
-/
import Derived.Test.YtjmkkglmckiknaaMath
import Derived.Test.YtjmkkglmckiknaaShelf
import Derived.Shelf.Spec.BitsCarry
import Derived.WalkKit
namespace Go.Proofs.Ytjmkkglmckiknaa
set_option linter.unusedVariables false
open Go.RowKit Go.Shelf

theorem mul64_any (x y : Int) (wx : Word x) (wy : Word y) (w : World) :
    Calls Try.prog 53 #[.int .u64 x, .int .u64 y] w fun e w' => e = .returned (.tuple #[.int .u64 (hiW (x * y)), .int .u64 (loW (x * y))]) ∧ w' = w := by
  obtain ⟨hx, hx'⟩ := wx; obtain ⟨hy, hy'⟩ := wy
  obtain ⟨x, rfl⟩ := Int.eq_ofNat_of_zero_le hx
  obtain ⟨y, rfl⟩ := Int.eq_ofNat_of_zero_le hy
  have hb : x * y < 18446744073709551616 * 18446744073709551616 := Nat.mul_lt_mul'' (by omega) (by omega)
  refine (Try.bits_Mul64 x y (by omega) (by omega) w).mono fun e w' h => ?_
  rw [h.1]
  refine ⟨?_, h.2⟩
  have e1 : hiW ((x : Int) * y) = ((x * y / 18446744073709551616 : Nat) : Int) := by
    unfold hiW; rw [← Int.natCast_mul]; generalize x * y = n at *; omega
  have e2 : loW ((x : Int) * y) = ((x * y % 18446744073709551616 : Nat) : Int) := by
    unfold loW; rw [← Int.natCast_mul]; generalize x * y = n at *; omega
  rw [e1, e2]
end Go.Proofs.Ytjmkkglmckiknaa
