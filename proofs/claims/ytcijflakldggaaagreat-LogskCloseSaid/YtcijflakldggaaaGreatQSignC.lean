/-
  Walks: sign.Within, the reference's Within, and the law SignWithin.
-/
import Derived.Test.YtcijflakldggaaaGreatQSignB
import Derived.Test.YtcijflakldggaaaGreatK7
namespace Go.Proofs.YtcijflakldggaaaGreat
set_option linter.unusedVariables false
open Go.RowKit

theorem near_cmp (r x n d : Int) : decide (cmpW (gap r x * d) (n * mag x) ≤ 0) = nearB r x n d := by
  unfold cmpW nearB; apply decide_eq_decide.2; split <;> (try split) <;> omega
theorem near_not (r x n d : Int) : (!decide (mag x * n < gap r x * d)) = nearB r x n d := by
  unfold nearB; rw [Int.mul_comm (mag x) n]
  by_cases h : gap r x * d ≤ n * mag x
  · rw [decide_eq_true h, decide_eq_false (by omega)]; rfl
  · rw [decide_eq_false h, decide_eq_true (by omega)]; rfl
theorem near_self (x n d : Int) (hx : I64 x) (hn : Word n) : nearB x x n d = true := by
  unfold nearB
  apply decide_eq_true
  have e : gap x x = 0 := by unfold gap; split <;> omega
  have := Int.mul_nonneg hn.1 (mag_bd hx).1
  rw [e, Int.zero_mul]; exact this

set_option maxHeartbeats 1000000 in
theorem rwithin_any (r x n d : Int) (hr : I64 r) (hx : I64 x) (hn : Word n) (hd : Word d) (w : World) :
    Calls Tryz.prog 19 #[.int .i64 r, .int .i64 x, .agg #[.int .u64 n, .int .u64 d]] w fun e w' =>
      e = .returned (.bool (nearB r x n d)) ∧ Below w.heap.size w w' := by
  have g := gap_word hr hx; have m := mag_word hx
  obtain ⟨x0, x1⟩ := mul_bd g hd
  obtain ⟨y0, y1⟩ := mul_bd m hn
  have E := Lib.hid (near_not r x n d)
  go_enter Tryz.func19, Tryz.ntmps19
  go_wp2_with fail
  have BB : Below w.heap.size w ((w.alloc (.cells #[.int .u64 n, .int .u64 d] 24))).drew := ((Below.refl _ _).alloc (Nat.le_refl _) _).drew
  go_region_held3 (fun w' => w'.cell? ⟨w.heap.size, 0, none⟩ = some (.int .u64 n) ∧ w'.cell? ⟨w.heap.size, 1, none⟩ = some (.int .u64 d) ∧ Below w.heap.size w w')
      ((first | exact ⟨by go_simp, by go_simp, BB⟩ | exact keep2 (by assumption) hbA | assumption))
      (first
        | (go_at_call 20; refine (size_any _ (by assumption) _).mono ?_; rintro e wA ⟨rfl, rfl⟩)
        | (go_at_call 44; refine (rgap_any _ _ (by assumption) (by assumption) _).mono ?_; rintro e wA ⟨rfl, rfl⟩)
        | (go_at_call 43; refine (rtimes_any _ _ (by assumption) (by assumption) _).mono ?_; rintro e wA ⟨rfl, hbA⟩)
        | (go_at_call 42; refine (less_two (mag x * n) (gap r x * d) y0 y1 x0 x1 _).mono ?_; rintro e wA ⟨rfl, hbA⟩))
  go_wp2_with fail
  refine bodyPost_ret (v := .bool (!decide (mag x * n < gap r x * d))) (by simp [results, Tryz.results19, go_sem]) rfl ⟨by rw [E.out], ?_⟩
  exact keep2_bel (B := w.heap.size) (by assumption)

end Go.Proofs.YtcijflakldggaaaGreat