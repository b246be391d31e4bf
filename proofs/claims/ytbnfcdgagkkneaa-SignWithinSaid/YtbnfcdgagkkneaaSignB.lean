/-
  Walks of the laws of layer 2: SignParts, SignGaps, SignCodes, SignSides.
-/
import Derived.Test.YtbnfcdgagkkneaaSignA
namespace Go.Proofs.Ytbnfcdgagkkneaa
set_option linter.unusedVariables false
open Go.RowKit

theorem value_back (x : Int) (hx : I64 x) (w : World) :
    Calls Try.prog 10 #[.int .u64 (mag x), .bool (decide (x < 0))] w fun e w' =>
      e = .returned (.tuple #[.int .i64 x, .bool true]) ∧ w = w' := by
  have h := value_any (mag x) (decide (x < 0)) (mag_word hx) w
  rw [(valI_mag hx).1, (valI_mag hx).2] at h
  exact h

theorem i64_min : I64 (-9223372036854775808) := by unfold I64; omega
theorem i64_max : I64 9223372036854775807 := by unfold I64; omega
theorem of_min (w : World) : Calls Try.prog 9 #[.int .i64 (-9223372036854775808)] w fun e w' =>
      e = .returned (.tuple #[.int .u64 9223372036854775808, .bool true]) ∧ w = w' := of_any _ i64_min w

theorem gap_ends (w : World) : Calls Try.prog 12 #[.int .i64 (-9223372036854775808), .int .i64 9223372036854775807] w fun e w' =>
      e = .returned (.int .u64 18446744073709551615) ∧ w = w' := gap_any _ _ i64_min i64_max w

set_option maxHeartbeats 400000 in
theorem alive2_any (w : World) : Calls Try.prog 8 #[] w fun e w' =>
      e = .returned (.bool true) ∧ w = w' := by
  go_enter Try.func8, Try.ntmps8
  go_wp2_with fail
  refine (of_min _).mono ?_
  rintro e w' ⟨rfl, rfl⟩
  go_wp2_with fail
  refine (gap_ends _).mono ?_
  rintro e w' ⟨rfl, rfl⟩
  go_wp2_with fail
  go_ret
  exact ⟨rfl, rfl⟩

theorem of_back (m : Int) (b : Bool) (hm : Word m) (hc : canB m b = true) (w : World) :
    Calls Try.prog 9 #[.int .i64 (valI m b)] w fun e w' =>
      e = .returned (.tuple #[.int .u64 m, .bool (b && decide (0 < m))]) ∧ w = w' := by
  have h := of_any (valI m b) (valI_i64 hm) w
  rw [mag_valI hm hc, neg_valI hm hc] at h
  exact h

theorem value_can (m : Int) (b : Bool) (hm : Word m) (hc : canB m b = true) (w : World) :
    Calls Try.prog 10 #[.int .u64 m, .bool b] w fun e w' =>
      e = .returned (.tuple #[.int .i64 (valI m b), .bool true]) ∧ w = w' := by
  have h := value_any m b hm w
  rw [hc] at h
  exact h

theorem value_not (m : Int) (b : Bool) (hm : Word m) (hc : canB m b = false) (w : World) :
    Calls Try.prog 10 #[.int .u64 m, .bool b] w fun e w' =>
      e = .returned (.tuple #[.int .i64 0, .bool false]) ∧ w = w' := by
  have h := value_any m b hm w
  rw [hc, valI_no hc] at h
  exact h

set_option maxHeartbeats 1000000 in
theorem parts_ytl (x m : Int) (hx : I64 x) (hm : Word m) (h : m < 9223372036854775808) (w : World) :
    Calls Try.prog 3 #[.int .i64 x, .int .u64 m, .bool true] w fun e w' =>
      e = .returned (.bool true) ∧ w = w' := by
  have hx0 : (x == x) = true := by simp
  have hm0 : (m == m) = true := by simp
  have HC : Hid (canB m true = true) := Lib.hid (by unfold canB; simp [h])
  go_enter Try.func3, Try.ntmps3
  go_wp2_with fail
  refine (alive2_any _).mono ?_
  rintro e w' ⟨rfl, rfl⟩
  go_wp2_with fail
  refine (of_any _ hx _).mono ?_
  rintro e w' ⟨rfl, rfl⟩
  go_wp2_with fail
  refine (value_back _ hx _).mono ?_
  rintro e w' ⟨rfl, rfl⟩
  go_wp2_with fail
  refine (value_can _ _ hm HC.out _).mono ?_
  rintro e w' ⟨rfl, rfl⟩
  go_wp2_with fail
  refine (size_any _ hx _).mono ?_
  rintro e w' ⟨rfl, rfl⟩
  go_wp2_with fail
  refine (of_back _ _ hm HC.out _).mono ?_
  rintro e w' ⟨rfl, rfl⟩
  go_wp2_with fail
  all_goals go_ret
  all_goals exact ⟨by simp_all, rfl⟩

set_option maxHeartbeats 1000000 in
theorem parts_yte (x m : Int) (hx : I64 x) (hm : Word m) (h : ¬ m < 9223372036854775808) (hE : (m == 9223372036854775808) = true) (w : World) :
    Calls Try.prog 3 #[.int .i64 x, .int .u64 m, .bool true] w fun e w' =>
      e = .returned (.bool true) ∧ w = w' := by
  have hx0 : (x == x) = true := by simp
  have hm0 : (m == m) = true := by simp
  have HC : Hid (canB m true = true) := Lib.hid (by have : m = 9223372036854775808 := (by simpa using hE); unfold canB; simp [this])
  go_enter Try.func3, Try.ntmps3
  go_wp2_with fail
  refine (alive2_any _).mono ?_
  rintro e w' ⟨rfl, rfl⟩
  go_wp2_with fail
  refine (of_any _ hx _).mono ?_
  rintro e w' ⟨rfl, rfl⟩
  go_wp2_with fail
  refine (value_back _ hx _).mono ?_
  rintro e w' ⟨rfl, rfl⟩
  go_wp2_with fail
  refine (value_can _ _ hm HC.out _).mono ?_
  rintro e w' ⟨rfl, rfl⟩
  go_wp2_with fail
  refine (size_any _ hx _).mono ?_
  rintro e w' ⟨rfl, rfl⟩
  go_wp2_with fail
  refine (of_back _ _ hm HC.out _).mono ?_
  rintro e w' ⟨rfl, rfl⟩
  go_wp2_with fail
  all_goals go_ret
  all_goals exact ⟨by simp_all, rfl⟩

set_option maxHeartbeats 1000000 in
theorem parts_yfl (x m : Int) (hx : I64 x) (hm : Word m) (h : m < 9223372036854775808) (w : World) :
    Calls Try.prog 3 #[.int .i64 x, .int .u64 m, .bool false] w fun e w' =>
      e = .returned (.bool true) ∧ w = w' := by
  have hx0 : (x == x) = true := by simp
  have hm0 : (m == m) = true := by simp
  have HC : Hid (canB m false = true) := Lib.hid (by unfold canB; simp [h])
  go_enter Try.func3, Try.ntmps3
  go_wp2_with fail
  refine (alive2_any _).mono ?_
  rintro e w' ⟨rfl, rfl⟩
  go_wp2_with fail
  refine (of_any _ hx _).mono ?_
  rintro e w' ⟨rfl, rfl⟩
  go_wp2_with fail
  refine (value_back _ hx _).mono ?_
  rintro e w' ⟨rfl, rfl⟩
  go_wp2_with fail
  refine (value_can _ _ hm HC.out _).mono ?_
  rintro e w' ⟨rfl, rfl⟩
  go_wp2_with fail
  refine (size_any _ hx _).mono ?_
  rintro e w' ⟨rfl, rfl⟩
  go_wp2_with fail
  refine (of_back _ _ hm HC.out _).mono ?_
  rintro e w' ⟨rfl, rfl⟩
  go_wp2_with fail
  all_goals go_ret
  all_goals exact ⟨by simp_all, rfl⟩

set_option maxHeartbeats 1000000 in
theorem parts_ntg (x m : Int) (hx : I64 x) (hm : Word m) (h : ¬ m < 9223372036854775808) (hE : (m == 9223372036854775808) = false) (w : World) :
    Calls Try.prog 3 #[.int .i64 x, .int .u64 m, .bool true] w fun e w' =>
      e = .returned (.bool true) ∧ w = w' := by
  have hx0 : (x == x) = true := by simp
  have hm0 : (m == m) = true := by simp
  have hd : (!decide (m < 9223372036854775808)) = true := by simp; omega
  have HC : Hid (canB m true = false) := Lib.hid (by have : ¬ m = 9223372036854775808 := (by simpa using hE); unfold canB; simp [this, h])
  go_enter Try.func3, Try.ntmps3
  go_wp2_with fail
  refine (alive2_any _).mono ?_
  rintro e w' ⟨rfl, rfl⟩
  go_wp2_with fail
  refine (of_any _ hx _).mono ?_
  rintro e w' ⟨rfl, rfl⟩
  go_wp2_with fail
  refine (value_back _ hx _).mono ?_
  rintro e w' ⟨rfl, rfl⟩
  go_wp2_with fail
  refine (value_not _ _ hm HC.out _).mono ?_
  rintro e w' ⟨rfl, rfl⟩
  go_wp2_with fail
  refine (size_any _ hx _).mono ?_
  rintro e w' ⟨rfl, rfl⟩
  go_wp2_with fail
  all_goals go_ret
  all_goals exact ⟨by simp_all, rfl⟩

set_option maxHeartbeats 1000000 in
theorem parts_nfg (x m : Int) (hx : I64 x) (hm : Word m) (h : ¬ m < 9223372036854775808) (w : World) :
    Calls Try.prog 3 #[.int .i64 x, .int .u64 m, .bool false] w fun e w' =>
      e = .returned (.bool true) ∧ w = w' := by
  have hx0 : (x == x) = true := by simp
  have hm0 : (m == m) = true := by simp
  have hd : (!decide (m < 9223372036854775808)) = true := by simp; omega
  have HC : Hid (canB m false = false) := Lib.hid (by unfold canB; simp; omega)
  go_enter Try.func3, Try.ntmps3
  go_wp2_with fail
  refine (alive2_any _).mono ?_
  rintro e w' ⟨rfl, rfl⟩
  go_wp2_with fail
  refine (of_any _ hx _).mono ?_
  rintro e w' ⟨rfl, rfl⟩
  go_wp2_with fail
  refine (value_back _ hx _).mono ?_
  rintro e w' ⟨rfl, rfl⟩
  go_wp2_with fail
  refine (value_not _ _ hm HC.out _).mono ?_
  rintro e w' ⟨rfl, rfl⟩
  go_wp2_with fail
  refine (size_any _ hx _).mono ?_
  rintro e w' ⟨rfl, rfl⟩
  go_wp2_with fail
  all_goals go_ret
  all_goals exact ⟨by simp_all, rfl⟩

theorem parts_walk (x m : Int) (b : Bool) (hx : I64 x) (hm : Word m) (w : World) :
    Calls Try.prog 3 #[.int .i64 x, .int .u64 m, .bool b] w fun e w' =>
      e = .returned (.bool true) ∧ w = w' := by
  by_cases h : m < 9223372036854775808
  · cases b
    · exact parts_yfl x m hx hm h w
    · exact parts_ytl x m hx hm h w
  · cases b
    · exact parts_nfg x m hx hm h w
    · cases hE : (m == 9223372036854775808)
      · exact parts_ntg x m hx hm h hE w
      · exact parts_yte x m hx hm h hE w

set_option maxHeartbeats 1000000 in
theorem gaps_walk (a b c : Int) (ha : I64 a) (hb : I64 b) (hc : I64 c) (w : World) :
    Calls Try.prog 4 #[.int .i64 a, .int .i64 b, .int .i64 c] w fun e w' =>
      e = .returned (.bool true) ∧ w = w' := by
  have hz : (!(gap a b == 0) == (a == b)) = false := by rw [gap_zero]; simp
  have hT := Lib.hid (gap_tri a b c)
  have g1 := gap_word ha hb; have g2 := gap_word ha hc; have g3 := gap_word hc hb
  obtain ⟨g10, g11⟩ := g1; obtain ⟨g20, g21⟩ := g2; obtain ⟨g30, g31⟩ := g3
  have hq : (gap a b == gap a b) = true := by simp
  go_enter Try.func4, Try.ntmps4
  go_wp2_with fail
  refine (alive2_any _).mono ?_
  rintro e w' ⟨rfl, rfl⟩
  go_wp2_with fail
  refine (gap_any _ _ ha hb _).mono ?_
  rintro e w' ⟨rfl, rfl⟩
  go_wp2_with fail
  refine (rgap_any _ _ ha hb _).mono ?_
  rintro e w' ⟨rfl, rfl⟩
  go_wp2_with fail
  refine (gap_any _ _ hb ha _).mono ?_
  rintro e w' ⟨rfl, rfl⟩
  rw [gap_comm b a]
  go_wp2_with fail
  refine (gap_any _ _ ha hc _).mono ?_
  rintro e w' ⟨rfl, rfl⟩
  go_wp2_with fail
  refine (gap_any _ _ hc hb _).mono ?_
  rintro e w' ⟨rfl, rfl⟩
  go_wp2_with fail
  all_goals go_ret
  all_goals refine ⟨ret_bool ?_, rfl⟩
  all_goals first
    | rfl
    | (have T := hT.out; simp only [Bool.or_eq_true, decide_eq_true_eq]; rw [IntKind.wrap_u64] at *; omega)

set_option maxHeartbeats 1000000 in
theorem sides_walk (a b : Int) (ha : I64 a) (hb : I64 b) (w : World) :
    Calls Try.prog 7 #[.int .i64 a, .int .i64 b] w fun e w' =>
      e = .returned (.bool true) ∧ w = w' := by
  have g1 := gap_word ha hb
  have m1 := mag_bd ha; have m2 := mag_bd hb
  by_cases h : decide (a < 0) = decide (b < 0)
  · have E := Lib.hid (gap_one h)
    have hg : (decide (a < 0) == decide (b < 0)) = true := by simp [h]
    clear h
    go_enter Try.func7, Try.ntmps7
    go_wp2_with fail
    refine (alive2_any _).mono ?_
    rintro e w' ⟨rfl, rfl⟩
    go_wp2_with fail
    refine (of_any _ ha _).mono ?_
    rintro e w' ⟨rfl, rfl⟩
    go_wp2_with fail
    refine (of_any _ hb _).mono ?_
    rintro e w' ⟨rfl, rfl⟩
    go_wp2_with fail
    refine (gap_any _ _ ha hb _).mono ?_
    rintro e w' ⟨rfl, rfl⟩
    go_wp2_with fail
    all_goals go_ret
    all_goals refine ⟨ret_bool ?_, rfl⟩
    all_goals (rw [beq_iff_eq, E.out]; omega)
  · have E := Lib.hid (gap_two (a := a) (b := b) (by simpa using h))
    have hg : (decide (a < 0) == decide (b < 0)) = false := by simp [h]
    clear h
    go_enter Try.func7, Try.ntmps7
    go_wp2_with fail
    refine (alive2_any _).mono ?_
    rintro e w' ⟨rfl, rfl⟩
    go_wp2_with fail
    refine (of_any _ ha _).mono ?_
    rintro e w' ⟨rfl, rfl⟩
    go_wp2_with fail
    refine (of_any _ hb _).mono ?_
    rintro e w' ⟨rfl, rfl⟩
    go_wp2_with fail
    refine (gap_any _ _ ha hb _).mono ?_
    rintro e w' ⟨rfl, rfl⟩
    go_wp2_with fail
    all_goals go_ret
    all_goals refine ⟨ret_bool ?_, rfl⟩
    all_goals (obtain ⟨g2, g3⟩ := g1; rw [beq_iff_eq]; rw [E.out] at *; first | done | (rw [IntKind.wrap_u64]; omega))

set_option maxHeartbeats 2000000 in
theorem codes_walk (x y u : Int) (hx : I64 x) (hy : I64 y) (hu : Word u) (w : World) :
    Calls Try.prog 5 #[.int .i64 x, .int .i64 y, .int .u64 u] w fun e w' =>
      e = .returned (.bool true) ∧ w = w' := by
  have hq : (zig x == zig x) = true := by simp
  have hx0 : (x == x) = true := by simp
  have hu0 : (u == u) = true := by simp
  have hk : (key x == IntKind.u64.wrap (IntKind.u64.wrap x + 9223372036854775808)) = true := by
    have h := hx; unfold I64 at h; simp only [IntKind.wrap_u64, beq_iff_eq]; unfold key; omega
  have ho : (decide (key x < key y) == decide (x < y)) = true := by
    rw [beq_iff_eq]; apply decide_eq_decide.2; unfold key; omega
  have z1 := zig_word hx; have z2 := zag_i64 hu; have z3 := key_word hx; have z4 := key_word hy; have z5 := back_i64 hu
  go_enter Try.func5, Try.ntmps5
  go_wp2_with fail
  refine (alive2_any _).mono ?_
  rintro e w' ⟨rfl, rfl⟩
  go_wp2_with fail
  refine (zig_any _ hx _).mono ?_
  rintro e w' ⟨rfl, rfl⟩
  go_wp2_with fail
  refine (rzig_any _ hx _).mono ?_
  rintro e w' ⟨rfl, rfl⟩
  go_wp2_with fail
  refine (zig_any _ hx _).mono ?_
  rintro e w' ⟨rfl, rfl⟩
  go_wp2_with fail
  refine (zag_any _ z1 _).mono ?_
  rintro e w' ⟨rfl, rfl⟩
  rw [zag_zig]
  go_wp2_with fail
  refine (zag_any _ hu _).mono ?_
  rintro e w' ⟨rfl, rfl⟩
  go_wp2_with fail
  refine (zig_any _ z2 _).mono ?_
  rintro e w' ⟨rfl, rfl⟩
  rw [zig_zag hu]
  go_wp2_with fail
  refine (key_any _ hx _).mono ?_
  rintro e w' ⟨rfl, rfl⟩
  go_wp2_with fail
  refine (key_any _ hx _).mono ?_
  rintro e w' ⟨rfl, rfl⟩
  go_wp2_with fail
  refine (back_any _ z3 _).mono ?_
  rintro e w' ⟨rfl, rfl⟩
  rw [back_key]
  go_wp2_with fail
  refine (back_any _ hu _).mono ?_
  rintro e w' ⟨rfl, rfl⟩
  go_wp2_with fail
  refine (key_any _ z5 _).mono ?_
  rintro e w' ⟨rfl, rfl⟩
  rw [key_back]
  go_wp2_with fail
  refine (key_any _ hx _).mono ?_
  rintro e w' ⟨rfl, rfl⟩
  go_wp2_with fail
  refine (key_any _ hy _).mono ?_
  rintro e w' ⟨rfl, rfl⟩
  go_wp2_with fail
  all_goals go_ret
  all_goals refine ⟨ret_bool ?_, rfl⟩
  all_goals simp_all
end Go.Proofs.Ytbnfcdgagkkneaa
