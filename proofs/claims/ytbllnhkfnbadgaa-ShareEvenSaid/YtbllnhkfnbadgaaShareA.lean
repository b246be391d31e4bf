/-
  Walks: share.Good and its reference, share.Divisor, share.Least.
-/
import Derived.Test.YtbllnhkfnbadgaaRows
import Derived.Test.YtbllnhkfnbadgaaShareM
import Derived.WalkKit
import Derived.WalkSpells
import Derived.WalkLawsBesides
import Derived.WalkMore
import Derived.ScopeJumps
import Derived.Scope
namespace Go.Proofs.Ytbllnhkfnbadgaa
set_option linter.unusedVariables false
set_option linter.unusedSimpArgs false
open Go.RowKit

theorem ret_pair3 {k : IntKind} {a b : Int} {c d : Bool} (h : a = b) (h' : c = d) : Ending.returned (.tuple #[.int k a, .bool c]) = .returned (.tuple #[.int k b, .bool d]) := by rw [h, h']

set_option maxHeartbeats 400000 in
theorem good_any (a b : Int) (wa : Word a) (wb : Word b) (w : World) :
    Calls Try.prog 12 #[.agg #[.int .u64 a, .int .u64 b]] w fun e w' =>
      e = .returned (.bool (gdB a b)) ∧ Below w.heap.size w w' := by
  by_cases h : b = 0
  · subst h
    have E : Hid (false = gdB a 0) := Lib.hid rfl
    go_enter Try.func12, Try.ntmps12
    go_wp2_with fail
    go_ret
    exact ⟨ret_bool E.out, (Below.refl _ _).alloc (Nat.le_refl _) _⟩
  · have hb0 : (b != 0) = true := by simp [h]
    have hb1 : (!b == 0) = true := by simp [h]
    have E : Hid (decide (a ≤ b) = gdB a b) := Lib.hid (by unfold gdB; simp [h])
    go_enter Try.func12, Try.ntmps12
    go_wp2_with fail
    go_ret
    exact ⟨ret_bool E.out, (Below.refl _ _).alloc (Nat.le_refl _) _⟩

set_option maxHeartbeats 400000 in
theorem rgood_any (a b : Int) (wa : Word a) (wb : Word b) (w : World) :
    Calls Try.prog 13 #[.agg #[.int .u64 a, .int .u64 b]] w fun e w' =>
      e = .returned (.bool (gdB a b)) ∧ Below w.heap.size w w' := by
  by_cases h : b = 0
  · subst h
    have E : Hid (false = gdB a 0) := Lib.hid rfl
    go_enter Try.func13, Try.ntmps13
    go_wp2_with fail
    go_ret
    exact ⟨ret_bool E.out, (Below.refl _ _).alloc (Nat.le_refl _) _⟩
  · have hb0 : (b != 0) = true := by simp [h]
    have hb1 : (!b == 0) = true := by simp [h]
    have E : Hid ((!decide (b < a)) = gdB a b) := Lib.hid (by unfold gdB; rw [hb0, Bool.true_and, Bool.eq_iff_iff]; simp)
    go_enter Try.func13, Try.ntmps13
    go_wp2_with fail
    go_ret
    exact ⟨ret_bool E.out, (Below.refl _ _).alloc (Nat.le_refl _) _⟩

theorem mod_word {a b : Int} (wa : Word a) (wb : Word b) (h : ¬ b = 0) : Word (a % b) ∧ a % b < b := by
  obtain ⟨a0, a1⟩ := wa; obtain ⟨b0, b1⟩ := wb
  have h1 := Int.emod_nonneg a h
  have h2 := Int.emod_lt_of_pos a (show 0 < b by omega)
  exact ⟨⟨h1, by omega⟩, h2⟩
theorem div_u64 {a g : Int} (wa : Word a) (wg : Word g) : IntKind.u64.wrap (a.tdiv g) = a / g := by
  rw [Int.tdiv_eq_ediv_of_nonneg wa.1, IntKind.wrap_u64]
  have h1 := Int.ediv_nonneg wa.1 wg.1
  have h2 := Int.ediv_le_self g wa.1
  have := wa.2
  exact Int.emod_eq_of_lt h1 (by omega)
def intU : Value → Nat | .int _ q => q.toNat | _ => 0

set_option maxRecDepth 1000000 in
set_option maxHeartbeats 1000000 in
theorem divisor_any (a b : Int) (wa : Word a) (wb : Word b) (w : World) :
    Calls Try.prog 15 #[.int .u64 a, .int .u64 b] w fun e w' =>
      e = .returned (.int .u64 (gcdI a b)) ∧ Below w.heap.size w w' := by
  go_enter Try.func15, Try.ntmps15
  go_wp2_with fail
  refine wp_scope_jumps 0 (fun a' w' => Below w.heap.size w w' ∧ ∃ (x y : Int) (u5 u6 u7 u8 u9 u10 : Value), a' = { tmps := #[.int .u64 x, .int .u64 y, undef, undef, .int .u64 0, u5, u6, u7, u8, u9, u10, undef], defers := [] } ∧ gcdI x y = gcdI a b ∧ Word x ∧ Word y) (fun a' _ => intU (a'.tmps.getD 1 undef)) rfl ?_ ?_
  · by_cases hb : b = 0
    · subst hb
      have E := Lib.hid (gcd_zero wa.1)
      go_wp2_with fail
      go_step3
      go_wp2_with fail
      simp only [Exit.jump]
      go_ret
      exact ⟨ret_int E.out.symm, Below.refl _ _⟩
    · have hb0 : (b != 0) = true := by simp [hb]
      have E := Lib.hid (gcd_step wa.1 wb.1 hb)
      have M := Lib.hid (mod_word wa wb hb)
      go_wp2_with fail
      go_step3
      go_wp2_with fail
      go_region
      go_wp2_with fail
      go_step3
      have e := Int.tmod_eq_emod_of_nonneg (b := b) wa.1
      refine ⟨rfl, (Below.refl _ _).drew, b, a % b, _, _, _, _, _, _, by rw [e], E.out, wb, M.out.1⟩
  · rintro a' w' ⟨hB, x, y, u5, u6, u7, u8, u9, u10, rfl, hs, wx, wy⟩
    by_cases hb : y = 0
    · subst hb
      have E := Lib.hid (gcd_zero wx.1)
      go_wp2_with fail
      simp only [Exit.jump]
      go_ret
      exact ⟨ret_int (by rw [← hs, E.out]), hB⟩
    · have hb0 : (y != 0) = true := by simp [hb]
      have E := Lib.hid (gcd_step wx.1 wy.1 hb)
      have M := Lib.hid (mod_word wx wy hb)
      go_wp2_with fail
      go_region
      go_wp2_with fail
      go_step3
      have e := Int.tmod_eq_emod_of_nonneg (b := y) wx.1
      refine ⟨rfl, ⟨hB.drew, y, x % y, _, _, _, _, _, _, by rw [e], E.out.trans hs, wy, M.out.1⟩, ?_⟩
      have h1 := M.out.1.1
      have h2 := M.out.2
      simp [intU, e]
      omega

set_option maxHeartbeats 1000000 in
theorem least_any (a b : Int) (wa : Word a) (wb : Word b) (w : World) :
    Calls Try.prog 16 #[.agg #[.int .u64 a, .int .u64 b]] w fun e w' =>
      e = .returned (.agg #[.int .u64 (a / gcdI a b), .int .u64 (b / gcdI a b)]) ∧ Below w.heap.size w w' := by
  by_cases hg : gcdI a b = 0
  · obtain ⟨rfl, rfl⟩ := (gcd_none wa.1 wb.1).1 hg
    have hg0 : (gcdI 0 0 == 0) = true := by rw [hg]; rfl
    have E : Hid (0 / gcdI 0 0 = 0) := Lib.hid (by rw [hg]; rfl)
    clear hg
    go_enter Try.func16, Try.ntmps16
    go_wp2_with fail
    refine (divisor_any _ _ wa wb _).mono ?_
    rintro e wA ⟨rfl, hbA⟩
    have c1 := (bcell hbA).1 w.heap.size 0 (by simp; omega)
    have c2 := (bcell hbA).1 w.heap.size 1 (by simp; omega)
    have d1 := (bcell hbA).1 (w.heap.size + 1) 0 (by simp)
    have d2 := (bcell hbA).1 (w.heap.size + 1) 1 (by simp)
    have f1 := (bcell hbA).2 (w.heap.size + 1) 0 (by simp)
    have f2 := (bcell hbA).2 (w.heap.size + 1) 1 (by simp)
    have hz : w.heap.size + 1 + 1 ≤ wA.heap.size := by have := hbA.size; simp at this; omega
    go_wp2_with fail
    refine bodyPost_ret (v := .agg #[.int .u64 0, .int .u64 0]) (by simp [results, Try.results16, go_sem, c1, c2, d1, d2]) rfl ⟨by rw [E.out], ?_⟩
    have k := ((((Below.refl w.heap.size w).alloc (Nat.le_refl _) (.cells #[.int .u64 0, .int .u64 0] 24)).alloc (by simp) (.cells #[.int .u64 0, .int .u64 0] 24)).trans (hbA.mono (by simp; omega)))
    exact (k.setCell (p := ⟨w.heap.size + 1, 0, none⟩) (Nat.le_succ _) _).setCell (p := ⟨w.heap.size + 1, 1, none⟩) (Nat.le_succ _) _
  · have hg0 : (gcdI a b == 0) = false := by simp [hg]
    have E1 := Lib.hid (div_u64 wa (gcd_word wa wb))
    have E2 := Lib.hid (div_u64 wb (gcd_word wa wb))
    go_enter Try.func16, Try.ntmps16
    go_wp2_with fail
    refine (divisor_any _ _ wa wb _).mono ?_
    rintro e wA ⟨rfl, hbA⟩
    have c1 := (bcell hbA).1 w.heap.size 0 (by simp; omega)
    have c2 := (bcell hbA).1 w.heap.size 1 (by simp; omega)
    have d1 := (bcell hbA).1 (w.heap.size + 1) 0 (by simp)
    have d2 := (bcell hbA).1 (w.heap.size + 1) 1 (by simp)
    have f1 := (bcell hbA).2 (w.heap.size + 1) 0 (by simp)
    have f2 := (bcell hbA).2 (w.heap.size + 1) 1 (by simp)
    have hz : w.heap.size + 1 + 1 ≤ wA.heap.size := by have := hbA.size; simp at this; omega
    go_wp2_with fail
    go_region
    go_wp2_with fail
    refine bodyPost_ret (v := .agg #[.int .u64 (IntKind.u64.wrap (a.tdiv (gcdI a b))), .int .u64 (IntKind.u64.wrap (b.tdiv (gcdI a b)))]) (by simp [results, Try.results16, go_sem, c1, c2, d1, d2]) rfl ⟨by rw [E1.out, E2.out], ?_⟩
    have k := ((((Below.refl w.heap.size w).alloc (Nat.le_refl _) (.cells #[.int .u64 a, .int .u64 b] 24)).alloc (by simp) (.cells #[.int .u64 0, .int .u64 0] 24)).trans (hbA.mono (by simp; omega)))
    exact ((k.setCell (p := ⟨w.heap.size + 1, 0, none⟩) (Nat.le_succ _) _).setCell (p := ⟨w.heap.size + 1, 1, none⟩) (Nat.le_succ _) _).drew
end Go.Proofs.Ytbllnhkfnbadgaa
