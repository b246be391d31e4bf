/-
  Walks: the cell that begins somewhere, as package cells comes to it.
-/
import Derived.Test.YtbkiekogphfabaaCellM
import Derived.Test.YtbkiekogphfabaaOver
import Derived.Test.YtbkiekogphfabaaTwo
namespace Go.Proofs.Ytbkiekogphfabaa
set_option linter.unusedVariables false
set_option linter.unusedSimpArgs false
open Go.RowKit

/-- How the program, and the reference, come to a cell's end and to what stands for it. -/
theorem way_big {u v r : Int} (g : GoodC u v) (h0 : 0 ≤ r) : 0 ≤ r * v ∧ 0 < v - u := by
  obtain ⟨g0, g1, g2⟩ := g
  exact ⟨Int.mul_nonneg h0 (by omega), by omega⟩
theorem ov_raw {u v lo : Int} (g : GoodC u v) (h : 1 ≤ lo) (h2 : lo ≤ 9223372036854775808) : ovQ (lo * (v + u)) v = rawC u v lo ∧ ovB (lo * (v + u)) v = true := by
  have a := raw_lt g h
  have e : ovB (lo * (v + u)) v = true := by
    unfold ovB; unfold rawC at a; apply decide_eq_true; obtain ⟨g0, g1, g2⟩ := g; omega
  refine ⟨?_, e⟩
  unfold ovQ; rw [if_pos e]; rfl
theorem ov_way {u v r : Int} (g : GoodC u v) (h0 : 0 ≤ r) : (ovB (r * v) (v - u) = true ∧ ovQ (r * v) (v - u) = wayC u v r ∧ wayC u v r < 18446744073709551616) ∨ (ovB (r * v) (v - u) = false ∧ ovQ (r * v) (v - u) = 0 ∧ 18446744073709551616 ≤ wayC u v r) := by
  obtain ⟨h1, h2⟩ := way_big g h0
  by_cases h : wayC u v r < 18446744073709551616
  · have e : ovB (r * v) (v - u) = true := by unfold ovB; unfold wayC at h; exact decide_eq_true ⟨h2, h⟩
    exact .inl ⟨e, by unfold ovQ; rw [if_pos e]; rfl, h⟩
  · have e : ovB (r * v) (v - u) = false := by unfold ovB; unfold wayC at h; apply decide_eq_false; omega
    exact .inr ⟨e, by unfold ovQ; rw [e]; rfl, by omega⟩
theorem word_raw {u v lo : Int} (g : GoodC u v) (h : 1 ≤ lo) (h2 : lo ≤ 9223372036854775808) : Word (rawC u v lo) := by
  have a := raw_ge g h
  have b := raw_lt g h
  unfold Word; omega
theorem floor_raw (u v lo r : Int) (g : GoodC u v) (h : 1 ≤ lo) (h2 : lo ≤ 9223372036854775808) (hr : rawC u v lo = r) (w : World) :
    Calls Try.prog 27 #[.int .u64 lo, .int .u64 (v + u), .int .u64 v] w fun e w' => e = .returned (.tuple #[.int .u64 r, .bool true]) ∧ Below w.heap.size w w' := by
  obtain ⟨g0, g1, g2⟩ := id g
  have hf := floor_any lo (v + u) v (by unfold Word; omega) (by unfold Word; omega) (by unfold Word; omega) w
  obtain ⟨e1, e2⟩ := ov_raw g h h2
  rw [e1, e2, hr] at hf
  exact hf
theorem floor_way (u v r q : Int) (b : Bool) (g : GoodC u v) (h : 0 ≤ r) (h2 : r < 18446744073709551616) (hq : ovQ (r * v) (v - u) = q) (hb : ovB (r * v) (v - u) = b) (w : World) :
    Calls Try.prog 27 #[.int .u64 r, .int .u64 v, .int .u64 (v - u)] w fun e w' => e = .returned (.tuple #[.int .u64 q, .bool b]) ∧ Below w.heap.size w w' := by
  obtain ⟨g0, g1, g2⟩ := id g
  have hf := floor_any r v (v - u) (by unfold Word; omega) (by unfold Word; omega) (by unfold Word; omega) w
  rw [hq, hb] at hf
  exact hf
/-- The smaller one, as the builtin tells it. -/
theorem min_word (x y : Int) : (if y < x then y else x) = min x y := by
  split <;> omega

set_option maxHeartbeats 1000000 in
theorem from_any (u v lo E R : Int) (g : GoodC u v) (h : 1 ≤ lo) (h2 : lo ≤ 9223372036854775808) (hE : endC u v lo = E) (hR : repC u v lo = R) (w : World) :
    Calls Try.prog 21 #[.int .u64 lo, .agg #[.int .u64 u, .int .u64 v]] w fun e w' => e = .returned (.agg #[.int .u64 E, .int .u64 R]) ∧ Below w.heap.size w w' := by
  obtain ⟨r, hr⟩ : ∃ r, rawC u v lo = r := ⟨_, rfl⟩
  have hw := word_raw g h h2
  rw [hr] at hw
  obtain ⟨r0, r1⟩ := hw
  have F1 := Lib.hid (floor_raw u v lo r g h h2 hr)
  have HR : Hid (min r 9223372036854775807 = R) := Lib.hid (by unfold repC at hR; rw [hr] at hR; exact hR)
  have HE : endC u v lo = min (wayC u v r) 9223372036854775808 := by unfold endC; rw [hr]
  rw [hE] at HE
  have cases := ov_way g r0
  obtain ⟨g0, g1, g2⟩ := id g
  rcases cases with ⟨e1, e2, e3⟩ | ⟨e1, e2, e3⟩
  · obtain ⟨q, hq⟩ : ∃ q, wayC u v r = q := ⟨_, rfl⟩
    rw [hq] at e2 e3 HE
    have F2 := Lib.hid (floor_way u v r q true g r0 r1 e2 e1)
    have HE' := Lib.hid HE.symm
    have q0 : 0 ≤ q := by have := way_ge g r0; omega
    clear e1 e2 HE hE hR hr hq g
    go_enter Try.func21, Try.ntmps21
    go_wp2_with fail
    refine (F1.out _).mono ?_
    rintro e wA ⟨rfl, hbA⟩
    obtain ⟨bc, bf⟩ := bcell hbA
    have hz : w.heap.size + 1 < wA.heap.size := by have := hbA.size; simp at this; omega
    go_wp2_with fail
    refine (F2.out _).mono ?_
    rintro e wB ⟨rfl, hbB⟩
    have hT0 := ((Two.new (w.alloc (.cells #[.int .u64 u, .int .u64 v] 24)) (.int .u64 0) (.int .u64 0) 55).call hbA).call hbB
    rw [World.size_alloc] at hT0
    have hT := Lib.hid hT0
    clear hT0
    obtain ⟨bc2, bf2⟩ := bcell hbB
    have hz2 : w.heap.size + 1 < wB.heap.size := by have := hbB.size; omega
    go_wp2_with fail
    rw [HE'.out, HR.out]
    have P := hT.out.put (.int .u64 E) (.int .u64 R)
    refine bodyPost_ret (v := .agg #[.int .u64 E, .int .u64 R]) (by simp [results, Try.results21, go_sem, P.c0, P.c1]) rfl ⟨rfl, ?_⟩
    exact below_put (((((Below.refl _ _).alloc (Nat.le_refl _) _).alloc (by simp) _).trans (hbA.mono (by simp; omega))).trans (hbB.mono (by omega))) (by omega) _ _
  · have F2 := Lib.hid (floor_way u v r 0 false g r0 r1 e2 e1)
    have HE' : Hid (9223372036854775808 = E) := Lib.hid (by omega)
    clear e1 e2 HE hE hR hr g
    go_enter Try.func21, Try.ntmps21
    go_wp2_with fail
    refine (F1.out _).mono ?_
    rintro e wA ⟨rfl, hbA⟩
    obtain ⟨bc, bf⟩ := bcell hbA
    have hz : w.heap.size + 1 < wA.heap.size := by have := hbA.size; simp at this; omega
    go_wp2_with fail
    refine (F2.out _).mono ?_
    rintro e wB ⟨rfl, hbB⟩
    have hT0 := ((Two.new (w.alloc (.cells #[.int .u64 u, .int .u64 v] 24)) (.int .u64 0) (.int .u64 0) 55).call hbA).call hbB
    rw [World.size_alloc] at hT0
    have hT := Lib.hid hT0
    clear hT0
    obtain ⟨bc2, bf2⟩ := bcell hbB
    have hz2 : w.heap.size + 1 < wB.heap.size := by have := hbB.size; omega
    go_wp2_with fail
    rw [HR.out, HE'.out]
    have P := hT.out.put (.int .u64 E) (.int .u64 R)
    refine bodyPost_ret (v := .agg #[.int .u64 E, .int .u64 R]) (by simp [results, Try.results21, go_sem, P.c0, P.c1]) rfl ⟨rfl, ?_⟩
    exact below_put (((((Below.refl _ _).alloc (Nat.le_refl _) _).alloc (by simp) _).trans (hbA.mono (by simp; omega))).trans (hbB.mono (by omega))) (by omega) _ _
end Go.Proofs.Ytbkiekogphfabaa
