/-
  Walks: share.Place and the reference's; what places are.
-/
import Derived.Test.YtbllnhkfnbadgaaShareA
import Derived.Test.YtbllnhkfnbadgaaSmall
namespace Go.Proofs.Ytbllnhkfnbadgaa
set_option linter.unusedVariables false
set_option linter.unusedSimpArgs false
open Go.RowKit

/-- The place that a part asks for, of so many; the error's number. -/
def plV (a b n : Int) : Int := if gdB a b = true ∧ ¬ n = 0 then (if clQ (a * n) b < 1 then 1 else clQ (a * n) b) else 0
def plE (a b n : Int) : Int := if gdB a b = true then (if n = 0 then 5 else 0) else 1
theorem pl_bad {a b n : Int} (h : gdB a b = false) : plV a b n = 0 ∧ plE a b n = 1 := by
  unfold plV plE; rw [h]; simp
theorem pl_none {a b : Int} (h : gdB a b = true) : plV a b 0 = 0 ∧ plE a b 0 = 5 := by
  unfold plV plE; rw [h]; simp
theorem pl_good {a b n : Int} (h : gdB a b = true) (hn : ¬ n = 0) : plV a b n = (if clQ (a * n) b < 1 then 1 else clQ (a * n) b) ∧ plE a b n = 0 := by
  unfold plV plE; rw [h]; simp [hn]

/-- Rounded up, of a part that can be. -/
theorem cl_spec {a b n : Int} (wa : Word a) (wb : Word b) (wn : Word n) (h : gdB a b = true) :
    a * n ≤ clQ (a * n) b * b ∧ (clQ (a * n) b - 1) * b < a * n ∧ 0 ≤ clQ (a * n) b ∧ clQ (a * n) b ≤ n := by
  obtain ⟨hb, hab⟩ := gd_iff.1 h
  obtain ⟨a0, a1⟩ := wa; obtain ⟨b0, b1⟩ := wb; obtain ⟨n0, n1⟩ := wn
  have bp : 0 < b := by omega
  have N0 : 0 ≤ a * n := Int.mul_nonneg a0 n0
  have hle : a * n ≤ n * b := by rw [Int.mul_comm n b]; exact Int.mul_le_mul_of_nonneg_right hab n0
  have hd := Int.ediv_mul_add_emod (a * n) b
  have hr0 := Int.emod_nonneg (a * n) hb
  have hr1 := Int.emod_lt_of_pos (a * n) bp
  have hq0 := Int.ediv_nonneg N0 (show 0 ≤ b by omega)
  have hqn : a * n / b ≤ n := Int.ediv_le_of_le_mul bp hle
  have hov : ovB (a * n) b = true := by unfold ovB; apply decide_eq_true; exact ⟨bp, by omega⟩
  have eQ : ovQ (a * n) b = a * n / b := by unfold ovQ; rw [if_pos hov]
  have eR : ovR (a * n) b = a * n % b := by unfold ovR; rw [if_pos hov]
  by_cases hz : a * n % b = 0
  · have e : clQ (a * n) b = a * n / b := by rw [(cl_zero (by rw [eR]; exact hz)).2, eQ]
    rw [e]
    generalize a * n / b = q at *
    generalize a * n % b = r at *
    rw [Int.sub_mul]
    omega
  · have hlt : a * n / b < n := by
      rcases Int.lt_or_eq_of_le hqn with h1 | h1
      · exact h1
      · rw [h1] at hd; omega
    have e : clQ (a * n) b = a * n / b + 1 := by
      rw [(cl_up hov (by rw [eR]; omega) (by rw [eQ]; omega)).2, eQ]
    rw [e]
    generalize a * n / b = q at *
    generalize a * n % b = r at *
    rw [Int.sub_mul, Int.add_mul]
    omega

/-- Places are from 1 to n. -/
theorem pl_spec {a b n : Int} (wa : Word a) (wb : Word b) (wn : Word n) (h : gdB a b = true) (hn : ¬ n = 0) :
    1 ≤ plV a b n ∧ plV a b n ≤ n ∧ a * n ≤ plV a b n * b ∧ (plV a b n = 1 ∨ (plV a b n - 1) * b < a * n) := by
  obtain ⟨h1, h2, h3, h4⟩ := cl_spec wa wb wn h
  obtain ⟨hb, hab⟩ := gd_iff.1 h
  rw [(pl_good h hn).1]
  have n0 := wn.1
  have bp : 0 < b := by have := wb.1; omega
  generalize clQ (a * n) b = c at *
  split
  · rename_i hc
    have : c = 0 := by omega
    subst this
    refine ⟨by omega, by omega, by omega, Or.inl rfl⟩
  · exact ⟨by omega, h4, h1, Or.inr h2⟩
theorem pl_word {a b n : Int} (wa : Word a) (wb : Word b) (wn : Word n) : Word (plV a b n) := by
  by_cases h : gdB a b = true ∧ ¬ n = 0
  · have := pl_spec wa wb wn h.1 h.2
    exact ⟨by omega, by have := wn.2; omega⟩
  · unfold plV; rw [if_neg h]; exact ⟨by omega, by omega⟩
/-- The whole asks for the last one. -/
theorem pl_whole {a b n : Int} (wb : Word b) (wn : Word n) (h : gdB a b = true) (hn : ¬ n = 0) : plV b b n = n := by
  obtain ⟨hb, hab⟩ := gd_iff.1 h
  have hg : gdB b b = true := gd_iff.2 ⟨hb, Int.le_refl _⟩
  obtain ⟨h1, h2, h3, h4⟩ := pl_spec wb wb wn hg hn
  have bp : 0 < b := by have := wb.1; omega
  rw [Int.mul_comm b n] at h3
  have := Int.le_of_mul_le_mul_right h3 bp
  omega
/-- They rise with the part. -/
theorem pl_rise {a b c d n : Int} (wa : Word a) (wb : Word b) (wc : Word c) (wd : Word d) (wn : Word n) (h : gdB a b = true) (h' : gdB c d = true) (hn : ¬ n = 0) (hlt : plV a b n < plV c d n) : fewB a b c d = true := by
  obtain ⟨hb, hab⟩ := gd_iff.1 h
  obtain ⟨hd, hcd⟩ := gd_iff.1 h'
  obtain ⟨p1, p2, p3, p4⟩ := pl_spec wa wb wn h hn
  obtain ⟨q1, q2, q3, q4⟩ := pl_spec wc wd wn h' hn
  have bp : 0 < b := by have := wb.1; omega
  have dp : 0 < d := by have := wd.1; omega
  have np : 0 < n := by have := wn.1; omega
  have q5 : (plV c d n - 1) * d < c * n := by
    rcases q4 with q4 | q4
    · omega
    · exact q4
  rw [few_c hb hd]
  apply decide_eq_true
  generalize plV a b n = t at *
  generalize plV c d n = u at *
  have e1 : a * n * d ≤ t * b * d := Int.mul_le_mul_of_nonneg_right p3 (by omega)
  have e2 : t * (b * d) ≤ (u - 1) * (b * d) := Int.mul_le_mul_of_nonneg_right (by omega) (Int.mul_nonneg (by omega) (by omega))
  have e3 : (u - 1) * d * b < c * n * b := Int.mul_lt_mul_of_pos_right q5 bp
  have e4 : a * d * n < c * b * n := by
    have x1 : a * n * d = a * d * n := by rw [Int.mul_assoc, Int.mul_comm n, ← Int.mul_assoc]
    have x2 : t * b * d = t * (b * d) := Int.mul_assoc ..
    have x3 : (u - 1) * d * b = (u - 1) * (b * d) := by rw [Int.mul_assoc, Int.mul_comm d]
    have x4 : c * n * b = c * b * n := by rw [Int.mul_assoc, Int.mul_comm n, ← Int.mul_assoc]
    omega
  exact Int.lt_of_mul_lt_mul_right e4 (by omega)
/-- Fewer than the part of all lie ahead of the place. -/
theorem pl_ahead {a b n : Int} (wa : Word a) (wb : Word b) (wn : Word n) (h : gdB a b = true) (hn : ¬ n = 0) (ht : ¬ plV a b n = 1) : fewB (plV a b n - 1) n a b = true := by
  obtain ⟨hb, hab⟩ := gd_iff.1 h
  obtain ⟨p1, p2, p3, p4⟩ := pl_spec wa wb wn h hn
  rw [few_c hn hb]
  apply decide_eq_true
  rcases p4 with p4 | p4
  · omega
  · exact p4
theorem pl_upto {a b n : Int} (wa : Word a) (wb : Word b) (wn : Word n) (h : gdB a b = true) (hn : ¬ n = 0) : fewB (plV a b n) n a b = false := by
  obtain ⟨hb, hab⟩ := gd_iff.1 h
  obtain ⟨p1, p2, p3, p4⟩ := pl_spec wa wb wn h hn
  rw [few_c hn hb]
  apply decide_eq_false
  omega
/-- The same part in its least numbers asks for the same place. -/
theorem cl_least {a b n g : Int} (wa : Word a) (wb : Word b) (wn : Word n) (hg : g = gcdI a b) (h : gdB a b = true) : gdB (a / g) (b / g) = true ∧ plV (a / g) (b / g) n = plV a b n ∧ plE (a / g) (b / g) n = plE a b n := by
  obtain ⟨hb, hab⟩ := gd_iff.1 h
  have hg0 : ¬ g = 0 := by
    intro e; rw [hg] at e
    exact hb ((gcd_none wa.1 wb.1).1 e).2
  have gw := gcd_word wa wb
  rw [← hg] at gw
  have gp : 0 < g := by have := gw.1; omega
  have e1 := (div_exact hg wa.1 hg0).1
  have e2 := (div_exact2 hg wb.1 hg0).1
  have w1 : Word (a / g) := ⟨Int.ediv_nonneg wa.1 gw.1, by have := Int.ediv_le_self g wa.1; have := wa.2; omega⟩
  have w2 : Word (b / g) := ⟨Int.ediv_nonneg wb.1 gw.1, by have := Int.ediv_le_self g wb.1; have := wb.2; omega⟩
  have hG : gdB (a / g) (b / g) = true := by
    refine gd_iff.2 ⟨?_, Int.ediv_le_ediv gp hab⟩
    intro e; rw [e] at e2; omega
  refine ⟨hG, ?_, ?_⟩
  · by_cases hn : n = 0
    · subst hn; rw [(pl_none hG).1, (pl_none h).1]
    · have c1 := cl_spec wa wb wn h
      have c2 := cl_spec w1 w2 wn hG
      have E : clQ (a / g * n) (b / g) = clQ (a * n) b := by
        obtain ⟨x1, x2, x3, x4⟩ := c1
        obtain ⟨y1, y2, y3, y4⟩ := c2
        generalize clQ (a / g * n) (b / g) = u at *
        generalize clQ (a * n) b = t at *
        have f1 : a / g * n * g = a * n := by rw [Int.mul_assoc, Int.mul_comm n, ← Int.mul_assoc, e1]
        have f2 : u * (b / g) * g = u * b := by rw [Int.mul_assoc, e2]
        have f3 : (u - 1) * (b / g) * g = (u - 1) * b := by rw [Int.mul_assoc, e2]
        have z1 := Int.mul_le_mul_of_nonneg_right y1 (show 0 ≤ g by omega)
        have z2 := Int.mul_lt_mul_of_pos_right y2 gp
        rw [f1, f2] at z1
        rw [f1, f3] at z2
        have bp : 0 < b := by have := wb.1; omega
        have k1 : u - 1 < t := Int.lt_of_mul_lt_mul_right (show (u - 1) * b < t * b by omega) (by omega)
        have k2 : t - 1 < u := Int.lt_of_mul_lt_mul_right (show (t - 1) * b < u * b by omega) (by omega)
        omega
      rw [(pl_good hG hn).1, (pl_good h hn).1, E]
  · unfold plE; rw [hG, h]

theorem ret_place {x y a b : Int} (h : a = x) (h' : b = y) : Ending.returned (.tuple #[.int .u64 a, .int .i64 b]) = .returned (.tuple #[.int .u64 x, .int .i64 y]) := by rw [h, h']

set_option maxHeartbeats 1000000 in
theorem place_any (a b n : Int) (wa : Word a) (wb : Word b) (wn : Word n) (w : World) :
    Calls Try.prog 10 #[.agg #[.int .u64 a, .int .u64 b], .int .u64 n] w fun e w' =>
      e = .returned (.tuple #[.int .u64 (plV a b n), .int .i64 (plE a b n)]) ∧ Below w.heap.size w w' := by
  cases hg : gdB a b with
  | false =>
    have E := Lib.hid (pl_bad (n := n) hg)
    have G := Lib.hid hg
    clear hg
    go_enter Try.func10, Try.ntmps10
    go_wp2_with fail
    refine (good_any a b wa wb _).mono ?_
    rw [G.out]
    rintro e wA ⟨rfl, hbA⟩
    go_wp2_with fail
    go_ret2
    exact ⟨ret_place E.out.1.symm E.out.2.symm, ((Below.refl _ _).alloc (Nat.le_refl _) _).trans (hbA.mono (by simp))⟩
  | true =>
    by_cases hn : n = 0
    · subst hn
      have E := Lib.hid (pl_none hg)
      have G := Lib.hid hg
      clear hg
      go_enter Try.func10, Try.ntmps10
      go_wp2_with fail
      refine (good_any a b wa wb _).mono ?_
      rw [G.out]
      rintro e wA ⟨rfl, hbA⟩
      go_wp2_with fail
      go_ret2
      exact ⟨ret_place E.out.1.symm E.out.2.symm, ((Below.refl _ _).alloc (Nat.le_refl _) _).trans (hbA.mono (by simp))⟩
    · have E := Lib.hid (pl_good hg hn)
      have hn0 : (n == 0) = false := by simp [hn]
      have G := Lib.hid hg
      have c0 := (cl_spec wa wb wn hg).2.2.1
      clear hg hn
      go_enter Try.func10, Try.ntmps10
      go_wp2_with fail
      have c1 : (w.alloc (.cells #[.int .u64 a, .int .u64 b] 24)).cell? ⟨w.heap.size, 0, none⟩ = some (.int .u64 a) := by go_simp
      have c2 : (w.alloc (.cells #[.int .u64 a, .int .u64 b] 24)).cell? ⟨w.heap.size, 1, none⟩ = some (.int .u64 b) := by go_simp
      refine (good_any a b wa wb _).mono ?_
      rw [G.out]
      rintro e wA ⟨rfl, hbA⟩
      have d1 := cell_later hbA c1
      have d2 := cell_later hbA c2
      have hBA := ((Below.refl _ _).alloc (Nat.le_refl _) _).trans (hbA.mono (by simp))
      clear c1 c2 hbA
      go_wp2_with fail
      refine (ceil_any a n b wa wn wb _).mono ?_
      rintro e wB ⟨rfl, hbB⟩
      generalize clQ (a * n) b = c at *
      go_wp2_with fail
      go_ret2
      refine ⟨ret_place ?_ E.out.2.symm, hBA.trans (hbB.mono hBA.size)⟩
      rw [E.out.1]
      split <;> omega

set_option maxHeartbeats 1000000 in
theorem rplace_any (a b n : Int) (wa : Word a) (wb : Word b) (wn : Word n) (w : World) :
    Calls Try.prog 11 #[.agg #[.int .u64 a, .int .u64 b], .int .u64 n] w fun e w' =>
      e = .returned (.tuple #[.int .u64 (plV a b n), .int .i64 (plE a b n)]) ∧ Below w.heap.size w w' := by
  cases hg : gdB a b with
  | false =>
    have E := Lib.hid (pl_bad (n := n) hg)
    have G := Lib.hid hg
    clear hg
    go_enter Try.func11, Try.ntmps11
    go_wp2_with fail
    refine (rgood_any a b wa wb _).mono ?_
    rw [G.out]
    rintro e wA ⟨rfl, hbA⟩
    go_wp2_with fail
    go_ret2
    exact ⟨ret_place E.out.1.symm E.out.2.symm, ((Below.refl _ _).alloc (Nat.le_refl _) _).trans (hbA.mono (by simp))⟩
  | true =>
    by_cases hn : n = 0
    · subst hn
      have E := Lib.hid (pl_none hg)
      have G := Lib.hid hg
      clear hg
      go_enter Try.func11, Try.ntmps11
      go_wp2_with fail
      refine (rgood_any a b wa wb _).mono ?_
      rw [G.out]
      rintro e wA ⟨rfl, hbA⟩
      go_wp2_with fail
      go_ret2
      exact ⟨ret_place E.out.1.symm E.out.2.symm, ((Below.refl _ _).alloc (Nat.le_refl _) _).trans (hbA.mono (by simp))⟩
    · have E := Lib.hid (pl_good hg hn)
      have hn0 : (n == 0) = false := by simp [hn]
      have G := Lib.hid hg
      have c0 := (cl_spec wa wb wn hg).2.2.1
      clear hg hn
      go_enter Try.func11, Try.ntmps11
      go_wp2_with fail
      have c1 : (w.alloc (.cells #[.int .u64 a, .int .u64 b] 24)).cell? ⟨w.heap.size, 0, none⟩ = some (.int .u64 a) := by go_simp
      have c2 : (w.alloc (.cells #[.int .u64 a, .int .u64 b] 24)).cell? ⟨w.heap.size, 1, none⟩ = some (.int .u64 b) := by go_simp
      refine (rgood_any a b wa wb _).mono ?_
      rw [G.out]
      rintro e wA ⟨rfl, hbA⟩
      have d1 := cell_later hbA c1
      have d2 := cell_later hbA c2
      have hBA := ((Below.refl _ _).alloc (Nat.le_refl _) _).trans (hbA.mono (by simp))
      clear c1 c2 hbA
      go_wp2_with fail
      refine (rceil_any a n b wa wn wb _).mono ?_
      rintro e wB ⟨rfl, hbB⟩
      generalize clQ (a * n) b = c at *
      by_cases hc : c = 0
      · subst hc
        go_wp2_with fail
        go_ret2
        exact ⟨ret_place (by rw [E.out.1]; rfl) E.out.2.symm, hBA.trans (hbB.mono hBA.size)⟩
      · have hc0 : (c == 0) = false := by simp [hc]
        go_wp2_with fail
        go_ret2
        exact ⟨ret_place (by rw [E.out.1, if_neg (by omega)]) E.out.2.symm, hBA.trans (hbB.mono hBA.size)⟩
end Go.Proofs.Ytbllnhkfnbadgaa
