/-
  Walks of the laws of layer 3: ShareLeast.
-/
import Derived.Test.YtbllnhkfnbadgaaShareV
namespace Go.Proofs.Ytbllnhkfnbadgaa
set_option linter.unusedVariables false
set_option linter.unusedSimpArgs false
open Go.RowKit Go.Shelf

set_option maxHeartbeats 12000000 in
theorem lleast_walk (a b k : Int) (wa : Word a) (wb : Word b) (wk : Word k) (w : World) :
    Calls Try.prog 5 #[.agg #[.int .u64 a, .int .u64 b], .int .u64 k] w fun e w' =>
      e = .returned (.bool true) ∧ Below w.heap.size w w' := by
  have T0 := Two.new w (.int .u64 a) (.int .u64 b) 24
  have B0 := (Below.refl w.heap.size w).alloc (Nat.le_refl _) (.cells #[.int .u64 a, .int .u64 b] 24)
  by_cases hg : gcdI a b = 0
  · obtain ⟨rfl, rfl⟩ := (gcd_none wa.1 wb.1).1 hg
    have G := Lib.hid hg
    have E : Hid (0 / gcdI 0 0 = 0) := Lib.hid (by rw [hg]; rfl)
    clear hg
    go_enter Try.func5, Try.ntmps5
    go_wp2_with fail
    refine (alive3_any _).mono ?_
    rintro e wA ⟨rfl, hbA⟩
    have TA := T0.call hbA
    have BA := B0.trans (hbA.mono B0.size)
    clear T0 B0 hbA
    obtain ⟨p0, p1, p2, p3⟩ := id TA
    go_wp2_with fail
    refine (divisor_any 0 0 wa wb _).mono ?_
    rw [G.out]
    rintro e wB ⟨rfl, hbB⟩
    have TB := TA.call hbB
    have BB := BA.trans (hbB.mono BA.size)
    clear TA BA hbB p0 p1 p2 p3
    obtain ⟨p0, p1, p2, p3⟩ := id TB
    go_wp2_with fail
    refine (least_any 0 0 wa wb _).mono ?_
    rw [E.out]
    rintro e wC ⟨rfl, hbC⟩
    have TC := TB.call hbC
    have BC := BB.trans (hbC.mono BB.size)
    clear TB BB hbC p0 p1 p2 p3
    have TD := TC.alloc (.cells #[.int .u64 0, .int .u64 0] 24)
    have BD := BC.alloc BC.size (.cells #[.int .u64 0, .int .u64 0] 24)
    obtain ⟨p0, p1, p2, p3⟩ := id TC
    obtain ⟨r0, r1, r2, r3⟩ := id TD
    go_wp2_with fail
    refine bodyPost_ret (v := .bool true) (by simp [results, Try.results5, go_sem]) rfl ⟨rfl, ?_⟩
    exact BD
  · have hg0 : (gcdI a b == 0) = false := by simp [hg]
    have e1 := div_exact rfl wa.1 hg
    have e2 := div_exact2 rfl wb.1 hg
    have L := Lib.hid (gcd_left wa.1 wb.1 hg)
    have wg := gcd_word wa wb
    have wx : Word (a / gcdI a b) := ⟨Int.ediv_nonneg wa.1 wg.1, by have := Int.ediv_le_self (gcdI a b) wa.1; have := wa.2; omega⟩
    have wy : Word (b / gcdI a b) := ⟨Int.ediv_nonneg wb.1 wg.1, by have := Int.ediv_le_self (gcdI a b) wb.1; have := wb.2; omega⟩
    have Least := Lib.hid (fun w' => least_any a b wa wb w')
    have Div := Lib.hid (fun w' => divisor_any a b wa wb w')
    have DivQ := Lib.hid (fun w' => divisor_any (a / gcdI a b) (b / gcdI a b) wx wy w')
    have All := Lib.hid (gcd_all (k := k) wa.1 wb.1 wk.1)
    have none := Lib.hid (gcd_none wa.1 wb.1)
    rw [L.out] at DivQ
    clear L
    have zz : ¬ (a = 0 ∧ b = 0) := fun h => hg (none.out.2 h)
    generalize hx : a / gcdI a b = x at *
    generalize hy : b / gcdI a b = y at *
    generalize gcdI a b = g at *
    have m1 : a.tmod g = 0 := by rw [Int.tmod_eq_emod_of_nonneg wa.1, e1.2]
    have m2 : b.tmod g = 0 := by rw [Int.tmod_eq_emod_of_nonneg wb.1, e2.2]
    have m3 : x * g = a := e1.1
    have m4 : y * g = b := e2.1
    have i1 : x * g < 18446744073709551616 := by rw [e1.1]; exact wa.2
    have i2 : y * g < 18446744073709551616 := by rw [e2.1]; exact wb.2
    have i3 : 0 ≤ x * g := by rw [e1.1]; exact wa.1
    have i4 : 0 ≤ y * g := by rw [e2.1]; exact wb.1
    have g0 := wg.1
    clear e1 e2 none wg wx wy hx hy
    go_enter Try.func5, Try.ntmps5
    go_wp2_with fail
    refine (alive3_any _).mono ?_
    rintro e wA ⟨rfl, hbA⟩
    have TA := T0.call hbA
    have BA := B0.trans (hbA.mono B0.size)
    clear T0 B0 hbA
    obtain ⟨p0, p1, p2, p3⟩ := id TA
    go_wp2_with fail
    refine (Div.out _).mono ?_
    rintro e wB ⟨rfl, hbB⟩
    have TB := TA.call hbB
    have BB := BA.trans (hbB.mono BA.size)
    clear TA BA hbB p0 p1 p2 p3
    obtain ⟨p0, p1, p2, p3⟩ := id TB
    go_wp2_with fail
    refine (Least.out _).mono ?_
    rintro e wC ⟨rfl, hbC⟩
    have TC := TB.call hbC
    have BC := BB.trans (hbC.mono BB.size)
    clear TB BB hbC p0 p1 p2 p3
    have TD := TC.alloc (.cells #[.int .u64 x, .int .u64 y] 24)
    have QD := Two.new wC (.int .u64 x) (.int .u64 y) 24
    have BD := BC.alloc BC.size (.cells #[.int .u64 x, .int .u64 y] 24)
    obtain ⟨p0, p1, p2, p3⟩ := id TC
    obtain ⟨r0, r1, r2, r3⟩ := id TD
    obtain ⟨q0, q1, q2, q3⟩ := id QD
    by_cases ha : a = 0
    · have ha0 : (a == 0) = true := by simp [ha]
      have hb0 : (b == 0) = false := by simp; omega
      clear ha zz
      go_wp2_with fail
      refine (DivQ.out _).mono ?_
      rintro e wE ⟨rfl, hbE⟩
      have TE := TD.call hbE
      have BE := BD.trans (hbE.mono BD.size)
      clear TC TD QD BC BD hbE p0 p1 p2 p3 r0 r1 r2 r3 q0 q1 q2 q3
      obtain ⟨p0, p1, p2, p3⟩ := id TE
      by_cases hk : k = 0
      · have hk0 : (k == 0) = true := by simp [hk]
        clear hk
        go_wp2_with fail
        refine bodyPost_ret (v := .bool true) (by simp [results, Try.results5, go_sem]) rfl ⟨rfl, ?_⟩
        exact BE
      · have hk0 : (k == 0) = false := by simp [hk]
        have ka := wa.1
        have kb := wb.1
        by_cases h1 : a % k = 0
        · by_cases h2 : b % k = 0
          · have h3 : g % k = 0 := All.out h1 h2
            go_wp2_with fail
            refine bodyPost_ret (v := .bool true) (by simp [results, Try.results5, go_sem]) rfl ⟨rfl, ?_⟩
            exact BE
          · go_wp2_with fail
            refine bodyPost_ret (v := .bool true) (by simp [results, Try.results5, go_sem]) rfl ⟨rfl, ?_⟩
            exact BE
        · go_wp2_with fail
          refine bodyPost_ret (v := .bool true) (by simp [results, Try.results5, go_sem]) rfl ⟨rfl, ?_⟩
          exact BE
    · have ha0 : (a == 0) = false := by simp [ha]
      clear ha zz
      go_wp2_with fail
      refine (DivQ.out _).mono ?_
      rintro e wE ⟨rfl, hbE⟩
      have TE := TD.call hbE
      have BE := BD.trans (hbE.mono BD.size)
      clear TC TD QD BC BD hbE p0 p1 p2 p3 r0 r1 r2 r3 q0 q1 q2 q3
      obtain ⟨p0, p1, p2, p3⟩ := id TE
      by_cases hk : k = 0
      · have hk0 : (k == 0) = true := by simp [hk]
        clear hk
        go_wp2_with fail
        refine bodyPost_ret (v := .bool true) (by simp [results, Try.results5, go_sem]) rfl ⟨rfl, ?_⟩
        exact BE
      · have hk0 : (k == 0) = false := by simp [hk]
        have ka := wa.1
        have kb := wb.1
        by_cases h1 : a % k = 0
        · by_cases h2 : b % k = 0
          · have h3 : g % k = 0 := All.out h1 h2
            go_wp2_with fail
            refine bodyPost_ret (v := .bool true) (by simp [results, Try.results5, go_sem]) rfl ⟨rfl, ?_⟩
            exact BE
          · go_wp2_with fail
            refine bodyPost_ret (v := .bool true) (by simp [results, Try.results5, go_sem]) rfl ⟨rfl, ?_⟩
            exact BE
        · go_wp2_with fail
          refine bodyPost_ret (v := .bool true) (by simp [results, Try.results5, go_sem]) rfl ⟨rfl, ?_⟩
          exact BE
end Go.Proofs.Ytbllnhkfnbadgaa
