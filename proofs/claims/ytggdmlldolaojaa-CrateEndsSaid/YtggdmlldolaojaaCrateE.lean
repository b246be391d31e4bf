/-
  The law CrateEnds, walked.
-/
import Derived.Test.YtggdmlldolaojaaCrateC
namespace Go.Proofs.Ytggdmlldolaojaa
set_option linter.unusedVariables false
set_option linter.unusedSimpArgs false
open Go.RowKit

theorem addP_nil (f c : Int) (h : 0 < c) : addP [] f c = [(f, c)] := by
  unfold addP
  rw [show countP [] f = 0 from rfl, Int.zero_add]
  unfold midP; rw [if_pos h]; rfl
theorem addP_same (f c d : Int) (h : 0 < c + d) : addP [(f, c)] f d = [(f, c + d)] := by
  unfold addP
  rw [countP_one, if_pos rfl]
  unfold midP; rw [if_pos h]
  unfold lowP highP
  simp
theorem addP_far (f c g d : Int) (h : f < g) (hd : 0 < d) : addP [(f, c)] g d = [(f, c), (g, d)] := by
  unfold addP
  rw [countP_one, if_neg (by simp only; omega), Int.zero_add]
  unfold midP; rw [if_pos hd]
  unfold lowP highP
  have h1 : ¬ g < f := by omega
  simp [h, h1]
theorem ends1 (f c : Int) (h : 0 < c) (h2 : c ≤ 1099511627776) : crErr [] f c = 0 ∧ crRow [] f c = [(f, c)] := by
  have e : crErr [] f c = 0 := by
    unfold crErr
    rw [if_neg (by omega), if_neg (by rw [sumP_nil]; omega), addP_nil f c h, if_neg (by unfold spreadP lastP headP; simp)]
  exact ⟨e, by unfold crRow; rw [if_pos e, addP_nil f c h]⟩
theorem ends_same (f c : Int) (h : 0 < c) (h2 : c ≤ 1099511627776) : crErr [(f, c)] f 1 = 0 ∧ crRow [(f, c)] f 1 = [(f, c + 1)] := by
  have e : crErr [(f, c)] f 1 = 0 := by
    unfold crErr
    rw [if_neg (by omega), if_neg (by rw [sumP_one]; simp only; omega), addP_same f c 1 (by omega), if_neg (by unfold spreadP lastP headP; simp)]
  exact ⟨e, by unfold crRow; rw [if_pos e, addP_same f c 1 (by omega)]⟩
theorem ends_far (f c g : Int) (h : 0 < c) (h2 : c ≤ 1099511627776) (hg : f < g) : crErr [(f, c)] g 1 = (if 4095 < g - f then 6 else 0) ∧ crRow [(f, c)] g 1 = (if 4095 < g - f then [(f, c)] else [(f, c), (g, 1)]) := by
  have e : crErr [(f, c)] g 1 = (if 4095 < g - f then 6 else 0) := by
    unfold crErr
    rw [if_neg (by omega), if_neg (by rw [sumP_one]; simp only; omega), addP_far f c g 1 hg (by omega)]
    show (if 4095 < spreadP [(f, c), (g, 1)] then (6 : Int) else 0) = _
    rw [show spreadP [(f, c), (g, 1)] = g - f from rfl]
  refine ⟨e, ?_⟩
  unfold crRow
  rw [e, addP_far f c g 1 hg (by omega)]
  split
  · rw [if_neg (by decide)]
  · rw [if_pos rfl]

set_option maxRecDepth 100000 in
set_option maxHeartbeats 2000000 in
theorem cends_walk {Cr : World → Nat → (Nat → Prop) → List PairV → Prop} (D : CrateDoes Cr) (w : World) (f far c : Int) (hf : I64 f) (hfar : I64 far) (hc : Word c) :
    Calls Try.prog 7 #[.int .i64 f, .int .i64 far, .int .u64 c] w fun e w' => e = .returned (.bool true) ∧ Below w.heap.size w w' := by
  have HD := Lib.hid D
  have HF := Lib.hid hf
  have HC := Lib.hid hc
  obtain ⟨f0, f1⟩ := hf
  obtain ⟨r0, r1⟩ := hfar
  obtain ⟨c0, c1⟩ := hc
  clear D
  by_cases hall : 0 ≤ far ∧ far ≤ 10000 ∧ 0 < c ∧ c ≤ 1099511627776 ∧ f ≤ 4611686018427387904
  · obtain ⟨a1, a2, a3, a4, a5⟩ := hall
    have q1 : ¬ far < 0 := by omega
    have q2 : ¬ 10000 < far := by omega
    have q3 : (c == 0) = false := by simp; omega
    have q4 : ¬ 1099511627776 < c := by omega
    have q5 : ¬ 4611686018427387904 < f := by omega
    have E1 := Lib.hid (ends1 f c a3 a4)
    have HG : Hid (I64 (f + far)) := Lib.hid ⟨by omega, by omega⟩
    obtain ⟨er, R, hR⟩ : ∃ er R, crErr [(f, c)] (f + far) 1 = er ∧ crRow [(f, c)] (f + far) 1 = R := ⟨_, _, rfl, rfl⟩
    have hcase : (4096 ≤ far ∧ er = 6 ∧ R = [(f, c)]) ∨ (¬ 4096 ≤ far ∧ er = 0 ∧ sumP R = c + 1 ∧ c ≤ belowP R f) := by
      rcases Int.lt_or_eq_of_le a1 with h | h
      · obtain ⟨e1, e2⟩ := ends_far f c (f + far) a3 a4 (by omega)
        rw [show f + far - f = far from by omega] at e1 e2
        rw [hR.1] at e1; rw [hR.2] at e2
        by_cases h4 : 4095 < far
        · rw [if_pos h4] at e1 e2; exact Or.inl ⟨by omega, e1, e2⟩
        · rw [if_neg h4] at e1 e2
          refine Or.inr ⟨by omega, e1, by rw [e2, sumP_cons, sumP_one], ?_⟩
          rw [e2]
          show c ≤ belowP ([(f, c)] ++ [(f + far, 1)]) f
          rw [below_app, below_one, below_one, if_pos (Int.le_refl _)]
          split <;> omega
      · subst h
        rw [Int.add_zero] at hR
        obtain ⟨e1, e2⟩ := ends_same f c a3 a4
        rw [hR.1] at e1; rw [hR.2] at e2
        refine Or.inr ⟨by omega, e1, by rw [e2, sumP_one], ?_⟩
        rw [e2, below_one, if_pos (Int.le_refl _)]; simp only; omega
    have HR := Lib.hid hR
    have h0 : Hid (countP [(f, c)] (f + far) = if far = 0 then c else 0) := Lib.hid (by
      rw [countP_one]
      by_cases h : far = 0
      · rw [if_pos h, if_pos (by simp only; omega)]
      · rw [if_neg h, if_neg (by simp only; omega)])
    clear hR a1
    rcases hcase with ⟨k1, rfl, rfl⟩ | ⟨k1, rfl, k2, k3⟩
    · have K1 := Lib.hid k1
      go_enter Try.func7, Try.ntmps7
      go_wp2_with fail
      refine (calive_any HD.out _).mono ?_
      rintro e w0 ⟨rfl, b0⟩
      have z0 := b0.size
      go_wp2_with fail
      refine (HD.out.new _).mono ?_
      rintro e w1 ⟨B, S, rfl, h1, hs1, b1⟩
      have hb1 := b0.trans (b1.mono z0)
      have z1 := hb1.size
      have hs1' : ∀ k, S k → w.heap.size ≤ k := fun k hk => Nat.le_trans z0 (hs1 k hk)
      clear b1 hs1
      go_wp2_with fail
      refine (HD.out.add _ B S [] f c h1 HF.out HC.out).mono ?_
      rintro e w2 ⟨S2, rfl, h2, k2', hs2⟩
      rw [E1.out.1]
      rw [E1.out.2] at h2
      have b2 := k2'.below hb1 z1 hs1'
      have z2 := b2.size
      have hs2' : ∀ k, S2 k → w.heap.size ≤ k := fun k hk => by rcases hs2 k hk with h | h; exact hs1' k h; omega
      clear h1 hs1' k2' hs2 hb1
      go_wp2_with fail
      refine (HD.out.add _ B S2 [(f, c)] (f + far) 1 h2 HG.out ⟨by decide, by decide⟩).mono ?_
      rintro e w3 ⟨S3, rfl, h3, k3', hs3⟩
      rw [HR.out.1]
      rw [HR.out.2] at h3
      have b3 := k3'.below b2 z2 hs2'
      have z3 := b3.size
      clear h2 hs2' k3' hs3 b2
      go_wp2_with fail
      have hsum : sumP [(f, c)] = c := sumP_one _
      have hcnt : countP [(f, c)] (f + far) = 0 := by rw [h0.out, if_neg (by have := K1.out; omega)]
      have HSM := Lib.hid hsum
      have HCT := Lib.hid hcnt
      clear hsum hcnt
      refine (HD.out.total _ B S3 _ h3).mono ?_
      rintro e w4 ⟨rfl, b4⟩
      rw [HSM.out]
      have h4 := HD.out.call h3 b4
      have b5 := b3.trans (b4.mono z3)
      have z5 := b5.size
      clear h3 b3 b4
      go_wp2_with fail
      refine (HD.out.at_ _ B S3 _ (f + far) h4 HG.out).mono ?_
      rintro e w5 ⟨rfl, b6⟩
      rw [HCT.out]
      have h5 := HD.out.call h4 b6
      have b7 := b5.trans (b6.mono z5)
      have z7 := b7.size
      clear h4 b5 b6
      go_wp2_with fail
      refine (HD.out.pairs _ B S3 _ h5).mono ?_
      rintro e w6 ⟨v, rfl, hv, b8⟩
      obtain ⟨A, cap, rfl⟩ := hv.form
      have b9 := b7.trans (b8.mono z7)
      clear hv b8
      go_wp2_with fail
      go_ret
      exact ⟨rfl, b9⟩
    · have K1 := Lib.hid k1
      go_enter Try.func7, Try.ntmps7
      go_wp2_with fail
      refine (calive_any HD.out _).mono ?_
      rintro e w0 ⟨rfl, b0⟩
      have z0 := b0.size
      go_wp2_with fail
      refine (HD.out.new _).mono ?_
      rintro e w1 ⟨B, S, rfl, h1, hs1, b1⟩
      have hb1 := b0.trans (b1.mono z0)
      have z1 := hb1.size
      have hs1' : ∀ k, S k → w.heap.size ≤ k := fun k hk => Nat.le_trans z0 (hs1 k hk)
      clear b1 hs1
      go_wp2_with fail
      refine (HD.out.add _ B S [] f c h1 HF.out HC.out).mono ?_
      rintro e w2 ⟨S2, rfl, h2, k2', hs2⟩
      rw [E1.out.1]
      rw [E1.out.2] at h2
      have b2 := k2'.below hb1 z1 hs1'
      have z2 := b2.size
      have hs2' : ∀ k, S2 k → w.heap.size ≤ k := fun k hk => by rcases hs2 k hk with h | h; exact hs1' k h; omega
      clear h1 hs1' k2' hs2 hb1
      go_wp2_with fail
      refine (HD.out.add _ B S2 [(f, c)] (f + far) 1 h2 HG.out ⟨by decide, by decide⟩).mono ?_
      rintro e w3 ⟨S3, rfl, h3, k3', hs3⟩
      rw [HR.out.1]
      rw [HR.out.2] at h3
      have b3 := k3'.below b2 z2 hs2'
      have z3 := b3.size
      clear h2 hs2' k3' hs3 b2
      go_wp2_with fail
      obtain ⟨nb, hnb⟩ : ∃ nb, belowP R f = nb := ⟨_, rfl⟩
      rw [hnb] at k3
      have HNB := Lib.hid hnb
      have HSM := Lib.hid k2
      clear hnb k2
      refine (HD.out.total _ B S3 _ h3).mono ?_
      rintro e w4 ⟨rfl, b4⟩
      rw [HSM.out]
      have h4 := HD.out.call h3 b4
      have b5 := b3.trans (b4.mono z3)
      have z5 := b5.size
      clear h3 b3 b4
      go_wp2_with fail
      refine (HD.out.below _ B S3 _ f h4 HF.out).mono ?_
      rintro e w5 ⟨rfl, b6⟩
      rw [HNB.out]
      have b7 := b5.trans (b6.mono z5)
      clear h4 b5 b6
      go_wp2_with fail
      go_ret
      exact ⟨rfl, b7⟩
  · have hc : far < 0 ∨ (¬ far < 0 ∧ 10000 < far) ∨ (¬ far < 0 ∧ ¬ 10000 < far ∧ (c == 0) = true) ∨ (¬ far < 0 ∧ ¬ 10000 < far ∧ (c == 0) = false ∧ 1099511627776 < c) ∨ (¬ far < 0 ∧ ¬ 10000 < far ∧ (c == 0) = false ∧ ¬ 1099511627776 < c ∧ 4611686018427387904 < f) := by
      by_cases h1 : far < 0
      · exact Or.inl h1
      · by_cases h2 : 10000 < far
        · exact Or.inr (Or.inl ⟨h1, h2⟩)
        · by_cases h3 : c = 0
          · exact Or.inr (Or.inr (Or.inl ⟨h1, h2, by simpa using h3⟩))
          · have h3' : (c == 0) = false := by simpa using h3
            by_cases h4 : 1099511627776 < c
            · exact Or.inr (Or.inr (Or.inr (Or.inl ⟨h1, h2, h3', h4⟩)))
            · exact Or.inr (Or.inr (Or.inr (Or.inr ⟨h1, h2, h3', h4, by omega⟩)))
    clear hall
    rcases hc with h1 | ⟨h1, h2⟩ | ⟨h1, h2, h3⟩ | ⟨h1, h2, h3, h4⟩ | ⟨h1, h2, h3, h4, h5⟩
    all_goals
      go_enter Try.func7, Try.ntmps7
      go_wp2_with fail
      refine (calive_any HD.out _).mono ?_
      rintro e w0 ⟨rfl, b0⟩
      go_wp2_with fail
      go_ret
      exact ⟨rfl, b0⟩
end Go.Proofs.Ytggdmlldolaojaa
