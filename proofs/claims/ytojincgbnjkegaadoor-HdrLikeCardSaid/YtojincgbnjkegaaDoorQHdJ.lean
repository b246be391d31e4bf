/-
  The law HdrLike, walked.
-/
import Derived.Test.YtojincgbnjkegaaDoorK4
namespace Go.Proofs.YtojincgbnjkegaaDoor
set_option linter.unusedVariables false
set_option linter.unusedSimpArgs false
open Go.RowKit

/-- What counts as x is told just of the values between both. -/
theorem like_law {d : Int} {L : Nat} {T : Int} (hs : SpanP d L T) {x y : Int} (hx : I64 x) (hy : I64 y) : (decide (likeL L x ≤ y) && decide (y ≤ likeH L x)) = (decide (likeL L y = likeL L x) && decide (likeH L y = likeH L x)) := by
  have h1 := like_iff hs hx hy
  have h2 := like_iff hs hy hx
  have sx := like_self hs hx
  have sy := like_self hs hy
  have key : ∀ u v, I64 u → I64 v → sameV (.spans d L T) u v = true → likeL L u = likeL L v ∧ likeH L u = likeH L v := by
    intro u v hu hv hsm
    unfold sameV at hsm
    simp only [Bool.and_eq_true, beq_iff_eq, Bool.or_eq_true] at hsm
    obtain ⟨⟨a, b⟩, c⟩ := hsm
    by_cases h0 : u = 0
    · have hv0 : v = 0 := by
        have : (v == 0) = true := by rw [b]; simp [h0]
        simpa using this
      rw [h0, hv0]; exact ⟨rfl, rfl⟩
    · have hv0 : v ≠ 0 := by
        intro e
        have : (u == 0) = true := by rw [← b]; simp [e]
        exact h0 (by simpa using this)
      have hidx : idxS L (mag v) = idxS L (mag u) := by
        rcases c with e | e
        · exact absurd e h0
        · exact e
      obtain ⟨u1, u2⟩ := mag_in hu h0
      obtain ⟨v1, v2⟩ := mag_in hv hv0
      have hL := (spanp_log hs).2
      have lo : loS L (mag u) = loS L (mag v) := by rw [← low_idx L u1 u2 hL, ← low_idx L v1 v2 hL, hidx]
      have hi : hiS L (mag u) = hiS L (mag v) := by rw [← high_idx L u1 u2 hL, ← high_idx L v1 v2 hL, hidx]
      have hneg : u < 0 ↔ v < 0 := by
        have := a
        constructor
        · intro h; have : decide (v < 0) = true := by rw [a]; simp [h]
          simpa using this
        · intro h; have : decide (u < 0) = true := by rw [← a]; simp [h]
          simpa using this
      unfold likeL likeH
      rw [if_neg h0, if_neg h0, if_neg hv0, if_neg hv0, lo, hi]
      by_cases hn : u < 0
      · rw [if_pos hn, if_pos hn, if_pos (hneg.1 hn), if_pos (hneg.1 hn)]; exact ⟨rfl, rfl⟩
      · rw [if_neg hn, if_neg hn, if_neg (fun h => hn (hneg.2 h)), if_neg (fun h => hn (hneg.2 h))]; exact ⟨rfl, rfl⟩
  by_cases hin : likeL L x ≤ y ∧ y ≤ likeH L x
  · obtain ⟨e1, e2⟩ := key x y hx hy (h1.2 hin)
    rw [← e1, ← e2]
    simp [hin.1, hin.2]
  · have hr : ¬ (likeL L y = likeL L x ∧ likeH L y = likeH L x) := by
      rintro ⟨e1, e2⟩
      apply hin
      have := sy.1
      have := sy.2.1
      omega
    have l : (decide (likeL L x ≤ y) && decide (y ≤ likeH L x)) = false := by
      rw [← Bool.not_eq_true, Bool.and_eq_true]; simpa using hin
    have r : (decide (likeL L y = likeL L x) && decide (likeH L y = likeH L x)) = false := by
      rw [← Bool.not_eq_true, Bool.and_eq_true]; simpa using hr
    rw [l, r]

set_option maxRecDepth 100000 in
set_option maxHeartbeats 4000000 in
theorem hdr_like_walk {St : World → Nat → (Nat → Prop) → Int → List PairV → Prop} (D : StripDoes St) (d x y : Int) (hd : I64 d) (hx : I64 x) (hy : I64 y) (w : World) (ht : Tens w) :
    Calls Tryd.prog 5 #[.int .i64 d, .int .i64 x, .int .i64 y] w fun e w' => e = .returned (.bool true) ∧ Below w.heap.size w w' := by
  have HD := Lib.hid D
  have HXI := Lib.hid hx
  have HYI := Lib.hid hy
  have HAL := Lib.hid (alive15_any D w ht)
  have HNW := Lib.hid (fun W (hb : Below w.heap.size w W) => hd_new D W d 0 (ht.call hb) hd ⟨by decide, by decide⟩)
  clear ht D
  obtain ⟨d0, d1⟩ := hd
  obtain ⟨x0, x1⟩ := hx
  obtain ⟨y0, y1⟩ := hy
  go_enter Tryd.func5, Tryd.ntmps5
  go_wp2_with fail
  refine HAL.out.mono ?_
  rintro e w1 ⟨rfl, b1⟩
  clear HAL
  go_wp2_with fail
  refine (HNW.out _ b1).mono ?_
  rintro e w2 (⟨q1, q2, _, L, T, B, S, hs, rfl, hX, hS, b2'⟩ | ⟨hno, rfl, b2'⟩)
  case inr =>
    have b2 := b1.trans (b2'.mono b1.size)
    have hno2 : d < 1 ∨ 4 < d := by
      by_cases h1 : d < 1
      · exact Or.inl h1
      · exact Or.inr (Classical.byContradiction fun h => hno ⟨by omega, by omega, by decide⟩)
    clear hno
    by_cases h1 : d < 1
    · go_wp2_with fail
      go_ret
      exact ⟨rfl, b2⟩
    · have h4 : 4 < d := by omega
      clear hno2
      go_wp2_with fail
      go_ret
      exact ⟨rfl, b2⟩
  have b2 := b1.trans (b2'.mono b1.size)
  have sx := like_self hs HXI.out
  have sy := like_self hs HYI.out
  have hlaw := like_law hs HXI.out HYI.out
  obtain ⟨lo, hlo⟩ : ∃ lo, likeL L x = lo := ⟨_, rfl⟩
  obtain ⟨hi, hhi⟩ : ∃ hi, likeH L x = hi := ⟨_, rfl⟩
  obtain ⟨c, hc⟩ : ∃ c, likeL L y = c := ⟨_, rfl⟩
  obtain ⟨dd, hdd⟩ : ∃ dd, likeH L y = dd := ⟨_, rfl⟩
  have HLX := Lib.hid (fun W (hb : Below w2.heap.size w2 W) => hd_like HD.out hs (hX.call HD.out hb) x lo hi HXI.out hlo hhi)
  have HLY := Lib.hid (fun W (hb : Below w2.heap.size w2 W) => hd_like HD.out hs (hX.call HD.out hb) y c dd HYI.out hc hdd)
  have HRL : Hid (∀ W, Calls Tryd.prog 23 #[.int .i64 d, .int .i64 x] W fun e w' => e = .returned (.tuple #[.int .i64 lo, .int .i64 hi]) ∧ W = w') := Lib.hid fun W => by
    have := rlike15_any d L T x hs HXI.out W
    rw [hlo, hhi] at this
    exact this
  rw [hlo, hhi] at sx
  rw [hlo, hhi, hc, hdd] at hlaw
  have HLAW := Lib.hid hlaw
  have HB2 := Lib.hid b2
  have e1 : (lo == lo) = true := by simp
  have e2 : (hi == hi) = true := by simp
  have e1' : (lo != lo) = false := by simp
  have e2' : (hi != hi) = false := by simp
  have g1 : ¬ x < lo := by omega
  have g2 : ¬ hi < x := by omega
  clear hs hX hS hlaw sx sy hlo hhi hc hdd b1 b2 b2' HNW
  by_cases t1 : c = lo
  · subst t1
    by_cases t2 : dd = hi
    · subst t2
      have hin : c ≤ y ∧ y ≤ dd := by
        have := HLAW.out
        simpa using this
      obtain ⟨i1, i2⟩ := hin
      go_wp2_with fail
      refine (HLX.out _ (Below.refl _ _)).mono ?_
      rintro e w3 ⟨rfl, b3⟩
      go_wp2_with fail
      refine (HRL.out _).mono ?_
      rintro e w4 ⟨rfl, rfl⟩
      go_wp2_with fail
      refine (HLY.out _ b3).mono ?_
      rintro e w5 ⟨rfl, b5⟩
      have b5 := b3.trans (b5.mono b3.size)
      go_wp2_with fail
      go_ret
      exact ⟨rfl, HB2.out.trans (b5.mono HB2.out.size)⟩
    · have f2 : (dd == hi) = false := by simp [t2]
      have hout : ¬ (c ≤ y ∧ y ≤ hi) := by
        have := HLAW.out
        rw [show decide (dd = hi) = false from decide_eq_false t2, Bool.and_false] at this
        intro h
        rw [decide_eq_true h.1, decide_eq_true h.2] at this
        cases this
      clear HLAW
      by_cases i1 : c ≤ y
      · have i2 : ¬ y ≤ hi := fun h => hout ⟨i1, h⟩
        have i3 : decide (y ≤ hi) = false := decide_eq_false i2
        clear hout
        go_wp2_with fail
        refine (HLX.out _ (Below.refl _ _)).mono ?_
        rintro e w3 ⟨rfl, b3⟩
        go_wp2_with fail
        refine (HRL.out _).mono ?_
        rintro e w4 ⟨rfl, rfl⟩
        go_wp2_with fail
        refine (HLY.out _ b3).mono ?_
        rintro e w5 ⟨rfl, b5⟩
        have b5 := b3.trans (b5.mono b3.size)
        go_wp2_with fail
        go_ret
        exact ⟨rfl, HB2.out.trans (b5.mono HB2.out.size)⟩
      · clear hout
        go_wp2_with fail
        refine (HLX.out _ (Below.refl _ _)).mono ?_
        rintro e w3 ⟨rfl, b3⟩
        go_wp2_with fail
        refine (HRL.out _).mono ?_
        rintro e w4 ⟨rfl, rfl⟩
        go_wp2_with fail
        refine (HLY.out _ b3).mono ?_
        rintro e w5 ⟨rfl, b5⟩
        have b5 := b3.trans (b5.mono b3.size)
        go_wp2_with fail
        go_ret
        exact ⟨rfl, HB2.out.trans (b5.mono HB2.out.size)⟩
  · have f1 : (c == lo) = false := by simp [t1]
    have hout : ¬ (lo ≤ y ∧ y ≤ hi) := by
      have := HLAW.out
      rw [show decide (c = lo) = false from decide_eq_false t1, Bool.false_and] at this
      intro h
      rw [decide_eq_true h.1, decide_eq_true h.2] at this
      cases this
    clear HLAW
    by_cases i1 : lo ≤ y
    · have i2 : ¬ y ≤ hi := fun h => hout ⟨i1, h⟩
      have i3 : decide (y ≤ hi) = false := decide_eq_false i2
      clear hout
      go_wp2_with fail
      refine (HLX.out _ (Below.refl _ _)).mono ?_
      rintro e w3 ⟨rfl, b3⟩
      go_wp2_with fail
      refine (HRL.out _).mono ?_
      rintro e w4 ⟨rfl, rfl⟩
      go_wp2_with fail
      refine (HLY.out _ b3).mono ?_
      rintro e w5 ⟨rfl, b5⟩
      have b5 := b3.trans (b5.mono b3.size)
      go_wp2_with fail
      go_ret
      exact ⟨rfl, HB2.out.trans (b5.mono HB2.out.size)⟩
    · clear hout
      go_wp2_with fail
      refine (HLX.out _ (Below.refl _ _)).mono ?_
      rintro e w3 ⟨rfl, b3⟩
      go_wp2_with fail
      refine (HRL.out _).mono ?_
      rintro e w4 ⟨rfl, rfl⟩
      go_wp2_with fail
      refine (HLY.out _ b3).mono ?_
      rintro e w5 ⟨rfl, b5⟩
      have b5 := b3.trans (b5.mono b3.size)
      go_wp2_with fail
      go_ret
      exact ⟨rfl, HB2.out.trans (b5.mono HB2.out.size)⟩
end Go.Proofs.YtojincgbnjkegaaDoor
