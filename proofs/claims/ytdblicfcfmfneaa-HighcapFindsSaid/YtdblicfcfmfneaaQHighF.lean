/-
  The law HighcapFinds, walked.
-/
import Derived.Test.YtdblicfcfmfneaaK2
namespace Go.Proofs.Ytdblicfcfmfneaa
set_option linter.unusedVariables false
set_option linter.unusedSimpArgs false
open Go.RowKit

theorem find_i64_9 {K : List PairV} {l t : Int} (h : ∀ p, p ∈ K → okP p) : I64 ((findH K l t).getD 0) := by
  have key : ∀ (L : List PairV) (s : Int) (t x : Int), (∀ p, p ∈ L → okP p) → seekP t s L = some x → I64 x := by
    intro L
    induction L with
    | nil => intro s t x _ h; cases h
    | cons p r ih =>
      intro s t x ho h
      rw [seek_cons] at h
      split at h
      · have := Option.some.inj h; rw [← this]; exact (ho p (by simp)).1
      · exact ih _ t x (fun q hq => ho q (List.mem_cons_of_mem _ hq)) h
  unfold findH findP
  split
  · cases hf : seekP t 0 K with
    | none => exact ⟨by decide, by decide⟩
    | some x => exact key K 0 _ x h hf
  · exact ⟨by decide, by decide⟩
theorem find_one {A : List PairV} (hg : GoodP A) (h : A ≠ []) : (findP A 1).isSome = true := by
  have h1 := count_beg hg h
  have h2 := count_le_sum (L := A) (begP A) (fun p hp => by have := hg.1 p hp; omega)
  obtain ⟨x, hx, _⟩ := seek_some 1 A 0 (by omega) h
  unfold findP
  rw [if_pos (by decide), hx]; rfl
theorem fold_ne {L : List PairV} (h : ∀ p, p ∈ L → 0 < p.2) (hs : Sum50 (foldP L) L.length) (hne : foldP L ≠ []) : L ≠ [] := by
  rintro rfl; exact hne rfl

set_option maxRecDepth 100000 in
set_option maxHeartbeats 4000000 in
theorem lfinds_walk {Hw : World → Nat → (Nat → Prop) → Int → List PairV → Int → Prop} (D : HighDoes Hw) (w : World) (m : Int) (A : Option Addr) (cap : Nat) (L : List PairV) (t i : Int) (hm : I64 m) (h : Pairs w A L) (hl : L.length ≤ 140737488351232) (ht : Word t) (hi : I64 i) :
    Calls Try.prog 4 #[.int .i64 m, .slice A L.length cap, .int .u64 t, .int .i64 i] w fun e w' => e = .returned (.bool true) ∧ Below w.heap.size w w' := by
  have HD := Lib.hid D
  have HP := Lib.hid h
  have HT := Lib.hid ht
  have HI := Lib.hid hi
  obtain ⟨gb, hgb⟩ : ∃ b, grtB m L = b := ⟨_, rfl⟩
  have HGR : Hid (∀ w', Below w.heap.size w w' → Calls Try.prog 9 #[.int .i64 m, .slice A L.length cap] w' fun e w'' => e = .returned (.bool gb) ∧ Below w'.heap.size w' w'') := Lib.hid (fun w' hw => grt_any w' m A cap L gb (h.call hw) hl hm hgb)
  have HGB := Lib.hid hgb
  obtain ⟨m0, m1⟩ := hm
  obtain ⟨t0, t1⟩ := ht
  obtain ⟨i0, i1⟩ := hi
  clear D h hgb
  cases gb with
  | true =>
    go_enter Try.func4, Try.ntmps4
    go_wp2_with fail
    refine (lalive_any HD.out _).mono ?_
    rintro e w0 ⟨rfl, b0⟩
    go_wp2_with fail
    refine (HGR.out _ b0).mono ?_
    rintro e w1 ⟨rfl, b1⟩
    go_wp2_with fail
    go_ret
    exact ⟨rfl, b0.trans (b1.mono b0.size)⟩
  | false =>
    have PL := Lib.hid (grt_false.1 HGB.out)
    have n1 := PL.out.m1
    have n2 := PL.out.m2
    have hll := PL.out.len
    go_enter Try.func4, Try.ntmps4
    go_wp2_with fail
    refine (lalive_any HD.out _).mono ?_
    rintro e w0 ⟨rfl, b0⟩
    go_wp2_with fail
    refine (HGR.out _ b0).mono ?_
    rintro e w1 ⟨rfl, b1⟩
    have hb1 := b0.trans (b1.mono b0.size)
    have HB1 := Lib.hid hb1
    clear b0 b1 hb1
    go_wp2_with fail
    refine (build_any HD.out _ m A cap L (HP.out.call HB1.out) PL.out.each (by omega) n1 n2).mono ?_
    rintro e w2 ⟨B, S, M, v, rfl, hsd, hsm, b2⟩
    have HB2 := Lib.hid (HB1.out.trans (b2.mono HB1.out.size))
    obtain ⟨R, hR⟩ : ∃ R, foldP L = R := ⟨_, rfl⟩
    rw [hR] at hsd hsm
    have HSM := Lib.hid hsm
    have HSD := Lib.hid hsd
    have HRR := Lib.hid hR
    have hRl : R.length ≤ 60 := by have := hsm.len; omega
    have hRs : sumP R ≤ 60 * 1125899906842624 := by have := hsm.sum; omega
    have hRp := sumP_pos (ok_pos hsm.ok)
    have hkl : (keepH m R).length ≤ 700 := Nat.le_trans (keeph_le m R) (by omega)
    have hks := keeph_sum m (ok_pos hsm.ok)
    have hfk := find_keeph (m := m) (A := R) (by omega) hsm.good t
    obtain ⟨ls, hls⟩ : ∃ ls, sumP R - sumP (keepH m R) = ls := ⟨_, rfl⟩
    obtain ⟨x, hx⟩ : ∃ x, (findH (keepH m R) ls t).getD 0 = x := ⟨_, rfl⟩
    obtain ⟨fb, hfb⟩ : ∃ b, (findH (keepH m R) ls t).isSome = b := ⟨_, rfl⟩
    have hxi : I64 x := by rw [← hx]; exact find_i64_9 (keeph_ok hsm.ok)
    have hbk := below_keeph (m := m) (A := R) (by omega) hsm.good i
    rw [hls] at hfk hbk
    have hRL := below_le (L := R) i (ok_pos hsm.ok)
    have hR0 : 0 ≤ belowP R i := (sumP_filter _ (ok_pos hsm.ok)).1
    obtain ⟨lo, hlo⟩ : ∃ lo, lowBH m (keepH m R) ls i = lo := ⟨_, rfl⟩
    obtain ⟨hi', hhi⟩ : ∃ hi', highBH m (keepH m R) ls i = hi' := ⟨_, rfl⟩
    obtain ⟨n, hn⟩ : ∃ n, belowP R i = n := ⟨_, rfl⟩
    rw [hlo, hhi, hn] at hbk
    rw [hn] at hRL hR0
    have HF : Hid (∀ w', Below w2.heap.size w2 w' → Calls Try.prog 24 #[.pointer (some ⟨B, 0, none⟩), .int .u64 t] w' fun e w'' => e = .returned (.tuple #[.int .i64 x, .bool fb]) ∧ Below w'.heap.size w' w'') := Lib.hid (fun w' hw => by
      have := HD.out.find w' B S m _ _ t (HD.out.call HSD.out.st hw) hkl HT.out
      rwa [hls, hx, hfb] at this)
    have HRF : Hid (∀ w', Below w2.heap.size w2 w' → Calls Try.prog 25 #[.pointer (some ⟨M, 0, none⟩), .int .u64 t] w' fun e w'' => e = .returned (.tuple #[.int .i64 x, .bool fb]) ∧ Below w'.heap.size w' w'') := Lib.hid (fun w' hw =>
      hrlfind_any w' M m v R t x fb (HSD.out.rf.call hw) HSM.out.good HSM.out.ok (by omega) (by omega) n2 (by omega) HT.out (by have h := hx; rw [hfk] at h; exact h) (by have h := hfb; rw [hfk] at h; exact h))
    have HBL : Hid (∀ w', Below w2.heap.size w2 w' → Calls Try.prog 26 #[.pointer (some ⟨B, 0, none⟩), .int .i64 i] w' fun e w'' => e = .returned (.tuple #[.int .u64 lo, .int .u64 hi']) ∧ Below w'.heap.size w' w'') := Lib.hid (fun w' hw => by
      have := HD.out.below w' B S m _ _ i (HD.out.call HSD.out.st hw) hkl HI.out
      rwa [hls, hlo, hhi] at this)
    obtain ⟨av, cv, hve, hPv, d0, d1⟩ := hsd.rf.row hsm.ok
    have HPV := Lib.hid hPv
    have HRB : Hid (∀ w', Below w2.heap.size w2 w' → Calls Try.prog 27 #[.slice av R.length cv, .int .i64 i] w' fun e w'' => e = .returned (.int .u64 n) ∧ Below w'.heap.size w' w'') := Lib.hid (fun w' hw =>
      rbelow_any w' av cv R i n (HPV.out.call hw) (by omega) HI.out hn (by omega))
    obtain ⟨x1, hx1⟩ : ∃ x1, (findP R 1).getD 0 = x1 := ⟨_, rfl⟩
    obtain ⟨f1, hf1⟩ : ∃ f1, (findP R 1).isSome = f1 := ⟨_, rfl⟩
    have HR1 : Hid (∀ w', Below w2.heap.size w2 w' → Calls Try.prog 28 #[.slice av R.length cv, .int .u64 1] w' fun e w'' => e = .returned (.tuple #[.int .i64 x1, .bool f1]) ∧ Below w'.heap.size w' w'') := Lib.hid (fun w' hw =>
      rfind_any w' av cv R 1 x1 f1 (HPV.out.call hw) (by omega) ⟨by decide, by decide⟩ (by omega) hx1 hf1)
    have HRL : Hid (∀ w', Below w2.heap.size w2 w' → Calls Try.prog 17 #[.pointer (some ⟨M, 0, none⟩)] w' fun e w'' => e = .returned (.int .u64 ls) ∧ Below w'.heap.size w' w'') := Lib.hid (fun w' hw =>
      hrlost_any w' M m v R ls (HSD.out.rf.call hw) HSM.out.good HSM.out.ok (by omega) (by omega) n2 (by omega) hls)
    have q1 : ¬ n < lo := by omega
    have q2 : ¬ hi' < n := by omega
    have HIN : Hid (lo = hi' ∨ (f1 = true ∧ 0 < ls)) := Lib.hid (by
      rcases hbk.2.2 with h | ⟨h1, h2⟩
      · exact Or.inl h
      · exact Or.inr ⟨by rw [← hf1]; exact find_one hsm.good h1, h2⟩)
    have HE0 : Hid (L.length = 0 → x = 0 ∧ fb = false) := Lib.hid (fun h0 => by
      have : L = [] := List.eq_nil_of_length_eq_zero h0
      subst this
      have hRn : R = [] := hR.symm
      subst hRn
      have hl0 : ls = 0 := by rw [← hls]; rfl
      have e : findH (keepH m []) ls t = none := by
        show findH [] ls t = none
        unfold findH findP
        split <;> rfl
      rw [e] at hx hfb
      exact ⟨hx.symm, hfb.symm⟩)
    obtain ⟨x0, xx1⟩ := hxi
    clear hsd hsm hR hls hx hfb hbk hRL hR0 hlo hhi hn hfk hks hRp hkl hPv hx1 hf1 b2 hve hRs
    by_cases hL0 : L.length = 0
    · obtain ⟨e1, e2⟩ := HE0.out hL0
      subst e1 e2
      rw [hL0]
      go_wp2_with fail
      refine (HF.out _ (Below.refl _ _)).mono ?_
      rintro e w3 ⟨rfl, b3⟩
      have HB3 := Lib.hid b3
      clear b3
      go_wp2_with fail
      refine (HBL.out _ HB3.out).mono ?_
      rintro e w5 ⟨rfl, b5⟩
      have HB5 := Lib.hid (HB3.out.trans (b5.mono HB3.out.size))
      have d5 := cell_later HB5.out d1
      clear b5
      go_wp2_with fail
      refine (HRB.out _ HB5.out).mono ?_
      rintro e w6 ⟨rfl, b6⟩
      have HB6 := Lib.hid (HB5.out.trans (b6.mono HB5.out.size))
      have d6 := cell_later HB6.out d1
      clear b6 d5
      go_wp2_with fail
      refine (HR1.out _ HB6.out).mono ?_
      rintro e w7 ⟨rfl, b7⟩
      have HB7 := Lib.hid (HB6.out.trans (b7.mono HB6.out.size))
      clear b7 d6
      rcases HIN.out with rfl | ⟨rfl, hpos⟩
      · go_wp2_with fail
        go_ret
        exact ⟨rfl, HB2.out.trans (HB7.out.mono HB2.out.size)⟩
      · by_cases heq : lo = hi'
        · subst heq
          go_wp2_with fail
          go_ret
          exact ⟨rfl, HB2.out.trans (HB7.out.mono HB2.out.size)⟩
        · have hne : (lo == hi') = false := by simp [heq]
          go_wp2_with fail
          refine (HRL.out _ HB7.out).mono ?_
          rintro e w8 ⟨rfl, b8⟩
          go_wp2_with fail
          go_ret
          exact ⟨rfl, HB2.out.trans ((HB7.out.trans (b8.mono HB7.out.size)).mono HB2.out.size)⟩
    · have hL1 : (0 : Int) < (L.length : Int) := by omega
      go_wp2_with fail
      refine (HF.out _ (Below.refl _ _)).mono ?_
      rintro e w3 ⟨rfl, b3⟩
      have HB3 := Lib.hid b3
      clear b3
      go_wp2_with fail
      refine (HRF.out _ HB3.out).mono ?_
      rintro e w4 ⟨rfl, b4⟩
      have HB4 := Lib.hid (HB3.out.trans (b4.mono HB3.out.size))
      clear b4
      go_wp2_with fail
      refine (HBL.out _ HB4.out).mono ?_
      rintro e w5 ⟨rfl, b5⟩
      have HB5 := Lib.hid (HB4.out.trans (b5.mono HB4.out.size))
      have d5 := cell_later HB5.out d1
      clear b5
      go_wp2_with fail
      refine (HRB.out _ HB5.out).mono ?_
      rintro e w6 ⟨rfl, b6⟩
      have HB6 := Lib.hid (HB5.out.trans (b6.mono HB5.out.size))
      have d6 := cell_later HB6.out d1
      clear b6 d5
      go_wp2_with fail
      refine (HR1.out _ HB6.out).mono ?_
      rintro e w7 ⟨rfl, b7⟩
      have HB7 := Lib.hid (HB6.out.trans (b7.mono HB6.out.size))
      clear b7 d6
      rcases HIN.out with rfl | ⟨rfl, hpos⟩
      · go_wp2_with fail
        go_ret
        exact ⟨rfl, HB2.out.trans (HB7.out.mono HB2.out.size)⟩
      · by_cases heq : lo = hi'
        · subst heq
          go_wp2_with fail
          go_ret
          exact ⟨rfl, HB2.out.trans (HB7.out.mono HB2.out.size)⟩
        · have hne : (lo == hi') = false := by simp [heq]
          go_wp2_with fail
          refine (HRL.out _ HB7.out).mono ?_
          rintro e w8 ⟨rfl, b8⟩
          go_wp2_with fail
          go_ret
          exact ⟨rfl, HB2.out.trans ((HB7.out.trans (b8.mono HB7.out.size)).mono HB2.out.size)⟩
end Go.Proofs.Ytdblicfcfmfneaa
