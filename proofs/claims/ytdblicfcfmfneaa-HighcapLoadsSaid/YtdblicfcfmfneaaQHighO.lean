/-
  The law HighcapLoads, walked (written by wip/tools/gen_low_o.py).
-/
import Derived.Test.YtdblicfcfmfneaaK2
import Derived.BigQuiet
namespace Go.Proofs.Ytdblicfcfmfneaa
set_option linter.unusedVariables false
set_option linter.unusedSimpArgs false
open Go.RowKit

/-- What is kept can be loaded. -/
theorem load_kept {m : Int} {R : List PairV} (h1 : 1 ≤ m) (hg : GoodP R) (ho : ∀ p, p ∈ R → okP p) (hs : sumP R ≤ 9223372036854775807) : loadB m (keepH m R) (sumP R - sumP (keepH m R)) = true := by
  have e1 : goodB (keepH m R) = true := goodB_true.2 (keeph_good hg)
  have e2 := keeph_len (m := m) (L := R) (by omega) hg
  have e3 : keepH m R = [] → sumP R - sumP (keepH m R) = 0 := fun h => by
    by_cases hR : R = []
    · subst hR; rfl
    · exact absurd h (keeph_ne (by omega) hR)
  have e5 : keepH m R ≠ [] → endP (keepH m R) - (firP (keepH m R)).1 < m := fun hne => by
    have hR : R ≠ [] := by rintro rfl; exact hne rfl
    have h2 : (firP (keepH m R)).1 = begP R := keeph_beg (by omega) hg hR
    obtain ⟨p, hp, e⟩ := end_mem hne
    have := (keeph_mem hp).2
    omega
  unfold loadB
  rw [e1, decide_eq_true e2, decide_eq_true e3, decide_eq_true e5, decide_eq_true (show sumP (keepH m R) + (sumP R - sumP (keepH m R)) ≤ 9223372036854775807 by omega)]
  rfl
/-- Whether a row can be loaded, as far as it was looked at. -/
def wantTo (m : Int) (L : List PairV) (l : Int) (k : Nat) : Bool := goodB L && decide (l < 9223372036854775808) && decide (L = [] → l = 0) && decide (l + sumP (L.take k) < 9223372036854775808) && (L.take k).all fun p => decide (p.1 - (firP L).1 < m)
theorem want_facts {m : Int} {L : List PairV} {l : Int} {k : Nat} (h : wantTo m L l k = true) : GoodP L ∧ l < 9223372036854775808 ∧ (L = [] → l = 0) ∧ l + sumP (L.take k) < 9223372036854775808 ∧ ∀ p, p ∈ L.take k → p.1 - (firP L).1 < m := by
  unfold wantTo at h
  simp only [Bool.and_eq_true, decide_eq_true_eq, List.all_eq_true] at h
  obtain ⟨⟨⟨⟨h1, h2⟩, h3⟩, h4⟩, h5⟩ := h
  exact ⟨goodB_true.1 h1, h2, h3, h4, h5⟩
theorem want_mk {m : Int} {L : List PairV} {l : Int} {k : Nat} (h1 : GoodP L) (h2 : l < 9223372036854775808) (h3 : L = [] → l = 0) (h4 : l + sumP (L.take k) < 9223372036854775808) (h5 : ∀ p, p ∈ L.take k → p.1 - (firP L).1 < m) : wantTo m L l k = true := by
  unfold wantTo
  simp only [Bool.and_eq_true, decide_eq_true_eq, List.all_eq_true]
  exact ⟨⟨⟨⟨goodB_true.2 h1, h2⟩, h3⟩, h4⟩, h5⟩
theorem want_step {m : Int} {L : List PairV} {l : Int} {k : Nat} {p : PairV} (h : wantTo m L l k = true) (hk : L[k]? = some p) : wantTo m L l (k + 1) = (decide (l + sumP (L.take k) + p.2 < 9223372036854775808) && decide (p.1 - (firP L).1 < m)) := by
  obtain ⟨h1, h2, h3, h4, h5⟩ := want_facts h
  have hs : sumP (L.take (k + 1)) = sumP (L.take k) + p.2 := by rw [take_snocP hk, sumP_app, sumP_one]
  by_cases ha : l + sumP (L.take k) + p.2 < 9223372036854775808
  · by_cases hb : p.1 - (firP L).1 < m
    · rw [decide_eq_true ha, decide_eq_true hb]
      refine want_mk h1 h2 h3 (by omega) fun q hq => ?_
      rw [take_snocP hk] at hq
      rcases List.mem_append.1 hq with h | h
      · exact h5 q h
      · simp at h; subst h; exact hb
    · rw [decide_eq_false hb, Bool.and_false]
      cases hw : wantTo m L l (k + 1) with
      | false => rfl
      | true => exact absurd ((want_facts hw).2.2.2.2 p (by rw [take_snocP hk]; simp)) hb
  · rw [decide_eq_false ha, Bool.false_and]
    cases hw : wantTo m L l (k + 1) with
    | false => rfl
    | true => exact absurd (by have := (want_facts hw).2.2.2.1; omega) ha
theorem want_zero {m : Int} {L : List PairV} {l : Int} : wantTo m L l 0 = (goodB L && decide (l < 9223372036854775808) && decide (L = [] → l = 0)) := by
  unfold wantTo
  rw [List.take_zero, sumP_nil, Int.add_zero]
  by_cases h : l < 9223372036854775808 <;> simp [h]
/-- .. and in the end. -/
theorem want_true {m : Int} {L : List PairV} {l : Int} (h1 : 1 ≤ m) (h : wantTo m L l L.length = true) : loadB m L l = true := by
  obtain ⟨g1, g2, g3, g4, g5⟩ := want_facts h
  rw [List.take_length] at g4 g5
  have e5 : L ≠ [] → endP L - (firP L).1 < m := fun hne => by
    obtain ⟨p, hp, e⟩ := end_mem hne
    rw [← e]; exact g5 p hp
  have e2 : (L.length : Int) ≤ m := by
    by_cases hne : L = []
    · subst hne; simp; omega
    · have h2 := e5 hne
      have hle : (firP L).1 ≤ endP L := by
        obtain ⟨p, hp, e⟩ := end_mem hne
        have : firP L ∈ L := by
          cases L with
          | nil => exact absurd rfl hne
          | cons a b => show a ∈ a :: b; simp
        exact end_ge g1 _ this
      have := spread_len L ((firP L).1 - 1) (endP L) g1 (by omega) fun p hp => ⟨by
        have : (firP L).1 ≤ p.1 := by
          cases L with
          | nil => cases hp
          | cons a b =>
            rcases List.mem_cons.1 hp with rfl | hb
            · exact Int.le_refl _
            · have := (List.pairwise_cons.1 g1.2).1 p hb; show a.1 ≤ p.1; omega
        omega, end_ge g1 p hp⟩
      omega
  unfold loadB
  rw [goodB_true.2 g1, decide_eq_true e2, decide_eq_true g3, decide_eq_true e5, decide_eq_true (show sumP L + l ≤ 9223372036854775807 by omega)]
  rfl
theorem want_false {m : Int} {L : List PairV} {l : Int} {k : Nat} (hl : 0 ≤ l) (h : wantTo m L l k = false) : loadB m L l = false := by
  cases hb : loadB m L l with
  | false => rfl
  | true =>
    unfold loadB at hb
    simp only [Bool.and_eq_true, decide_eq_true_eq] at hb
    obtain ⟨⟨⟨⟨h1, h2⟩, h3⟩, h4⟩, h5⟩ := hb
    have g1 := goodB_true.1 h1
    have hp : ∀ p, p ∈ L → 0 ≤ p.2 := fun p hp => by have := g1.1 p hp; omega
    have hs := sumP_pos hp
    have hs2 := sumP_take (L := L) k hp
    have := want_mk (m := m) (k := k) g1 (by omega) h3 (by omega) fun p hp => by
      have hpl := List.mem_of_mem_take hp
      have hne : L ≠ [] := by rintro rfl; cases hpl
      have := h5 hne
      have := end_ge g1 p hpl
      omega
    rw [h] at this
    exact absurd this (by decide)

set_option maxRecDepth 100000 in
set_option maxHeartbeats 40000000 in
theorem lloads_walk {Hw : World → Nat → (Nat → Prop) → Int → List PairV → Int → Prop} (D : HighDoes Hw) (w : World) (m : Int) (A : Option Addr) (cap : Nat) (L : List PairV) (qx qc : Int) (A' : Option Addr) (cap' : Nat) (L' : List PairV) (l : Int) (hm : I64 m) (h : Pairs w A L) (hl : L.length ≤ 140737488351232) (hqx : I64 qx) (hqc : Word qc) (h' : Pairs w A' L') (hl' : L'.length ≤ 140737488351232) (hlw : Word l) :
    Calls Try.prog 7 #[.int .i64 m, .slice A L.length cap, .agg #[.int .i64 qx, .int .u64 qc], .slice A' L'.length cap', .int .u64 l] w fun e w' => e = .returned (.bool true) ∧ Below w.heap.size w w' := by
  have HD := Lib.hid D
  have HP := Lib.hid h
  have HP' := Lib.hid h'
  have HQX := Lib.hid hqx
  have HQC := Lib.hid hqc
  have HLW := Lib.hid hlw
  obtain ⟨gb, hgb⟩ : ∃ b, grtB m L = b := ⟨_, rfl⟩
  obtain ⟨gb', hgb'⟩ : ∃ b, grtB m [(qx, qc)] = b := ⟨_, rfl⟩
  have HGR : Hid (∀ w', Below w.heap.size w w' → Calls Try.prog 9 #[.int .i64 m, .slice A L.length cap] w' fun e w'' => e = .returned (.bool gb) ∧ Below w'.heap.size w' w'') := Lib.hid (fun w' hw => grt_any w' m A cap L gb (h.call hw) hl hm hgb)
  have HGR' : Hid (∀ w', Calls Try.prog 9 #[.int .i64 m, .slice (some ⟨w'.heap.size, 0, none⟩) 1 1] (w'.alloc (.cells #[.int .i64 qx, .int .u64 qc] 34)) fun e w'' => e = .returned (.bool gb') ∧ Below w'.heap.size w' w'') := Lib.hid (fun w' => by
    have hP1 : Pairs (w'.alloc (.cells #[.int .i64 qx, .int .u64 qc] 34)) (some ⟨w'.heap.size, 0, none⟩) [(qx, qc)] := by
      refine ⟨fun p hp => ?_, fun i p hi => ?_⟩
      · simp at hp; subst hp; exact ⟨HQX.out, HQC.out⟩
      · cases i with
        | zero =>
          have e : p = (qx, qc) := by simpa using hi.symm
          subst e
          obtain ⟨a0, a1⟩ := two_new9 w' (.int .i64 qx) (.int .u64 qc) 34
          exact ⟨w'.heap.size, 0, rfl, by simp, a0, a1⟩
        | succ i => simp at hi
    refine (grt_any _ m _ 1 [(qx, qc)] gb' hP1 (by simp) hm hgb').mono ?_
    rintro e w'' ⟨h1, h2⟩
    exact ⟨h1, ((Below.refl _ _).alloc (Nat.le_refl _) _).trans (h2.mono (by simp))⟩)
  have HGB := Lib.hid hgb
  have HGB' := Lib.hid hgb'
  obtain ⟨m0, m1'⟩ := hm
  obtain ⟨p0, p1⟩ := hqx
  obtain ⟨p2, p3⟩ := hqc
  obtain ⟨l0, l1⟩ := hlw
  have hbx : Below w.heap.size w (w.alloc (.cells #[.int .i64 qx, .int .u64 qc] 34)) := (Below.refl _ _).alloc (Nat.le_refl _) _
  obtain ⟨q0, q1⟩ := two_new9 w (.int .i64 qx) (.int .u64 qc) 34
  obtain ⟨wb, hwb⟩ : ∃ wb, w.alloc (.cells #[.int .i64 qx, .int .u64 qc] 34) = wb := ⟨_, rfl⟩
  have hzb : wb.heap.size = w.heap.size + 1 := by rw [← hwb]; simp
  rw [hwb] at hbx q0 q1
  have HBX := Lib.hid hbx
  have Q0 := Lib.hid q0
  have Q1 := Lib.hid q1
  have HZB := Lib.hid hzb
  clear D h h' hgb hgb' hbx hzb q0 q1
  cases gb with
  | true =>
    go_enter Try.func7, Try.ntmps7
    go_wp2_with fail
    clear hwb
    refine (lalive_any HD.out _).mono ?_
    rintro e w0 ⟨rfl, b0⟩
    have HB0 := Lib.hid (HBX.out.trans (b0.mono HBX.out.size))
    clear b0
    go_wp2_with fail
    refine (HGR.out _ HB0.out).mono ?_
    rintro e w1 ⟨rfl, b1⟩
    go_wp2_with fail
    go_ret
    exact ⟨rfl, HB0.out.trans (b1.mono HB0.out.size)⟩
  | false =>
    cases gb' with
    | true =>
      go_enter Try.func7, Try.ntmps7
      go_wp2_with fail
      clear hwb
      refine (lalive_any HD.out _).mono ?_
      rintro e w0 ⟨rfl, b0⟩
      have HB0 := Lib.hid (HBX.out.trans (b0.mono HBX.out.size))
      have HBb := Lib.hid b0
      clear b0
      go_wp2_with fail
      refine (HGR.out _ HB0.out).mono ?_
      rintro e w1 ⟨rfl, b1⟩
      have HB1 := Lib.hid (HB0.out.trans (b1.mono HB0.out.size))
      have q0 := cell_later (HBb.out.trans (b1.mono HBb.out.size)) Q0.out
      have q1 := cell_later (HBb.out.trans (b1.mono HBb.out.size)) Q1.out
      clear b1
      go_wp2_with fail
      refine (HGR'.out w1).mono ?_
      rintro e w2 ⟨rfl, b2⟩
      go_wp2_with fail
      go_ret
      exact ⟨rfl, HB1.out.trans (b2.mono HB1.out.size)⟩
    | false =>
      have PL := Lib.hid (grt_false.1 HGB.out)
      have PQ := Lib.hid ((grt_false.1 HGB'.out).each (qx, qc) (by simp))
      have n1 := PL.out.m1
      have n2 := PL.out.m2
      have hll := PL.out.len
      go_enter Try.func7, Try.ntmps7
      go_wp2_with fail
      clear hwb
      refine (lalive_any HD.out _).mono ?_
      rintro e w0 ⟨rfl, b0⟩
      have HB0 := Lib.hid (HBX.out.trans (b0.mono HBX.out.size))
      have HBb := Lib.hid b0
      clear b0
      go_wp2_with fail
      refine (HGR.out _ HB0.out).mono ?_
      rintro e w1 ⟨rfl, b1⟩
      have HB1 := Lib.hid (HB0.out.trans (b1.mono HB0.out.size))
      have HB1b := Lib.hid (HBb.out.trans (b1.mono HBb.out.size))
      have q0 := cell_later HB1b.out Q0.out
      have q1 := cell_later HB1b.out Q1.out
      clear b1
      go_wp2_with fail
      refine (HGR'.out w1).mono ?_
      rintro e w2 ⟨rfl, b2⟩
      have HB2 := Lib.hid (HB1.out.trans (b2.mono HB1.out.size))
      have HB2b := Lib.hid (HB1b.out.trans (b2.mono HB1b.out.size))
      clear b2 q0 q1 HB1 HB1b HB0 HBb
      by_cases hl2 : 60 < L'.length
      · have hl2' : (60 : Int) < (L'.length : Int) := by omega
        go_wp2_with fail
        go_ret
        exact ⟨rfl, HB2.out⟩
      have hl2' : ¬ (60 : Int) < (L'.length : Int) := by omega
      go_wp2_with fail
      refine (build_any HD.out _ m A cap L (HP.out.call HB2.out) PL.out.each (by omega) n1 n2).mono ?_
      rintro e w3 ⟨B, S, M, v, rfl, hsd, hsm, b3⟩
      have HB3 := Lib.hid (HB2.out.trans (b3.mono HB2.out.size))
      have HB3b := Lib.hid (HB2b.out.trans (b3.mono HB2b.out.size))
      obtain ⟨R, hR⟩ : ∃ R, foldP L = R := ⟨_, rfl⟩
      rw [hR] at hsd hsm
      have hsm' : Sum50 R 60 := ⟨hsm.good, hsm.ok, by have := hsm.len; omega, by have := hsm.sum; omega⟩
      have HSM := Lib.hid hsm'
      have HST := Lib.hid hsd.st
      have HAB := Lib.hid hsd.above
      have hRs := hsm'.sum
      have hRp := sumP_pos (ok_pos hsm'.ok)
      have hkl : (keepH m R).length ≤ 300 := Nat.le_trans (keeph_le m R) (by have := hsm'.len; omega)
      have hks := keeph_sum m (ok_pos hsm'.ok)
      have hlk := load_kept n1 hsm'.good hsm'.ok (by omega)
      obtain ⟨T, hT⟩ : ∃ T, sumP R = T := ⟨_, rfl⟩
      obtain ⟨KK, hK⟩ : ∃ KK, keepH m R = KK := ⟨_, rfl⟩
      rw [hT] at hRs hRp hlk
      rw [hK] at hkl hlk
      rw [hT, hK] at hks
      obtain ⟨ls, hls⟩ : ∃ ls, T - sumP KK = ls := ⟨_, rfl⟩
      rw [hls] at hlk
      have hkp : Hgp m KK T := by rw [← hK, ← hT]; exact Hgp.of hsm'.good hsm'.ok (by omega) n1 n2
      have HKP := Lib.hid hkp
      rw [hT, hK] at HST
      have HKL := Lib.hid hkl
      have HLK := Lib.hid hlk
      have HLS := Lib.hid hls
      obtain ⟨KN, hKN⟩ : ∃ n, KK.length = n := ⟨_, rfl⟩
      have HKN := Lib.hid hKN
      have hls0 : 0 ≤ ls ∧ ls < 18446744073709551616 := by omega
      clear hsd hsm hsm' hR hT hK hls hkp hlk b3
      go_wp2_with fail
      refine (HD.out.pairs w3 B S m _ _ HST.out (by have := HKL.out; omega)).mono ?_
      rintro e w4 ⟨u4, rfl, hu4, b4⟩
      obtain ⟨a4, c4, rfl, hq4⟩ := hu4.pairs HKP.out.ok
      have HQ4 := Lib.hid hq4
      have HB4 := Lib.hid b4
      rw [HKN.out]
      clear hu4 hq4 b4
      go_wp2_with fail
      refine (HD.out.lost w4 B S m _ _ (HD.out.call HST.out HB4.out)).mono ?_
      rintro e w5 ⟨rfl, b5⟩
      rw [HLS.out]
      have HB5 := Lib.hid (HB4.out.trans (b5.mono HB4.out.size))
      have HLD := Lib.hid (HD.out.load w5 m a4 c4 KK ls n1 n2 (HQ4.out.call b5) HKL.out hls0 HLK.out)
      rw [HKN.out] at HLD
      clear b5 HB4
      go_wp2_with fail
      refine HLD.out.mono ?_
      rintro e w6 ⟨Bd, Sd, rfl, hd6, hsd6, b6⟩
      have HB6 := Lib.hid (HB5.out.trans (b6.mono HB5.out.size))
      rw [show sumP KK + ls = T by have := HLS.out; omega] at hd6
      have hap : ∀ k, Sd k → ¬ S k := fun k hk hs => by have := HD.out.lt _ _ _ _ _ _ HST.out k hs; have := HB5.out.size; have := hsd6 k hk; omega
      have HAP := Lib.hid hap
      have HD6 := Lib.hid hd6
      have HSD6 := Lib.hid hsd6
      have HC6 := Lib.hid (HD.out.call HST.out HB6.out)
      have P0 := Lib.hid (cell_later (HB3b.out.trans (HB6.out.mono HB3b.out.size)) Q0.out)
      have P1 := Lib.hid (cell_later (HB3b.out.trans (HB6.out.mono HB3b.out.size)) Q1.out)
      have HBW := Lib.hid (HB3.out.trans (HB6.out.mono HB3.out.size))
      have hPS : ¬ S w.heap.size := fun hs => by have := HAB.out _ hs; have := HB2b.out.size; have := HZB.out; omega
      have hPD : ¬ Sd w.heap.size := fun hs => by have := HSD6.out _ hs; have := HB5.out.size; have := HB3b.out.size; have := HZB.out; omega
      have hz : lwErr T qc = 0 := by
        have h1 : 0 < qc := PQ.out.1
        have h2 : qc ≤ 1125899906842624 := PQ.out.2
        unfold lwErr; rw [if_neg (by omega), if_neg (by omega)]
      have HZ := Lib.hid hz
      have hS6 : ∀ k, Sd k → w.heap.size ≤ k := fun k hk => by have := HSD6.out k hk; have := HB5.out.size; have := HB3.out.size; omega
      have hS5 : ∀ k, S k → w.heap.size ≤ k := fun k hk => by have := HAB.out k hk; have := HB2.out.size; omega
      have HS6 := Lib.hid hS6
      have HS5 := Lib.hid hS5
      obtain ⟨K2, hK2⟩ : ∃ K2, hgRow m KK T qx qc = K2 := ⟨_, rfl⟩
      obtain ⟨T2, hT2⟩ : ∃ T2, lwSum T qc = T2 := ⟨_, rfl⟩
      have HK2 := Lib.hid hK2
      have HT2 := Lib.hid hT2
      have hk2l : K2.length ≤ 700 := by
        rw [← hK2]; unfold hgRow
        split
        · exact Nat.le_trans (keeph_le _ _) (Nat.le_trans (add_len _ _ _) (by have := HKL.out; omega))
        · have := HKL.out; omega
      have HK2L := Lib.hid hk2l
      have pp0 := P0.out
      have pp1 := P1.out
      have HQQ := Lib.hid hls0
      clear b6 hd6 hsd6 hap hkl hz hS6 hS5 hK2 hT2 hk2l hks hRs hRp
      go_wp2_with fail
      refine wp_region_noPanic ?_
      refine wp_region_held_drew (S := fun w' => w'.cell? ⟨w.heap.size, 0, none⟩ = some (.int .i64 qx) ∧ w'.cell? ⟨w.heap.size, 1, none⟩ = some (.int .u64 qc)) (by kernel_rfl) (⟨by go_simp, by go_simp⟩) (fun hHeld => ?_)
      have bdr : Below w6.heap.size w6 w6.drew := (Below.refl _ _).drew
      refine wpAnyH_take (i := 0) (oi := _) (v := ?v1) (by simp only [List.getElem?_toArray, List.getElem?_cons_succ, List.getElem?_cons_zero]; rfl) (by kernel_rfl) (by kernel_rfl) (by kernel_rfl) (fun _ _ _ h => h) (Or.inl ⟨by rfl, ?y1⟩) hHeld ?r1
      case y1 => (intro w hSw; (try dsimp only at hSw); go_simp; try with_reducible rfl)
      try simp only [Act.put, List.setIfInBounds_toArray, List.set_cons_zero, List.set_cons_succ]
      refine wpAnyH_take (i := 1) (oi := _) (v := ?v2) (by simp only [List.getElem?_toArray, List.getElem?_cons_succ, List.getElem?_cons_zero]; rfl) (by kernel_rfl) (by kernel_rfl) (by kernel_rfl) (fun _ _ _ h => h) (Or.inl ⟨by rfl, ?y2⟩) hHeld ?r2
      case y2 => (intro w hSw; (try dsimp only at hSw); go_simp; try with_reducible rfl)
      try simp only [Act.put, List.setIfInBounds_toArray, List.set_cons_zero, List.set_cons_succ]
      refine wpAnyH_take (i := 2) (oi := _) (v := ?v3) (by simp only [List.getElem?_toArray, List.getElem?_cons_succ, List.getElem?_cons_zero]; rfl) (by kernel_rfl) (by kernel_rfl) (by kernel_rfl) (fun _ _ _ h => h) (Or.inl ⟨by rfl, ?y3⟩) hHeld ?r3
      case y3 => (intro w hSw; (try dsimp only at hSw); go_simp; try with_reducible rfl)
      try simp only [Act.put, List.setIfInBounds_toArray, List.set_cons_zero, List.set_cons_succ]
      refine wpAnyH_take (i := 3) (oi := _) (v := ?v4) (by simp only [List.getElem?_toArray, List.getElem?_cons_succ, List.getElem?_cons_zero]; rfl) (by kernel_rfl) (by kernel_rfl) (by kernel_rfl) (fun _ _ _ h => h) (Or.inl ⟨by rfl, ?y4⟩) hHeld ?r4
      case y4 => (intro w hSw; (try dsimp only at hSw); go_simp; try with_reducible rfl)
      try simp only [Act.put, List.setIfInBounds_toArray, List.set_cons_zero, List.set_cons_succ]
      refine wpAnyH_take (i := 4) (oi := _) (v := ?v5) (by simp only [List.getElem?_toArray, List.getElem?_cons_succ, List.getElem?_cons_zero]; rfl) (by kernel_rfl) (by kernel_rfl) (by kernel_rfl) (fun _ _ _ h => h) (Or.inl ⟨by rfl, ?y5⟩) hHeld ?r5
      case y5 => (intro w hSw; (try dsimp only at hSw); go_simp; try with_reducible rfl)
      try simp only [Act.put, List.setIfInBounds_toArray, List.set_cons_zero, List.set_cons_succ]
      refine wpAnyH_take (i := 5) (oi := _) (v := ?v6) (by simp only [List.getElem?_toArray, List.getElem?_cons_succ, List.getElem?_cons_zero]; rfl) (by kernel_rfl) (by kernel_rfl) (by kernel_rfl) (fun _ _ _ h => h) (Or.inl ⟨by rfl, ?y6⟩) hHeld ?r6
      case y6 => (intro w hSw; (try dsimp only at hSw); go_simp; try with_reducible rfl)
      try simp only [Act.put, List.setIfInBounds_toArray, List.set_cons_zero, List.set_cons_succ]
      refine wpAnyH_take (i := 6) (oi := _) (v := ?v7) (by simp only [List.getElem?_toArray, List.getElem?_cons_succ, List.getElem?_cons_zero]; rfl) (by kernel_rfl) (by kernel_rfl) (by kernel_rfl) (fun _ _ _ h => h) (Or.inl ⟨by rfl, ?y7⟩) hHeld ?r7
      case y7 => (intro w hSw; (try dsimp only at hSw); go_simp; try with_reducible rfl)
      try simp only [Act.put, List.setIfInBounds_toArray, List.set_cons_zero, List.set_cons_succ]
      refine wpAnyH_take (i := 7) (oi := _) (v := ?v8) (by simp only [List.getElem?_toArray, List.getElem?_cons_succ, List.getElem?_cons_zero]; rfl) (by kernel_rfl) (by kernel_rfl) (by kernel_rfl) (fun _ _ _ h => h) (Or.inl ⟨by rfl, ?y8⟩) hHeld ?r8
      case y8 => (intro w hSw; (try dsimp only at hSw); go_simp; try with_reducible rfl)
      try simp only [Act.put, List.setIfInBounds_toArray, List.set_cons_zero, List.set_cons_succ]
      refine wpAnyH_take (i := 9) (oi := _) (v := ?v9) (by simp only [List.getElem?_toArray, List.getElem?_cons_succ, List.getElem?_cons_zero]; rfl) (by kernel_rfl) (by kernel_rfl) (by kernel_rfl) (fun _ _ _ h => h) (Or.inl ⟨by rfl, ?y9⟩) hHeld ?r9
      case y9 => (intro w hSw; (try dsimp only at hSw); go_simp; try with_reducible rfl)
      try simp only [Act.put, List.setIfInBounds_toArray, List.set_cons_zero, List.set_cons_succ]
      refine wpAnyH_take (i := 10) (oi := _) (v := ?v10) (by simp only [List.getElem?_toArray, List.getElem?_cons_succ, List.getElem?_cons_zero]; rfl) (by kernel_rfl) (by kernel_rfl) (by kernel_rfl) (fun _ _ _ h => h) (Or.inl ⟨by rfl, ?y10⟩) hHeld ?r10
      case y10 => (intro w hSw; (try dsimp only at hSw); go_simp; try with_reducible rfl)
      try simp only [Act.put, List.setIfInBounds_toArray, List.set_cons_zero, List.set_cons_succ]
      refine wpAnyH_take (i := 11) (oi := _) (v := ?v11) (by simp only [List.getElem?_toArray, List.getElem?_cons_succ, List.getElem?_cons_zero]; rfl) (by kernel_rfl) (by kernel_rfl) (by kernel_rfl) (fun _ _ _ h => h) (Or.inl ⟨by rfl, ?y11⟩) hHeld ?r11
      case y11 => (intro w hSw; (try dsimp only at hSw); go_simp; try with_reducible rfl)
      try simp only [Act.put, List.setIfInBounds_toArray, List.set_cons_zero, List.set_cons_succ]
      refine wpAnyH_take (i := 12) (oi := _) (v := ?v12) (by simp only [List.getElem?_toArray, List.getElem?_cons_succ, List.getElem?_cons_zero]; rfl) (by kernel_rfl) (by kernel_rfl) (by kernel_rfl) (fun _ _ _ h => h) (Or.inl ⟨by rfl, ?y12⟩) hHeld ?r12
      case y12 => (intro w hSw; (try dsimp only at hSw); go_simp; try with_reducible rfl)
      try simp only [Act.put, List.setIfInBounds_toArray, List.set_cons_zero, List.set_cons_succ]
      refine wpAnyH_take (i := 13) (oi := _) (v := ?v13) (by simp only [List.getElem?_toArray, List.getElem?_cons_succ, List.getElem?_cons_zero]; rfl) (by kernel_rfl) (by kernel_rfl) (by kernel_rfl) (fun _ _ _ h => h) (Or.inl ⟨by rfl, ?y13⟩) hHeld ?r13
      case y13 => (intro w hSw; (try dsimp only at hSw); go_simp; try with_reducible rfl)
      try simp only [Act.put, List.setIfInBounds_toArray, List.set_cons_zero, List.set_cons_succ]
      refine wpAnyH_ready (rs := [8]) (by kernel_rfl) (by simp) ?_
      refine AllReadyH.cons (o := _) (by simp only [List.getElem?_toArray, List.getElem?_cons_succ, List.getElem?_cons_zero]; rfl) (fun K hK => ?_) AllReadyH.nil
      go_simp
      refine (HD.out.add w6.drew Bd Sd m KK T qx qc (HD.out.call HD6.out bdr) (by have := HKL.out; omega) HQX.out HQC.out).mono ?_
      rintro e wd ⟨Sd2, rfl, hd2, kd, hsd2⟩
      rw [HZ.out]
      try (go_wp2_with fail)
      refine hK.out _ _ (⟨kd.cell hPD hHeld.1, kd.cell hPD hHeld.2⟩) (fun hHeld => ?_)
      clear hK K
      try simp only [Act.put, List.setIfInBounds_toArray, List.set_cons_zero, List.set_cons_succ]
      rw [HK2.out, HT2.out] at hd2
      have HD2 := Lib.hid hd2
      have HCD := Lib.hid (HD.out.past (HD.out.call HC6.out bdr) kd (fun k hk h2 => HAP.out k h2 hk))
      have HBD := Lib.hid (kd.below (HBW.out.trans (bdr.mono HBW.out.size)) (HBW.out.trans (bdr.mono HBW.out.size)).size HS6.out)
      have HAP2 : Hid (∀ k, Sd2 k → ¬ S k) := Lib.hid (fun k hk hs => by
        rcases hsd2 k hk with h | h
        · exact HAP.out k h hs
        · have := HD.out.lt _ _ _ _ _ _ HC6.out k hs; have := bdr.size; omega)
      clear hd2 kd hsd2
      refine wpAnyH_ready (rs := [14]) (by kernel_rfl) (by simp) ?_
      refine AllReadyH.cons (o := _) (by simp only [List.getElem?_toArray, List.getElem?_cons_succ, List.getElem?_cons_zero]; rfl) (fun K hK => ?_) AllReadyH.nil
      go_simp
      refine (HD.out.add wd B S m KK T qx qc HCD.out (by have := HKL.out; omega) HQX.out HQC.out).mono ?_
      rintro e wc ⟨Sc2, rfl, hc2, kc, hsc2⟩
      rw [HZ.out]
      try (go_wp2_with fail)
      refine hK.out _ _ (⟨kc.cell hPS hHeld.1, kc.cell hPS hHeld.2⟩) (fun hHeld => ?_)
      clear hK K
      try simp only [Act.put, List.setIfInBounds_toArray, List.set_cons_zero, List.set_cons_succ]
      rw [HK2.out, HT2.out] at hc2
      have HC2 := Lib.hid hc2
      have HDD := Lib.hid (HD.out.past HD2.out kc (fun k hk h2 => HAP2.out k hk h2))
      have HBC := Lib.hid (kc.below HBD.out HBD.out.size HS5.out)
      clear hc2 kc hsc2
      refine wpAnyH_take (i := 15) (oi := _) (v := ?v14) (by simp only [List.getElem?_toArray, List.getElem?_cons_succ, List.getElem?_cons_zero]; rfl) (by kernel_rfl) (by kernel_rfl) (by kernel_rfl) (fun _ _ _ h => h) (Or.inl ⟨by rfl, ?y14⟩) hHeld ?r14
      case y14 => (intro w hSw; (try dsimp only at hSw); go_simp; try with_reducible rfl)
      try simp only [Act.put, List.setIfInBounds_toArray, List.set_cons_zero, List.set_cons_succ]
      refine wpAnyH_take (i := 16) (oi := _) (v := ?v15) (by simp only [List.getElem?_toArray, List.getElem?_cons_succ, List.getElem?_cons_zero]; rfl) (by kernel_rfl) (by kernel_rfl) (by kernel_rfl) (fun _ _ _ h => h) (Or.inl ⟨by rfl, ?y15⟩) hHeld ?r15
      case y15 => (intro w hSw; (try dsimp only at hSw); go_simp; try with_reducible rfl)
      try simp only [Act.put, List.setIfInBounds_toArray, List.set_cons_zero, List.set_cons_succ]
      refine wpAnyH_take (i := 17) (oi := _) (v := ?v16) (by simp only [List.getElem?_toArray, List.getElem?_cons_succ, List.getElem?_cons_zero]; rfl) (by kernel_rfl) (by kernel_rfl) (by kernel_rfl) (fun _ _ _ h => h) (Or.inl ⟨by rfl, ?y16⟩) hHeld ?r16
      case y16 => (intro w hSw; (try dsimp only at hSw); go_simp; try with_reducible rfl)
      try simp only [Act.put, List.setIfInBounds_toArray, List.set_cons_zero, List.set_cons_succ]
      refine wpAnyH_take (i := 18) (oi := _) (v := ?v17) (by simp only [List.getElem?_toArray, List.getElem?_cons_succ, List.getElem?_cons_zero]; rfl) (by kernel_rfl) (by kernel_rfl) (by kernel_rfl) (fun _ _ _ h => h) (Or.inl ⟨by rfl, ?y17⟩) hHeld ?r17
      case y17 => (intro w hSw; (try dsimp only at hSw); go_simp; try with_reducible rfl)
      try simp only [Act.put, List.setIfInBounds_toArray, List.set_cons_zero, List.set_cons_succ]
      refine wpAnyH_take (i := 20) (oi := _) (v := ?v18) (by simp only [List.getElem?_toArray, List.getElem?_cons_succ, List.getElem?_cons_zero]; rfl) (by kernel_rfl) (by kernel_rfl) (by kernel_rfl) (fun _ _ _ h => h) (Or.inl ⟨by rfl, ?y18⟩) hHeld ?r18
      case y18 => (intro w hSw; (try dsimp only at hSw); go_simp; try with_reducible rfl)
      try simp only [Act.put, List.setIfInBounds_toArray, List.set_cons_zero, List.set_cons_succ]
      refine wpAnyH_ready (rs := [19]) (by kernel_rfl) (by simp) ?_
      refine AllReadyH.cons (o := _) (by simp only [List.getElem?_toArray, List.getElem?_cons_succ, List.getElem?_cons_zero]; rfl) (fun K hK => ?_) AllReadyH.nil
      go_simp
      refine (HD.out.pairs wc Bd Sd2 m _ _ HDD.out HK2L.out).mono ?_
      rintro e wp ⟨vp, rfl, hop, bN⟩
      obtain ⟨ap, cp, rfl, hPp⟩ := hop.pairs (HD.out.lwp _ _ _ _ _ _ HD2.out).ok
      try (go_wp2_with fail)
      refine hK.out _ _ (⟨cell_later bN hHeld.1, cell_later bN hHeld.2⟩) (fun hHeld => ?_)
      clear hK K
      try simp only [Act.put, List.setIfInBounds_toArray, List.set_cons_zero, List.set_cons_succ]
      have HPp := Lib.hid hPp
      have HBP1 := Lib.hid bN
      clear hop hPp bN
      refine wpAnyH_ready (rs := [21]) (by kernel_rfl) (by simp) ?_
      refine AllReadyH.cons (o := _) (by simp only [List.getElem?_toArray, List.getElem?_cons_succ, List.getElem?_cons_zero]; rfl) (fun K hK => ?_) AllReadyH.nil
      go_simp
      refine (HD.out.pairs wp B Sc2 m _ _ (HD.out.call HC2.out HBP1.out) HK2L.out).mono ?_
      rintro e wq ⟨vq, rfl, hoq, bN⟩
      obtain ⟨aq, cq, rfl, hPq⟩ := hoq.pairs (HD.out.lwp _ _ _ _ _ _ HD2.out).ok
      try (go_wp2_with fail)
      refine hK.out _ _ (⟨cell_later bN hHeld.1, cell_later bN hHeld.2⟩) (fun hHeld => ?_)
      clear hK K
      try simp only [Act.put, List.setIfInBounds_toArray, List.set_cons_zero, List.set_cons_succ]
      have HPq := Lib.hid hPq
      have HPp2 := Lib.hid (HPp.out.call bN)
      have HBP2 := Lib.hid (HBP1.out.trans (bN.mono HBP1.out.size))
      clear hoq hPq bN HBP1 HPp
      refine wpAnyH_ready (rs := [22]) (by kernel_rfl) (by simp) ?_
      refine AllReadyH.cons (o := _) (by simp only [List.getElem?_toArray, List.getElem?_cons_succ, List.getElem?_cons_zero]; rfl) (fun K hK => ?_) AllReadyH.nil
      go_simp
      refine (same_any wq ap aq cp cq _ _ true (decide_eq_true rfl) HPp2.out HPq.out (by have := HK2L.out; omega) (by have := HK2L.out; omega)).mono ?_
      rintro e ws ⟨rfl, bN⟩
      try (go_wp2_with fail)
      refine hK.out _ _ (⟨cell_later bN hHeld.1, cell_later bN hHeld.2⟩) (fun hHeld => ?_)
      clear hK K
      try simp only [Act.put, List.setIfInBounds_toArray, List.set_cons_zero, List.set_cons_succ]
      have HBP3 := Lib.hid (HBP2.out.trans (bN.mono HBP2.out.size))
      clear bN HBP2 HPp2 HPq
      refine wpAnyH_take (i := 23) (oi := _) (v := ?v19) (by simp only [List.getElem?_toArray, List.getElem?_cons_succ, List.getElem?_cons_zero]; rfl) (by kernel_rfl) (by kernel_rfl) (by kernel_rfl) (fun _ _ _ h => h) (Or.inl ⟨by rfl, ?y19⟩) hHeld ?r19
      case y19 => (intro w hSw; (try dsimp only at hSw); go_simp; try with_reducible rfl)
      try simp only [Act.put, List.setIfInBounds_toArray, List.set_cons_zero, List.set_cons_succ]
      refine wpAnyH_take (i := 24) (oi := _) (v := ?v20) (by simp only [List.getElem?_toArray, List.getElem?_cons_succ, List.getElem?_cons_zero]; rfl) (by kernel_rfl) (by kernel_rfl) (by kernel_rfl) (fun _ _ _ h => h) (Or.inl ⟨by rfl, ?y20⟩) hHeld ?r20
      case y20 => (intro w hSw; (try dsimp only at hSw); go_simp; try with_reducible rfl)
      try simp only [Act.put, List.setIfInBounds_toArray, List.set_cons_zero, List.set_cons_succ]
      refine wpAnyH_take (i := 25) (oi := _) (v := ?v21) (by simp only [List.getElem?_toArray, List.getElem?_cons_succ, List.getElem?_cons_zero]; rfl) (by kernel_rfl) (by kernel_rfl) (by kernel_rfl) (fun _ _ _ h => h) (Or.inl ⟨by rfl, ?y21⟩) hHeld ?r21
      case y21 => (intro w hSw; (try dsimp only at hSw); go_simp; try with_reducible rfl)
      try simp only [Act.put, List.setIfInBounds_toArray, List.set_cons_zero, List.set_cons_succ]
      refine wpAnyH_take (i := 26) (oi := _) (v := ?v22) (by simp only [List.getElem?_toArray, List.getElem?_cons_succ, List.getElem?_cons_zero]; rfl) (by kernel_rfl) (by kernel_rfl) (by kernel_rfl) (fun _ _ _ h => h) (Or.inl ⟨by rfl, ?y22⟩) hHeld ?r22
      case y22 => (intro w hSw; (try dsimp only at hSw); go_simp; try with_reducible rfl)
      try simp only [Act.put, List.setIfInBounds_toArray, List.set_cons_zero, List.set_cons_succ]
      refine wpAnyH_take (i := 28) (oi := _) (v := ?v23) (by simp only [List.getElem?_toArray, List.getElem?_cons_succ, List.getElem?_cons_zero]; rfl) (by kernel_rfl) (by kernel_rfl) (by kernel_rfl) (fun _ _ _ h => h) (Or.inl ⟨by rfl, ?y23⟩) hHeld ?r23
      case y23 => (intro w hSw; (try dsimp only at hSw); go_simp; try with_reducible rfl)
      try simp only [Act.put, List.setIfInBounds_toArray, List.set_cons_zero, List.set_cons_succ]
      refine wpAnyH_ready (rs := [27]) (by kernel_rfl) (by simp) ?_
      refine AllReadyH.cons (o := _) (by simp only [List.getElem?_toArray, List.getElem?_cons_succ, List.getElem?_cons_zero]; rfl) (fun K hK => ?_) AllReadyH.nil
      go_simp
      refine (HD.out.lost ws Bd Sd2 m _ _ (HD.out.call HDD.out HBP3.out)).mono ?_
      rintro e wt ⟨rfl, bN⟩
      try (go_wp2_with fail)
      refine hK.out _ _ (⟨cell_later bN hHeld.1, cell_later bN hHeld.2⟩) (fun hHeld => ?_)
      clear hK K
      try simp only [Act.put, List.setIfInBounds_toArray, List.set_cons_zero, List.set_cons_succ]
      have HBP4 := Lib.hid (HBP3.out.trans (bN.mono HBP3.out.size))
      clear bN HBP3
      refine wpAnyH_ready (rs := [29]) (by kernel_rfl) (by simp) ?_
      refine AllReadyH.cons (o := _) (by simp only [List.getElem?_toArray, List.getElem?_cons_succ, List.getElem?_cons_zero]; rfl) (fun K hK => ?_) AllReadyH.nil
      go_simp
      refine (HD.out.lost wt B Sc2 m _ _ (HD.out.call HC2.out HBP4.out)).mono ?_
      rintro e wE ⟨rfl, bN⟩
      try (go_wp2_with fail)
      refine hK.out _ _ (⟨cell_later bN hHeld.1, cell_later bN hHeld.2⟩) (fun hHeld => ?_)
      clear hK K
      try simp only [Act.put, List.setIfInBounds_toArray, List.set_cons_zero, List.set_cons_succ]
      have HBP := Lib.hid (HBP4.out.trans (bN.mono HBP4.out.size))
      clear bN HBP4
      refine wpAnyH_take (i := 30) (oi := _) (v := ?v24) (by simp only [List.getElem?_toArray, List.getElem?_cons_succ, List.getElem?_cons_zero]; rfl) (by kernel_rfl) (by kernel_rfl) (by kernel_rfl) (fun _ _ _ h => h) (Or.inl ⟨by rfl, ?y24⟩) hHeld ?r24
      case y24 => (intro w hSw; (try dsimp only at hSw); go_simp; try with_reducible rfl)
      try simp only [Act.put, List.setIfInBounds_toArray, List.set_cons_zero, List.set_cons_succ]
      refine wpAnyH_take (i := 31) (oi := _) (v := ?v25) (by simp only [List.getElem?_toArray, List.getElem?_cons_succ, List.getElem?_cons_zero]; rfl) (by kernel_rfl) (by kernel_rfl) (by kernel_rfl) (fun _ _ _ h => h) (Or.inl ⟨by rfl, ?y25⟩) hHeld ?r25
      case y25 => (intro w hSw; (try dsimp only at hSw); go_simp; try with_reducible rfl)
      try simp only [Act.put, List.setIfInBounds_toArray, List.set_cons_zero, List.set_cons_succ]
      refine wpAnyH_done (by kernel_rfl) ?_ _
      refine NoPanic.normal ?_
      have HXE := Lib.hid (HBC.out.trans (HBP.out.mono HBC.out.size))
      clear hHeld pp0 pp1
      obtain ⟨bl, hbl'⟩ : ∃ b, loadB m L' l = b := ⟨_, rfl⟩
      have HBL := Lib.hid hbl'
      have HGD : Hid (∀ w', Below w.heap.size w w' → Calls Try.prog 31 #[.slice A' L'.length cap'] w' fun e w'' => e = .returned (.bool (goodB L')) ∧ Below w'.heap.size w' w'') := Lib.hid (fun w' hw => rgood_row w' A' cap' L' _ rfl (HP'.out.call hw) (by omega))
      obtain ⟨gB, hgB⟩ : ∃ b, goodB L' = b := ⟨_, rfl⟩
      rw [hgB] at HGD
      have HW0 : Hid (wantTo m L' l 0 = (gB && decide (l < 9223372036854775808) && decide (L' = [] → l = 0))) := Lib.hid (by rw [← hgB]; exact want_zero)
      have HGBE := Lib.hid hgB
      obtain ⟨LN, hLN⟩ : ∃ n, L'.length = n := ⟨_, rfl⟩
      have HLN := Lib.hid hLN
      have HNIL : Hid (L' = [] ↔ ¬ (0 : Int) < (LN : Int)) := Lib.hid (by
        rw [← hLN]
        constructor
        · rintro rfl; simp
        · intro h; exact List.eq_nil_of_length_eq_zero (by omega))
      rw [hLN] at HGD hl2 hl2' hl'
      have em : IntKind.u64.wrap m = m := by rw [IntKind.wrap_u64]; omega
      rw [hLN]
      cases bl with
      | true =>
        have HLDD := Lib.hid (HD.out.load wE m A' cap' L' l n1 n2 (HP'.out.call HXE.out) (by have := HLN.out; omega) HLW.out HBL.out)
        rw [hLN] at HLDD
        clear hbl' hgB hLN
        go_wp2_with fail
        refine HLDD.out.mono ?_
        rintro e w7 ⟨Bx, Sx, rfl, hx7, hsx7, b7⟩
        have HX7 := Lib.hid hx7
        have HB7 := Lib.hid (HXE.out.trans (b7.mono HXE.out.size))
        clear hx7 hsx7 b7
        go_wp2_with fail
        refine (HGD.out _ HB7.out).mono ?_
        rintro e w8 ⟨rfl, b8⟩
        have HB8 := Lib.hid (HB7.out.trans (b8.mono HB7.out.size))
        have HB8b := Lib.hid b8
        clear b8
        have hW : ∃ W0, wantTo m L' l 0 = W0 := ⟨_, rfl⟩
        obtain ⟨W0, hW0⟩ := hW
        have HWE := Lib.hid hW0
        have hwcase : (gB = false ∧ W0 = false) ∨ (gB = true ∧ ¬ l < 9223372036854775808 ∧ W0 = false) ∨ (gB = true ∧ l < 9223372036854775808 ∧ (0 : Int) < (LN : Int) ∧ W0 = true) ∨ (gB = true ∧ l < 9223372036854775808 ∧ ¬ (0 : Int) < (LN : Int) ∧ W0 = decide (l = 0)) := by
          have h1 := HW0.out
          rw [hW0] at h1
          cases gB with
          | false => exact Or.inl ⟨rfl, by simpa using h1⟩
          | true =>
            by_cases h2 : l < 9223372036854775808
            · by_cases h3 : (0 : Int) < (LN : Int)
              · refine Or.inr (Or.inr (Or.inl ⟨rfl, h2, h3, ?_⟩))
                rw [h1, decide_eq_true h2, decide_eq_true (fun he => by have := HNIL.out.1 he; omega)]; rfl
              · refine Or.inr (Or.inr (Or.inr ⟨rfl, h2, h3, ?_⟩))
                rw [h1, decide_eq_true h2]
                have he := HNIL.out.2 (by omega)
                by_cases h4 : l = 0
                · rw [decide_eq_true h4, decide_eq_true (fun _ => h4)]; rfl
                · rw [decide_eq_false h4, decide_eq_false (fun hh => h4 (hh he))]; rfl
            · exact Or.inr (Or.inl ⟨rfl, h2, by rw [h1, decide_eq_false h2]; rfl⟩)
        clear hW0 HW0
        rcases hwcase with ⟨rfl, rfl⟩ | ⟨rfl, g1, rfl⟩ | ⟨rfl, g1, g2, rfl⟩ | ⟨rfl, g1, g2, g3⟩
        · as_aux_lemma =>
            have hcon := want_false l0 HWE.out
            rw [HBL.out] at hcon
            cases hcon
        · as_aux_lemma =>
            have g1' : decide (l < 9223372036854775808) = false := decide_eq_false g1
            have hcon := want_false l0 HWE.out
            rw [HBL.out] at hcon
            cases hcon
        · as_aux_lemma =>
            go_wp2_with fail
            go_loopg [17, 18, 19] LN (fun g a b j wr => ∃ (k : Nat) (s : Int) (W : Bool), k ≤ LN ∧ g = LN - k ∧ a = .bool W ∧ b = .int .u64 s ∧ j = .int .i64 k ∧ wantTo m L' l k = W ∧ s = l + sumP (L'.take k) ∧ 0 ≤ s ∧ s < 18446744073709551616 ∧ Below w8.heap.size w8 wr)
            case atStart => exact ⟨0, l, _, Nat.zero_le _, rfl, rfl, rfl, rfl, HWE.out, by rw [List.take_zero, sumP_nil, Int.add_zero], l0, l1, Below.refl _ _⟩
            case round =>
              obtain ⟨k, s, W, hk, rfl, rfl, rfl, rfl, hW, hs, s0, s1, hb2⟩ := hrel
              have HW := Lib.hid hW
              have HS := Lib.hid hs
              have HBR := Lib.hid hb2
              have HBZ := Lib.hid (HB8.out.trans (hb2.mono HB8.out.size))
              clear hW hs hb2
              cases W with
              | true =>
                by_cases hlt : k < LN
                · have kk : (k : Int) < (LN : Int) := by omega
                  have hkl : k < L'.length := by have := HLN.out; omega
                  have hxk : L'[k]? = some L'[k] := List.getElem?_eq_getElem hkl
                  generalize hit : L'[k] = x at *
                  obtain ⟨xi, xc⟩ := x
                  obtain ⟨w1, w2', w3', w4', w5'⟩ := want_facts HW.out
                  have hgd := w1.1 _ (List.mem_of_getElem? hxk)
                  have hstep := want_step HW.out hxk
                  have hx0 : L'[0]? = some (firP L') := by
                    cases L' with
                    | nil => simp at hkl
                    | cons a b => rfl
                  obtain ⟨fx, hfx⟩ : ∃ fx, (firP L').1 = fx := ⟨_, rfl⟩
                  have hle : fx ≤ xi := by
                    rw [← hfx]
                    cases L' with
                    | nil => simp at hkl
                    | cons a b =>
                      have hm := List.mem_of_getElem? hxk
                      rcases List.mem_cons.1 hm with e | hb
                      · rw [← e]; exact Int.le_refl _
                      · have := (List.pairwise_cons.1 w1.2).1 _ hb; show a.1 ≤ xi; omega
                  have hPw := HP'.out.call HBZ.out
                  obtain ⟨gg, off, rfl, hbl, c0, c1⟩ := hPw.at_ k _ hxk
                  obtain ⟨gg', off', e', _, d0, _⟩ := hPw.at_ 0 _ hx0
                  obtain ⟨rfl, rfl, _⟩ := Addr.mk.inj (Option.some.inj e')
                  rw [hfx] at d0 hstep
                  simp only [Nat.zero_mul, Nat.add_zero] at d0
                  simp only at c0 c1 hstep hgd
                  have hok := (HP'.out.ok _ (List.mem_of_getElem? hxk)).1
                  have hokf := (HP'.out.ok _ (List.mem_of_getElem? hx0)).1
                  rw [hfx] at hokf
                  obtain ⟨o1, o2⟩ := hok
                  obtain ⟨f1, f2⟩ := hokf
                  simp only at o1 o2
                  obtain ⟨ui, hui⟩ : ∃ u, IntKind.u64.wrap xi = u := ⟨_, rfl⟩
                  obtain ⟨uf, huf⟩ : ∃ u, IntKind.u64.wrap fx = u := ⟨_, rfl⟩
                  have hsub : IntKind.u64.wrap (ui - uf) = xi - fx := by rw [← hui, ← huf, IntKind.wrap_u64, IntKind.wrap_u64, IntKind.wrap_u64]; omega
                  have hs63 : s < 9223372036854775808 := by rw [HS.out]; exact w4'
                  have hsum : IntKind.u64.wrap (s + xc) = s + xc := by rw [IntKind.wrap_u64]; omega
                  have hss : s + xc = l + sumP (L'.take (k + 1)) := by rw [take_snocP hxk, sumP_app, sumP_one, HS.out]; show _ = l + (sumP (L'.take k) + xc); omega
                  have HSS := Lib.hid hss
                  have hb63 : s + xc < 18446744073709551616 := by omega
                  have hb0 : 0 ≤ s + xc := by omega
                  rw [← HS.out] at hstep
                  have HST2 := Lib.hid hstep
                  have kN0 : (0 : Int) < (LN : Int) := by omega
                  clear hxk hit w1 w2' w3' w4' w5' hstep hx0 hPw e' hss hfx hkl hgd hle
                  by_cases ha : s + xc < 9223372036854775808
                  · have HF : Hid (wantTo m L' l (k + 1) = decide (xi - fx < m)) := Lib.hid (by rw [HST2.out, decide_eq_true ha, Bool.true_and])
                    clear HST2
                    go_wp2_with fail
                    go_quiet (fail)
                    go_wp2_with fail
                    go_roundg (LN - (k + 1))
                    case measure => omega
                    case rel => exact ⟨k + 1, s + xc, _, hlt, rfl, rfl, rfl, by go_num, HF.out, HSS.out, hb0, hb63, below_drewN HBR.out _⟩
                  · have ha2 : decide (s + xc < 9223372036854775808) = false := decide_eq_false ha
                    have HF : Hid (wantTo m L' l (k + 1) = false) := Lib.hid (by rw [HST2.out, ha2, Bool.false_and])
                    clear HST2
                    go_wp2_with fail
                    go_quiet (fail)
                    go_wp2_with fail
                    go_roundg (LN - (k + 1))
                    case measure => omega
                    case rel => exact ⟨k + 1, s + xc, _, hlt, rfl, rfl, rfl, by go_num, HF.out, HSS.out, hb0, hb63, below_drewN HBR.out _⟩
                · obtain rfl : k = LN := by omega
                  have kk : ¬ (k : Int) < (k : Int) := by omega
                  have HSL : Hid (s = sumP L' + l) := Lib.hid (by rw [HS.out, ← HLN.out, List.take_length]; omega)
                  have HXX := Lib.hid (HD.out.call HX7.out (HB8b.out.trans (HBR.out.mono HB8b.out.size)))
                  go_wp2_with fail
                  refine (HD.out.lost wr Bx Sx m L' _ HXX.out).mono ?_
                  rintro e x1 ⟨rfl, b1⟩
                  rw [show sumP L' + l - sumP L' = l by omega]
                  have HY1 := Lib.hid b1
                  clear b1
                  go_wp2_with fail
                  refine (HD.out.total x1 Bx Sx m L' _ (HD.out.call HXX.out HY1.out) (by have := HLN.out; omega)).mono ?_
                  rintro e x2 ⟨rfl, b2⟩
                  rw [← HSL.out]
                  have HY2 := Lib.hid (HY1.out.trans (b2.mono HY1.out.size))
                  clear b2
                  go_wp2_with fail
                  refine (HD.out.pairs x2 Bx Sx m L' _ (HD.out.call HXX.out HY2.out) (by have := HLN.out; omega)).mono ?_
                  rintro e x3 ⟨u3, rfl, hu3, b3⟩
                  obtain ⟨a3, c3, rfl, hq3⟩ := hu3.pairs HP'.out.ok
                  have HQ3 := Lib.hid hq3
                  have HY3 := Lib.hid (HY2.out.trans (b3.mono HY2.out.size))
                  rw [HLN.out]
                  clear hu3 hq3 b3
                  have HSAME := Lib.hid (same_any x3 a3 A' c3 cap' L' L' true (decide_eq_true rfl) HQ3.out (HP'.out.call (HBZ.out.trans (HY3.out.mono HBZ.out.size))) (by have := HLN.out; omega) (by have := HLN.out; omega))
                  rw [HLN.out] at HSAME
                  go_wp2_with fail
                  refine HSAME.out.mono ?_
                  rintro e x4 ⟨rfl, b4⟩
                  go_wp2_with fail
                  go_ret
                  exact ⟨rfl, HBZ.out.trans ((HY3.out.trans (b4.mono HY3.out.size)).mono HBZ.out.size)⟩
              | false =>
                have hcon := want_false l0 HW.out
                rw [HBL.out] at hcon
                cases hcon
        · as_aux_lemma =>
            by_cases g4 : l = 0
            · rw [decide_eq_true g4] at g3
              subst g3
              have g5 : (l == 0) = true := by simp [g4]
              have HG4 := Lib.hid g4
              clear g4
              have hLN0 : LN = 0 := by omega
              subst hLN0
              go_wp2_with fail
              go_loopg [17, 18, 19] 1 (fun g a b j wr => a = .bool true ∧ b = .int .u64 l ∧ j = .int .i64 0 ∧ Below w8.heap.size w8 wr)
              case atStart => exact ⟨rfl, rfl, rfl, Below.refl _ _⟩
              case round =>
                obtain ⟨rfl, rfl, rfl, hb2⟩ := hrel
                have HBR := Lib.hid hb2
                have HBZ := Lib.hid (HB8.out.trans (hb2.mono HB8.out.size))
                obtain ⟨s, hsl⟩ : ∃ s, l = s := ⟨_, rfl⟩
                have HSL : Hid (s = sumP L' + l) := Lib.hid (by rw [← hsl, List.eq_nil_of_length_eq_zero HLN.out, sumP_nil, Int.zero_add])
                clear hb2
                have HXX := Lib.hid (HD.out.call HX7.out (HB8b.out.trans (HBR.out.mono HB8b.out.size)))
                go_wp2_with fail
                refine (HD.out.lost wr Bx Sx m L' _ HXX.out).mono ?_
                rintro e x1 ⟨rfl, b1⟩
                rw [show sumP L' + l - sumP L' = l by omega]
                have HY1 := Lib.hid b1
                clear b1
                go_wp2_with fail
                refine (HD.out.total x1 Bx Sx m L' _ (HD.out.call HXX.out HY1.out) (by have := HLN.out; omega)).mono ?_
                rintro e x2 ⟨rfl, b2⟩
                rw [← HSL.out, ← hsl]
                have HY2 := Lib.hid (HY1.out.trans (b2.mono HY1.out.size))
                clear b2
                go_wp2_with fail
                refine (HD.out.pairs x2 Bx Sx m L' _ (HD.out.call HXX.out HY2.out) (by have := HLN.out; omega)).mono ?_
                rintro e x3 ⟨u3, rfl, hu3, b3⟩
                obtain ⟨a3, c3, rfl, hq3⟩ := hu3.pairs HP'.out.ok
                have HQ3 := Lib.hid hq3
                have HY3 := Lib.hid (HY2.out.trans (b3.mono HY2.out.size))
                rw [HLN.out]
                clear hu3 hq3 b3
                have HSAME := Lib.hid (same_any x3 a3 A' c3 cap' L' L' true (decide_eq_true rfl) HQ3.out (HP'.out.call (HBZ.out.trans (HY3.out.mono HBZ.out.size))) (by have := HLN.out; omega) (by have := HLN.out; omega))
                rw [HLN.out] at HSAME
                go_wp2_with fail
                refine HSAME.out.mono ?_
                rintro e x4 ⟨rfl, b4⟩
                go_wp2_with fail
                go_ret
                exact ⟨rfl, HBZ.out.trans ((HY3.out.trans (b4.mono HY3.out.size)).mono HBZ.out.size)⟩
            · rw [decide_eq_false g4] at g3
              subst g3
              have g5 : (l == 0) = false := by simp [g4]
              have hcon := want_false l0 HWE.out
              rw [HBL.out] at hcon
              cases hcon
      | false =>
        have HLDD := Lib.hid (HD.out.unfit wE m A' cap' L' l n1 n2 (HP'.out.call HXE.out) (by have := HLN.out; omega) HLW.out HBL.out)
        rw [hLN] at HLDD
        clear hbl' hgB hLN
        go_wp2_with fail
        refine HLDD.out.mono ?_
        rintro e w7 ⟨rfl, b7⟩
        have HB7 := Lib.hid (HXE.out.trans (b7.mono HXE.out.size))
        clear b7
        go_wp2_with fail
        refine (HGD.out _ HB7.out).mono ?_
        rintro e w8 ⟨rfl, b8⟩
        have HB8 := Lib.hid (HB7.out.trans (b8.mono HB7.out.size))
        have HB8b := Lib.hid b8
        clear b8
        have hW : ∃ W0, wantTo m L' l 0 = W0 := ⟨_, rfl⟩
        obtain ⟨W0, hW0⟩ := hW
        have HWE := Lib.hid hW0
        have hwcase : (gB = false ∧ W0 = false) ∨ (gB = true ∧ ¬ l < 9223372036854775808 ∧ W0 = false) ∨ (gB = true ∧ l < 9223372036854775808 ∧ (0 : Int) < (LN : Int) ∧ W0 = true) ∨ (gB = true ∧ l < 9223372036854775808 ∧ ¬ (0 : Int) < (LN : Int) ∧ W0 = decide (l = 0)) := by
          have h1 := HW0.out
          rw [hW0] at h1
          cases gB with
          | false => exact Or.inl ⟨rfl, by simpa using h1⟩
          | true =>
            by_cases h2 : l < 9223372036854775808
            · by_cases h3 : (0 : Int) < (LN : Int)
              · refine Or.inr (Or.inr (Or.inl ⟨rfl, h2, h3, ?_⟩))
                rw [h1, decide_eq_true h2, decide_eq_true (fun he => by have := HNIL.out.1 he; omega)]; rfl
              · refine Or.inr (Or.inr (Or.inr ⟨rfl, h2, h3, ?_⟩))
                rw [h1, decide_eq_true h2]
                have he := HNIL.out.2 (by omega)
                by_cases h4 : l = 0
                · rw [decide_eq_true h4, decide_eq_true (fun _ => h4)]; rfl
                · rw [decide_eq_false h4, decide_eq_false (fun hh => h4 (hh he))]; rfl
            · exact Or.inr (Or.inl ⟨rfl, h2, by rw [h1, decide_eq_false h2]; rfl⟩)
        clear hW0 HW0
        rcases hwcase with ⟨rfl, rfl⟩ | ⟨rfl, g1, rfl⟩ | ⟨rfl, g1, g2, rfl⟩ | ⟨rfl, g1, g2, g3⟩
        · as_aux_lemma =>
            go_wp2_with fail
            go_loopg [17, 19] 1 (fun g a j wr => a = .bool false ∧ j = .int .i64 0 ∧ Below w8.heap.size w8 wr)
            case atStart => exact ⟨rfl, rfl, Below.refl _ _⟩
            case round =>
              obtain ⟨rfl, rfl, hb2⟩ := hrel
              have HBZ := Lib.hid (HB8.out.trans (hb2.mono HB8.out.size))
              by_cases kk : (0 : Int) < (LN : Int)
              · go_wp2_with fail
                go_ret
                exact ⟨rfl, HBZ.out⟩
              · go_wp2_with fail
                go_ret
                exact ⟨rfl, HBZ.out⟩
        · as_aux_lemma =>
            have g1' : decide (l < 9223372036854775808) = false := decide_eq_false g1
            go_wp2_with fail
            go_loopg [17, 19] 1 (fun g a j wr => a = .bool false ∧ j = .int .i64 0 ∧ Below w8.heap.size w8 wr)
            case atStart => exact ⟨rfl, rfl, Below.refl _ _⟩
            case round =>
              obtain ⟨rfl, rfl, hb2⟩ := hrel
              have HBZ := Lib.hid (HB8.out.trans (hb2.mono HB8.out.size))
              by_cases kk : (0 : Int) < (LN : Int)
              · go_wp2_with fail
                go_ret
                exact ⟨rfl, HBZ.out⟩
              · go_wp2_with fail
                go_ret
                exact ⟨rfl, HBZ.out⟩
        · as_aux_lemma =>
            go_wp2_with fail
            go_loopg [17, 18, 19] LN (fun g a b j wr => ∃ (k : Nat) (s : Int) (W : Bool), k ≤ LN ∧ g = LN - k ∧ a = .bool W ∧ b = .int .u64 s ∧ j = .int .i64 k ∧ wantTo m L' l k = W ∧ s = l + sumP (L'.take k) ∧ 0 ≤ s ∧ s < 18446744073709551616 ∧ Below w8.heap.size w8 wr)
            case atStart => exact ⟨0, l, _, Nat.zero_le _, rfl, rfl, rfl, rfl, HWE.out, by rw [List.take_zero, sumP_nil, Int.add_zero], l0, l1, Below.refl _ _⟩
            case round =>
              obtain ⟨k, s, W, hk, rfl, rfl, rfl, rfl, hW, hs, s0, s1, hb2⟩ := hrel
              have HW := Lib.hid hW
              have HS := Lib.hid hs
              have HBR := Lib.hid hb2
              have HBZ := Lib.hid (HB8.out.trans (hb2.mono HB8.out.size))
              clear hW hs hb2
              cases W with
              | true =>
                by_cases hlt : k < LN
                · have kk : (k : Int) < (LN : Int) := by omega
                  have hkl : k < L'.length := by have := HLN.out; omega
                  have hxk : L'[k]? = some L'[k] := List.getElem?_eq_getElem hkl
                  generalize hit : L'[k] = x at *
                  obtain ⟨xi, xc⟩ := x
                  obtain ⟨w1, w2', w3', w4', w5'⟩ := want_facts HW.out
                  have hgd := w1.1 _ (List.mem_of_getElem? hxk)
                  have hstep := want_step HW.out hxk
                  have hx0 : L'[0]? = some (firP L') := by
                    cases L' with
                    | nil => simp at hkl
                    | cons a b => rfl
                  obtain ⟨fx, hfx⟩ : ∃ fx, (firP L').1 = fx := ⟨_, rfl⟩
                  have hle : fx ≤ xi := by
                    rw [← hfx]
                    cases L' with
                    | nil => simp at hkl
                    | cons a b =>
                      have hm := List.mem_of_getElem? hxk
                      rcases List.mem_cons.1 hm with e | hb
                      · rw [← e]; exact Int.le_refl _
                      · have := (List.pairwise_cons.1 w1.2).1 _ hb; show a.1 ≤ xi; omega
                  have hPw := HP'.out.call HBZ.out
                  obtain ⟨gg, off, rfl, hbl, c0, c1⟩ := hPw.at_ k _ hxk
                  obtain ⟨gg', off', e', _, d0, _⟩ := hPw.at_ 0 _ hx0
                  obtain ⟨rfl, rfl, _⟩ := Addr.mk.inj (Option.some.inj e')
                  rw [hfx] at d0 hstep
                  simp only [Nat.zero_mul, Nat.add_zero] at d0
                  simp only at c0 c1 hstep hgd
                  have hok := (HP'.out.ok _ (List.mem_of_getElem? hxk)).1
                  have hokf := (HP'.out.ok _ (List.mem_of_getElem? hx0)).1
                  rw [hfx] at hokf
                  obtain ⟨o1, o2⟩ := hok
                  obtain ⟨f1, f2⟩ := hokf
                  simp only at o1 o2
                  obtain ⟨ui, hui⟩ : ∃ u, IntKind.u64.wrap xi = u := ⟨_, rfl⟩
                  obtain ⟨uf, huf⟩ : ∃ u, IntKind.u64.wrap fx = u := ⟨_, rfl⟩
                  have hsub : IntKind.u64.wrap (ui - uf) = xi - fx := by rw [← hui, ← huf, IntKind.wrap_u64, IntKind.wrap_u64, IntKind.wrap_u64]; omega
                  have hs63 : s < 9223372036854775808 := by rw [HS.out]; exact w4'
                  have hsum : IntKind.u64.wrap (s + xc) = s + xc := by rw [IntKind.wrap_u64]; omega
                  have hss : s + xc = l + sumP (L'.take (k + 1)) := by rw [take_snocP hxk, sumP_app, sumP_one, HS.out]; show _ = l + (sumP (L'.take k) + xc); omega
                  have HSS := Lib.hid hss
                  have hb63 : s + xc < 18446744073709551616 := by omega
                  have hb0 : 0 ≤ s + xc := by omega
                  rw [← HS.out] at hstep
                  have HST2 := Lib.hid hstep
                  have kN0 : (0 : Int) < (LN : Int) := by omega
                  clear hxk hit w1 w2' w3' w4' w5' hstep hx0 hPw e' hss hfx hkl hgd hle
                  by_cases ha : s + xc < 9223372036854775808
                  · have HF : Hid (wantTo m L' l (k + 1) = decide (xi - fx < m)) := Lib.hid (by rw [HST2.out, decide_eq_true ha, Bool.true_and])
                    clear HST2
                    go_wp2_with fail
                    go_quiet (fail)
                    go_wp2_with fail
                    go_roundg (LN - (k + 1))
                    case measure => omega
                    case rel => exact ⟨k + 1, s + xc, _, hlt, rfl, rfl, rfl, by go_num, HF.out, HSS.out, hb0, hb63, below_drewN HBR.out _⟩
                  · have ha2 : decide (s + xc < 9223372036854775808) = false := decide_eq_false ha
                    have HF : Hid (wantTo m L' l (k + 1) = false) := Lib.hid (by rw [HST2.out, ha2, Bool.false_and])
                    clear HST2
                    go_wp2_with fail
                    go_quiet (fail)
                    go_wp2_with fail
                    go_roundg (LN - (k + 1))
                    case measure => omega
                    case rel => exact ⟨k + 1, s + xc, _, hlt, rfl, rfl, rfl, by go_num, HF.out, HSS.out, hb0, hb63, below_drewN HBR.out _⟩
                · obtain rfl : k = LN := by omega
                  have kk : ¬ (k : Int) < (k : Int) := by omega
                  have hcon := want_true n1 (by rw [HLN.out]; exact HW.out)
                  rw [HBL.out] at hcon
                  cases hcon
              | false =>
                by_cases hlt : k < LN
                · have kk : (k : Int) < (LN : Int) := by omega
                  go_wp2_with fail
                  go_ret
                  exact ⟨rfl, HBZ.out⟩
                · have kk : ¬ (k : Int) < (LN : Int) := by omega
                  go_wp2_with fail
                  go_ret
                  exact ⟨rfl, HBZ.out⟩
        · as_aux_lemma =>
            by_cases g4 : l = 0
            · rw [decide_eq_true g4] at g3
              subst g3
              have g5 : (l == 0) = true := by simp [g4]
              have HG4 := Lib.hid g4
              clear g4
              have hcon := want_true n1 (by rw [HLN.out, show LN = 0 by omega]; exact HWE.out)
              rw [HBL.out] at hcon
              cases hcon
            · rw [decide_eq_false g4] at g3
              subst g3
              have g5 : (l == 0) = false := by simp [g4]
              go_wp2_with fail
              go_loopg [17, 19] 1 (fun g a j wr => a = .bool false ∧ j = .int .i64 0 ∧ Below w8.heap.size w8 wr)
              case atStart => exact ⟨rfl, rfl, Below.refl _ _⟩
              case round =>
                obtain ⟨rfl, rfl, hb2⟩ := hrel
                have HBZ := Lib.hid (HB8.out.trans (hb2.mono HB8.out.size))
                by_cases kk : (0 : Int) < (LN : Int)
                · go_wp2_with fail
                  go_ret
                  exact ⟨rfl, HBZ.out⟩
                · go_wp2_with fail
                  go_ret
                  exact ⟨rfl, HBZ.out⟩
end Go.Proofs.Ytdblicfcfmfneaa
