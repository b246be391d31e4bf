/-
  Walks: the law BinsLoads, from what package bins is to do.
-/
import Derived.Test.YtdnmeninglfhlaaGreatDoorK6
namespace Go.Proofs.YtdnmeninglfhlaaGreatDoor
set_option linter.unusedVariables false
set_option linter.unusedSimpArgs false
open Go.RowKit

theorem load_kept_low {m : Int} {R : List PairV} (h1 : 1 ≤ m) (hg : GoodP R) (ho : ∀ p, p ∈ R → okP p) (hs : sumP R ≤ 9223372036854775807) : loadB m (keepP m R) (sumP R - sumP (keepP m R)) = true := by
  have e1 : goodB (keepP m R) = true := goodB_true.2 (keep_good hg)
  have e2 := keep_len (m := m) (L := R) (by omega) hg
  have e3 : keepP m R = [] → sumP R - sumP (keepP m R) = 0 := fun h => by
    by_cases hR : R = []
    · subst hR; rfl
    · exact absurd h (keep_ne (by omega) hR)
  have e5 : keepP m R ≠ [] → endP (keepP m R) - (firP (keepP m R)).1 < m := fun hne => by
    have hR : R ≠ [] := by rintro rfl; exact hne rfl
    rw [keep_end (by omega) hg hR]
    have hm : (firP (keepP m R)) ∈ keepP m R := by
      cases hk : keepP m R with
      | nil => exact absurd hk hne
      | cons a b => show a ∈ a :: b; simp
    have := (keep_mem hm).2
    omega
  unfold loadB
  rw [e1, decide_eq_true e2, decide_eq_true e3, decide_eq_true e5, decide_eq_true (show sumP (keepP m R) + (sumP R - sumP (keepP m R)) ≤ 9223372036854775807 by omega)]
  rfl
theorem load_kept_high {m : Int} {R : List PairV} (h1 : 1 ≤ m) (hg : GoodP R) (ho : ∀ p, p ∈ R → okP p) (hs : sumP R ≤ 9223372036854775807) : loadB m (keepH m R) (sumP R - sumP (keepH m R)) = true := by
  have e1 : goodB (keepH m R) = true := goodB_true.2 (keeph_good hg)
  have e2 := keeph_len (m := m) (L := R) (by omega) hg
  have e3 : keepH m R = [] → sumP R - sumP (keepH m R) = 0 := fun h => by
    by_cases hR : R = []
    · subst hR; rfl
    · exact absurd h (keeph_ne (by omega) hR)
  have e5 : keepH m R ≠ [] → endP (keepH m R) - (firP (keepH m R)).1 < m := fun hne => by
    have hR : R ≠ [] := by rintro rfl; exact hne rfl
    have h2 : (firP (keepH m R)).1 = begP R := keeph_beg (by omega) hg hR
    obtain ⟨p, hp, e⟩ := end_mem hne
    have := (keeph_mem hp).2
    omega
  unfold loadB
  rw [e1, decide_eq_true e2, decide_eq_true e3, decide_eq_true e5, decide_eq_true (show sumP (keepH m R) + (sumP R - sumP (keepH m R)) ≤ 9223372036854775807 by omega)]
  rfl
theorem load_keeps (s : Bool) {m : Int} {R : List PairV} (h1 : 1 ≤ m) (hg : GoodP R) (ho : ∀ p, p ∈ R → okP p) (hs : sumP R ≤ 9223372036854775807) : loadB m (keepS s m R) (sumP R - sumP (keepS s m R)) = true := by
  unfold keepS; split
  · exact load_kept_high h1 hg ho hs
  · exact load_kept_low h1 hg ho hs
theorem row_mem {P : Pt} (hP : P.ok) (b : Bool) {A : List PairV} (h : FineV A) (hl : A.length ≤ 1000) {p : PairV} (hp : p ∈ rowV P b A) : 0 ≤ p.1 ∧ (P.rep p.1 == 0) = false := by
  have S := row_sum50 hP b h hl
  have h1 := mem_count S.good hp
  rw [row_count hP b h hl] at h1
  have : ∃ v, v ∈ A ∧ (sideV b v.1 && (P.idx (mag v.1) == p.1)) = true := by
    by_cases hc : ∃ v, v ∈ A ∧ (sideV b v.1 && (P.idx (mag v.1) == p.1)) = true
    · exact hc
    · exfalso
      have e : cntV (fun x => sideV b x && (P.idx (mag x) == p.1)) A = 0 := by
        unfold cntV
        rw [List.filter_eq_nil_iff.2 (fun v hv hh => hc ⟨v, hv, hh⟩)]; rfl
      omega
  obtain ⟨v, hv, hh⟩ := this
  simp only [Bool.and_eq_true, beq_iff_eq] at hh
  have h0 : v.1 ≠ 0 := by
    intro e
    have := hh.1
    unfold sideV at this; rw [e] at this; simp at this
  obtain ⟨m1, m2⟩ := mag_in (h v hv).1 h0
  have := pt_idx hP m1 m2
  rw [hh.2] at this
  exact ⟨this.1, by simp; omega⟩
theorem fits_self {P : Pt} (hP : P.ok) (s : Bool) {m : Int} (m1 : 1 ≤ m) {A : List PairV} (h : FineV A) (hl : A.length ≤ 1000) :
    fitsSt P s m (stV P s m A).k1 ((stV P s m A).t1 - sumP (stV P s m A).k1) (stV P s m A).k2 ((stV P s m A).t2 - sumP (stV P s m A).k2) (stV P s m A).z = true := by
  have S1 := row_sum50 hP true h hl
  have S2 := row_sum50 hP false h hl
  have hs := sides_all hP h hl
  have hf := fine_fit h hl
  have n1 : 0 ≤ sumP (rowV P true A) := sumP_pos (ok_pos S1.ok)
  have n2 : 0 ≤ sumP (rowV P false A) := sumP_pos (ok_pos S2.ok)
  have z0 : 0 ≤ zeroV A := cnt_bd (fine_pos h)
  have b1 := load_keeps s m1 S1.good S1.ok (by omega)
  have b2 := load_keeps s m1 S2.good S2.ok (by omega)
  have a : ∀ b, ((keepS s m (rowV P b A)).all fun p => decide (0 ≤ p.1) && !(P.rep p.1 == 0)) = true := fun b => List.all_eq_true.2 fun p hp => by
    obtain ⟨q1, q2⟩ := row_mem hP b h hl (keeps_mem hp)
    rw [q2, decide_eq_true q1]; rfl
  unfold fitsSt
  show (((keepS s m (rowV P true A)).all fun p => decide (0 ≤ p.1) && !(P.rep p.1 == 0)) && ((keepS s m (rowV P false A)).all fun p => decide (0 ≤ p.1) && !(P.rep p.1 == 0)) && loadB m (keepS s m (rowV P true A)) (sumP (rowV P true A) - sumP (keepS s m (rowV P true A))) && loadB m (keepS s m (rowV P false A)) (sumP (rowV P false A) - sumP (keepS s m (rowV P false A))) && decide (sumP (keepS s m (rowV P true A)) + (sumP (rowV P true A) - sumP (keepS s m (rowV P true A))) + (sumP (keepS s m (rowV P false A)) + (sumP (rowV P false A) - sumP (keepS s m (rowV P false A)))) + zeroV A ≤ 9223372036854775807)) = true
  rw [a true, a false, b1, b2, decide_eq_true (by omega)]; rfl
theorem load_self (P : Pt) (s : Bool) (m : Int) (A : List PairV) : loadSt (stV P s m A).k1 ((stV P s m A).t1 - sumP (stV P s m A).k1) (stV P s m A).k2 ((stV P s m A).t2 - sumP (stV P s m A).k2) (stV P s m A).z = stV P s m A := by
  unfold loadSt
  have e1 : sumP (stV P s m A).k1 + ((stV P s m A).t1 - sumP (stV P s m A).k1) = (stV P s m A).t1 := by omega
  have e2 : sumP (stV P s m A).k2 + ((stV P s m A).t2 - sumP (stV P s m A).k2) = (stV P s m A).t2 := by omega
  rw [e1, e2]
theorem lost_bd13 {P : Pt} (hP : P.ok) (s : Bool) (m : Int) {A : List PairV} (h : FineV A) (hl : A.length ≤ 1000) :
    0 ≤ (stV P s m A).t1 - sumP (stV P s m A).k1 ∧ 0 ≤ (stV P s m A).t2 - sumP (stV P s m A).k2 ∧ (stV P s m A).t1 - sumP (stV P s m A).k1 + ((stV P s m A).t2 - sumP (stV P s m A).k2) + (stV P s m A).z ≤ sumP A := by
  have S1 := row_sum50 hP true h hl
  have S2 := row_sum50 hP false h hl
  have g1 := keeps_sum s m (ok_pos S1.ok)
  have g2 := keeps_sum s m (ok_pos S2.ok)
  have := sides_all hP h hl
  show 0 ≤ sumP (rowV P true A) - sumP (keepS s m (rowV P true A)) ∧ 0 ≤ sumP (rowV P false A) - sumP (keepS s m (rowV P false A)) ∧ sumP (rowV P true A) - sumP (keepS s m (rowV P true A)) + (sumP (rowV P false A) - sumP (keepS s m (rowV P false A))) + zeroV A ≤ sumP A
  omega
theorem step3 {P : Pt} (hP : P.ok) (s : Bool) {m : Int} (hm : 0 < m) {A : List PairV} (h : FineV A) (hl : A.length ≤ 60) {x : Int} (hx : I64 x) :
    FineV (A ++ [(x, 3)]) ∧ binErr (stV P s m A) 3 = 0 ∧ binSt P s m (stV P s m A) x 3 = stV P s m (A ++ [(x, 3)]) := by
  have hf := fine_fit h (by omega)
  have hsum := fine_sum h
  have hb : sumP A ≤ 60 * 1125899906842624 := by
    have : (A.length : Int) * 1125899906842624 ≤ 60 * 1125899906842624 := Int.mul_le_mul_of_nonneg_right (by omega) (by omega)
    omega
  have he : binErr (stV P s m A) 3 = 0 := by unfold binErr lwErr; rw [stv_all hP s m h (by omega), if_neg (by decide), if_neg (by omega)]
  refine ⟨fine_app h fun v hv => ?_, he, ?_⟩
  · have : v = (x, 3) := by simpa using hv
    subst this; exact ⟨hx, by show (0 : Int) < 3; decide, by show (3 : Int) ≤ 1125899906842624; decide⟩
  · unfold binSt; rw [if_pos he]
    exact (stv_snoc hP s hm h (by omega) (v := (x, 3)) ⟨hx, by show (0 : Int) < 3; decide, by show (3 : Int) ≤ 1125899906842624; decide⟩).symm

set_option maxRecDepth 100000 in
set_option maxHeartbeats 8000000 in
theorem bins_loads_walk {Bn : BnT} (D : BinsDoes Bn) (w : World) (u v dg sd m : Int) (A : List PairV) (a : Option Addr) (cap : Nat) (x : Int) (ar : Option Addr) (capr : Nat) (L : List PairV) (l z : Int) (wu : Word u) (wv : Word v) (wd : I64 dg) (ws : I64 sd) (wm : I64 m) (hl : A.length ≤ 140737488351232) (wx : I64 x) (hR : Pairs w ar L) (hlr : L.length ≤ 140737488351232) (wl : Word l) (wz : Word z) (hA : Pairs w a A) (ht : Tens w) :
    Calls Tryz.prog 7 #[.agg #[.int .u64 u, .int .u64 v, .int .i64 dg, .int .i64 sd, .int .i64 m, .slice a A.length cap], .int .i64 x, .slice ar L.length capr, .int .u64 l, .int .u64 z] w fun e w' => e = .returned (.bool true) ∧ Below w.heap.size w w' := by
  have HD := Lib.hid D
  have BC := ((Below.refl w.heap.size w).alloc (Nat.le_refl _) (.cells #[.int .u64 u, .int .u64 v, .int .i64 dg, .int .i64 sd, .int .i64 m, .slice a A.length cap] 27))
  have hcs := case_new w u v dg sd m a A.length cap 27
  have HTN := Lib.hid (ht.call BC)
  have HA := Lib.hid hA
  have HR := Lib.hid hR
  have HXI := Lib.hid wx
  have HWL := Lib.hid wl
  have HWZ := Lib.hid wz
  obtain ⟨l0, l1⟩ := wl
  obtain ⟨z0, z1⟩ := wz
  have HBD := Lib.hid (fun W hW hp => build13_any D W u v dg sd m A a cap hW wu wv wd ws wm hp hl)
  have hsz : (w.alloc (.cells #[.int .u64 u, .int .u64 v, .int .i64 dg, .int .i64 sd, .int .i64 m, .slice a A.length cap] 27)).heap.size = w.heap.size + 1 := by simp
  obtain ⟨ln, hln⟩ : ∃ ln : Nat, A.length = ln := ⟨_, rfl⟩
  obtain ⟨lr, hlr'⟩ : ∃ lr : Nat, L.length = lr := ⟨_, rfl⟩
  have HLN := Lib.hid hln
  have HLR := Lib.hid hlr'
  rw [hln] at hcs HBD BC hsz HTN ⊢
  rw [hlr'] at hlr ⊢
  clear ht hA hl D hR hln hlr' wx
  go_enter Tryz.func7, Tryz.ntmps7
  go_wp2_with fail
  generalize (w.alloc (.cells #[.int .u64 u, .int .u64 v, .int .i64 dg, .int .i64 sd, .int .i64 m, .slice a ln cap] 27)) = wC at *
  refine (alive13_any HD.out wC HTN.out).mono ?_
  rintro e w2 ⟨rfl, hb2⟩
  have hc2 := hcs.call hb2
  obtain ⟨p0, p1, p2, p3, p4, p5⟩ := hc2
  have b2 := BC.trans (hb2.mono (by omega))
  have HT2 := Lib.hid (HTN.out.call hb2)
  have hz2 : w.heap.size + 1 ≤ w2.heap.size := by have := hb2.size; omega
  clear hcs hb2
  go_wp2_with fail
  refine (HBD.out w2 HT2.out (HA.out.call b2)).mono ?_
  rintro e w3 (⟨B, S, R, M, P, s, n, rfl, hsi, hP, hof, m1, m2, hf, hl, hbn, hrk, hsr, hn1, hn2, d0, d4, hb3, _, _⟩ | ⟨rfl, hb3⟩)
  case inr =>
    have b3 := b2.trans (hb3.mono b2.size)
    go_wp2_with fail
    go_ret
    exact ⟨rfl, b3⟩
  have b3 := b2.trans (hb3.mono b2.size)
  by_cases hr60 : 60 < lr
  · have hr60' : (60 : Int) < lr := by omega
    go_wp2_with fail
    go_ret
    exact ⟨rfl, b3⟩
  have hr60' : ¬ (60 : Int) < lr := by omega
  have p0 := cell_later hb3 p0
  have p1 := cell_later hb3 p1
  have p2 := cell_later hb3 p2
  have p3 := cell_later hb3 p3
  have p4 := cell_later hb3 p4
  have p5 := cell_later hb3 p5
  have HT3 := Lib.hid (HT2.out.call hb3)
  have HEM := Lib.hid (empty13_any HD.out w3 u v dg m s P a ln cap HT3.out hP hof d0 d4 m1 m2)
  rw [hsi] at HEM
  have hsl := stv_len hP s m hf (by omega)
  have hk1 : ∀ p, p ∈ (stV P s m A).k1 → okP p := keeps_ok (row_sum50 hP true hf (by omega)).ok
  have hk2 : ∀ p, p ∈ (stV P s m A).k2 → okP p := keeps_ok (row_sum50 hP false hf (by omega)).ok
  have HFS := Lib.hid (fits_self hP s m1 hf (by omega))
  have HLS := Lib.hid (load_self P s m A)
  obtain ⟨hf3, he3, hs3⟩ := step3 hP s (show 0 < m by omega) hf (by omega) HXI.out
  have hsl3 := stv_len hP s m hf3 (by rw [List.length_append]; simp; omega)
  have hln3 : (A ++ [(x, 3)]).length ≤ 61 := by rw [List.length_append]; simp; omega
  have hk31 : ∀ p, p ∈ (stV P s m (A ++ [(x, 3)])).k1 → okP p := keeps_ok (row_sum50 hP true hf3 (by omega)).ok
  have hk32 : ∀ p, p ∈ (stV P s m (A ++ [(x, 3)])).k2 → okP p := keeps_ok (row_sum50 hP false hf3 (by omega)).ok
  have lb := lost_bd13 hP s m hf (by omega)
  have hok := (HD.out.ok _ _ _ _ _ _ _ _ hbn).2.1
  have hall := stv_all hP s m hf (by omega)
  have hfit := fine_fit hf (by omega)
  have hall3 := stv_all hP s m hf3 (by omega)
  have hfit3 := fine_fit hf3 (by omega)
  have h03 := (fine_sum hf3).1
  obtain ⟨st, hst⟩ : ∃ st, stV P s m A = st := ⟨_, rfl⟩
  obtain ⟨st3, hst3⟩ : ∃ st3, stV P s m (A ++ [(x, 3)]) = st3 := ⟨_, rfl⟩
  have HRK := Lib.hid hrk
  have HSAME := Lib.hid (fun W B' S' R' (hB : Bn W B' S' R' P s m (stV P s m A)) (hr : RefN W M P s m A) => same13_any HD.out W B' M S' R' P s m A hB hr hf (by omega) m1 m2)
  rw [hst] at hbn hsl hk1 hk2 HFS HLS he3 hs3 lb hok HSAME hall
  rw [hst3] at hs3 hsl3 hk31 hk32 hall3
  have HBN := Lib.hid hbn
  have HSR := Lib.hid hsr
  have HK1 := Lib.hid hk1
  have HK2 := Lib.hid hk2
  have HK31 := Lib.hid hk31
  have HK32 := Lib.hid hk32
  have HE3 := Lib.hid he3
  have HS3 := Lib.hid hs3
  have HSL := Lib.hid hsl
  have HSL3 := Lib.hid (And.intro hsl3 hln3)
  have HLB := Lib.hid lb
  have HZ := Lib.hid hok.z
  obtain ⟨T3, hT3⟩ : ∃ T3, sumP (A ++ [(x, 3)]) = T3 := ⟨_, rfl⟩
  rw [hT3] at hall3 hfit3 h03
  have HALL3 := Lib.hid hall3
  have HALL := Lib.hid (And.intro hall hfit)
  have HRK3 := Lib.hid (HRK.out.call (Below.refl _ _) hn2)
  have HSLT := Lib.hid (HD.out.lt _ _ _ _ _ _ _ _ hbn)
  clear hbn hrk hsr hf hf3 hk1 hk2 hk31 hk32 he3 hs3 hsl hsl3 hln3 lb hok hall hfit hall3 hst hst3 hT3 hP hof hsi HT2 HBD HRK hb3
  go_wp2_with fail
  refine HEM.out.mono ?_
  rintro e w4 ⟨B', S', R', rfl, hbn', hsr', hb4⟩
  have b4 := b3.trans (hb4.mono b3.size)
  have HBN4 := Lib.hid (HD.out.call HBN.out hb4)
  have HRK4 := Lib.hid (HRK3.out.call hb4 hn2)
  have HBN' := Lib.hid hbn'
  have HSR' := Lib.hid hsr'
  have hz4 := hb4.size
  clear hbn' hsr' hb4 p0 p1 p2 p3 p4 p5 HBN HRK3 HEM HT3
  go_wp2_with fail
  refine (HD.out.rows w4 B S R P s m st HBN4.out (by have := HSL.out; omega) (by have := HSL.out; omega)).mono ?_
  rintro e w5 ⟨v1, v2, rfl, ho1, ho2, hb5⟩
  have b5 := b4.trans (hb5.mono b4.size)
  have HBN5 := Lib.hid (HD.out.call HBN4.out hb5)
  have HBN5' := Lib.hid (HD.out.call HBN'.out hb5)
  have HRK5 := Lib.hid (HRK4.out.call hb5 (by omega))
  obtain ⟨x1, c1, rfl, hp1⟩ := ho1.pairs HK1.out
  obtain ⟨x2, c2, rfl, hp2⟩ := ho2.pairs HK2.out
  have P1 := Lib.hid hp1
  have P2 := Lib.hid hp2
  have hz5 := hb5.size
  clear ho1 ho2 hp1 hp2 hb5 HBN4 HBN' HRK4
  go_wp2_with fail
  refine (HD.out.lost w5 B S R P s m st HBN5.out).mono ?_
  rintro e w6 ⟨rfl, hb6⟩
  have b6 := b5.trans (hb6.mono b5.size)
  have HBN6 := Lib.hid (HD.out.call HBN5.out hb6)
  have HBN6' := Lib.hid (HD.out.call HBN5'.out hb6)
  have HRK6 := Lib.hid (HRK5.out.call hb6 (by omega))
  have P1 := Lib.hid (P1.out.call hb6)
  have P2 := Lib.hid (P2.out.call hb6)
  have hz6 := hb6.size
  clear hb6 HBN5 HBN5' HRK5
  go_wp2_with fail
  refine (HD.out.zero w6 B S R P s m st HBN6.out).mono ?_
  rintro e w7 ⟨rfl, hb7⟩
  have b7 := b6.trans (hb7.mono b6.size)
  have HBN7 := Lib.hid (HD.out.call HBN6.out hb7)
  have HBN7' := Lib.hid (HD.out.call HBN6'.out hb7)
  have HRK7 := Lib.hid (HRK6.out.call hb7 (by omega))
  have P1 := Lib.hid (P1.out.call hb7)
  have P2 := Lib.hid (P2.out.call hb7)
  have hz7 := hb7.size
  clear hb7 HBN6 HBN6' HRK6
  have HLD := Lib.hid (HD.out.load w7 B' S' R' P s m stNil x1 x2 c1 c2 st.k1 st.k2 (st.t1 - sumP st.k1) (st.t2 - sumP st.k2) st.z HBN7'.out P1.out P2.out (by have := HSL.out; omega) (by have := HSL.out; omega) ⟨by have := HLB.out; omega, by have := HLB.out; have := HALL.out; have := HZ.out; omega⟩ ⟨by have := HLB.out; omega, by have := HLB.out; have := HALL.out; have := HZ.out; omega⟩ ⟨HZ.out, by have := HLB.out; have := HALL.out; omega⟩ HFS.out)
  rw [HLS.out] at HLD
  go_wp2_with fail
  refine HLD.out.mono ?_
  rintro e w8 ⟨SD, rfl, hbd, hk8, hSD⟩
  have b8 : Below w.heap.size w w8 := hk8.below b7 b7.size (fun i hi => by have := HSR'.out i (Or.inl hi); omega)
  have hdis : ∀ k, S k ∨ R k → ¬ S' k := fun k h1 h2 => by have := HSLT.out k h1; have := HSR'.out k (Or.inl h2); omega
  have HBD8 := Lib.hid hbd
  have HBN8 := Lib.hid (HD.out.past HBN7.out hk8 hdis)
  have HRK8 := Lib.hid (HRK7.out.past hk8 (fun k hk => by have := HSR'.out k (Or.inl hk); omega) (by omega))
  have HSD : Hid (∀ k, SD k ∨ R' k → w3.heap.size ≤ k) := Lib.hid (fun k hk => by
    rcases hk with h | h
    · rcases hSD k h with h | h
      · exact HSR'.out k (Or.inl h)
      · omega
    · exact HSR'.out k (Or.inr h))
  have hz8 := hk8.size
  clear hbd hk8 hSD hdis HLD HLS HFS HBN7 HBN7' HRK7 P1 P2
  go_wp2_with fail
  refine (HSAME.out w8 B' SD R' HBD8.out HRK8.out.ref).mono ?_
  rintro e w9 ⟨rfl, hb9⟩
  have b9 := b8.trans (hb9.mono b8.size)
  have HBN9 := Lib.hid (HD.out.call HBN8.out hb9)
  have HBD9 := Lib.hid (HD.out.call HBD8.out hb9)
  have hz9 := hb9.size
  clear hb9 HBN8 HBD8 HSAME
  have HAD := Lib.hid (HD.out.add w9 B' SD R' P s m st x 3 HBD9.out (by have := HSL.out; omega) (by have := HSL.out; omega) HXI.out ⟨by decide, by decide⟩)
  rw [HE3.out, HS3.out] at HAD
  go_wp2_with fail
  refine HAD.out.mono ?_
  rintro e w10 ⟨SD2, rfl, hbd, hk10, hSD2⟩
  have b10 : Below w.heap.size w w10 := hk10.below b9 b9.size (fun i hi => by have := HSD.out i (Or.inl hi); omega)
  have HBD10 := Lib.hid hbd
  have HBN10 := Lib.hid (HD.out.past HBN9.out hk10 (fun k h1 h2 => by have := HSLT.out k h1; have := HSD.out k (Or.inl h2); omega))
  have HSD2 : Hid (∀ k, SD2 k ∨ R' k → w3.heap.size ≤ k) := Lib.hid (fun k hk => by
    rcases hk with h | h
    · rcases hSD2 k h with h | h
      · exact HSD.out k (Or.inl h)
      · omega
    · exact HSD.out k (Or.inr h))
  have hz10 := hk10.size
  clear hbd hk10 hSD2 HAD HBN9 HBD9
  have HAB := Lib.hid (HD.out.add w10 B S R P s m st x 3 HBN10.out (by have := HSL.out; omega) (by have := HSL.out; omega) HXI.out ⟨by decide, by decide⟩)
  rw [HE3.out, HS3.out] at HAB
  go_wp2_with fail
  refine HAB.out.mono ?_
  rintro e w11 ⟨SB, rfl, hbn, hk11, hSB⟩
  have b11 : Below w.heap.size w w11 := hk11.below b10 b10.size (fun i hi => by have := HSR.out i (Or.inl hi); omega)
  have HBN11 := Lib.hid hbn
  have HBD11 := Lib.hid (HD.out.past HBD10.out hk11 (fun k h1 h2 => by have := HSLT.out k (Or.inl h2); have := HSD2.out k h1; omega))
  have HSB : Hid (∀ k, SB k → w.heap.size ≤ k ∧ k < w11.heap.size) := Lib.hid (fun k hk => ⟨by
    rcases hSB k hk with h | h
    · have := HSR.out k (Or.inl h); omega
    · have := b10.size; omega, HD.out.lt _ _ _ _ _ _ _ _ hbn k (Or.inl hk)⟩)
  have hz11 := hk11.size
  clear hbn hk11 hSB HAB HBN10 HBD10
  go_wp2_with fail
  refine (HD.out.rows w11 B' SD2 R' P s m st3 HBD11.out (by have := HSL3.out; omega) (by have := HSL3.out; omega)).mono ?_
  rintro e w12 ⟨v1, v2, rfl, ho1, ho2, hb12⟩
  have b12 := b11.trans (hb12.mono b11.size)
  have HBN12 := Lib.hid (HD.out.call HBN11.out hb12)
  have HBD12 := Lib.hid (HD.out.call HBD11.out hb12)
  obtain ⟨x1, c1, rfl, hp1⟩ := ho1.pairs HK31.out
  obtain ⟨x2, c2, rfl, hp2⟩ := ho2.pairs HK32.out
  have U1 := Lib.hid hp1
  have U2 := Lib.hid hp2
  have hz12 := hb12.size
  clear ho1 ho2 hp1 hp2 hb12 HBN11 HBD11
  go_wp2_with fail
  refine (HD.out.rows w12 B SB R P s m st3 HBN12.out (by have := HSL3.out; omega) (by have := HSL3.out; omega)).mono ?_
  rintro e w13 ⟨v3, v4, rfl, ho3, ho4, hb13⟩
  have b13 := b12.trans (hb13.mono b12.size)
  have HBN13 := Lib.hid (HD.out.call HBN12.out hb13)
  have HBD13 := Lib.hid (HD.out.call HBD12.out hb13)
  have U1 := Lib.hid (U1.out.call hb13)
  have U2 := Lib.hid (U2.out.call hb13)
  obtain ⟨x3, c3, rfl, hp3⟩ := ho3.pairs HK31.out
  obtain ⟨x4, c4, rfl, hp4⟩ := ho4.pairs HK32.out
  have U3 := Lib.hid hp3
  have U4 := Lib.hid hp4
  have hz13 := hb13.size
  clear ho3 ho4 hp3 hp4 hb13 HBN12 HBD12
  have HSM1 := Lib.hid (fun W a1 k1 a2 k2 (h1 : Pairs W a1 st3.k1) (h2 : Pairs W a2 st3.k1) => same_any W a1 a2 k1 k2 st3.k1 st3.k1 true (by simp) h1 h2 (by have := HSL3.out; omega) (by have := HSL3.out; omega))
  have HSM2 := Lib.hid (fun W a1 k1 a2 k2 (h1 : Pairs W a1 st3.k2) (h2 : Pairs W a2 st3.k2) => same_any W a1 a2 k1 k2 st3.k2 st3.k2 true (by simp) h1 h2 (by have := HSL3.out; omega) (by have := HSL3.out; omega))
  go_wp2_with fail
  refine (HSM1.out _ _ _ _ _ U1.out U3.out).mono ?_
  rintro e w14 ⟨rfl, hb14⟩
  have b14 := b13.trans (hb14.mono b13.size)
  have U1 := Lib.hid (U1.out.call hb14)
  have U2 := Lib.hid (U2.out.call hb14)
  have U4 := Lib.hid (U4.out.call hb14)
  have HBN14 := Lib.hid (HD.out.call HBN13.out hb14)
  have HBD14 := Lib.hid (HD.out.call HBD13.out hb14)
  have hz14 := hb14.size
  clear hb14 HBN13 HBD13 U3
  go_wp2_with fail
  refine (HSM2.out _ _ _ _ _ U2.out U4.out).mono ?_
  rintro e w15 ⟨rfl, hb15⟩
  have b15 := b14.trans (hb15.mono b14.size)
  have U1 := Lib.hid (U1.out.call hb15)
  have U2 := Lib.hid (U2.out.call hb15)
  have HBN15 := Lib.hid (HD.out.call HBN14.out hb15)
  have HBD15 := Lib.hid (HD.out.call HBD14.out hb15)
  have hz15 := hb15.size
  clear hb15 HBN14 HBD14 U4
  have HT1 := Lib.hid (fun W (h : Bn W B' SD2 R' P s m st3) => HD.out.total W B' SD2 R' P s m st3 h (by have := HSL3.out; omega) (by have := HSL3.out; omega))
  have HT2 := Lib.hid (fun W (h : Bn W B SB R P s m st3) => HD.out.total W B SB R P s m st3 h (by have := HSL3.out; omega) (by have := HSL3.out; omega))
  rw [HALL3.out] at HT1 HT2
  have htt : (T3 == T3) = true := by simp
  go_wp2_with fail
  refine (HT1.out _ HBD15.out).mono ?_
  rintro e w16 ⟨rfl, hb16⟩
  have b16 := b15.trans (hb16.mono b15.size)
  have U1 := Lib.hid (U1.out.call hb16)
  have U2 := Lib.hid (U2.out.call hb16)
  have HBN16 := Lib.hid (HD.out.call HBN15.out hb16)
  have hz16 := hb16.size
  clear hb16 HBN15 HBD15
  go_wp2_with fail
  refine (HT2.out _ HBN16.out).mono ?_
  rintro e w17 ⟨rfl, hb17⟩
  have b17 := b16.trans (hb17.mono b16.size)
  have U1 := Lib.hid (U1.out.call hb17)
  have U2 := Lib.hid (U2.out.call hb17)
  have HBN17 := Lib.hid (HD.out.call HBN16.out hb17)
  have hz17 := hb17.size
  clear hb17 HBN16
  go_wp2_with fail
  refine (HT2.out _ HBN17.out).mono ?_
  rintro e w18 ⟨rfl, hb18⟩
  have b18 := b17.trans (hb18.mono b17.size)
  have U1 := Lib.hid (U1.out.call hb18)
  have U2 := Lib.hid (U2.out.call hb18)
  have HBN18 := Lib.hid (HD.out.call HBN17.out hb18)
  have hz18 := hb18.size
  clear hb18 HBN17
  have HRW := Lib.hid (HR.out.call b18)
  by_cases hfb : fitsSt P s m [] 0 L l z = true
  · have HLD := Lib.hid (HD.out.load w18 B SB R P s m st3 none ar 0 capr [] L 0 l z HBN18.out ⟨fun p h => (by cases h), fun i p h => by simp at h⟩ HRW.out (by decide) (by have := HLR.out; omega) ⟨by decide, by decide⟩ HWL.out HWZ.out hfb)
    have e0 : ([] : List PairV).length = 0 := rfl
    rw [HLR.out, e0] at HLD
    obtain ⟨f1, f2, f3⟩ : goodB L = true ∧ 0 ≤ sumP L ∧ sumP L + l + z ≤ 9223372036854775807 := by
      unfold fitsSt at hfb
      simp only [Bool.and_eq_true, decide_eq_true_eq] at hfb
      have hb := hfb.1.2
      unfold loadB at hb
      simp only [Bool.and_eq_true, decide_eq_true_eq] at hb
      have h0 : sumP ([] : List PairV) = 0 := rfl
      have h5 := hfb.2
      rw [h0] at h5
      exact ⟨hb.1.1.1.1, sumP_pos (ok_pos HR.out.ok), by omega⟩
    obtain ⟨N, hN⟩ : ∃ N, sumP L = N := ⟨_, rfl⟩
    rw [hN] at f2 f3
    have hal : (loadSt [] 0 L l z).all = N + l + z := by show (0 : Int) + 0 + (sumP L + l) + z = _; rw [hN]; omega
    have HALN := Lib.hid hal
    have HGD := Lib.hid (fun W a k (h : Pairs W a L) => rgood_row W a k L true f1 h (by have := HLR.out; omega))
    have HTL := Lib.hid (fun W a k (h : Pairs W a L) => rtotal_any W a k L N h (by have := HLR.out; omega) hN (by omega))
    have HSML := Lib.hid (fun W a1 k1 a2 k2 (h1 : Pairs W a1 L) (h2 : Pairs W a2 L) => same_any W a1 a2 k1 k2 L L true (by simp) h1 h2 (by have := HLR.out; omega) (by have := HLR.out; omega))
    rw [HLR.out] at HGD HTL HSML
    have hN1 : (N + l + z == N + l + z) = true := by simp
    have hz1 : (z == z) = true := by simp
    clear hfb e0 f1 hN hal
    go_wp2_with fail
    refine HLD.out.mono ?_
    rintro e w19 ⟨SL, rfl, hbn19, hk19, hSL⟩
    have b19 : Below w.heap.size w w19 := hk19.below b18 b18.size (fun i hi => (HSB.out i hi).1)
    have HBN19 := Lib.hid hbn19
    clear hbn19 hk19 hSL HLD HBN18 U1 U2
    go_wp2_with fail
    refine (HD.out.rows w19 B SL R P s m (loadSt [] 0 L l z) HBN19.out (by show 0 ≤ 500; omega) (by show L.length ≤ 500; have := HLR.out; omega)).mono ?_
    rintro e w20 ⟨v5, v6, rfl, ho5, ho6, hb20⟩
    have b20 := b19.trans (hb20.mono b19.size)
    have HBN20 := Lib.hid (HD.out.call HBN19.out hb20)
    have ho6' : OwnP w20 w19.heap.size v6 L := ho6
    have ho5' : OwnP w20 w19.heap.size v5 [] := ho5
    obtain ⟨x6, c6, rfl, hp6⟩ := ho6'.pairs HR.out.ok
    obtain ⟨x5, c5, rfl⟩ := ho5'.form
    rw [HLR.out]
    have U6 := Lib.hid hp6
    have HR20 := Lib.hid (HR.out.call b20)
    clear ho5 ho6 ho5' ho6' hp6 hb20 HBN19
    go_wp2_with fail
    refine (HGD.out _ _ _ HR20.out).mono ?_
    rintro e w21 ⟨rfl, hb21⟩
    have b21 := b20.trans (hb21.mono b20.size)
    have U6 := Lib.hid (U6.out.call hb21)
    have HR21 := Lib.hid (HR20.out.call hb21)
    have HBN21 := Lib.hid (HD.out.call HBN20.out hb21)
    clear hb21 HBN20 HR20
    go_wp2_with fail
    refine (HSML.out _ _ _ _ _ U6.out HR21.out).mono ?_
    rintro e w22 ⟨rfl, hb22⟩
    have b22 := b21.trans (hb22.mono b21.size)
    have HR22 := Lib.hid (HR21.out.call hb22)
    have HBN22 := Lib.hid (HD.out.call HBN21.out hb22)
    clear hb22 HBN21 HR21
    have HZC := Lib.hid (HD.out.zero w22 B SL R P s m (loadSt [] 0 L l z) HBN22.out)
    have ezz : (loadSt [] 0 L l z).z = z := rfl
    rw [ezz] at HZC
    clear ezz
    go_wp2_with fail
    refine HZC.out.mono ?_
    rintro e w23 ⟨rfl, hb23⟩
    have b23 := b22.trans (hb23.mono b22.size)
    have HR23 := Lib.hid (HR22.out.call hb23)
    have HBN23 := Lib.hid (HD.out.call HBN22.out hb23)
    clear hb23 HBN22 HR22 HZC
    have HTC := Lib.hid (HD.out.total w23 B SL R P s m (loadSt [] 0 L l z) HBN23.out (by show 0 ≤ 500; omega) (by show L.length ≤ 500; have := HLR.out; omega))
    rw [HALN.out] at HTC
    go_wp2_with fail
    refine HTC.out.mono ?_
    rintro e w24 ⟨rfl, hb24⟩
    have b24 := b23.trans (hb24.mono b23.size)
    have HR24 := Lib.hid (HR23.out.call hb24)
    clear hb24 HBN23 HR23 HTC
    go_wp2_with fail
    refine (HTL.out _ _ _ HR24.out).mono ?_
    rintro e w25 ⟨rfl, hb25⟩
    have b25 := b24.trans (hb25.mono b24.size)
    go_wp2_with fail
    go_ret
    exact ⟨rfl, b25⟩
  · have hfb : fitsSt P s m [] 0 L l z = false := by simpa using hfb
    have HUF := Lib.hid (HD.out.unfit w18 B SB R P s m st3 none ar 0 capr [] L 0 l z HBN18.out ⟨fun p h => (by cases h), fun i p h => by simp at h⟩ HRW.out (by decide) (by have := HLR.out; omega) ⟨by decide, by decide⟩ HWL.out HWZ.out hfb)
    have e0 : ([] : List PairV).length = 0 := rfl
    rw [HLR.out, e0] at HUF
    clear hfb e0
    go_wp2_with fail
    refine HUF.out.mono ?_
    rintro e w19 ⟨rfl, hb19⟩
    have b19 := b18.trans (hb19.mono b18.size)
    have U1 := Lib.hid (U1.out.call hb19)
    have U2 := Lib.hid (U2.out.call hb19)
    have HBN19 := Lib.hid (HD.out.call HBN18.out hb19)
    clear hb19 HBN18
    go_wp2_with fail
    refine (HD.out.rows w19 B SB R P s m st3 HBN19.out (by have := HSL3.out; omega) (by have := HSL3.out; omega)).mono ?_
    rintro e w20 ⟨v5, v6, rfl, ho5, ho6, hb20⟩
    have b20 := b19.trans (hb20.mono b19.size)
    have HBN20 := Lib.hid (HD.out.call HBN19.out hb20)
    have U1 := Lib.hid (U1.out.call hb20)
    have U2 := Lib.hid (U2.out.call hb20)
    obtain ⟨x5, c5, rfl, hp5⟩ := ho5.pairs HK31.out
    obtain ⟨x6, c6, rfl, hp6⟩ := ho6.pairs HK32.out
    have U5 := Lib.hid hp5
    have U6 := Lib.hid hp6
    clear ho5 ho6 hp5 hp6 hb20 HBN19
    go_wp2_with fail
    refine (HT2.out _ HBN20.out).mono ?_
    rintro e w21 ⟨rfl, hb21⟩
    have b21 := b20.trans (hb21.mono b20.size)
    have U1 := Lib.hid (U1.out.call hb21)
    have U2 := Lib.hid (U2.out.call hb21)
    have U5 := Lib.hid (U5.out.call hb21)
    have U6 := Lib.hid (U6.out.call hb21)
    clear hb21
    go_wp2_with fail
    refine (HSM1.out _ _ _ _ _ U1.out U5.out).mono ?_
    rintro e w22 ⟨rfl, hb22⟩
    have b22 := b21.trans (hb22.mono b21.size)
    have U2 := Lib.hid (U2.out.call hb22)
    have U6 := Lib.hid (U6.out.call hb22)
    clear hb22
    go_wp2_with fail
    refine (HSM2.out _ _ _ _ _ U2.out U6.out).mono ?_
    rintro e w23 ⟨rfl, hb23⟩
    have b23 := b22.trans (hb23.mono b22.size)
    go_wp2_with fail
    go_ret
    exact ⟨rfl, b23⟩
end Go.Proofs.YtdnmeninglfhlaaGreatDoor
