/-
  The law HighcapErrors, walked (written by wip/tools/gen_low_e.py).
-/
import Derived.Test.YtdblicfcfmfneaaK2
import Derived.BigQuiet
namespace Go.Proofs.Ytdblicfcfmfneaa
set_option linter.unusedVariables false
set_option linter.unusedSimpArgs false
open Go.RowKit

/-- Where a highcap and the reference's stand while additions are refused. -/
def ErrI (Hw : World → Nat → (Nat → Prop) → Int → List PairV → Int → Prop) (w : World) (n0 B : Nat) (m : Int) (R : List PairV) (M : Nat) (v : Value) (w' : World) : Prop :=
  ∃ S', SideH Hw n0 w' B S' m R M v ∧ Below n0 w w'
theorem erri_call {Hw : World → Nat → (Nat → Prop) → Int → List PairV → Int → Prop} (D : HighDoes Hw) {w : World} {n0 B : Nat} {m : Int} {R : List PairV} {M : Nat} {v : Value} {w' w'' : World} (h : ErrI Hw w n0 B m R M v w') (hn : n0 ≤ w.heap.size) (hb : Below w'.heap.size w' w'') : ErrI Hw w n0 B m R M v w'' := by
  obtain ⟨S', h1, h2⟩ := h
  exact ⟨S', h1.call D hb, h2.trans (hb.mono (Nat.le_trans hn h2.size))⟩
theorem erri_add {Hw : World → Nat → (Nat → Prop) → Int → List PairV → Int → Prop} (D : HighDoes Hw) {w : World} {n0 B : Nat} {m : Int} {R : List PairV} {M : Nat} {v : Value} {w' : World} (h : ErrI Hw w n0 B m R M v w') (hn : n0 ≤ w.heap.size) (hk : (keepH m R).length ≤ 700) {i c z : Int} (hi : I64 i) (hc : Word c) (hz : lwErr (sumP R) c = z) (hz0 : z ≠ 0) :
    Calls Try.prog 11 #[.pointer (some ⟨B, 0, none⟩), .int .i64 i, .int .u64 c] w' fun e w'' => e = .returned (.int .i64 z) ∧ ErrI Hw w n0 B m R M v w'' ∧ ∀ b o x, b = M ∨ b < n0 → w'.cell? ⟨b, o, none⟩ = some x → w''.cell? ⟨b, o, none⟩ = some x := by
  obtain ⟨S', h1, h2⟩ := h
  refine (D.add w' B S' m _ _ i c h1.st hk hi hc).mono ?_
  rintro e w'' ⟨S2, rfl, h3, k3, hs3⟩
  have e1 : hgRow m (keepH m R) (sumP R) i c = keepH m R := by unfold hgRow; rw [if_neg (by rw [hz]; exact hz0)]
  have e2 : lwSum (sumP R) c = sumP R := by unfold lwSum; rw [if_neg (by rw [hz]; exact hz0)]
  rw [e1, e2] at h3
  have hM := h1.rf.lt
  have hz2 := h2.size
  refine ⟨by rw [hz], ⟨S2, ⟨h3, h1.past k3, fun x hx => ?_, fun x hx => ?_, h1.mab⟩, k3.below h2 (Nat.le_trans hn hz2) h1.above⟩, fun b o x hb hx => k3.cell (fun hs => ?_) hx⟩
  · rcases hs3 x hx with a | a
    · exact h1.above x a
    · omega
  · rcases hs3 x hx with a | a
    · exact h1.apart x a
    · exact ⟨by omega, fun e => by have := (h1.rf.2.lt x e).2; omega⟩
  · rcases hb with rfl | hb
    · exact (h1.apart _ hs).1 rfl
    · have := h1.above b hs; omega
theorem refs_pairs {w : World} {M : Nat} {m : Int} {a : Option Addr} {n c : Nat} {A : List PairV} (h : RefS w M m (.slice a n c) A) (ho : ∀ p, p ∈ A → okP p) : Pairs w a A ∧ n = A.length := by
  obtain ⟨g, cap, e, hp, _⟩ := h.row ho
  injection e with e1 e2 e3
  subst e1
  exact ⟨hp, e2⟩

/-- All counts twice. -/
def dblP (p : PairV) : PairV := (p.1, 2 * p.2)
theorem dbl_count (L : List PairV) (j : Int) : countP (L.map dblP) j = 2 * countP L j := by
  induction L with
  | nil => rfl
  | cons p r ih =>
    rw [List.map_cons, count_cons, count_cons, ih]
    show (if p.1 = j then 2 * p.2 else 0) + _ = _
    split <;> omega
theorem dbl_sum (L : List PairV) : sumP (L.map dblP) = 2 * sumP L := by
  induction L with
  | nil => rfl
  | cons p r ih => rw [List.map_cons, sumP_cons, sumP_cons, ih]; show 2 * p.2 + _ = _; omega
theorem dbl_good {L : List PairV} (h : GoodP L) (hs : sumP L ≤ 4611686018427387903) : GoodP (L.map dblP) := by
  refine ⟨fun p hp => ?_, ?_⟩
  · obtain ⟨q, hq, rfl⟩ := List.mem_map.1 hp
    have h1 := h.1 q hq
    have h2 := mem_count h hq
    have h3 := count_le_sum (L := L) q.1 (fun p hp => by have := h.1 p hp; omega)
    have h4 : q.2 ≤ sumP L := by
      obtain ⟨X, Y, rfl⟩ := List.append_of_mem hq
      have hx : 0 ≤ sumP X := sumP_pos fun p hp => by have := h.1 p (List.mem_append_left _ hp); omega
      have hy : 0 ≤ sumP Y := sumP_pos fun p hp => by have := h.1 p (List.mem_append_right _ (List.mem_cons_of_mem _ hp)); omega
      rw [sumP_app, sumP_cons]; omega
    exact ⟨by show 1 ≤ 2 * q.2; omega, by show 2 * q.2 ≤ _; omega⟩
  · rw [List.pairwise_map]
    exact h.2.imp fun hpq => hpq
theorem dbl_ok {L : List PairV} (h : GoodP L) (ho : ∀ p, p ∈ L → okP p) (hs : sumP L ≤ 4611686018427387903) : ∀ p, p ∈ L.map dblP → okP p := by
  intro p hp
  have h1 := (dbl_good h hs).1 p hp
  obtain ⟨q, hq, rfl⟩ := List.mem_map.1 hp
  exact ⟨(ho q hq).1, by omega, by omega⟩
theorem dbl_join {m : Int} {L : List PairV} (hm : 0 < m) (hg : GoodP L) (ho : ∀ p, p ∈ L → okP p) (hs : sumP L ≤ 4611686018427387903) : keepH m (joinP (keepH m L) (keepH m L)) = keepH m (L.map dblP) := by
  have J := join_facts L L hg ho (good_each hg ho) (by omega)
  rw [keeph_join hm hg ho hg ho (by omega)]
  have e : joinP L L = L.map dblP := good_ext J.good (dbl_good hg hs) fun j => by rw [J.cnt, dbl_count]; omega
  rw [e]
/-- A row of which so many counts are doubled. -/
def dblTo (L : List PairV) (k : Nat) : List PairV := (L.take k).map dblP ++ L.drop k
theorem dblTo_zero (L : List PairV) : dblTo L 0 = L := by unfold dblTo; simp
theorem dblTo_len (L : List PairV) (k : Nat) (h : k ≤ L.length) : (dblTo L k).length = L.length := by unfold dblTo; simp; omega
theorem dblTo_all (L : List PairV) : dblTo L L.length = L.map dblP := by unfold dblTo; simp
theorem dblTo_at {L : List PairV} {k : Nat} {p : PairV} (h : L[k]? = some p) : (L.take k).map dblP ++ (p :: L.drop (k + 1)) = dblTo L k ∧ (L.take k).map dblP ++ (dblP p :: L.drop (k + 1)) = dblTo L (k + 1) ∧ (dblTo L k)[k]? = some p := by
  have hk : k < L.length := by
    rcases Nat.lt_or_ge k L.length with h' | h'
    · exact h'
    · rw [List.getElem?_eq_none h'] at h; cases h
  have hp : L[k] = p := by rw [List.getElem?_eq_getElem hk] at h; exact Option.some.inj h
  have hd : L.drop k = p :: L.drop (k + 1) := by rw [List.drop_eq_getElem_cons hk, hp]
  refine ⟨by unfold dblTo; rw [hd], ?_, ?_⟩
  · unfold dblTo
    rw [take_snocP h, List.map_append, List.append_assoc]; rfl
  · unfold dblTo
    rw [hd, List.getElem?_append_right (by simp; omega)]
    simp
    rw [Nat.min_eq_left (by omega), Nat.sub_self]; rfl

set_option maxRecDepth 100000 in
set_option maxHeartbeats 8000000 in
theorem lerrors_walk {Hw : World → Nat → (Nat → Prop) → Int → List PairV → Int → Prop} (D : HighDoes Hw) (N : HighNil) (w : World) (m : Int) (A : Option Addr) (cap : Nat) (L : List PairV) (px pc : Int) (hm : I64 m) (h : Pairs w A L) (hl : L.length ≤ 140737488351232) (hpx : I64 px) (hpc : Word pc) :
    Calls Try.prog 6 #[.int .i64 m, .slice A L.length cap, .agg #[.int .i64 px, .int .u64 pc]] w fun e w' => e = .returned (.bool true) ∧ Below w.heap.size w w' := by
  have HD := Lib.hid D
  have HN := Lib.hid N
  have HP := Lib.hid h
  have HPX := Lib.hid hpx
  have HPC := Lib.hid hpc
  obtain ⟨gb, hgb⟩ : ∃ b, grtB m L = b := ⟨_, rfl⟩
  have HGR : Hid (∀ w', Below w.heap.size w w' → Calls Try.prog 9 #[.int .i64 m, .slice A L.length cap] w' fun e w'' => e = .returned (.bool gb) ∧ Below w'.heap.size w' w'') := Lib.hid (fun w' hw => grt_any w' m A cap L gb (h.call hw) hl hm hgb)
  have HGB := Lib.hid hgb
  have HM := Lib.hid hm
  obtain ⟨m0, m1⟩ := hm
  obtain ⟨p0, p1⟩ := hpx
  obtain ⟨p2, p3⟩ := hpc
  have hbx : Below w.heap.size w (w.alloc (.cells #[.int .i64 px, .int .u64 pc] 34)) := (Below.refl _ _).alloc (Nat.le_refl _) _
  obtain ⟨q0, q1⟩ := two_new9 w (.int .i64 px) (.int .u64 pc) 34
  obtain ⟨wb, hwb⟩ : ∃ wb, w.alloc (.cells #[.int .i64 px, .int .u64 pc] 34) = wb := ⟨_, rfl⟩
  have hzb : wb.heap.size = w.heap.size + 1 := by rw [← hwb]; simp
  rw [hwb] at hbx q0 q1
  have HBX := Lib.hid hbx
  have Q0 := Lib.hid q0
  have Q1 := Lib.hid q1
  have HZB := Lib.hid hzb
  clear D N h hgb hbx hzb q0 q1
  have hcase : (1 ≤ m ∧ m ≤ 4096) ∨ (m < 1 ∨ 4096 < m) := by omega
  rcases hcase with ⟨n1, n2⟩ | hbad
  · go_enter Try.func6, Try.ntmps6
    go_wp2_with fail
    clear hwb
    refine (lalive_any HD.out _).mono ?_
    rintro e w0 ⟨rfl, b0⟩
    have HB0 := Lib.hid (HBX.out.trans (b0.mono HBX.out.size))
    have HBb := Lib.hid b0
    clear b0
    go_wp2_with fail
    refine (HD.out.new _ m n1 n2).mono ?_
    rintro e w1 ⟨B4, S4, rfl, h4, hs4, b1⟩
    have HB1 := Lib.hid (HB0.out.trans (b1.mono HB0.out.size))
    have HB1b := Lib.hid (HBb.out.trans (b1.mono HBb.out.size))
    clear b1 h4 hs4 HB0 HBb
    go_wp2_with fail
    refine (HN.out.find _ 1 ⟨by decide, by decide⟩).mono ?_
    rintro e w21 ⟨rfl, b21⟩
    have HB21 := Lib.hid (HB1.out.trans (b21.mono HB1.out.size))
    have HB21b := Lib.hid (HB1b.out.trans (b21.mono HB1b.out.size))
    clear b21 HB1 HB1b
    go_wp2_with fail
    refine (HN.out.below _ 1 ⟨by decide, by decide⟩).mono ?_
    rintro e w22 ⟨rfl, b22⟩
    have HB22 := Lib.hid (HB21.out.trans (b22.mono HB21.out.size))
    have HB22b := Lib.hid (HB21b.out.trans (b22.mono HB21b.out.size))
    clear b22 HB21 HB21b
    go_wp2_with fail
    refine (HN.out.add _ 1 1 ⟨by decide, by decide⟩ ⟨by decide, by decide⟩).mono ?_
    rintro e w23 ⟨rfl, b23⟩
    have HB23 := Lib.hid (HB22.out.trans (b23.mono HB22.out.size))
    have HB23b := Lib.hid (HB22b.out.trans (b23.mono HB22b.out.size))
    clear b23 HB22 HB22b
    go_wp2_with fail
    refine (HN.out.merge _).mono ?_
    rintro e w24 ⟨rfl, b24⟩
    have HB24 := Lib.hid (HB23.out.trans (b24.mono HB23.out.size))
    have HB24b := Lib.hid (HB23b.out.trans (b24.mono HB23b.out.size))
    clear b24 HB23 HB23b
    go_wp2_with fail
    refine (HN.out.total _).mono ?_
    rintro e w25 ⟨rfl, b25⟩
    have HB25 := Lib.hid (HB24.out.trans (b25.mono HB24.out.size))
    have HB25b := Lib.hid (HB24b.out.trans (b25.mono HB24b.out.size))
    clear b25 HB24 HB24b
    go_wp2_with fail
    refine (HN.out.lost _).mono ?_
    rintro e w26 ⟨rfl, b26⟩
    have HB26 := Lib.hid (HB25.out.trans (b26.mono HB25.out.size))
    have HB26b := Lib.hid (HB25b.out.trans (b26.mono HB25b.out.size))
    clear b26 HB25 HB25b
    go_wp2_with fail
    refine (HN.out.at_ _ 1 ⟨by decide, by decide⟩).mono ?_
    rintro e w27 ⟨rfl, b27⟩
    have HB27 := Lib.hid (HB26.out.trans (b27.mono HB26.out.size))
    have HB27b := Lib.hid (HB26b.out.trans (b27.mono HB26b.out.size))
    clear b27 HB26 HB26b
    go_wp2_with fail
    refine (HN.out.pairs _).mono ?_
    rintro e w28 ⟨an, cn, rfl, b28⟩
    have HB28 := Lib.hid (HB27.out.trans (b28.mono HB27.out.size))
    have HB28b := Lib.hid (HB27b.out.trans (b28.mono HB27b.out.size))
    clear b28 HB27 HB27b
    go_wp2_with fail
    refine (HN.out.most _).mono ?_
    rintro e w9 ⟨rfl, b9⟩
    have HB9 := Lib.hid (HB28.out.trans (b9.mono HB28.out.size))
    have HB9b := Lib.hid (HB28b.out.trans (b9.mono HB28b.out.size))
    clear b9 HB28 HB28b
    cases gb with
    | true =>
      go_wp2_with fail
      refine (HGR.out _ HB9.out).mono ?_
      rintro e w10 ⟨rfl, b10⟩
      go_wp2_with fail
      go_ret
      exact ⟨rfl, HB9.out.trans (b10.mono HB9.out.size)⟩
    | false =>
      have PL := Lib.hid (grt_false.1 HGB.out)
      have hll := PL.out.len
      go_wp2_with fail
      refine (HGR.out _ HB9.out).mono ?_
      rintro e w10 ⟨rfl, b10⟩
      have HB10 := Lib.hid (HB9.out.trans (b10.mono HB9.out.size))
      have HB10b := Lib.hid (HB9b.out.trans (b10.mono HB9b.out.size))
      clear b10 HB9 HB9b
      go_wp2_with fail
      refine (build_any HD.out _ m A cap L (HP.out.call HB10.out) PL.out.each (by omega) n1 n2).mono ?_
      rintro e w2 ⟨B, S, M, v, rfl, hsd, hsm, b2⟩
      have HB2 := Lib.hid (HB10.out.trans (b2.mono HB10.out.size))
      have HB2b := Lib.hid (HB10b.out.trans (b2.mono HB10b.out.size))
      obtain ⟨R, hR⟩ : ∃ R, foldP L = R := ⟨_, rfl⟩
      rw [hR] at hsd hsm
      have hsm' : Sum50 R 60 := ⟨hsm.good, hsm.ok, by have := hsm.len; omega, by have := hsm.sum; omega⟩
      have HSM := Lib.hid hsm'
      have hRs := hsm'.sum
      have hRp := sumP_pos (ok_pos hsm'.ok)
      have hkl : (keepH m R).length ≤ 300 := Nat.le_trans (keeph_le m R) (by have := hsm'.len; omega)
      have HKL := Lib.hid hkl
      obtain ⟨av, cv, rfl, hPv, d0, d1⟩ := hsd.rf.row hsm'.ok
      obtain ⟨T, hT⟩ : ∃ T, sumP R = T := ⟨_, rfl⟩
      obtain ⟨RN, hRN⟩ : ∃ n, R.length = n := ⟨_, rfl⟩
      have HT := Lib.hid hT
      have HRN := Lib.hid hRN
      have hRN60 : RN ≤ 60 := by have := hsm'.len; omega
      rw [hT] at hRs hRp
      have HI2 : Hid (ErrI Hw w2 w10.heap.size B m R M (.slice av RN cv) w2) := Lib.hid ⟨S, by rw [← hRN]; exact hsd, Below.refl _ _⟩
      have HAD : Hid (∀ W c z, ErrI Hw w2 w10.heap.size B m R M (.slice av RN cv) W → Word c → lwErr T c = z → z ≠ 0 → Calls Try.prog 11 #[.pointer (some ⟨B, 0, none⟩), .int .i64 px, .int .u64 c] W fun e w'' => e = .returned (.int .i64 z) ∧ ErrI Hw w2 w10.heap.size B m R M (.slice av RN cv) w'' ∧ ∀ b o x, b = M ∨ b < w10.heap.size → W.cell? ⟨b, o, none⟩ = some x → w''.cell? ⟨b, o, none⟩ = some x) := Lib.hid (fun W c z hI hc hz hz0 =>
        erri_add HD.out hI b2.size (by have := HKL.out; omega) HPX.out hc (by rw [HT.out]; exact hz) hz0)
      have HTO : Hid (∀ W, ErrI Hw w2 w10.heap.size B m R M (.slice av RN cv) W → Calls Try.prog 19 #[.slice av RN cv] W fun e w'' => e = .returned (.int .u64 T) ∧ Below W.heap.size W w'') := Lib.hid (fun W hI => by
        obtain ⟨S', h1, _⟩ := hI
        have h2 := refs_pairs h1.rf HSM.out.ok
        rw [h2.2]
        exact rtotal_any W av cv R T h2.1 (by have := HSM.out.len; omega) HT.out (by omega))
      have HZ2 := Lib.hid b2.size
      have hPM : w.heap.size < w10.heap.size := by have := HB10b.out.size; have := HZB.out; omega
      have P0 := Lib.hid (cell_later HB2b.out Q0.out)
      have P1 := Lib.hid (cell_later HB2b.out Q1.out)
      have D1 := Lib.hid d1
      have hT62 : 9223372036854775807 - T < 18446744073709551616 ∧ 0 ≤ 9223372036854775807 - T := by omega
      have uT : IntKind.u64.wrap (9223372036854775807 - T) = 9223372036854775807 - T := by rw [IntKind.wrap_u64]; omega
      rw [hRN] at d1
      clear hsd hsm hsm' hR b2 hkl hPv hT hRN d0 d1
      have HQ : Hid (∀ c, 0 ≤ c → c < 18446744073709551616 → Word c) := Lib.hid fun c a b => ⟨a, b⟩
      have p0' := P0.out
      have p1' := P1.out
      have d1' := D1.out
      rw [HRN.out] at d1'
      have z1 : lwErr T 0 = 1 := rfl
      go_wp2_with fail
      by_cases c0 : pc = 0
      · have hn0 : ¬ 0 < pc := by omega
        refine wp_region_noPanic ?_
        refine wp_region_held_drew (S := fun w' => w'.cell? ⟨w.heap.size, 0, none⟩ = some (.int .i64 px) ∧ w'.cell? ⟨w.heap.size, 1, none⟩ = some (.int .u64 pc) ∧ w'.cell? ⟨M, 1, none⟩ = some (.slice av RN cv) ∧ ErrI Hw w2 w10.heap.size B m R M (.slice av RN cv) w') (by kernel_rfl) (⟨by go_simp, by go_simp, by go_simp, erri_call HD.out HI2.out HZ2.out (Below.refl _ _).drew⟩) (fun hHeld => ?_)
        refine wpAnyH_take (i := 0) (oi := _) (v := ?v1) (by simp only [List.getElem?_toArray, List.getElem?_cons_succ, List.getElem?_cons_zero]; rfl) (by kernel_rfl) (by kernel_rfl) (by kernel_rfl) (fun _ _ _ h => h) (Or.inl ⟨by rfl, ?y1⟩) hHeld ?r1
        case y1 => (intro w hSw; (try dsimp only at hSw); go_simp; try with_reducible rfl)
        try simp only [Act.put, List.setIfInBounds_toArray, List.set_cons_zero, List.set_cons_succ]
        refine wpAnyH_take (i := 1) (oi := _) (v := ?v2) (by simp only [List.getElem?_toArray, List.getElem?_cons_succ, List.getElem?_cons_zero]; rfl) (by kernel_rfl) (by kernel_rfl) (by kernel_rfl) (fun _ _ _ h => h) (Or.inl ⟨by rfl, ?y2⟩) hHeld ?r2
        case y2 => (intro w hSw; (try dsimp only at hSw); go_simp; try with_reducible rfl)
        try simp only [Act.put, List.setIfInBounds_toArray, List.set_cons_zero, List.set_cons_succ]
        refine wpAnyH_take (i := 2) (oi := _) (v := ?v3) (by simp only [List.getElem?_toArray, List.getElem?_cons_succ, List.getElem?_cons_zero]; rfl) (by kernel_rfl) (by kernel_rfl) (by kernel_rfl) (fun _ _ _ h => h) (Or.inl ⟨by rfl, ?y3⟩) hHeld ?r3
        case y3 => (intro w hSw; (try dsimp only at hSw); go_simp; try with_reducible rfl)
        try simp only [Act.put, List.setIfInBounds_toArray, List.set_cons_zero, List.set_cons_succ]
        refine wpAnyH_ready (rs := [3]) (by kernel_rfl) (by simp) ?_
        refine AllReadyH.cons (o := _) (by simp only [List.getElem?_toArray, List.getElem?_cons_succ, List.getElem?_cons_zero]; rfl) (fun K hK => ?_) AllReadyH.nil
        go_simp
        refine (HAD.out _ 0 1 hHeld.2.2.2 ⟨by decide, by decide⟩ z1 (by decide)).mono ?_
        rintro e w4 ⟨rfl, hI4, hK4⟩
        try (go_wp2_with fail)
        refine hK.out _ _ (⟨hK4 _ _ _ (Or.inr hPM) hHeld.1, hK4 _ _ _ (Or.inr hPM) hHeld.2.1, hK4 _ _ _ (Or.inl rfl) hHeld.2.2.1, hI4⟩) (fun hHeld => ?_)
        clear hK K
        try simp only [Act.put, List.setIfInBounds_toArray, List.set_cons_zero, List.set_cons_succ]
        clear hI4 hK4
        refine wpAnyH_take (i := 4) (oi := _) (v := ?v4) (by simp only [List.getElem?_toArray, List.getElem?_cons_succ, List.getElem?_cons_zero]; rfl) (by kernel_rfl) (by kernel_rfl) (by kernel_rfl) (fun _ _ _ h => h) (Or.inl ⟨by rfl, ?y4⟩) hHeld ?r4
        case y4 => (intro w hSw; (try dsimp only at hSw); go_simp; try with_reducible rfl)
        try simp only [Act.put, List.setIfInBounds_toArray, List.set_cons_zero, List.set_cons_succ]
        refine wpAnyH_take (i := 5) (oi := _) (v := ?v5) (by simp only [List.getElem?_toArray, List.getElem?_cons_succ, List.getElem?_cons_zero]; rfl) (by kernel_rfl) (by kernel_rfl) (by kernel_rfl) (fun _ _ _ h => h) (Or.inl ⟨by rfl, ?y5⟩) hHeld ?r5
        case y5 => (intro w hSw; (try dsimp only at hSw); go_simp; try with_reducible rfl)
        try simp only [Act.put, List.setIfInBounds_toArray, List.set_cons_zero, List.set_cons_succ]
        refine wpAnyH_take (i := 6) (oi := _) (v := ?v6) (by simp only [List.getElem?_toArray, List.getElem?_cons_succ, List.getElem?_cons_zero]; rfl) (by kernel_rfl) (by kernel_rfl) (by kernel_rfl) (fun _ _ _ h => h) (Or.inl ⟨by rfl, ?y6⟩) hHeld ?r6
        case y6 => (intro w hSw; (try dsimp only at hSw); go_simp; try with_reducible rfl)
        try simp only [Act.put, List.setIfInBounds_toArray, List.set_cons_zero, List.set_cons_succ]
        refine wpAnyH_take (i := 7) (oi := _) (v := ?v7) (by simp only [List.getElem?_toArray, List.getElem?_cons_succ, List.getElem?_cons_zero]; rfl) (by kernel_rfl) (by kernel_rfl) (by kernel_rfl) (fun _ _ _ h => h) (Or.inl ⟨by rfl, ?y7⟩) hHeld ?r7
        case y7 => (intro w hSw; (try dsimp only at hSw); go_simp; try with_reducible rfl)
        try simp only [Act.put, List.setIfInBounds_toArray, List.set_cons_zero, List.set_cons_succ]
        refine wpAnyH_take (i := 8) (oi := _) (v := ?v8) (by simp only [List.getElem?_toArray, List.getElem?_cons_succ, List.getElem?_cons_zero]; rfl) (by kernel_rfl) (by kernel_rfl) (by kernel_rfl) (fun _ _ _ h => h) (Or.inl ⟨by rfl, ?y8⟩) hHeld ?r8
        case y8 => (intro w hSw; (try dsimp only at hSw); go_simp; try with_reducible rfl)
        try simp only [Act.put, List.setIfInBounds_toArray, List.set_cons_zero, List.set_cons_succ]
        refine wpAnyH_take (i := 9) (oi := _) (v := ?v9) (by simp only [List.getElem?_toArray, List.getElem?_cons_succ, List.getElem?_cons_zero]; rfl) (by kernel_rfl) (by kernel_rfl) (by kernel_rfl) (fun _ _ _ h => h) (Or.inl ⟨by rfl, ?y9⟩) hHeld ?r9
        case y9 => (intro w hSw; (try dsimp only at hSw); go_simp; try with_reducible rfl)
        try simp only [Act.put, List.setIfInBounds_toArray, List.set_cons_zero, List.set_cons_succ]
        refine wpAnyH_take (i := 10) (oi := _) (v := _) (by simp only [List.getElem?_toArray, List.getElem?_cons_succ, List.getElem?_cons_zero]; rfl) (by kernel_rfl) (by kernel_rfl) (by kernel_rfl) (fun _ _ _ h => h) (Or.inr ⟨by rfl, rfl⟩) hHeld ?_
        try simp only [Act.put, List.setIfInBounds_toArray, List.set_cons_zero, List.set_cons_succ]
        refine wpAnyH_take (i := 11) (oi := _) (v := _) (by simp only [List.getElem?_toArray, List.getElem?_cons_succ, List.getElem?_cons_zero]; rfl) (by kernel_rfl) (by kernel_rfl) (by kernel_rfl) (fun _ _ _ h => h) (Or.inr ⟨by rfl, rfl⟩) hHeld ?_
        try simp only [Act.put, List.setIfInBounds_toArray, List.set_cons_zero, List.set_cons_succ]
        refine wpAnyH_take (i := 12) (oi := _) (v := _) (by simp only [List.getElem?_toArray, List.getElem?_cons_succ, List.getElem?_cons_zero]; rfl) (by kernel_rfl) (by kernel_rfl) (by kernel_rfl) (fun _ _ _ h => h) (Or.inr ⟨by rfl, rfl⟩) hHeld ?_
        try simp only [Act.put, List.setIfInBounds_toArray, List.set_cons_zero, List.set_cons_succ]
        refine wpAnyH_take (i := 13) (oi := _) (v := _) (by simp only [List.getElem?_toArray, List.getElem?_cons_succ, List.getElem?_cons_zero]; rfl) (by kernel_rfl) (by kernel_rfl) (by kernel_rfl) (fun _ _ _ h => h) (Or.inr ⟨by rfl, rfl⟩) hHeld ?_
        try simp only [Act.put, List.setIfInBounds_toArray, List.set_cons_zero, List.set_cons_succ]
        refine wpAnyH_take (i := 14) (oi := _) (v := _) (by simp only [List.getElem?_toArray, List.getElem?_cons_succ, List.getElem?_cons_zero]; rfl) (by kernel_rfl) (by kernel_rfl) (by kernel_rfl) (fun _ _ _ h => h) (Or.inr ⟨by rfl, rfl⟩) hHeld ?_
        try simp only [Act.put, List.setIfInBounds_toArray, List.set_cons_zero, List.set_cons_succ]
        refine wpAnyH_take (i := 15) (oi := _) (v := _) (by simp only [List.getElem?_toArray, List.getElem?_cons_succ, List.getElem?_cons_zero]; rfl) (by kernel_rfl) (by kernel_rfl) (by kernel_rfl) (fun _ _ _ h => h) (Or.inr ⟨by rfl, rfl⟩) hHeld ?_
        try simp only [Act.put, List.setIfInBounds_toArray, List.set_cons_zero, List.set_cons_succ]
        refine wpAnyH_take (i := 16) (oi := _) (v := _) (by simp only [List.getElem?_toArray, List.getElem?_cons_succ, List.getElem?_cons_zero]; rfl) (by kernel_rfl) (by kernel_rfl) (by kernel_rfl) (fun _ _ _ h => h) (Or.inr ⟨by rfl, rfl⟩) hHeld ?_
        try simp only [Act.put, List.setIfInBounds_toArray, List.set_cons_zero, List.set_cons_succ]
        refine wpAnyH_take (i := 17) (oi := _) (v := _) (by simp only [List.getElem?_toArray, List.getElem?_cons_succ, List.getElem?_cons_zero]; rfl) (by kernel_rfl) (by kernel_rfl) (by kernel_rfl) (fun _ _ _ h => h) (Or.inr ⟨by rfl, rfl⟩) hHeld ?_
        try simp only [Act.put, List.setIfInBounds_toArray, List.set_cons_zero, List.set_cons_succ]
        refine wpAnyH_take (i := 18) (oi := _) (v := _) (by simp only [List.getElem?_toArray, List.getElem?_cons_succ, List.getElem?_cons_zero]; rfl) (by kernel_rfl) (by kernel_rfl) (by kernel_rfl) (fun _ _ _ h => h) (Or.inr ⟨by rfl, rfl⟩) hHeld ?_
        try simp only [Act.put, List.setIfInBounds_toArray, List.set_cons_zero, List.set_cons_succ]
        refine wpAnyH_take (i := 19) (oi := _) (v := ?v10) (by simp only [List.getElem?_toArray, List.getElem?_cons_succ, List.getElem?_cons_zero]; rfl) (by kernel_rfl) (by kernel_rfl) (by kernel_rfl) (fun _ _ _ h => h) (Or.inl ⟨by rfl, ?y10⟩) hHeld ?r10
        case y10 => (intro w hSw; (try dsimp only at hSw); go_simp; try with_reducible rfl)
        try simp only [Act.put, List.setIfInBounds_toArray, List.set_cons_zero, List.set_cons_succ]
        refine wpAnyH_take (i := 20) (oi := _) (v := ?v11) (by simp only [List.getElem?_toArray, List.getElem?_cons_succ, List.getElem?_cons_zero]; rfl) (by kernel_rfl) (by kernel_rfl) (by kernel_rfl) (fun _ _ _ h => h) (Or.inl ⟨by rfl, ?y11⟩) hHeld ?r11
        case y11 => (intro w hSw; (try dsimp only at hSw); go_simp; try with_reducible rfl)
        try simp only [Act.put, List.setIfInBounds_toArray, List.set_cons_zero, List.set_cons_succ]
        refine wpAnyH_take (i := 21) (oi := _) (v := _) (by simp only [List.getElem?_toArray, List.getElem?_cons_succ, List.getElem?_cons_zero]; rfl) (by kernel_rfl) (by kernel_rfl) (by kernel_rfl) (fun _ _ _ h => h) (Or.inr ⟨by rfl, rfl⟩) hHeld ?_
        try simp only [Act.put, List.setIfInBounds_toArray, List.set_cons_zero, List.set_cons_succ]
        refine wpAnyH_take (i := 22) (oi := _) (v := _) (by simp only [List.getElem?_toArray, List.getElem?_cons_succ, List.getElem?_cons_zero]; rfl) (by kernel_rfl) (by kernel_rfl) (by kernel_rfl) (fun _ _ _ h => h) (Or.inr ⟨by rfl, rfl⟩) hHeld ?_
        try simp only [Act.put, List.setIfInBounds_toArray, List.set_cons_zero, List.set_cons_succ]
        refine wpAnyH_take (i := 23) (oi := _) (v := _) (by simp only [List.getElem?_toArray, List.getElem?_cons_succ, List.getElem?_cons_zero]; rfl) (by kernel_rfl) (by kernel_rfl) (by kernel_rfl) (fun _ _ _ h => h) (Or.inr ⟨by rfl, rfl⟩) hHeld ?_
        try simp only [Act.put, List.setIfInBounds_toArray, List.set_cons_zero, List.set_cons_succ]
        refine wpAnyH_take (i := 24) (oi := _) (v := _) (by simp only [List.getElem?_toArray, List.getElem?_cons_succ, List.getElem?_cons_zero]; rfl) (by kernel_rfl) (by kernel_rfl) (by kernel_rfl) (fun _ _ _ h => h) (Or.inr ⟨by rfl, rfl⟩) hHeld ?_
        try simp only [Act.put, List.setIfInBounds_toArray, List.set_cons_zero, List.set_cons_succ]
        refine wpAnyH_take (i := 25) (oi := _) (v := _) (by simp only [List.getElem?_toArray, List.getElem?_cons_succ, List.getElem?_cons_zero]; rfl) (by kernel_rfl) (by kernel_rfl) (by kernel_rfl) (fun _ _ _ h => h) (Or.inr ⟨by rfl, rfl⟩) hHeld ?_
        try simp only [Act.put, List.setIfInBounds_toArray, List.set_cons_zero, List.set_cons_succ]
        refine wpAnyH_take (i := 26) (oi := _) (v := _) (by simp only [List.getElem?_toArray, List.getElem?_cons_succ, List.getElem?_cons_zero]; rfl) (by kernel_rfl) (by kernel_rfl) (by kernel_rfl) (fun _ _ _ h => h) (Or.inr ⟨by rfl, rfl⟩) hHeld ?_
        try simp only [Act.put, List.setIfInBounds_toArray, List.set_cons_zero, List.set_cons_succ]
        refine wpAnyH_take (i := 27) (oi := _) (v := _) (by simp only [List.getElem?_toArray, List.getElem?_cons_succ, List.getElem?_cons_zero]; rfl) (by kernel_rfl) (by kernel_rfl) (by kernel_rfl) (fun _ _ _ h => h) (Or.inr ⟨by rfl, rfl⟩) hHeld ?_
        try simp only [Act.put, List.setIfInBounds_toArray, List.set_cons_zero, List.set_cons_succ]
        refine wpAnyH_take (i := 28) (oi := _) (v := ?v12) (by simp only [List.getElem?_toArray, List.getElem?_cons_succ, List.getElem?_cons_zero]; rfl) (by kernel_rfl) (by kernel_rfl) (by kernel_rfl) (fun _ _ _ h => h) (Or.inl ⟨by rfl, ?y12⟩) hHeld ?r12
        case y12 => (intro w hSw; (try dsimp only at hSw); go_simp; try with_reducible rfl)
        try simp only [Act.put, List.setIfInBounds_toArray, List.set_cons_zero, List.set_cons_succ]
        refine wpAnyH_take (i := 29) (oi := _) (v := ?v13) (by simp only [List.getElem?_toArray, List.getElem?_cons_succ, List.getElem?_cons_zero]; rfl) (by kernel_rfl) (by kernel_rfl) (by kernel_rfl) (fun _ _ _ h => h) (Or.inl ⟨by rfl, ?y13⟩) hHeld ?r13
        case y13 => (intro w hSw; (try dsimp only at hSw); go_simp; try with_reducible rfl)
        try simp only [Act.put, List.setIfInBounds_toArray, List.set_cons_zero, List.set_cons_succ]
        refine wpAnyH_done (by kernel_rfl) ?_ _
        refine NoPanic.normal ?_
        obtain ⟨hh0, hh1, hh2, S', hsd', hb'⟩ := hHeld
        have HSD := Lib.hid hsd'
        have HBW := Lib.hid (HB2.out.trans (hb'.mono (by omega)))
        have HZW := Lib.hid hb'.size
        clear hh0 hh1 hh2 hsd' hb' p0' p1' d1'
        go_wp2_with fail
        refine (HD.out.pairs w4 B S' m _ _ HSD.out.st (by have := HKL.out; omega)).mono ?_
        rintro e x1 ⟨u1, rfl, hu1, b13⟩
        obtain ⟨a1, c1, rfl, hq1⟩ := hu1.pairs (keeph_ok HSM.out.ok)
        have HX1 := Lib.hid b13
        have HQ1 := Lib.hid hq1
        clear hu1 hq1 b13
        go_wp2_with fail
        refine (hrkept_any x1 M m _ R (HSD.out.rf.call HX1.out) HSM.out.good HSM.out.ok (by have := HSM.out.len; omega) (by omega) n2).mono ?_
        rintro e x2 ⟨u2, rfl, hu2, b14⟩
        obtain ⟨a2, c2', rfl, hq2⟩ := hu2.pairs (keeph_ok HSM.out.ok)
        have HX2 := Lib.hid (HX1.out.trans (b14.mono HX1.out.size))
        have HQ2 := Lib.hid hq2
        have HQ1b := Lib.hid (HQ1.out.call b14)
        clear hu2 hq2 b14 HQ1 HX1
        go_wp2_with fail
        refine (same_any x2 a1 a2 c1 c2' _ _ true (decide_eq_true rfl) HQ1b.out HQ2.out (by have := HKL.out; omega) (by have := HKL.out; omega)).mono ?_
        rintro e x3 ⟨rfl, b15⟩
        have HX3 := Lib.hid (HX2.out.trans (b15.mono HX2.out.size))
        clear b15 HQ1b HQ2 HX2
        go_wp2_with fail
        refine (HD.out.lost x3 B S' m _ _ (HD.out.call HSD.out.st HX3.out)).mono ?_
        rintro e x4 ⟨rfl, b16⟩
        have HX4 := Lib.hid (HX3.out.trans (b16.mono HX3.out.size))
        clear b16 HX3
        go_wp2_with fail
        refine (hrlost_any x4 M m _ R _ (HSD.out.rf.call HX4.out) HSM.out.good HSM.out.ok (by have := HSM.out.len; omega) (by omega) n2 (by have := HT.out; omega) rfl).mono ?_
        rintro e x5 ⟨rfl, b17⟩
        have HX5 := Lib.hid (HX4.out.trans (b17.mono HX4.out.size))
        clear b17 HX4
        go_wp2_with fail
        refine (HD.out.merge x5 B S' m _ _ B S' _ _ (HD.out.call HSD.out.st HX5.out) (HD.out.call HSD.out.st HX5.out) (Or.inl rfl) HKL.out HKL.out (by have := HT.out; omega)).mono ?_
        rintro e x6 ⟨S9, rfl, h18, k18, hs18⟩
        rw [dbl_join (by omega) HSM.out.good HSM.out.ok (by have := HT.out; omega)] at h18
        have hS5 := HSD.out.call HD.out HX5.out
        have hr18 := hS5.past k18
        obtain ⟨a18, c18, e18, hsl18, hab18⟩ := Slab.of_own hr18.2 HSM.out.ok
        injection e18 with f1 f2 f3
        subst f1 f3
        have hM5 := hS5.rf.lt
        have hap : ∀ x, S9 x → x ≠ M ∧ blkA av ≠ some x := fun x hx => by
          have hav : ∀ g, blkA av = some g → (.slice av RN cv : Value).ownBlock = some g := fun g hg => by rw [blk_slice]; exact hg
          rcases hs18 x hx with a | a
          · exact ⟨(hS5.apart x a).1, fun e => (hS5.apart x a).2 (hav x e)⟩
          · exact ⟨by omega, fun e => by have := (hS5.rf.2.lt x (hav x e)).2; omega⟩
        have HAP := Lib.hid hap
        have HAB := Lib.hid hab18
        have HSL := Lib.hid hsl18
        have H18 := Lib.hid h18
        have M0 := Lib.hid hr18.1.c0
        have M1 := Lib.hid hr18.1.c1
        have HB18 := Lib.hid (k18.below (HBW.out.trans (HX5.out.mono HBW.out.size)) (HBW.out.trans (HX5.out.mono HBW.out.size)).size (fun k hk => by have := HSD.out.above k hk; omega))
        have HMAB := Lib.hid hS5.mab
        clear h18 k18 hs18 hS5 hr18 hsl18 hab18 hap hM5 HX5
        have mm1 := M1.out
        go_wp2_with fail
        clear mm1
        go_loopg [144] RN (fun g j wr => ∃ k : Nat, k ≤ RN ∧ g = RN - k ∧ j = .int .i64 k ∧ Slab wr av cv (dblTo R k) ∧ wr.cell? ⟨M, 0, none⟩ = some (.int .i64 m) ∧ wr.cell? ⟨M, 1, none⟩ = some (.slice av RN cv) ∧ Hw wr B S9 m (keepH m (R.map dblP)) (sumP R + sumP R) ∧ Below w.heap.size w wr)
        case atStart => exact ⟨0, Nat.zero_le _, rfl, rfl, by rw [dblTo_zero]; exact HSL.out, M0.out, M1.out, H18.out, HB18.out⟩
        case round =>
          clear HSL H18 M0 M1 HB18
          obtain ⟨k, hk, rfl, rfl, hsl, g0, g1, hlw, hb2⟩ := hrel
          have HSL := Lib.hid hsl
          have HLW := Lib.hid hlw
          have G0 := Lib.hid g0
          have HB2' := Lib.hid hb2
          clear hsl hlw g0 hb2
          by_cases hlt : k < RN
          · have kk : (k : Int) < (RN : Int) := by omega
            have hkl : k < R.length := by have := HRN.out; omega
            have hxk : R[k]? = some R[k] := List.getElem?_eq_getElem hkl
            generalize hit : R[k] = x at *
            obtain ⟨xi, xc⟩ := x
            obtain ⟨e1, e2, e3⟩ := dblTo_at hxk
            have hok := HSM.out.ok _ (List.mem_of_getElem? hxk)
            have hcl : xc ≤ sumP R := by
              have h1 := sumP_take (L := R) (k + 1) (ok_pos HSM.out.ok)
              have h2 := sumP_take (L := R) k (ok_pos HSM.out.ok)
              rw [take_snocP hxk, sumP_app, sumP_one] at h1
              have h3 : (xi, xc).2 = xc := rfl
              omega
            have hTT := HT.out
            obtain ⟨gg, off, rfl, hbl, _, y1⟩ := HSL.out.pairs.at_ k _ e3
            simp only at y1
            have yf : wr.frozen? ⟨gg, off + k * 2 + 1, none⟩ = false := by
              rcases HSL.out.blk with ⟨e, _⟩ | ⟨g', off', cs, e, hb⟩
              · cases e
              · obtain ⟨rfl, rfl, _⟩ := Addr.mk.inj (Option.some.inj e)
                exact free8 hb _
            have HOK := Lib.hid hok
            obtain ⟨⟨o1, o2⟩, o3, o4⟩ := hok
            simp only at o1 o2 o3 o4
            have u2 : IntKind.u64.wrap (2 * xc) = 2 * xc := by rw [IntKind.wrap_u64]; omega
            have hput : Slab (wr.setCell ⟨gg, off + k * 2 + 1, none⟩ (.int .u64 (2 * xc))) (some ⟨gg, off, none⟩) cv (dblTo R (k + 1)) := by
              have h := HSL.out
              have h2 := h.put (n := k) e1 (by rw [List.length_map, List.length_take]; omega) (m' := 2 * xc) HOK.out.1 ⟨by omega, by omega⟩
              have e2' : (R.take k).map dblP ++ ((xi, 2 * xc) :: R.drop (k + 1)) = dblTo R (k + 1) := e2
              rwa [e2'] at h2
            have hgM : gg ≠ M := fun e => by have := HAB.out gg rfl; omega
            have hgS : ∀ x, S9 x → x ≠ gg := fun x hx e => (HAP.out x hx).2 (by rw [e]; rfl)
            have hgw : w.heap.size ≤ gg := by have := HAB.out gg rfl; have := HMAB.out; omega
            have HPUT := Lib.hid hput
            have HGM := Lib.hid hgM
            have HGS := Lib.hid hgS
            have HGW := Lib.hid hgw
            clear hxk hit e1 e2 e3 hput hgM hgS hgw hcl hTT hkl
            go_wp2_with fail
            go_region
            go_wp2_with fail
            go_roundg (RN - (k + 1))
            case measure => omega
            case rel =>
              have hd : Below (wr.setCell ⟨gg, off + k * 2 + 1, none⟩ (.int .u64 (2 * xc))).heap.size (wr.setCell ⟨gg, off + k * 2 + 1, none⟩ (.int .u64 (2 * xc))) (wr.setCell ⟨gg, off + k * 2 + 1, none⟩ (.int .u64 (2 * xc))).drew := (Below.refl _ _).drew
              have hg := grown_setCell wr gg (off + k * 2 + 1) (.int .u64 (2 * xc))
              refine ⟨k + 1, hlt, rfl, by go_num, ?_, ?_, ?_, ?_, (HB2'.out.setCell (p := ⟨gg, off + k * 2 + 1, none⟩) HGW.out _).drew⟩
              · exact HPUT.out.call hd
              · refine cell_later hd ?_
                rw [World.cell?_setCell_other _ _ _ _ (two_far HGM.out)]; exact G0.out
              · refine cell_later hd ?_
                rw [World.cell?_setCell_other _ _ _ _ (two_far HGM.out)]; exact g1
              · exact HD.out.call (HD.out.keep _ _ _ _ _ _ _ HLW.out (fun x hx => Below.heap_setCell _ _ _ _ (HGS.out x hx))) hd
          · obtain rfl : k = RN := by omega
            have kk : ¬ (k : Int) < (k : Int) := by omega
            have hsl := HSL.out
            rw [show dblTo R k = R.map dblP by rw [← HRN.out]; exact dblTo_all R] at hsl
            have HPD := Lib.hid hsl.pairs
            have HLEN : Hid ((R.map dblP).length = k) := Lib.hid (by rw [List.length_map]; exact HRN.out)
            have hdg := dbl_good HSM.out.good (by have := HT.out; omega)
            have HDG := Lib.hid hdg
            have HDK := Lib.hid (dbl_ok HSM.out.good HSM.out.ok (by have := HT.out; omega))
            have HDL : Hid ((keepH m (R.map dblP)).length ≤ 300) := Lib.hid (Nat.le_trans (keeph_le _ _) (by have := HLEN.out; omega))
            have g1' := Lib.hid g1
            clear hsl hdg g1
            go_wp2_with fail
            refine (HD.out.pairs wr B S9 m _ _ HLW.out (by have := HDL.out; omega)).mono ?_
            rintro e y1 ⟨u1, rfl, hu1, b1⟩
            obtain ⟨a1, c1, rfl, hq1⟩ := hu1.pairs (keeph_ok HDK.out)
            have HY1 := Lib.hid b1
            have HQ1 := Lib.hid hq1
            clear hu1 hq1 b1
            go_wp2_with fail
            refine (hrkept_of y1 M m av cv (R.map dblP) (HPD.out.call HY1.out) (cell_later HY1.out G0.out) (by rw [HLEN.out]; exact cell_later HY1.out g1'.out) HDG.out (by have := HLEN.out; omega) (by omega) n2).mono ?_
            rintro e y2 ⟨u2, rfl, hu2, b2⟩
            obtain ⟨a2, c2', rfl, hq2⟩ := hu2.pairs (keeph_ok HDK.out)
            have HY2 := Lib.hid (HY1.out.trans (b2.mono HY1.out.size))
            have HQ2 := Lib.hid hq2
            have HQ1b := Lib.hid (HQ1.out.call b2)
            clear hu2 hq2 b2 HQ1 HY1
            go_wp2_with fail
            refine (same_any y2 a1 a2 c1 c2' _ _ true (decide_eq_true rfl) HQ1b.out HQ2.out (by have := HDL.out; omega) (by have := HDL.out; omega)).mono ?_
            rintro e y3 ⟨rfl, b3⟩
            have HY3 := Lib.hid (HY2.out.trans (b3.mono HY2.out.size))
            clear b3 HQ1b HQ2 HY2
            go_wp2_with fail
            refine (HD.out.lost y3 B S9 m _ _ (HD.out.call HLW.out HY3.out)).mono ?_
            rintro e y4 ⟨rfl, b4⟩
            have HY4 := Lib.hid (HY3.out.trans (b4.mono HY3.out.size))
            clear b4 HY3
            go_wp2_with fail
            refine (hrlost_of y4 M m av cv (R.map dblP) (sumP R + sumP R - sumP (keepH m (R.map dblP))) (HPD.out.call HY4.out) (cell_later HY4.out G0.out) (by rw [HLEN.out]; exact cell_later HY4.out g1'.out) HDG.out (by have := HLEN.out; omega) (by omega) n2 (by rw [dbl_sum]; have := HT.out; omega) (by rw [dbl_sum]; omega)).mono ?_
            rintro e y5 ⟨rfl, b5⟩
            have HY5 := Lib.hid (HY4.out.trans (b5.mono HY4.out.size))
            clear b5 HY4
            go_wp2_with fail
            go_ret
            exact ⟨rfl, HB2'.out.trans (HY5.out.mono HB2'.out.size)⟩
      · have c1 : 0 < pc := by omega
        by_cases c2 : 9223372036854775807 - T < pc
        · have zF : lwErr T pc = 6 := by unfold lwErr; rw [if_neg c0, if_pos c2]
          refine wp_region_noPanic ?_
          refine wp_region_held_drew (S := fun w' => w'.cell? ⟨w.heap.size, 0, none⟩ = some (.int .i64 px) ∧ w'.cell? ⟨w.heap.size, 1, none⟩ = some (.int .u64 pc) ∧ w'.cell? ⟨M, 1, none⟩ = some (.slice av RN cv) ∧ ErrI Hw w2 w10.heap.size B m R M (.slice av RN cv) w') (by kernel_rfl) (⟨by go_simp, by go_simp, by go_simp, erri_call HD.out HI2.out HZ2.out (Below.refl _ _).drew⟩) (fun hHeld => ?_)
          refine wpAnyH_take (i := 0) (oi := _) (v := ?v14) (by simp only [List.getElem?_toArray, List.getElem?_cons_succ, List.getElem?_cons_zero]; rfl) (by kernel_rfl) (by kernel_rfl) (by kernel_rfl) (fun _ _ _ h => h) (Or.inl ⟨by rfl, ?y14⟩) hHeld ?r14
          case y14 => (intro w hSw; (try dsimp only at hSw); go_simp; try with_reducible rfl)
          try simp only [Act.put, List.setIfInBounds_toArray, List.set_cons_zero, List.set_cons_succ]
          refine wpAnyH_take (i := 1) (oi := _) (v := ?v15) (by simp only [List.getElem?_toArray, List.getElem?_cons_succ, List.getElem?_cons_zero]; rfl) (by kernel_rfl) (by kernel_rfl) (by kernel_rfl) (fun _ _ _ h => h) (Or.inl ⟨by rfl, ?y15⟩) hHeld ?r15
          case y15 => (intro w hSw; (try dsimp only at hSw); go_simp; try with_reducible rfl)
          try simp only [Act.put, List.setIfInBounds_toArray, List.set_cons_zero, List.set_cons_succ]
          refine wpAnyH_take (i := 2) (oi := _) (v := ?v16) (by simp only [List.getElem?_toArray, List.getElem?_cons_succ, List.getElem?_cons_zero]; rfl) (by kernel_rfl) (by kernel_rfl) (by kernel_rfl) (fun _ _ _ h => h) (Or.inl ⟨by rfl, ?y16⟩) hHeld ?r16
          case y16 => (intro w hSw; (try dsimp only at hSw); go_simp; try with_reducible rfl)
          try simp only [Act.put, List.setIfInBounds_toArray, List.set_cons_zero, List.set_cons_succ]
          refine wpAnyH_ready (rs := [3]) (by kernel_rfl) (by simp) ?_
          refine AllReadyH.cons (o := _) (by simp only [List.getElem?_toArray, List.getElem?_cons_succ, List.getElem?_cons_zero]; rfl) (fun K hK => ?_) AllReadyH.nil
          go_simp
          refine (HAD.out _ 0 1 hHeld.2.2.2 ⟨by decide, by decide⟩ z1 (by decide)).mono ?_
          rintro e w4 ⟨rfl, hI4, hK4⟩
          try (go_wp2_with fail)
          refine hK.out _ _ (⟨hK4 _ _ _ (Or.inr hPM) hHeld.1, hK4 _ _ _ (Or.inr hPM) hHeld.2.1, hK4 _ _ _ (Or.inl rfl) hHeld.2.2.1, hI4⟩) (fun hHeld => ?_)
          clear hK K
          try simp only [Act.put, List.setIfInBounds_toArray, List.set_cons_zero, List.set_cons_succ]
          clear hI4 hK4
          refine wpAnyH_take (i := 4) (oi := _) (v := ?v17) (by simp only [List.getElem?_toArray, List.getElem?_cons_succ, List.getElem?_cons_zero]; rfl) (by kernel_rfl) (by kernel_rfl) (by kernel_rfl) (fun _ _ _ h => h) (Or.inl ⟨by rfl, ?y17⟩) hHeld ?r17
          case y17 => (intro w hSw; (try dsimp only at hSw); go_simp; try with_reducible rfl)
          try simp only [Act.put, List.setIfInBounds_toArray, List.set_cons_zero, List.set_cons_succ]
          refine wpAnyH_take (i := 5) (oi := _) (v := ?v18) (by simp only [List.getElem?_toArray, List.getElem?_cons_succ, List.getElem?_cons_zero]; rfl) (by kernel_rfl) (by kernel_rfl) (by kernel_rfl) (fun _ _ _ h => h) (Or.inl ⟨by rfl, ?y18⟩) hHeld ?r18
          case y18 => (intro w hSw; (try dsimp only at hSw); go_simp; try with_reducible rfl)
          try simp only [Act.put, List.setIfInBounds_toArray, List.set_cons_zero, List.set_cons_succ]
          refine wpAnyH_take (i := 6) (oi := _) (v := ?v19) (by simp only [List.getElem?_toArray, List.getElem?_cons_succ, List.getElem?_cons_zero]; rfl) (by kernel_rfl) (by kernel_rfl) (by kernel_rfl) (fun _ _ _ h => h) (Or.inl ⟨by rfl, ?y19⟩) hHeld ?r19
          case y19 => (intro w hSw; (try dsimp only at hSw); go_simp; try with_reducible rfl)
          try simp only [Act.put, List.setIfInBounds_toArray, List.set_cons_zero, List.set_cons_succ]
          refine wpAnyH_take (i := 7) (oi := _) (v := ?v20) (by simp only [List.getElem?_toArray, List.getElem?_cons_succ, List.getElem?_cons_zero]; rfl) (by kernel_rfl) (by kernel_rfl) (by kernel_rfl) (fun _ _ _ h => h) (Or.inl ⟨by rfl, ?y20⟩) hHeld ?r20
          case y20 => (intro w hSw; (try dsimp only at hSw); go_simp; try with_reducible rfl)
          try simp only [Act.put, List.setIfInBounds_toArray, List.set_cons_zero, List.set_cons_succ]
          refine wpAnyH_take (i := 8) (oi := _) (v := ?v21) (by simp only [List.getElem?_toArray, List.getElem?_cons_succ, List.getElem?_cons_zero]; rfl) (by kernel_rfl) (by kernel_rfl) (by kernel_rfl) (fun _ _ _ h => h) (Or.inl ⟨by rfl, ?y21⟩) hHeld ?r21
          case y21 => (intro w hSw; (try dsimp only at hSw); go_simp; try with_reducible rfl)
          try simp only [Act.put, List.setIfInBounds_toArray, List.set_cons_zero, List.set_cons_succ]
          refine wpAnyH_take (i := 9) (oi := _) (v := ?v22) (by simp only [List.getElem?_toArray, List.getElem?_cons_succ, List.getElem?_cons_zero]; rfl) (by kernel_rfl) (by kernel_rfl) (by kernel_rfl) (fun _ _ _ h => h) (Or.inl ⟨by rfl, ?y22⟩) hHeld ?r22
          case y22 => (intro w hSw; (try dsimp only at hSw); go_simp; try with_reducible rfl)
          try simp only [Act.put, List.setIfInBounds_toArray, List.set_cons_zero, List.set_cons_succ]
          refine wpAnyH_take (i := 10) (oi := _) (v := ?v23) (by simp only [List.getElem?_toArray, List.getElem?_cons_succ, List.getElem?_cons_zero]; rfl) (by kernel_rfl) (by kernel_rfl) (by kernel_rfl) (fun _ _ _ h => h) (Or.inl ⟨by rfl, ?y23⟩) hHeld ?r23
          case y23 => (intro w hSw; (try dsimp only at hSw); go_simp; try with_reducible rfl)
          try simp only [Act.put, List.setIfInBounds_toArray, List.set_cons_zero, List.set_cons_succ]
          refine wpAnyH_take (i := 11) (oi := _) (v := ?v24) (by simp only [List.getElem?_toArray, List.getElem?_cons_succ, List.getElem?_cons_zero]; rfl) (by kernel_rfl) (by kernel_rfl) (by kernel_rfl) (fun _ _ _ h => h) (Or.inl ⟨by rfl, ?y24⟩) hHeld ?r24
          case y24 => (intro w hSw; (try dsimp only at hSw); go_simp; try with_reducible rfl)
          try simp only [Act.put, List.setIfInBounds_toArray, List.set_cons_zero, List.set_cons_succ]
          refine wpAnyH_take (i := 12) (oi := _) (v := ?v25) (by simp only [List.getElem?_toArray, List.getElem?_cons_succ, List.getElem?_cons_zero]; rfl) (by kernel_rfl) (by kernel_rfl) (by kernel_rfl) (fun _ _ _ h => h) (Or.inl ⟨by rfl, ?y25⟩) hHeld ?r25
          case y25 => (intro w hSw; (try dsimp only at hSw); go_simp; try with_reducible rfl)
          try simp only [Act.put, List.setIfInBounds_toArray, List.set_cons_zero, List.set_cons_succ]
          refine wpAnyH_take (i := 13) (oi := _) (v := ?v26) (by simp only [List.getElem?_toArray, List.getElem?_cons_succ, List.getElem?_cons_zero]; rfl) (by kernel_rfl) (by kernel_rfl) (by kernel_rfl) (fun _ _ _ h => h) (Or.inl ⟨by rfl, ?y26⟩) hHeld ?r26
          case y26 => (intro w hSw; (try dsimp only at hSw); go_simp; try with_reducible rfl)
          try simp only [Act.put, List.setIfInBounds_toArray, List.set_cons_zero, List.set_cons_succ]
          refine wpAnyH_take (i := 14) (oi := _) (v := ?v27) (by simp only [List.getElem?_toArray, List.getElem?_cons_succ, List.getElem?_cons_zero]; rfl) (by kernel_rfl) (by kernel_rfl) (by kernel_rfl) (fun _ _ _ h => h) (Or.inl ⟨by rfl, ?y27⟩) hHeld ?r27
          case y27 => (intro w hSw; (try dsimp only at hSw); go_simp; try with_reducible rfl)
          try simp only [Act.put, List.setIfInBounds_toArray, List.set_cons_zero, List.set_cons_succ]
          refine wpAnyH_take (i := 15) (oi := _) (v := ?v28) (by simp only [List.getElem?_toArray, List.getElem?_cons_succ, List.getElem?_cons_zero]; rfl) (by kernel_rfl) (by kernel_rfl) (by kernel_rfl) (fun _ _ _ h => h) (Or.inl ⟨by rfl, ?y28⟩) hHeld ?r28
          case y28 => (intro w hSw; (try dsimp only at hSw); go_simp; try with_reducible rfl)
          try simp only [Act.put, List.setIfInBounds_toArray, List.set_cons_zero, List.set_cons_succ]
          refine wpAnyH_ready (rs := [16]) (by kernel_rfl) (by simp) ?_
          refine AllReadyH.cons (o := _) (by simp only [List.getElem?_toArray, List.getElem?_cons_succ, List.getElem?_cons_zero]; rfl) (fun K hK => ?_) AllReadyH.nil
          go_simp
          refine (HTO.out _ hHeld.2.2.2).mono ?_
          rintro e w5 ⟨rfl, bN⟩
          try (go_wp2_with fail)
          refine hK.out _ _ (⟨cell_later bN hHeld.1, cell_later bN hHeld.2.1, cell_later bN hHeld.2.2.1, erri_call HD.out hHeld.2.2.2 HZ2.out bN⟩) (fun hHeld => ?_)
          clear hK K
          try simp only [Act.put, List.setIfInBounds_toArray, List.set_cons_zero, List.set_cons_succ]
          clear bN
          refine wpAnyH_take (i := 17) (oi := _) (v := ?v29) (by simp only [List.getElem?_toArray, List.getElem?_cons_succ, List.getElem?_cons_zero]; rfl) (by kernel_rfl) (by kernel_rfl) (by kernel_rfl) (fun _ _ _ h => h) (Or.inl ⟨by rfl, ?y29⟩) hHeld ?r29
          case y29 => (intro w hSw; (try dsimp only at hSw); go_simp; try with_reducible rfl)
          try simp only [Act.put, List.setIfInBounds_toArray, List.set_cons_zero, List.set_cons_succ]
          refine wpAnyH_take (i := 18) (oi := _) (v := ?v30) (by simp only [List.getElem?_toArray, List.getElem?_cons_succ, List.getElem?_cons_zero]; rfl) (by kernel_rfl) (by kernel_rfl) (by kernel_rfl) (fun _ _ _ h => h) (Or.inl ⟨by rfl, ?y30⟩) hHeld ?r30
          case y30 => (intro w hSw; (try dsimp only at hSw); go_simp; try with_reducible rfl)
          try simp only [Act.put, List.setIfInBounds_toArray, List.set_cons_zero, List.set_cons_succ]
          refine wpAnyH_take (i := 19) (oi := _) (v := ?v31) (by simp only [List.getElem?_toArray, List.getElem?_cons_succ, List.getElem?_cons_zero]; rfl) (by kernel_rfl) (by kernel_rfl) (by kernel_rfl) (fun _ _ _ h => h) (Or.inl ⟨by rfl, ?y31⟩) hHeld ?r31
          case y31 => (intro w hSw; (try dsimp only at hSw); go_simp; try with_reducible rfl)
          try simp only [Act.put, List.setIfInBounds_toArray, List.set_cons_zero, List.set_cons_succ]
          refine wpAnyH_take (i := 20) (oi := _) (v := ?v32) (by simp only [List.getElem?_toArray, List.getElem?_cons_succ, List.getElem?_cons_zero]; rfl) (by kernel_rfl) (by kernel_rfl) (by kernel_rfl) (fun _ _ _ h => h) (Or.inl ⟨by rfl, ?y32⟩) hHeld ?r32
          case y32 => (intro w hSw; (try dsimp only at hSw); go_simp; try with_reducible rfl)
          try simp only [Act.put, List.setIfInBounds_toArray, List.set_cons_zero, List.set_cons_succ]
          refine wpAnyH_take (i := 21) (oi := _) (v := ?v33) (by simp only [List.getElem?_toArray, List.getElem?_cons_succ, List.getElem?_cons_zero]; rfl) (by kernel_rfl) (by kernel_rfl) (by kernel_rfl) (fun _ _ _ h => h) (Or.inl ⟨by rfl, ?y33⟩) hHeld ?r33
          case y33 => (intro w hSw; (try dsimp only at hSw); go_simp; try with_reducible rfl)
          try simp only [Act.put, List.setIfInBounds_toArray, List.set_cons_zero, List.set_cons_succ]
          refine wpAnyH_take (i := 22) (oi := _) (v := ?v34) (by simp only [List.getElem?_toArray, List.getElem?_cons_succ, List.getElem?_cons_zero]; rfl) (by kernel_rfl) (by kernel_rfl) (by kernel_rfl) (fun _ _ _ h => h) (Or.inl ⟨by rfl, ?y34⟩) hHeld ?r34
          case y34 => (intro w hSw; (try dsimp only at hSw); go_simp; try with_reducible rfl)
          try simp only [Act.put, List.setIfInBounds_toArray, List.set_cons_zero, List.set_cons_succ]
          refine wpAnyH_take (i := 23) (oi := _) (v := ?v35) (by simp only [List.getElem?_toArray, List.getElem?_cons_succ, List.getElem?_cons_zero]; rfl) (by kernel_rfl) (by kernel_rfl) (by kernel_rfl) (fun _ _ _ h => h) (Or.inl ⟨by rfl, ?y35⟩) hHeld ?r35
          case y35 => (intro w hSw; (try dsimp only at hSw); go_simp; try with_reducible rfl)
          try simp only [Act.put, List.setIfInBounds_toArray, List.set_cons_zero, List.set_cons_succ]
          refine wpAnyH_take (i := 24) (oi := _) (v := ?v36) (by simp only [List.getElem?_toArray, List.getElem?_cons_succ, List.getElem?_cons_zero]; rfl) (by kernel_rfl) (by kernel_rfl) (by kernel_rfl) (fun _ _ _ h => h) (Or.inl ⟨by rfl, ?y36⟩) hHeld ?r36
          case y36 => (intro w hSw; (try dsimp only at hSw); go_simp; try with_reducible rfl)
          try simp only [Act.put, List.setIfInBounds_toArray, List.set_cons_zero, List.set_cons_succ]
          refine wpAnyH_take (i := 25) (oi := _) (v := ?v37) (by simp only [List.getElem?_toArray, List.getElem?_cons_succ, List.getElem?_cons_zero]; rfl) (by kernel_rfl) (by kernel_rfl) (by kernel_rfl) (fun _ _ _ h => h) (Or.inl ⟨by rfl, ?y37⟩) hHeld ?r37
          case y37 => (intro w hSw; (try dsimp only at hSw); go_simp; try with_reducible rfl)
          try simp only [Act.put, List.setIfInBounds_toArray, List.set_cons_zero, List.set_cons_succ]
          refine wpAnyH_ready (rs := [26]) (by kernel_rfl) (by simp) ?_
          refine AllReadyH.cons (o := _) (by simp only [List.getElem?_toArray, List.getElem?_cons_succ, List.getElem?_cons_zero]; rfl) (fun K hK => ?_) AllReadyH.nil
          go_simp
          refine (HAD.out _ pc 6 hHeld.2.2.2 HPC.out zF (by decide)).mono ?_
          rintro e w6 ⟨rfl, hI4, hK4⟩
          try (go_wp2_with fail)
          refine hK.out _ _ (⟨hK4 _ _ _ (Or.inr hPM) hHeld.1, hK4 _ _ _ (Or.inr hPM) hHeld.2.1, hK4 _ _ _ (Or.inl rfl) hHeld.2.2.1, hI4⟩) (fun hHeld => ?_)
          clear hK K
          try simp only [Act.put, List.setIfInBounds_toArray, List.set_cons_zero, List.set_cons_succ]
          clear hI4 hK4
          refine wpAnyH_take (i := 27) (oi := _) (v := ?v38) (by simp only [List.getElem?_toArray, List.getElem?_cons_succ, List.getElem?_cons_zero]; rfl) (by kernel_rfl) (by kernel_rfl) (by kernel_rfl) (fun _ _ _ h => h) (Or.inl ⟨by rfl, ?y38⟩) hHeld ?r38
          case y38 => (intro w hSw; (try dsimp only at hSw); go_simp; try with_reducible rfl)
          try simp only [Act.put, List.setIfInBounds_toArray, List.set_cons_zero, List.set_cons_succ]
          refine wpAnyH_take (i := 28) (oi := _) (v := ?v39) (by simp only [List.getElem?_toArray, List.getElem?_cons_succ, List.getElem?_cons_zero]; rfl) (by kernel_rfl) (by kernel_rfl) (by kernel_rfl) (fun _ _ _ h => h) (Or.inl ⟨by rfl, ?y39⟩) hHeld ?r39
          case y39 => (intro w hSw; (try dsimp only at hSw); go_simp; try with_reducible rfl)
          try simp only [Act.put, List.setIfInBounds_toArray, List.set_cons_zero, List.set_cons_succ]
          refine wpAnyH_take (i := 29) (oi := _) (v := ?v40) (by simp only [List.getElem?_toArray, List.getElem?_cons_succ, List.getElem?_cons_zero]; rfl) (by kernel_rfl) (by kernel_rfl) (by kernel_rfl) (fun _ _ _ h => h) (Or.inl ⟨by rfl, ?y40⟩) hHeld ?r40
          case y40 => (intro w hSw; (try dsimp only at hSw); go_simp; try with_reducible rfl)
          try simp only [Act.put, List.setIfInBounds_toArray, List.set_cons_zero, List.set_cons_succ]
          refine wpAnyH_done (by kernel_rfl) ?_ _
          refine NoPanic.normal ?_
          obtain ⟨hh0, hh1, hh2, S', hsd', hb'⟩ := hHeld
          have HSD := Lib.hid hsd'
          have HBW := Lib.hid (HB2.out.trans (hb'.mono (by omega)))
          have HZW := Lib.hid hb'.size
          clear hh0 hh1 hh2 hsd' hb' p0' p1' d1'
          go_wp2_with fail
          refine (HD.out.pairs w6 B S' m _ _ HSD.out.st (by have := HKL.out; omega)).mono ?_
          rintro e x1 ⟨u1, rfl, hu1, b13⟩
          obtain ⟨a1, c1, rfl, hq1⟩ := hu1.pairs (keeph_ok HSM.out.ok)
          have HX1 := Lib.hid b13
          have HQ1 := Lib.hid hq1
          clear hu1 hq1 b13
          go_wp2_with fail
          refine (hrkept_any x1 M m _ R (HSD.out.rf.call HX1.out) HSM.out.good HSM.out.ok (by have := HSM.out.len; omega) (by omega) n2).mono ?_
          rintro e x2 ⟨u2, rfl, hu2, b14⟩
          obtain ⟨a2, c2', rfl, hq2⟩ := hu2.pairs (keeph_ok HSM.out.ok)
          have HX2 := Lib.hid (HX1.out.trans (b14.mono HX1.out.size))
          have HQ2 := Lib.hid hq2
          have HQ1b := Lib.hid (HQ1.out.call b14)
          clear hu2 hq2 b14 HQ1 HX1
          go_wp2_with fail
          refine (same_any x2 a1 a2 c1 c2' _ _ true (decide_eq_true rfl) HQ1b.out HQ2.out (by have := HKL.out; omega) (by have := HKL.out; omega)).mono ?_
          rintro e x3 ⟨rfl, b15⟩
          have HX3 := Lib.hid (HX2.out.trans (b15.mono HX2.out.size))
          clear b15 HQ1b HQ2 HX2
          go_wp2_with fail
          refine (HD.out.lost x3 B S' m _ _ (HD.out.call HSD.out.st HX3.out)).mono ?_
          rintro e x4 ⟨rfl, b16⟩
          have HX4 := Lib.hid (HX3.out.trans (b16.mono HX3.out.size))
          clear b16 HX3
          go_wp2_with fail
          refine (hrlost_any x4 M m _ R _ (HSD.out.rf.call HX4.out) HSM.out.good HSM.out.ok (by have := HSM.out.len; omega) (by omega) n2 (by have := HT.out; omega) rfl).mono ?_
          rintro e x5 ⟨rfl, b17⟩
          have HX5 := Lib.hid (HX4.out.trans (b17.mono HX4.out.size))
          clear b17 HX4
          go_wp2_with fail
          refine (HD.out.merge x5 B S' m _ _ B S' _ _ (HD.out.call HSD.out.st HX5.out) (HD.out.call HSD.out.st HX5.out) (Or.inl rfl) HKL.out HKL.out (by have := HT.out; omega)).mono ?_
          rintro e x6 ⟨S9, rfl, h18, k18, hs18⟩
          rw [dbl_join (by omega) HSM.out.good HSM.out.ok (by have := HT.out; omega)] at h18
          have hS5 := HSD.out.call HD.out HX5.out
          have hr18 := hS5.past k18
          obtain ⟨a18, c18, e18, hsl18, hab18⟩ := Slab.of_own hr18.2 HSM.out.ok
          injection e18 with f1 f2 f3
          subst f1 f3
          have hM5 := hS5.rf.lt
          have hap : ∀ x, S9 x → x ≠ M ∧ blkA av ≠ some x := fun x hx => by
            have hav : ∀ g, blkA av = some g → (.slice av RN cv : Value).ownBlock = some g := fun g hg => by rw [blk_slice]; exact hg
            rcases hs18 x hx with a | a
            · exact ⟨(hS5.apart x a).1, fun e => (hS5.apart x a).2 (hav x e)⟩
            · exact ⟨by omega, fun e => by have := (hS5.rf.2.lt x (hav x e)).2; omega⟩
          have HAP := Lib.hid hap
          have HAB := Lib.hid hab18
          have HSL := Lib.hid hsl18
          have H18 := Lib.hid h18
          have M0 := Lib.hid hr18.1.c0
          have M1 := Lib.hid hr18.1.c1
          have HB18 := Lib.hid (k18.below (HBW.out.trans (HX5.out.mono HBW.out.size)) (HBW.out.trans (HX5.out.mono HBW.out.size)).size (fun k hk => by have := HSD.out.above k hk; omega))
          have HMAB := Lib.hid hS5.mab
          clear h18 k18 hs18 hS5 hr18 hsl18 hab18 hap hM5 HX5
          have mm1 := M1.out
          go_wp2_with fail
          clear mm1
          go_loopg [144] RN (fun g j wr => ∃ k : Nat, k ≤ RN ∧ g = RN - k ∧ j = .int .i64 k ∧ Slab wr av cv (dblTo R k) ∧ wr.cell? ⟨M, 0, none⟩ = some (.int .i64 m) ∧ wr.cell? ⟨M, 1, none⟩ = some (.slice av RN cv) ∧ Hw wr B S9 m (keepH m (R.map dblP)) (sumP R + sumP R) ∧ Below w.heap.size w wr)
          case atStart => exact ⟨0, Nat.zero_le _, rfl, rfl, by rw [dblTo_zero]; exact HSL.out, M0.out, M1.out, H18.out, HB18.out⟩
          case round =>
            clear HSL H18 M0 M1 HB18
            obtain ⟨k, hk, rfl, rfl, hsl, g0, g1, hlw, hb2⟩ := hrel
            have HSL := Lib.hid hsl
            have HLW := Lib.hid hlw
            have G0 := Lib.hid g0
            have HB2' := Lib.hid hb2
            clear hsl hlw g0 hb2
            by_cases hlt : k < RN
            · have kk : (k : Int) < (RN : Int) := by omega
              have hkl : k < R.length := by have := HRN.out; omega
              have hxk : R[k]? = some R[k] := List.getElem?_eq_getElem hkl
              generalize hit : R[k] = x at *
              obtain ⟨xi, xc⟩ := x
              obtain ⟨e1, e2, e3⟩ := dblTo_at hxk
              have hok := HSM.out.ok _ (List.mem_of_getElem? hxk)
              have hcl : xc ≤ sumP R := by
                have h1 := sumP_take (L := R) (k + 1) (ok_pos HSM.out.ok)
                have h2 := sumP_take (L := R) k (ok_pos HSM.out.ok)
                rw [take_snocP hxk, sumP_app, sumP_one] at h1
                have h3 : (xi, xc).2 = xc := rfl
                omega
              have hTT := HT.out
              obtain ⟨gg, off, rfl, hbl, _, y1⟩ := HSL.out.pairs.at_ k _ e3
              simp only at y1
              have yf : wr.frozen? ⟨gg, off + k * 2 + 1, none⟩ = false := by
                rcases HSL.out.blk with ⟨e, _⟩ | ⟨g', off', cs, e, hb⟩
                · cases e
                · obtain ⟨rfl, rfl, _⟩ := Addr.mk.inj (Option.some.inj e)
                  exact free8 hb _
              have HOK := Lib.hid hok
              obtain ⟨⟨o1, o2⟩, o3, o4⟩ := hok
              simp only at o1 o2 o3 o4
              have u2 : IntKind.u64.wrap (2 * xc) = 2 * xc := by rw [IntKind.wrap_u64]; omega
              have hput : Slab (wr.setCell ⟨gg, off + k * 2 + 1, none⟩ (.int .u64 (2 * xc))) (some ⟨gg, off, none⟩) cv (dblTo R (k + 1)) := by
                have h := HSL.out
                have h2 := h.put (n := k) e1 (by rw [List.length_map, List.length_take]; omega) (m' := 2 * xc) HOK.out.1 ⟨by omega, by omega⟩
                have e2' : (R.take k).map dblP ++ ((xi, 2 * xc) :: R.drop (k + 1)) = dblTo R (k + 1) := e2
                rwa [e2'] at h2
              have hgM : gg ≠ M := fun e => by have := HAB.out gg rfl; omega
              have hgS : ∀ x, S9 x → x ≠ gg := fun x hx e => (HAP.out x hx).2 (by rw [e]; rfl)
              have hgw : w.heap.size ≤ gg := by have := HAB.out gg rfl; have := HMAB.out; omega
              have HPUT := Lib.hid hput
              have HGM := Lib.hid hgM
              have HGS := Lib.hid hgS
              have HGW := Lib.hid hgw
              clear hxk hit e1 e2 e3 hput hgM hgS hgw hcl hTT hkl
              go_wp2_with fail
              go_region
              go_wp2_with fail
              go_roundg (RN - (k + 1))
              case measure => omega
              case rel =>
                have hd : Below (wr.setCell ⟨gg, off + k * 2 + 1, none⟩ (.int .u64 (2 * xc))).heap.size (wr.setCell ⟨gg, off + k * 2 + 1, none⟩ (.int .u64 (2 * xc))) (wr.setCell ⟨gg, off + k * 2 + 1, none⟩ (.int .u64 (2 * xc))).drew := (Below.refl _ _).drew
                have hg := grown_setCell wr gg (off + k * 2 + 1) (.int .u64 (2 * xc))
                refine ⟨k + 1, hlt, rfl, by go_num, ?_, ?_, ?_, ?_, (HB2'.out.setCell (p := ⟨gg, off + k * 2 + 1, none⟩) HGW.out _).drew⟩
                · exact HPUT.out.call hd
                · refine cell_later hd ?_
                  rw [World.cell?_setCell_other _ _ _ _ (two_far HGM.out)]; exact G0.out
                · refine cell_later hd ?_
                  rw [World.cell?_setCell_other _ _ _ _ (two_far HGM.out)]; exact g1
                · exact HD.out.call (HD.out.keep _ _ _ _ _ _ _ HLW.out (fun x hx => Below.heap_setCell _ _ _ _ (HGS.out x hx))) hd
            · obtain rfl : k = RN := by omega
              have kk : ¬ (k : Int) < (k : Int) := by omega
              have hsl := HSL.out
              rw [show dblTo R k = R.map dblP by rw [← HRN.out]; exact dblTo_all R] at hsl
              have HPD := Lib.hid hsl.pairs
              have HLEN : Hid ((R.map dblP).length = k) := Lib.hid (by rw [List.length_map]; exact HRN.out)
              have hdg := dbl_good HSM.out.good (by have := HT.out; omega)
              have HDG := Lib.hid hdg
              have HDK := Lib.hid (dbl_ok HSM.out.good HSM.out.ok (by have := HT.out; omega))
              have HDL : Hid ((keepH m (R.map dblP)).length ≤ 300) := Lib.hid (Nat.le_trans (keeph_le _ _) (by have := HLEN.out; omega))
              have g1' := Lib.hid g1
              clear hsl hdg g1
              go_wp2_with fail
              refine (HD.out.pairs wr B S9 m _ _ HLW.out (by have := HDL.out; omega)).mono ?_
              rintro e y1 ⟨u1, rfl, hu1, b1⟩
              obtain ⟨a1, c1, rfl, hq1⟩ := hu1.pairs (keeph_ok HDK.out)
              have HY1 := Lib.hid b1
              have HQ1 := Lib.hid hq1
              clear hu1 hq1 b1
              go_wp2_with fail
              refine (hrkept_of y1 M m av cv (R.map dblP) (HPD.out.call HY1.out) (cell_later HY1.out G0.out) (by rw [HLEN.out]; exact cell_later HY1.out g1'.out) HDG.out (by have := HLEN.out; omega) (by omega) n2).mono ?_
              rintro e y2 ⟨u2, rfl, hu2, b2⟩
              obtain ⟨a2, c2', rfl, hq2⟩ := hu2.pairs (keeph_ok HDK.out)
              have HY2 := Lib.hid (HY1.out.trans (b2.mono HY1.out.size))
              have HQ2 := Lib.hid hq2
              have HQ1b := Lib.hid (HQ1.out.call b2)
              clear hu2 hq2 b2 HQ1 HY1
              go_wp2_with fail
              refine (same_any y2 a1 a2 c1 c2' _ _ true (decide_eq_true rfl) HQ1b.out HQ2.out (by have := HDL.out; omega) (by have := HDL.out; omega)).mono ?_
              rintro e y3 ⟨rfl, b3⟩
              have HY3 := Lib.hid (HY2.out.trans (b3.mono HY2.out.size))
              clear b3 HQ1b HQ2 HY2
              go_wp2_with fail
              refine (HD.out.lost y3 B S9 m _ _ (HD.out.call HLW.out HY3.out)).mono ?_
              rintro e y4 ⟨rfl, b4⟩
              have HY4 := Lib.hid (HY3.out.trans (b4.mono HY3.out.size))
              clear b4 HY3
              go_wp2_with fail
              refine (hrlost_of y4 M m av cv (R.map dblP) (sumP R + sumP R - sumP (keepH m (R.map dblP))) (HPD.out.call HY4.out) (cell_later HY4.out G0.out) (by rw [HLEN.out]; exact cell_later HY4.out g1'.out) HDG.out (by have := HLEN.out; omega) (by omega) n2 (by rw [dbl_sum]; have := HT.out; omega) (by rw [dbl_sum]; omega)).mono ?_
              rintro e y5 ⟨rfl, b5⟩
              have HY5 := Lib.hid (HY4.out.trans (b5.mono HY4.out.size))
              clear b5 HY4
              go_wp2_with fail
              go_ret
              exact ⟨rfl, HB2'.out.trans (HY5.out.mono HB2'.out.size)⟩
        · have c3 : decide (9223372036854775807 - T < pc) = false := decide_eq_false c2
          clear c0
          refine wp_region_noPanic ?_
          refine wp_region_held_drew (S := fun w' => w'.cell? ⟨w.heap.size, 0, none⟩ = some (.int .i64 px) ∧ w'.cell? ⟨w.heap.size, 1, none⟩ = some (.int .u64 pc) ∧ w'.cell? ⟨M, 1, none⟩ = some (.slice av RN cv) ∧ ErrI Hw w2 w10.heap.size B m R M (.slice av RN cv) w') (by kernel_rfl) (⟨by go_simp, by go_simp, by go_simp, erri_call HD.out HI2.out HZ2.out (Below.refl _ _).drew⟩) (fun hHeld => ?_)
          refine wpAnyH_take (i := 0) (oi := _) (v := ?v41) (by simp only [List.getElem?_toArray, List.getElem?_cons_succ, List.getElem?_cons_zero]; rfl) (by kernel_rfl) (by kernel_rfl) (by kernel_rfl) (fun _ _ _ h => h) (Or.inl ⟨by rfl, ?y41⟩) hHeld ?r41
          case y41 => (intro w hSw; (try dsimp only at hSw); go_simp; try with_reducible rfl)
          try simp only [Act.put, List.setIfInBounds_toArray, List.set_cons_zero, List.set_cons_succ]
          refine wpAnyH_take (i := 1) (oi := _) (v := ?v42) (by simp only [List.getElem?_toArray, List.getElem?_cons_succ, List.getElem?_cons_zero]; rfl) (by kernel_rfl) (by kernel_rfl) (by kernel_rfl) (fun _ _ _ h => h) (Or.inl ⟨by rfl, ?y42⟩) hHeld ?r42
          case y42 => (intro w hSw; (try dsimp only at hSw); go_simp; try with_reducible rfl)
          try simp only [Act.put, List.setIfInBounds_toArray, List.set_cons_zero, List.set_cons_succ]
          refine wpAnyH_take (i := 2) (oi := _) (v := ?v43) (by simp only [List.getElem?_toArray, List.getElem?_cons_succ, List.getElem?_cons_zero]; rfl) (by kernel_rfl) (by kernel_rfl) (by kernel_rfl) (fun _ _ _ h => h) (Or.inl ⟨by rfl, ?y43⟩) hHeld ?r43
          case y43 => (intro w hSw; (try dsimp only at hSw); go_simp; try with_reducible rfl)
          try simp only [Act.put, List.setIfInBounds_toArray, List.set_cons_zero, List.set_cons_succ]
          refine wpAnyH_ready (rs := [3]) (by kernel_rfl) (by simp) ?_
          refine AllReadyH.cons (o := _) (by simp only [List.getElem?_toArray, List.getElem?_cons_succ, List.getElem?_cons_zero]; rfl) (fun K hK => ?_) AllReadyH.nil
          go_simp
          refine (HAD.out _ 0 1 hHeld.2.2.2 ⟨by decide, by decide⟩ z1 (by decide)).mono ?_
          rintro e w4 ⟨rfl, hI4, hK4⟩
          try (go_wp2_with fail)
          refine hK.out _ _ (⟨hK4 _ _ _ (Or.inr hPM) hHeld.1, hK4 _ _ _ (Or.inr hPM) hHeld.2.1, hK4 _ _ _ (Or.inl rfl) hHeld.2.2.1, hI4⟩) (fun hHeld => ?_)
          clear hK K
          try simp only [Act.put, List.setIfInBounds_toArray, List.set_cons_zero, List.set_cons_succ]
          clear hI4 hK4
          refine wpAnyH_take (i := 4) (oi := _) (v := ?v44) (by simp only [List.getElem?_toArray, List.getElem?_cons_succ, List.getElem?_cons_zero]; rfl) (by kernel_rfl) (by kernel_rfl) (by kernel_rfl) (fun _ _ _ h => h) (Or.inl ⟨by rfl, ?y44⟩) hHeld ?r44
          case y44 => (intro w hSw; (try dsimp only at hSw); go_simp; try with_reducible rfl)
          try simp only [Act.put, List.setIfInBounds_toArray, List.set_cons_zero, List.set_cons_succ]
          refine wpAnyH_take (i := 5) (oi := _) (v := ?v45) (by simp only [List.getElem?_toArray, List.getElem?_cons_succ, List.getElem?_cons_zero]; rfl) (by kernel_rfl) (by kernel_rfl) (by kernel_rfl) (fun _ _ _ h => h) (Or.inl ⟨by rfl, ?y45⟩) hHeld ?r45
          case y45 => (intro w hSw; (try dsimp only at hSw); go_simp; try with_reducible rfl)
          try simp only [Act.put, List.setIfInBounds_toArray, List.set_cons_zero, List.set_cons_succ]
          refine wpAnyH_take (i := 6) (oi := _) (v := ?v46) (by simp only [List.getElem?_toArray, List.getElem?_cons_succ, List.getElem?_cons_zero]; rfl) (by kernel_rfl) (by kernel_rfl) (by kernel_rfl) (fun _ _ _ h => h) (Or.inl ⟨by rfl, ?y46⟩) hHeld ?r46
          case y46 => (intro w hSw; (try dsimp only at hSw); go_simp; try with_reducible rfl)
          try simp only [Act.put, List.setIfInBounds_toArray, List.set_cons_zero, List.set_cons_succ]
          refine wpAnyH_take (i := 7) (oi := _) (v := ?v47) (by simp only [List.getElem?_toArray, List.getElem?_cons_succ, List.getElem?_cons_zero]; rfl) (by kernel_rfl) (by kernel_rfl) (by kernel_rfl) (fun _ _ _ h => h) (Or.inl ⟨by rfl, ?y47⟩) hHeld ?r47
          case y47 => (intro w hSw; (try dsimp only at hSw); go_simp; try with_reducible rfl)
          try simp only [Act.put, List.setIfInBounds_toArray, List.set_cons_zero, List.set_cons_succ]
          refine wpAnyH_take (i := 8) (oi := _) (v := ?v48) (by simp only [List.getElem?_toArray, List.getElem?_cons_succ, List.getElem?_cons_zero]; rfl) (by kernel_rfl) (by kernel_rfl) (by kernel_rfl) (fun _ _ _ h => h) (Or.inl ⟨by rfl, ?y48⟩) hHeld ?r48
          case y48 => (intro w hSw; (try dsimp only at hSw); go_simp; try with_reducible rfl)
          try simp only [Act.put, List.setIfInBounds_toArray, List.set_cons_zero, List.set_cons_succ]
          refine wpAnyH_take (i := 9) (oi := _) (v := ?v49) (by simp only [List.getElem?_toArray, List.getElem?_cons_succ, List.getElem?_cons_zero]; rfl) (by kernel_rfl) (by kernel_rfl) (by kernel_rfl) (fun _ _ _ h => h) (Or.inl ⟨by rfl, ?y49⟩) hHeld ?r49
          case y49 => (intro w hSw; (try dsimp only at hSw); go_simp; try with_reducible rfl)
          try simp only [Act.put, List.setIfInBounds_toArray, List.set_cons_zero, List.set_cons_succ]
          refine wpAnyH_take (i := 10) (oi := _) (v := ?v50) (by simp only [List.getElem?_toArray, List.getElem?_cons_succ, List.getElem?_cons_zero]; rfl) (by kernel_rfl) (by kernel_rfl) (by kernel_rfl) (fun _ _ _ h => h) (Or.inl ⟨by rfl, ?y50⟩) hHeld ?r50
          case y50 => (intro w hSw; (try dsimp only at hSw); go_simp; try with_reducible rfl)
          try simp only [Act.put, List.setIfInBounds_toArray, List.set_cons_zero, List.set_cons_succ]
          refine wpAnyH_take (i := 11) (oi := _) (v := ?v51) (by simp only [List.getElem?_toArray, List.getElem?_cons_succ, List.getElem?_cons_zero]; rfl) (by kernel_rfl) (by kernel_rfl) (by kernel_rfl) (fun _ _ _ h => h) (Or.inl ⟨by rfl, ?y51⟩) hHeld ?r51
          case y51 => (intro w hSw; (try dsimp only at hSw); go_simp; try with_reducible rfl)
          try simp only [Act.put, List.setIfInBounds_toArray, List.set_cons_zero, List.set_cons_succ]
          refine wpAnyH_take (i := 12) (oi := _) (v := ?v52) (by simp only [List.getElem?_toArray, List.getElem?_cons_succ, List.getElem?_cons_zero]; rfl) (by kernel_rfl) (by kernel_rfl) (by kernel_rfl) (fun _ _ _ h => h) (Or.inl ⟨by rfl, ?y52⟩) hHeld ?r52
          case y52 => (intro w hSw; (try dsimp only at hSw); go_simp; try with_reducible rfl)
          try simp only [Act.put, List.setIfInBounds_toArray, List.set_cons_zero, List.set_cons_succ]
          refine wpAnyH_take (i := 13) (oi := _) (v := ?v53) (by simp only [List.getElem?_toArray, List.getElem?_cons_succ, List.getElem?_cons_zero]; rfl) (by kernel_rfl) (by kernel_rfl) (by kernel_rfl) (fun _ _ _ h => h) (Or.inl ⟨by rfl, ?y53⟩) hHeld ?r53
          case y53 => (intro w hSw; (try dsimp only at hSw); go_simp; try with_reducible rfl)
          try simp only [Act.put, List.setIfInBounds_toArray, List.set_cons_zero, List.set_cons_succ]
          refine wpAnyH_take (i := 14) (oi := _) (v := ?v54) (by simp only [List.getElem?_toArray, List.getElem?_cons_succ, List.getElem?_cons_zero]; rfl) (by kernel_rfl) (by kernel_rfl) (by kernel_rfl) (fun _ _ _ h => h) (Or.inl ⟨by rfl, ?y54⟩) hHeld ?r54
          case y54 => (intro w hSw; (try dsimp only at hSw); go_simp; try with_reducible rfl)
          try simp only [Act.put, List.setIfInBounds_toArray, List.set_cons_zero, List.set_cons_succ]
          refine wpAnyH_take (i := 15) (oi := _) (v := ?v55) (by simp only [List.getElem?_toArray, List.getElem?_cons_succ, List.getElem?_cons_zero]; rfl) (by kernel_rfl) (by kernel_rfl) (by kernel_rfl) (fun _ _ _ h => h) (Or.inl ⟨by rfl, ?y55⟩) hHeld ?r55
          case y55 => (intro w hSw; (try dsimp only at hSw); go_simp; try with_reducible rfl)
          try simp only [Act.put, List.setIfInBounds_toArray, List.set_cons_zero, List.set_cons_succ]
          refine wpAnyH_ready (rs := [16]) (by kernel_rfl) (by simp) ?_
          refine AllReadyH.cons (o := _) (by simp only [List.getElem?_toArray, List.getElem?_cons_succ, List.getElem?_cons_zero]; rfl) (fun K hK => ?_) AllReadyH.nil
          go_simp
          refine (HTO.out _ hHeld.2.2.2).mono ?_
          rintro e w5 ⟨rfl, bN⟩
          try (go_wp2_with fail)
          refine hK.out _ _ (⟨cell_later bN hHeld.1, cell_later bN hHeld.2.1, cell_later bN hHeld.2.2.1, erri_call HD.out hHeld.2.2.2 HZ2.out bN⟩) (fun hHeld => ?_)
          clear hK K
          try simp only [Act.put, List.setIfInBounds_toArray, List.set_cons_zero, List.set_cons_succ]
          clear bN
          refine wpAnyH_take (i := 17) (oi := _) (v := ?v56) (by simp only [List.getElem?_toArray, List.getElem?_cons_succ, List.getElem?_cons_zero]; rfl) (by kernel_rfl) (by kernel_rfl) (by kernel_rfl) (fun _ _ _ h => h) (Or.inl ⟨by rfl, ?y56⟩) hHeld ?r56
          case y56 => (intro w hSw; (try dsimp only at hSw); go_simp; try with_reducible rfl)
          try simp only [Act.put, List.setIfInBounds_toArray, List.set_cons_zero, List.set_cons_succ]
          refine wpAnyH_take (i := 18) (oi := _) (v := ?v57) (by simp only [List.getElem?_toArray, List.getElem?_cons_succ, List.getElem?_cons_zero]; rfl) (by kernel_rfl) (by kernel_rfl) (by kernel_rfl) (fun _ _ _ h => h) (Or.inl ⟨by rfl, ?y57⟩) hHeld ?r57
          case y57 => (intro w hSw; (try dsimp only at hSw); go_simp; try with_reducible rfl)
          try simp only [Act.put, List.setIfInBounds_toArray, List.set_cons_zero, List.set_cons_succ]
          refine wpAnyH_take (i := 19) (oi := _) (v := ?v58) (by simp only [List.getElem?_toArray, List.getElem?_cons_succ, List.getElem?_cons_zero]; rfl) (by kernel_rfl) (by kernel_rfl) (by kernel_rfl) (fun _ _ _ h => h) (Or.inl ⟨by rfl, ?y58⟩) hHeld ?r58
          case y58 => (intro w hSw; (try dsimp only at hSw); go_simp; try with_reducible rfl)
          try simp only [Act.put, List.setIfInBounds_toArray, List.set_cons_zero, List.set_cons_succ]
          refine wpAnyH_take (i := 20) (oi := _) (v := ?v59) (by simp only [List.getElem?_toArray, List.getElem?_cons_succ, List.getElem?_cons_zero]; rfl) (by kernel_rfl) (by kernel_rfl) (by kernel_rfl) (fun _ _ _ h => h) (Or.inl ⟨by rfl, ?y59⟩) hHeld ?r59
          case y59 => (intro w hSw; (try dsimp only at hSw); go_simp; try with_reducible rfl)
          try simp only [Act.put, List.setIfInBounds_toArray, List.set_cons_zero, List.set_cons_succ]
          refine wpAnyH_take (i := 21) (oi := _) (v := _) (by simp only [List.getElem?_toArray, List.getElem?_cons_succ, List.getElem?_cons_zero]; rfl) (by kernel_rfl) (by kernel_rfl) (by kernel_rfl) (fun _ _ _ h => h) (Or.inr ⟨by rfl, rfl⟩) hHeld ?_
          try simp only [Act.put, List.setIfInBounds_toArray, List.set_cons_zero, List.set_cons_succ]
          refine wpAnyH_take (i := 22) (oi := _) (v := _) (by simp only [List.getElem?_toArray, List.getElem?_cons_succ, List.getElem?_cons_zero]; rfl) (by kernel_rfl) (by kernel_rfl) (by kernel_rfl) (fun _ _ _ h => h) (Or.inr ⟨by rfl, rfl⟩) hHeld ?_
          try simp only [Act.put, List.setIfInBounds_toArray, List.set_cons_zero, List.set_cons_succ]
          refine wpAnyH_take (i := 23) (oi := _) (v := _) (by simp only [List.getElem?_toArray, List.getElem?_cons_succ, List.getElem?_cons_zero]; rfl) (by kernel_rfl) (by kernel_rfl) (by kernel_rfl) (fun _ _ _ h => h) (Or.inr ⟨by rfl, rfl⟩) hHeld ?_
          try simp only [Act.put, List.setIfInBounds_toArray, List.set_cons_zero, List.set_cons_succ]
          refine wpAnyH_take (i := 24) (oi := _) (v := _) (by simp only [List.getElem?_toArray, List.getElem?_cons_succ, List.getElem?_cons_zero]; rfl) (by kernel_rfl) (by kernel_rfl) (by kernel_rfl) (fun _ _ _ h => h) (Or.inr ⟨by rfl, rfl⟩) hHeld ?_
          try simp only [Act.put, List.setIfInBounds_toArray, List.set_cons_zero, List.set_cons_succ]
          refine wpAnyH_take (i := 25) (oi := _) (v := _) (by simp only [List.getElem?_toArray, List.getElem?_cons_succ, List.getElem?_cons_zero]; rfl) (by kernel_rfl) (by kernel_rfl) (by kernel_rfl) (fun _ _ _ h => h) (Or.inr ⟨by rfl, rfl⟩) hHeld ?_
          try simp only [Act.put, List.setIfInBounds_toArray, List.set_cons_zero, List.set_cons_succ]
          refine wpAnyH_take (i := 26) (oi := _) (v := _) (by simp only [List.getElem?_toArray, List.getElem?_cons_succ, List.getElem?_cons_zero]; rfl) (by kernel_rfl) (by kernel_rfl) (by kernel_rfl) (fun _ _ _ h => h) (Or.inr ⟨by rfl, rfl⟩) hHeld ?_
          try simp only [Act.put, List.setIfInBounds_toArray, List.set_cons_zero, List.set_cons_succ]
          refine wpAnyH_take (i := 27) (oi := _) (v := _) (by simp only [List.getElem?_toArray, List.getElem?_cons_succ, List.getElem?_cons_zero]; rfl) (by kernel_rfl) (by kernel_rfl) (by kernel_rfl) (fun _ _ _ h => h) (Or.inr ⟨by rfl, rfl⟩) hHeld ?_
          try simp only [Act.put, List.setIfInBounds_toArray, List.set_cons_zero, List.set_cons_succ]
          refine wpAnyH_take (i := 28) (oi := _) (v := ?v60) (by simp only [List.getElem?_toArray, List.getElem?_cons_succ, List.getElem?_cons_zero]; rfl) (by kernel_rfl) (by kernel_rfl) (by kernel_rfl) (fun _ _ _ h => h) (Or.inl ⟨by rfl, ?y60⟩) hHeld ?r60
          case y60 => (intro w hSw; (try dsimp only at hSw); go_simp; try with_reducible rfl)
          try simp only [Act.put, List.setIfInBounds_toArray, List.set_cons_zero, List.set_cons_succ]
          refine wpAnyH_take (i := 29) (oi := _) (v := ?v61) (by simp only [List.getElem?_toArray, List.getElem?_cons_succ, List.getElem?_cons_zero]; rfl) (by kernel_rfl) (by kernel_rfl) (by kernel_rfl) (fun _ _ _ h => h) (Or.inl ⟨by rfl, ?y61⟩) hHeld ?r61
          case y61 => (intro w hSw; (try dsimp only at hSw); go_simp; try with_reducible rfl)
          try simp only [Act.put, List.setIfInBounds_toArray, List.set_cons_zero, List.set_cons_succ]
          refine wpAnyH_done (by kernel_rfl) ?_ _
          refine NoPanic.normal ?_
          obtain ⟨hh0, hh1, hh2, S', hsd', hb'⟩ := hHeld
          have HSD := Lib.hid hsd'
          have HBW := Lib.hid (HB2.out.trans (hb'.mono (by omega)))
          have HZW := Lib.hid hb'.size
          clear hh0 hh1 hh2 hsd' hb' p0' p1' d1'
          go_wp2_with fail
          refine (HD.out.pairs w5 B S' m _ _ HSD.out.st (by have := HKL.out; omega)).mono ?_
          rintro e x1 ⟨u1, rfl, hu1, b13⟩
          obtain ⟨a1, c1, rfl, hq1⟩ := hu1.pairs (keeph_ok HSM.out.ok)
          have HX1 := Lib.hid b13
          have HQ1 := Lib.hid hq1
          clear hu1 hq1 b13
          go_wp2_with fail
          refine (hrkept_any x1 M m _ R (HSD.out.rf.call HX1.out) HSM.out.good HSM.out.ok (by have := HSM.out.len; omega) (by omega) n2).mono ?_
          rintro e x2 ⟨u2, rfl, hu2, b14⟩
          obtain ⟨a2, c2', rfl, hq2⟩ := hu2.pairs (keeph_ok HSM.out.ok)
          have HX2 := Lib.hid (HX1.out.trans (b14.mono HX1.out.size))
          have HQ2 := Lib.hid hq2
          have HQ1b := Lib.hid (HQ1.out.call b14)
          clear hu2 hq2 b14 HQ1 HX1
          go_wp2_with fail
          refine (same_any x2 a1 a2 c1 c2' _ _ true (decide_eq_true rfl) HQ1b.out HQ2.out (by have := HKL.out; omega) (by have := HKL.out; omega)).mono ?_
          rintro e x3 ⟨rfl, b15⟩
          have HX3 := Lib.hid (HX2.out.trans (b15.mono HX2.out.size))
          clear b15 HQ1b HQ2 HX2
          go_wp2_with fail
          refine (HD.out.lost x3 B S' m _ _ (HD.out.call HSD.out.st HX3.out)).mono ?_
          rintro e x4 ⟨rfl, b16⟩
          have HX4 := Lib.hid (HX3.out.trans (b16.mono HX3.out.size))
          clear b16 HX3
          go_wp2_with fail
          refine (hrlost_any x4 M m _ R _ (HSD.out.rf.call HX4.out) HSM.out.good HSM.out.ok (by have := HSM.out.len; omega) (by omega) n2 (by have := HT.out; omega) rfl).mono ?_
          rintro e x5 ⟨rfl, b17⟩
          have HX5 := Lib.hid (HX4.out.trans (b17.mono HX4.out.size))
          clear b17 HX4
          go_wp2_with fail
          refine (HD.out.merge x5 B S' m _ _ B S' _ _ (HD.out.call HSD.out.st HX5.out) (HD.out.call HSD.out.st HX5.out) (Or.inl rfl) HKL.out HKL.out (by have := HT.out; omega)).mono ?_
          rintro e x6 ⟨S9, rfl, h18, k18, hs18⟩
          rw [dbl_join (by omega) HSM.out.good HSM.out.ok (by have := HT.out; omega)] at h18
          have hS5 := HSD.out.call HD.out HX5.out
          have hr18 := hS5.past k18
          obtain ⟨a18, c18, e18, hsl18, hab18⟩ := Slab.of_own hr18.2 HSM.out.ok
          injection e18 with f1 f2 f3
          subst f1 f3
          have hM5 := hS5.rf.lt
          have hap : ∀ x, S9 x → x ≠ M ∧ blkA av ≠ some x := fun x hx => by
            have hav : ∀ g, blkA av = some g → (.slice av RN cv : Value).ownBlock = some g := fun g hg => by rw [blk_slice]; exact hg
            rcases hs18 x hx with a | a
            · exact ⟨(hS5.apart x a).1, fun e => (hS5.apart x a).2 (hav x e)⟩
            · exact ⟨by omega, fun e => by have := (hS5.rf.2.lt x (hav x e)).2; omega⟩
          have HAP := Lib.hid hap
          have HAB := Lib.hid hab18
          have HSL := Lib.hid hsl18
          have H18 := Lib.hid h18
          have M0 := Lib.hid hr18.1.c0
          have M1 := Lib.hid hr18.1.c1
          have HB18 := Lib.hid (k18.below (HBW.out.trans (HX5.out.mono HBW.out.size)) (HBW.out.trans (HX5.out.mono HBW.out.size)).size (fun k hk => by have := HSD.out.above k hk; omega))
          have HMAB := Lib.hid hS5.mab
          clear h18 k18 hs18 hS5 hr18 hsl18 hab18 hap hM5 HX5
          have mm1 := M1.out
          go_wp2_with fail
          clear mm1
          go_loopg [144] RN (fun g j wr => ∃ k : Nat, k ≤ RN ∧ g = RN - k ∧ j = .int .i64 k ∧ Slab wr av cv (dblTo R k) ∧ wr.cell? ⟨M, 0, none⟩ = some (.int .i64 m) ∧ wr.cell? ⟨M, 1, none⟩ = some (.slice av RN cv) ∧ Hw wr B S9 m (keepH m (R.map dblP)) (sumP R + sumP R) ∧ Below w.heap.size w wr)
          case atStart => exact ⟨0, Nat.zero_le _, rfl, rfl, by rw [dblTo_zero]; exact HSL.out, M0.out, M1.out, H18.out, HB18.out⟩
          case round =>
            clear HSL H18 M0 M1 HB18
            obtain ⟨k, hk, rfl, rfl, hsl, g0, g1, hlw, hb2⟩ := hrel
            have HSL := Lib.hid hsl
            have HLW := Lib.hid hlw
            have G0 := Lib.hid g0
            have HB2' := Lib.hid hb2
            clear hsl hlw g0 hb2
            by_cases hlt : k < RN
            · have kk : (k : Int) < (RN : Int) := by omega
              have hkl : k < R.length := by have := HRN.out; omega
              have hxk : R[k]? = some R[k] := List.getElem?_eq_getElem hkl
              generalize hit : R[k] = x at *
              obtain ⟨xi, xc⟩ := x
              obtain ⟨e1, e2, e3⟩ := dblTo_at hxk
              have hok := HSM.out.ok _ (List.mem_of_getElem? hxk)
              have hcl : xc ≤ sumP R := by
                have h1 := sumP_take (L := R) (k + 1) (ok_pos HSM.out.ok)
                have h2 := sumP_take (L := R) k (ok_pos HSM.out.ok)
                rw [take_snocP hxk, sumP_app, sumP_one] at h1
                have h3 : (xi, xc).2 = xc := rfl
                omega
              have hTT := HT.out
              obtain ⟨gg, off, rfl, hbl, _, y1⟩ := HSL.out.pairs.at_ k _ e3
              simp only at y1
              have yf : wr.frozen? ⟨gg, off + k * 2 + 1, none⟩ = false := by
                rcases HSL.out.blk with ⟨e, _⟩ | ⟨g', off', cs, e, hb⟩
                · cases e
                · obtain ⟨rfl, rfl, _⟩ := Addr.mk.inj (Option.some.inj e)
                  exact free8 hb _
              have HOK := Lib.hid hok
              obtain ⟨⟨o1, o2⟩, o3, o4⟩ := hok
              simp only at o1 o2 o3 o4
              have u2 : IntKind.u64.wrap (2 * xc) = 2 * xc := by rw [IntKind.wrap_u64]; omega
              have hput : Slab (wr.setCell ⟨gg, off + k * 2 + 1, none⟩ (.int .u64 (2 * xc))) (some ⟨gg, off, none⟩) cv (dblTo R (k + 1)) := by
                have h := HSL.out
                have h2 := h.put (n := k) e1 (by rw [List.length_map, List.length_take]; omega) (m' := 2 * xc) HOK.out.1 ⟨by omega, by omega⟩
                have e2' : (R.take k).map dblP ++ ((xi, 2 * xc) :: R.drop (k + 1)) = dblTo R (k + 1) := e2
                rwa [e2'] at h2
              have hgM : gg ≠ M := fun e => by have := HAB.out gg rfl; omega
              have hgS : ∀ x, S9 x → x ≠ gg := fun x hx e => (HAP.out x hx).2 (by rw [e]; rfl)
              have hgw : w.heap.size ≤ gg := by have := HAB.out gg rfl; have := HMAB.out; omega
              have HPUT := Lib.hid hput
              have HGM := Lib.hid hgM
              have HGS := Lib.hid hgS
              have HGW := Lib.hid hgw
              clear hxk hit e1 e2 e3 hput hgM hgS hgw hcl hTT hkl
              go_wp2_with fail
              go_region
              go_wp2_with fail
              go_roundg (RN - (k + 1))
              case measure => omega
              case rel =>
                have hd : Below (wr.setCell ⟨gg, off + k * 2 + 1, none⟩ (.int .u64 (2 * xc))).heap.size (wr.setCell ⟨gg, off + k * 2 + 1, none⟩ (.int .u64 (2 * xc))) (wr.setCell ⟨gg, off + k * 2 + 1, none⟩ (.int .u64 (2 * xc))).drew := (Below.refl _ _).drew
                have hg := grown_setCell wr gg (off + k * 2 + 1) (.int .u64 (2 * xc))
                refine ⟨k + 1, hlt, rfl, by go_num, ?_, ?_, ?_, ?_, (HB2'.out.setCell (p := ⟨gg, off + k * 2 + 1, none⟩) HGW.out _).drew⟩
                · exact HPUT.out.call hd
                · refine cell_later hd ?_
                  rw [World.cell?_setCell_other _ _ _ _ (two_far HGM.out)]; exact G0.out
                · refine cell_later hd ?_
                  rw [World.cell?_setCell_other _ _ _ _ (two_far HGM.out)]; exact g1
                · exact HD.out.call (HD.out.keep _ _ _ _ _ _ _ HLW.out (fun x hx => Below.heap_setCell _ _ _ _ (HGS.out x hx))) hd
            · obtain rfl : k = RN := by omega
              have kk : ¬ (k : Int) < (k : Int) := by omega
              have hsl := HSL.out
              rw [show dblTo R k = R.map dblP by rw [← HRN.out]; exact dblTo_all R] at hsl
              have HPD := Lib.hid hsl.pairs
              have HLEN : Hid ((R.map dblP).length = k) := Lib.hid (by rw [List.length_map]; exact HRN.out)
              have hdg := dbl_good HSM.out.good (by have := HT.out; omega)
              have HDG := Lib.hid hdg
              have HDK := Lib.hid (dbl_ok HSM.out.good HSM.out.ok (by have := HT.out; omega))
              have HDL : Hid ((keepH m (R.map dblP)).length ≤ 300) := Lib.hid (Nat.le_trans (keeph_le _ _) (by have := HLEN.out; omega))
              have g1' := Lib.hid g1
              clear hsl hdg g1
              go_wp2_with fail
              refine (HD.out.pairs wr B S9 m _ _ HLW.out (by have := HDL.out; omega)).mono ?_
              rintro e y1 ⟨u1, rfl, hu1, b1⟩
              obtain ⟨a1, c1, rfl, hq1⟩ := hu1.pairs (keeph_ok HDK.out)
              have HY1 := Lib.hid b1
              have HQ1 := Lib.hid hq1
              clear hu1 hq1 b1
              go_wp2_with fail
              refine (hrkept_of y1 M m av cv (R.map dblP) (HPD.out.call HY1.out) (cell_later HY1.out G0.out) (by rw [HLEN.out]; exact cell_later HY1.out g1'.out) HDG.out (by have := HLEN.out; omega) (by omega) n2).mono ?_
              rintro e y2 ⟨u2, rfl, hu2, b2⟩
              obtain ⟨a2, c2', rfl, hq2⟩ := hu2.pairs (keeph_ok HDK.out)
              have HY2 := Lib.hid (HY1.out.trans (b2.mono HY1.out.size))
              have HQ2 := Lib.hid hq2
              have HQ1b := Lib.hid (HQ1.out.call b2)
              clear hu2 hq2 b2 HQ1 HY1
              go_wp2_with fail
              refine (same_any y2 a1 a2 c1 c2' _ _ true (decide_eq_true rfl) HQ1b.out HQ2.out (by have := HDL.out; omega) (by have := HDL.out; omega)).mono ?_
              rintro e y3 ⟨rfl, b3⟩
              have HY3 := Lib.hid (HY2.out.trans (b3.mono HY2.out.size))
              clear b3 HQ1b HQ2 HY2
              go_wp2_with fail
              refine (HD.out.lost y3 B S9 m _ _ (HD.out.call HLW.out HY3.out)).mono ?_
              rintro e y4 ⟨rfl, b4⟩
              have HY4 := Lib.hid (HY3.out.trans (b4.mono HY3.out.size))
              clear b4 HY3
              go_wp2_with fail
              refine (hrlost_of y4 M m av cv (R.map dblP) (sumP R + sumP R - sumP (keepH m (R.map dblP))) (HPD.out.call HY4.out) (cell_later HY4.out G0.out) (by rw [HLEN.out]; exact cell_later HY4.out g1'.out) HDG.out (by have := HLEN.out; omega) (by omega) n2 (by rw [dbl_sum]; have := HT.out; omega) (by rw [dbl_sum]; omega)).mono ?_
              rintro e y5 ⟨rfl, b5⟩
              have HY5 := Lib.hid (HY4.out.trans (b5.mono HY4.out.size))
              clear b5 HY4
              go_wp2_with fail
              go_ret
              exact ⟨rfl, HB2'.out.trans (HY5.out.mono HB2'.out.size)⟩
  · have hgt : gb = true := by
      cases gb with
      | true => rfl
      | false => have PL := grt_false.1 HGB.out; have := PL.m1; have := PL.m2; omega
    subst hgt
    go_enter Try.func6, Try.ntmps6
    rcases hbad with hbad | hbad
    all_goals
      go_wp2_with fail
      clear hwb
      refine (lalive_any HD.out _).mono ?_
      rintro e w0 ⟨rfl, b0⟩
      have HB0 := Lib.hid (HBX.out.trans (b0.mono HBX.out.size))
      have HBb := Lib.hid b0
      clear b0
      go_wp2_with fail
      refine (HD.out.bad _ m HM.out (by omega)).mono ?_
      rintro e w1 ⟨rfl, b1⟩
      have HB1 := Lib.hid (HB0.out.trans (b1.mono HB0.out.size))
      have HB1b := Lib.hid (HBb.out.trans (b1.mono HBb.out.size))
      clear b1 HB0 HBb
      go_wp2_with fail
      refine (HN.out.find _ 1 ⟨by decide, by decide⟩).mono ?_
      rintro e w21 ⟨rfl, b21⟩
      have HB21 := Lib.hid (HB1.out.trans (b21.mono HB1.out.size))
      have HB21b := Lib.hid (HB1b.out.trans (b21.mono HB1b.out.size))
      clear b21 HB1 HB1b
      go_wp2_with fail
      refine (HN.out.below _ 1 ⟨by decide, by decide⟩).mono ?_
      rintro e w22 ⟨rfl, b22⟩
      have HB22 := Lib.hid (HB21.out.trans (b22.mono HB21.out.size))
      have HB22b := Lib.hid (HB21b.out.trans (b22.mono HB21b.out.size))
      clear b22 HB21 HB21b
      go_wp2_with fail
      refine (HN.out.add _ 1 1 ⟨by decide, by decide⟩ ⟨by decide, by decide⟩).mono ?_
      rintro e w23 ⟨rfl, b23⟩
      have HB23 := Lib.hid (HB22.out.trans (b23.mono HB22.out.size))
      have HB23b := Lib.hid (HB22b.out.trans (b23.mono HB22b.out.size))
      clear b23 HB22 HB22b
      go_wp2_with fail
      refine (HN.out.merge _).mono ?_
      rintro e w24 ⟨rfl, b24⟩
      have HB24 := Lib.hid (HB23.out.trans (b24.mono HB23.out.size))
      have HB24b := Lib.hid (HB23b.out.trans (b24.mono HB23b.out.size))
      clear b24 HB23 HB23b
      go_wp2_with fail
      refine (HN.out.total _).mono ?_
      rintro e w25 ⟨rfl, b25⟩
      have HB25 := Lib.hid (HB24.out.trans (b25.mono HB24.out.size))
      have HB25b := Lib.hid (HB24b.out.trans (b25.mono HB24b.out.size))
      clear b25 HB24 HB24b
      go_wp2_with fail
      refine (HN.out.lost _).mono ?_
      rintro e w26 ⟨rfl, b26⟩
      have HB26 := Lib.hid (HB25.out.trans (b26.mono HB25.out.size))
      have HB26b := Lib.hid (HB25b.out.trans (b26.mono HB25b.out.size))
      clear b26 HB25 HB25b
      go_wp2_with fail
      refine (HN.out.at_ _ 1 ⟨by decide, by decide⟩).mono ?_
      rintro e w27 ⟨rfl, b27⟩
      have HB27 := Lib.hid (HB26.out.trans (b27.mono HB26.out.size))
      have HB27b := Lib.hid (HB26b.out.trans (b27.mono HB26b.out.size))
      clear b27 HB26 HB26b
      go_wp2_with fail
      refine (HN.out.pairs _).mono ?_
      rintro e w28 ⟨an, cn, rfl, b28⟩
      have HB28 := Lib.hid (HB27.out.trans (b28.mono HB27.out.size))
      have HB28b := Lib.hid (HB27b.out.trans (b28.mono HB27b.out.size))
      clear b28 HB27 HB27b
      go_wp2_with fail
      refine (HN.out.most _).mono ?_
      rintro e w9 ⟨rfl, b9⟩
      have HB9 := Lib.hid (HB28.out.trans (b9.mono HB28.out.size))
      have HB9b := Lib.hid (HB28b.out.trans (b9.mono HB28b.out.size))
      clear b9 HB28 HB28b
      go_wp2_with fail
      refine (HGR.out _ HB9.out).mono ?_
      rintro e w10 ⟨rfl, b10⟩
      go_wp2_with fail
      go_ret
      exact ⟨rfl, HB9.out.trans (b10.mono HB9.out.size)⟩
end Go.Proofs.Ytdblicfcfmfneaa
