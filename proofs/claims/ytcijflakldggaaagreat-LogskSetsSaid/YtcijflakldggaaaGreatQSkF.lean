/-
  Walks: the law LogskSets.
-/
import Derived.Test.YtcijflakldggaaaGreatK7
namespace Go.Proofs.YtcijflakldggaaaGreat
set_option linter.unusedVariables false
set_option linter.unusedSimpArgs false
open Go.RowKit

theorem quane_in {P : Pt} {s : Bool} {st : St} {lo hi a b r : Int} (h : lo ≤ hi) (hq : quanE P s st lo hi a b = (r, 0)) : lo ≤ r ∧ r ≤ hi := by
  unfold quanE at hq
  split at hq
  · cases hf : findSt P s st (plV a b st.all) with
    | none => rw [hf] at hq; simp at hq
    | some x =>
      rw [hf] at hq
      have : clampV lo hi x = r := (Prod.mk.inj hq).1
      rw [← this]; exact clamp_in h x
  · rename_i hne
    exact absurd (Prod.mk.inj hq).2 hne

set_option maxRecDepth 100000 in
set_option maxHeartbeats 4000000 in
theorem logsk_sets_walk {Bn : BnT} (D : BinsDoes Bn) (u v sd m : Int) (A : List PairV) (a : Option Addr) (cap : Nat) (x y pa pb : Int) (wu : Word u) (wv : Word v) (ws : I64 sd) (wm : I64 m) (hl : A.length ≤ 140737488351232) (wx : I64 x) (wy : I64 y) (wpa : Word pa) (wpb : Word pb) (w : World) (hA : Pairs w a A) :
    Calls Tryz.prog 8 #[.agg #[.int .u64 u, .int .u64 v, .int .i64 sd, .int .i64 m, .slice a A.length cap], .int .i64 x, .int .i64 y, .agg #[.int .u64 pa, .int .u64 pb]] w fun e w' => e = .returned (.bool true) ∧ Below w.heap.size w w' := by
  have HD := Lib.hid D
  obtain ⟨ln, hln⟩ : ∃ ln : Nat, A.length = ln := ⟨_, rfl⟩
  have HBD := Lib.hid (fun W hp => build14_any D W u v sd m A a cap wu wv ws wm hp hl)
  rw [hln] at HBD ⊢
  have HLN := Lib.hid hln
  have HA := Lib.hid hA
  have hcs := casek_new w u v sd m (.slice a ln cap) 27
  have BC := grew_one w (.cells #[.int .u64 u, .int .u64 v, .int .i64 sd, .int .i64 m, .slice a ln cap] 27)
  have hcs := hcs.call (grew_one (w.alloc (.cells #[.int .u64 u, .int .u64 v, .int .i64 sd, .int .i64 m, .slice a ln cap] 27)) (.cells #[.int .u64 pa, .int .u64 pb] 24))
  have Tp := Two.new (w.alloc (.cells #[.int .u64 u, .int .u64 v, .int .i64 sd, .int .i64 m, .slice a ln cap] 27)) (.int .u64 pa) (.int .u64 pb) 24
  have BC := below_new BC (.cells #[.int .u64 pa, .int .u64 pb] 24)
  have hsz : ((w.alloc (.cells #[.int .u64 u, .int .u64 v, .int .i64 sd, .int .i64 m, .slice a ln cap] 27)).alloc (.cells #[.int .u64 pa, .int .u64 pb] 24)).heap.size = w.heap.size + 2 := by simp
  have hsp : (w.alloc (.cells #[.int .u64 u, .int .u64 v, .int .i64 sd, .int .i64 m, .slice a ln cap] 27)).heap.size = w.heap.size + 1 := by simp
  rw [hsp] at Tp
  clear hsp
  clear hA hl D hln
  go_enter Tryz.func8, Tryz.ntmps8
  go_wp2_with fail
  generalize ((w.alloc (.cells #[.int .u64 u, .int .u64 v, .int .i64 sd, .int .i64 m, .slice a ln cap] 27)).alloc (.cells #[.int .u64 pa, .int .u64 pb] 24)) = wC at *
  refine (alive14_any HD.out wC).mono ?_
  rintro e w2 ⟨rfl, hb2⟩
  have hcs := hcs.call hb2
  have Tp := Tp.call hb2
  have b2 := BC.trans (hb2.mono BC.size)
  have hz2 : w.heap.size + 2 ≤ w2.heap.size := by have := hb2.size; omega
  clear BC hb2 hsz
  obtain ⟨c0, c1, c2, c3, c4⟩ := id hcs
  obtain ⟨p0, p1, _, _⟩ := id Tp
  go_wp2_with fail
  refine (HBD.out w2 (HA.out.call b2)).mono ?_
  rintro e w3 (⟨B, C, S, R, M, P, s, n, lo, hi, rfl, hsi, hP, hof, m1, m2, hf, hl, hsk, hrk, hsr, hn1, hn2, v100, hb3, hfar, hv5, hM⟩ | ⟨rfl, hb3⟩)
  case inr =>
    have b3 := b2.trans (hb3.mono b2.size)
    go_wp2_with fail
    go_ret
    exact ⟨rfl, b3⟩
  have b3 := b2.trans (hb3.mono b2.size)
  have hcs := hcs.call hb3
  have Tp := Tp.call hb3
  have HCS := Lib.hid hcs
  have hz3 : w2.heap.size ≤ w3.heap.size := hb3.size
  clear c0 c1 c2 c3 c4 p0 p1 hb3 HBD hcs
  have hsl := stv_len hP s m hf (by omega)
  have hall := stv_all hP s m hf (by omega)
  have hsum0 := (fine_sum hf).1
  have hsum1 := fine_fit hf (by omega)
  obtain ⟨ea, eb, ec, hee⟩ : ∃ ea eb ec, endA A = (ea, eb, ec) := ⟨_, _, _, rfl⟩
  have hea := (ende_a hP s m hf (by omega) hsk.e).trans hee
  have HEN := Lib.hid (fun W (hb : Below w3.heap.size w3 W) => kends_any HD.out (hsk.x.call HD.out hb) (by omega) (by omega) ea eb ec hea)
  have HSE := Lib.hid (fun W (hb : Below w3.heap.size w3 W) => kset_any HD.out (hsk.x.call HD.out hb) (by omega) (by omega) x y wx wy)
  have hz : (stV P s m A).all = 0 ↔ ln = 0 := by
    rw [hall, sum_zero hf, ← HLN.out]; exact List.length_eq_zero_iff.symm
  have HZ := Lib.hid hz
  have HCE := Lib.hid (fun W (h : Below w3.heap.size w3 W) => HCS.out.call h)
  have HTP := Lib.hid Tp
  have HEA := Lib.hid hea
  have HSL := Lib.hid (And.intro hsl hall)
  have HSM := Lib.hid (And.intro hsum0 hsum1)
  have HLE := Lib.hid hl
  have hlt3 : ∀ k, skB B S k → n ≤ k := fun k hk => hsr k (Or.inl hk)
  have HN := Lib.hid hlt3
  have HCL := Lib.hid (show w.heap.size < n ∧ w.heap.size + 1 < n from ⟨by omega, by omega⟩)
  have hxx : (ea == ea) = true := by simp
  have hyy : (eb == eb) = true := by simp
  have hx1 : (x == x) = true := by simp
  have hy1 : (y == y) = true := by simp
  obtain ⟨x0, x1⟩ := id wx
  obtain ⟨y0, y1⟩ := id wy
  clear hsl hall hsum0 hsum1 hsk hrk hsr hfar hv5 hsi hee hea hz Tp
  go_wp2_with fail
  refine (HEN.out _ (Below.refl _ _)).mono ?_
  rintro e w4 ⟨rfl, b4⟩
  have hc4 := (HCE.out _ b4).c4
  have HSE4 := Lib.hid (HSE.out _ b4)
  have bw4 := b3.trans (b4.mono b3.size)
  have HB4 := Lib.hid b4
  clear b4
  -- what comes behind Set, where the ends stay
  by_cases h1 : x ≤ y
  case neg =>
    have hd : decide (x ≤ y) = false := decide_eq_false h1
    have hcan : canK (stV P s m A) x y = false := by unfold canK; rw [hd]; rfl
    rw [hcan] at HSE4
    go_wp2_with fail
    refine HSE4.out.mono ?_
    rintro e w5 ⟨rfl, hsx, hk5⟩
    have hsx : SkX Bn w5 B C S R P u v s m (stV P s m A) lo hi := by simpa using hsx
    have HEN5 := Lib.hid (kends_any HD.out hsx (by have := HSL.out; have := HLE.out; omega) (by have := HSL.out; have := HLE.out; omega) ea eb ec HEA.out)
    have b5 : Below w.heap.size w w5 := hk5.below bw4 bw4.size (fun i hi => by have := HN.out i hi; omega)
    clear hsx hk5
    go_wp2_with fail
    refine HEN5.out.mono ?_
    rintro e w6 ⟨rfl, b6⟩
    go_wp2_with fail
    go_ret
    exact ⟨rfl, b5.trans (b6.mono b5.size)⟩
  have hd : decide (x ≤ y) = true := decide_eq_true h1
  by_cases hn0 : ln = 0
  case neg =>
    have hl0 : (0 : Int) < ln := by omega
    have hl1 : ((ln : Int) == 0) = false := beq_eq_false_iff_ne.2 (by omega)
    have hall0 : (stV P s m A).all ≠ 0 := fun e => hn0 (HZ.out.1 e)
    have hcan : canK (stV P s m A) x y = true := by unfold canK; rw [hd, beq_eq_false_iff_ne.2 hall0]; rfl
    rw [hcan] at HSE4
    have hen : endE (stV P s m A) x y = (x, y, true) := by unfold endE; rw [if_neg hall0]
    obtain ⟨r, c, hq⟩ : ∃ r c, quanE P s (stV P s m A) x y pa pb = (r, c) := ⟨_, _, rfl⟩
    have hin : c = 0 → x ≤ r ∧ r ≤ y := fun e => quane_in h1 (by rw [hq, e])
    have HIN := Lib.hid hin
    have HQQ := Lib.hid hq
    have HEE := Lib.hid hen
    clear hall0 hcan hen hq hin
    go_wp2_with fail
    refine HSE4.out.mono ?_
    rintro e w5 ⟨rfl, hsx, hk5⟩
    have hsx : SkX Bn w5 B C S R P u v s m (stV P s m A) x y := by simpa using hsx
    have HEN5 := Lib.hid (kends_any HD.out hsx (by have := HSL.out; have := HLE.out; omega) (by have := HSL.out; have := HLE.out; omega) x y true HEE.out)
    have HQ5 := Lib.hid (fun W (hb : Below w5.heap.size w5 W) => kquan_any HD.out (hsx.call HD.out hb) (by have := HSL.out; have := HLE.out; omega) (by have := HSL.out; have := HLE.out; omega) pa pb r c wpa wpb (by rw [HSL.out.2]; have := HSM.out; unfold Word; omega) HQQ.out)
    have b5 : Below w.heap.size w w5 := hk5.below bw4 bw4.size (fun i hi => by have := HN.out i hi; omega)
    have g4 := hk5.cell (fun x => by have := HN.out _ x; have := HCL.out; omega) hc4
    have g0 := hk5.cell (fun x => by have := HN.out _ x; have := HCL.out; omega) (HTP.out.call HB4.out).c0
    have g1 := hk5.cell (fun x => by have := HN.out _ x; have := HCL.out; omega) (HTP.out.call HB4.out).c1
    clear hsx hk5 hc4
    go_wp2_with fail
    refine HEN5.out.mono ?_
    rintro e w6 ⟨rfl, b6⟩
    have g4 := cell_later b6 g4
    have g0 := cell_later b6 g0
    have g1 := cell_later b6 g1
    go_wp2_with fail
    refine (HQ5.out _ b6).mono ?_
    rintro e w7 ⟨rfl, b7⟩
    have b7 := b5.trans ((b6.trans (b7.mono b6.size)).mono b5.size)
    by_cases e1 : c = 0
    · obtain ⟨i1, i2⟩ := HIN.out e1
      subst e1
      go_wp2_with fail
      go_ret
      exact ⟨rfl, b7⟩
    · have e3 : (c == 0) = false := beq_eq_false_iff_ne.2 e1
      go_wp2_with fail
      go_ret
      exact ⟨rfl, b7⟩
  have hall0 : (stV P s m A).all = 0 := HZ.out.2 hn0
  have ea0 : ea = 0 ∧ eb = 0 ∧ ec = false := by
    have h := HEA.out
    unfold endE at h
    rw [if_pos hall0] at h
    exact ⟨(Prod.mk.inj h).1.symm, (Prod.mk.inj (Prod.mk.inj h).2).1.symm, (Prod.mk.inj (Prod.mk.inj h).2).2.symm⟩
  subst hn0
  by_cases h2 : x = 0 ∧ y = 0
  · obtain ⟨rfl, rfl⟩ := h2
    have hcan : canK (stV P s m A) 0 0 = true := by unfold canK; simp
    rw [hcan] at HSE4
    have hen : endE (stV P s m A) 0 0 = (0, 0, false) := by unfold endE; rw [if_pos hall0]
    have HEE := Lib.hid hen
    obtain ⟨rfl, rfl, rfl⟩ := ea0
    clear hall0 hcan hen
    go_wp2_with fail
    refine HSE4.out.mono ?_
    rintro e w5 ⟨rfl, hsx, hk5⟩
    have hsx : SkX Bn w5 B C S R P u v s m (stV P s m A) 0 0 := by simpa using hsx
    have HEN5 := Lib.hid (kends_any HD.out hsx (by have := HSL.out; have := HLE.out; omega) (by have := HSL.out; have := HLE.out; omega) 0 0 false HEE.out)
    have b5 : Below w.heap.size w w5 := hk5.below bw4 bw4.size (fun i hi => by have := HN.out i hi; omega)
    have g4 := hk5.cell (fun x => by have := HN.out _ x; have := HCL.out; omega) hc4
    clear hsx hk5 hc4
    go_wp2_with fail
    refine HEN5.out.mono ?_
    rintro e w6 ⟨rfl, b6⟩
    have g4 := cell_later b6 g4
    go_wp2_with fail
    go_ret
    exact ⟨rfl, b5.trans (b6.mono b5.size)⟩
  · have hcan : canK (stV P s m A) x y = false := by
      unfold canK; rw [hd, hall0]
      by_cases h3 : x = 0
      · have : (y == 0) = false := beq_eq_false_iff_ne.2 (fun e => h2 ⟨h3, e⟩)
        simp [this]
      · simp [h3]
    rw [hcan] at HSE4
    clear hall0 hcan ea0
    by_cases h3 : x = 0
    · have h4 : (y == 0) = false := beq_eq_false_iff_ne.2 (fun e => h2 ⟨h3, e⟩)
      clear h2
      subst h3
      go_wp2_with fail
      refine HSE4.out.mono ?_
      rintro e w5 ⟨rfl, hsx, hk5⟩
      have hsx : SkX Bn w5 B C S R P u v s m (stV P s m A) lo hi := by simpa using hsx
      have HEN5 := Lib.hid (kends_any HD.out hsx (by have := HSL.out; have := HLE.out; omega) (by have := HSL.out; have := HLE.out; omega) ea eb ec HEA.out)
      have b5 : Below w.heap.size w w5 := hk5.below bw4 bw4.size (fun i hi => by have := HN.out i hi; omega)
      clear hsx hk5
      go_wp2_with fail
      refine HEN5.out.mono ?_
      rintro e w6 ⟨rfl, b6⟩
      go_wp2_with fail
      go_ret
      exact ⟨rfl, b5.trans (b6.mono b5.size)⟩
    · have h5 : (x == 0) = false := beq_eq_false_iff_ne.2 h3
      clear h2
      go_wp2_with fail
      refine HSE4.out.mono ?_
      rintro e w5 ⟨rfl, hsx, hk5⟩
      have hsx : SkX Bn w5 B C S R P u v s m (stV P s m A) lo hi := by simpa using hsx
      have HEN5 := Lib.hid (kends_any HD.out hsx (by have := HSL.out; have := HLE.out; omega) (by have := HSL.out; have := HLE.out; omega) ea eb ec HEA.out)
      have b5 : Below w.heap.size w w5 := hk5.below bw4 bw4.size (fun i hi => by have := HN.out i hi; omega)
      clear hsx hk5
      go_wp2_with fail
      refine HEN5.out.mono ?_
      rintro e w6 ⟨rfl, b6⟩
      go_wp2_with fail
      go_ret
      exact ⟨rfl, b5.trans (b6.mono b5.size)⟩
end Go.Proofs.YtcijflakldggaaaGreat
