/-
  Walks: the law LogskRises.
-/
import Derived.Test.YtcijflakldggaaaGreatK7
import Derived.Deep.RegionHeld3
namespace Go.Proofs.YtcijflakldggaaaGreat
set_option linter.unusedVariables false
set_option linter.unusedSimpArgs false
open Go.RowKit

set_option maxRecDepth 100000 in
set_option maxHeartbeats 4000000 in
theorem logsk_rises_walk {Bn : BnT} (D : BinsDoes Bn) (u v sd m : Int) (A : List PairV) (a : Option Addr) (cap : Nat) (pa pb qa qb : Int) (wu : Word u) (wv : Word v) (ws : I64 sd) (wm : I64 m) (hl : A.length ≤ 140737488351232) (wpa : Word pa) (wpb : Word pb) (wqa : Word qa) (wqb : Word qb) (w : World) (hA : Pairs w a A) :
    Calls Tryz.prog 7 #[.agg #[.int .u64 u, .int .u64 v, .int .i64 sd, .int .i64 m, .slice a A.length cap], .agg #[.int .u64 pa, .int .u64 pb], .agg #[.int .u64 qa, .int .u64 qb]] w fun e w' => e = .returned (.bool true) ∧ Below w.heap.size w w' := by
  have HD := Lib.hid D
  obtain ⟨ln, hln⟩ : ∃ ln : Nat, A.length = ln := ⟨_, rfl⟩
  have HBD := Lib.hid (fun W hp => build14_any D W u v sd m A a cap wu wv ws wm hp hl)
  rw [hln] at HBD ⊢
  have HLN := Lib.hid hln
  have HA := Lib.hid hA
  have hcs := casek_new w u v sd m (.slice a ln cap) 27
  have BC := grew_one w (.cells #[.int .u64 u, .int .u64 v, .int .i64 sd, .int .i64 m, .slice a ln cap] 27)
  have hcs := hcs.call (grew_one (w.alloc (.cells #[.int .u64 u, .int .u64 v, .int .i64 sd, .int .i64 m, .slice a ln cap] 27)) (.cells #[.int .u64 pa, .int .u64 pb] 24))
  have Tp := Two.new (w.alloc (.cells #[.int .u64 u, .int .u64 v, .int .i64 sd, .int .i64 m, .slice a ln cap] 27)) (.int .u64 pa) (.int .u64 pb) 24
  have BC := below_new BC (.cells #[.int .u64 pa, .int .u64 pb] 24)
  have hcs := hcs.call (grew_one ((w.alloc (.cells #[.int .u64 u, .int .u64 v, .int .i64 sd, .int .i64 m, .slice a ln cap] 27)).alloc (.cells #[.int .u64 pa, .int .u64 pb] 24)) (.cells #[.int .u64 qa, .int .u64 qb] 24))
  have Tp := Tp.call (grew_one ((w.alloc (.cells #[.int .u64 u, .int .u64 v, .int .i64 sd, .int .i64 m, .slice a ln cap] 27)).alloc (.cells #[.int .u64 pa, .int .u64 pb] 24)) (.cells #[.int .u64 qa, .int .u64 qb] 24))
  have Tq := Two.new ((w.alloc (.cells #[.int .u64 u, .int .u64 v, .int .i64 sd, .int .i64 m, .slice a ln cap] 27)).alloc (.cells #[.int .u64 pa, .int .u64 pb] 24)) (.int .u64 qa) (.int .u64 qb) 24
  have BC := below_new BC (.cells #[.int .u64 qa, .int .u64 qb] 24)
  have hsz : (((w.alloc (.cells #[.int .u64 u, .int .u64 v, .int .i64 sd, .int .i64 m, .slice a ln cap] 27)).alloc (.cells #[.int .u64 pa, .int .u64 pb] 24)).alloc (.cells #[.int .u64 qa, .int .u64 qb] 24)).heap.size = w.heap.size + 3 := by simp
  have hsp : (w.alloc (.cells #[.int .u64 u, .int .u64 v, .int .i64 sd, .int .i64 m, .slice a ln cap] 27)).heap.size = w.heap.size + 1 := by simp
  rw [hsp] at Tp
  clear hsp
  have hsq : ((w.alloc (.cells #[.int .u64 u, .int .u64 v, .int .i64 sd, .int .i64 m, .slice a ln cap] 27)).alloc (.cells #[.int .u64 pa, .int .u64 pb] 24)).heap.size = w.heap.size + 1 + 1 := by simp
  rw [hsq] at Tq
  clear hsq
  clear hA hl D hln
  go_enter Tryz.func7, Tryz.ntmps7
  go_wp2_with fail
  generalize (((w.alloc (.cells #[.int .u64 u, .int .u64 v, .int .i64 sd, .int .i64 m, .slice a ln cap] 27)).alloc (.cells #[.int .u64 pa, .int .u64 pb] 24)).alloc (.cells #[.int .u64 qa, .int .u64 qb] 24)) = wC at *
  refine (alive14_any HD.out wC).mono ?_
  rintro e w2 ⟨rfl, hb2⟩
  have hcs := hcs.call hb2
  have Tp := Tp.call hb2
  have Tq := Tq.call hb2
  have b2 := BC.trans (hb2.mono BC.size)
  have hz2 : w.heap.size + 3 ≤ w2.heap.size := by have := hb2.size; omega
  clear BC hb2 hsz
  obtain ⟨c0, c1, c2, c3, c4⟩ := id hcs
  obtain ⟨p0, p1, _, _⟩ := id Tp
  obtain ⟨q0, q1, _, _⟩ := id Tq
  go_wp2_with fail
  refine (HBD.out w2 (HA.out.call b2)).mono ?_
  rintro e w3 (⟨B, C, S, R, M, P, s, n, lo, hi, rfl, hsi, hP, hof, m1, m2, hf, hl, hsk, hrk, hsr, hn1, hn2, v100, hb3, hfar, hv5, hM⟩ | ⟨rfl, hb3⟩)
  case inr =>
    have b3 := b2.trans (hb3.mono b2.size)
    go_wp2_with fail
    go_ret
    exact ⟨rfl, b3⟩
  have b3 := b2.trans (hb3.mono b2.size)
  have hcs := hcs.call hb3
  have Tp := Tp.call hb3
  have Tq := Tq.call hb3
  have HCS := Lib.hid hcs
  have hz3 : w2.heap.size ≤ w3.heap.size := hb3.size
  clear c0 c1 c2 c3 c4 p0 p1 q0 q1 hb3 HBD hcs
  have hsl := stv_len hP s m hf (by omega)
  have hall := stv_all hP s m hf (by omega)
  have hsum0 := (fine_sum hf).1
  have hsum1 := fine_fit hf (by omega)
  obtain ⟨rp, ep, hqp⟩ : ∃ r c, quanA P s m A pa pb = (r, c) := ⟨_, _, rfl⟩
  obtain ⟨rq, eq, hqq⟩ : ∃ r c, quanA P s m A qa qb = (r, c) := ⟨_, _, rfl⟩
  have HQp := Lib.hid (fun W (hb : Below w3.heap.size w3 W) => kquan_any HD.out (hsk.x.call HD.out hb) (by omega) (by omega) pa pb rp ep wpa wpb (by rw [hall]; unfold Word; omega) ((quan_same hP s (by omega) hf (by omega) hsk.e pa pb).trans hqp))
  have HQq := Lib.hid (fun W (hb : Below w3.heap.size w3 W) => kquan_any HD.out (hsk.x.call HD.out hb) (by omega) (by omega) qa qb rq eq wqa wqb (by rw [hall]; unfold Word; omega) ((quan_same hP s (by omega) hf (by omega) hsk.e qa qb).trans hqq))
  obtain ⟨ea, eb, ec, hee⟩ : ∃ ea eb ec, endA A = (ea, eb, ec) := ⟨_, _, _, rfl⟩
  have HEN := Lib.hid (fun W (hb : Below w3.heap.size w3 W) => kends_any HD.out (hsk.x.call HD.out hb) (by omega) (by omega) ea eb ec ((ende_a hP s m hf (by omega) hsk.e).trans hee))
  have hrise : ep = 0 → eq = 0 → plV pa pb (sumP A) ≤ plV qa qb (sumP A) → rp ≤ rq := fun e1 e2 hle => quan_rise hP hof hf (by rw [hqp, e1]) (by rw [hqq, e2]) hle
  have hin : A ≠ [] → ep = 0 → ea ≤ rp ∧ rp ≤ eb := fun hA e1 => by
    have h := quan_in hA (by rw [hqp, e1])
    unfold endA at hee
    rw [if_neg hA] at hee
    obtain ⟨rfl, rfl, _⟩ : loV A = ea ∧ hiV A = eb ∧ true = ec := by simpa using hee
    exact h
  obtain ⟨T, hT⟩ : ∃ T, sumP A = T := ⟨_, rfl⟩
  rw [hT] at hrise hsum0 hsum1
  have HTO := Lib.hid (fun W (hb : Below w3.heap.size w3 W) => rtotal13_any W M P s m A T (hrk.ref.call hb) (by omega) hT (by omega))
  have HRI := Lib.hid hrise
  have HIN := Lib.hid hin
  have HGP := Lib.hid (fun W => rgood_any pa pb wpa wpb W)
  have HGQ := Lib.hid (fun W => rgood_any qa qb wqa wqb W)
  have HTp := Lib.hid Tp
  have HSTp := Lib.hid (fun (W W' : World) (h : W.cell? ⟨w.heap.size + 1, 0, none⟩ = some (.int .u64 pa) ∧ W.cell? ⟨w.heap.size + 1, 1, none⟩ = some (.int .u64 pb) ∧ Below w3.heap.size w3 W) (hb : Below W.heap.size W W') => (⟨cell_later hb h.1, cell_later hb h.2.1, h.2.2.trans (hb.mono h.2.2.size)⟩ : W'.cell? ⟨w.heap.size + 1, 0, none⟩ = some (.int .u64 pa) ∧ W'.cell? ⟨w.heap.size + 1, 1, none⟩ = some (.int .u64 pb) ∧ Below w3.heap.size w3 W'))
  have HPLp := Lib.hid (fun W => rplace_any pa pb T wpa wpb (by unfold Word; omega) W)
  have HTq := Lib.hid Tq
  have HSTq := Lib.hid (fun (W W' : World) (h : W.cell? ⟨w.heap.size + 1 + 1, 0, none⟩ = some (.int .u64 qa) ∧ W.cell? ⟨w.heap.size + 1 + 1, 1, none⟩ = some (.int .u64 qb) ∧ Below w3.heap.size w3 W) (hb : Below W.heap.size W W') => (⟨cell_later hb h.1, cell_later hb h.2.1, h.2.2.trans (hb.mono h.2.2.size)⟩ : W'.cell? ⟨w.heap.size + 1 + 1, 0, none⟩ = some (.int .u64 qa) ∧ W'.cell? ⟨w.heap.size + 1 + 1, 1, none⟩ = some (.int .u64 qb) ∧ Below w3.heap.size w3 W'))
  have HPLq := Lib.hid (fun W => rplace_any qa qb T wqa wqb (by unfold Word; omega) W)
  have HLC := Lib.hid (HCS.out.c4)
  have HNE : Hid (ln = 0 ↔ A = []) := Lib.hid (by rw [← HLN.out]; exact List.length_eq_zero_iff)
  generalize plV pa pb T = t at *
  generalize plE pa pb T = t' at *
  generalize plV qa qb T = u' at *
  generalize plE qa qb T = u'' at *
  clear hqp hqq hee hrise hin hT hsl hall hsk hrk hsr hfar hv5 hP hof hf hsi Tp Tq
  obtain ⟨p0, p1, _, _⟩ := id HTp.out
  cases hg : gdB pa pb with
  | false =>
    rw [hg] at HGP
    clear hg
    go_wp2_with fail
    refine (HGP.out _).mono ?_
    rintro e w4 ⟨rfl, b4⟩
    go_wp2_with fail
    go_ret
    exact ⟨rfl, b3.trans (b4.mono b3.size)⟩
  | true =>
  rw [hg] at HGP
  clear hg
  go_wp2_with fail
  refine (HGP.out _).mono ?_
  rintro e w4 ⟨rfl, b4⟩
  obtain ⟨q0, q1, _, _⟩ := id (HTq.out.call b4)
  clear p0 p1
  cases hg : gdB qa qb with
  | false =>
    rw [hg] at HGQ
    clear hg
    go_wp2_with fail
    refine (HGQ.out _).mono ?_
    rintro e w5 ⟨rfl, b5⟩
    have b5 := b4.trans (b5.mono b4.size)
    go_wp2_with fail
    go_ret
    exact ⟨rfl, b3.trans (b5.mono b3.size)⟩
  | true =>
  rw [hg] at HGQ
  clear hg
  go_wp2_with fail
  refine (HGQ.out _).mono ?_
  rintro e w5 ⟨rfl, b5⟩
  have b5 := b4.trans (b5.mono b4.size)
  have hc4 := cell_later b5 HLC.out
  clear q0 q1 b4
  by_cases hn : ln = 0
  · have hn0 : ((ln : Int) == 0) = true := by simp [hn]
    go_wp2_with fail
    go_ret
    exact ⟨rfl, b3.trans (b5.mono b3.size)⟩
  have hn0 : ((ln : Int) == 0) = false := beq_eq_false_iff_ne.2 (by omega)
  have HA0 := Lib.hid (fun e => hn (HNE.out.2 e))
  obtain ⟨p0, p1, _, _⟩ := id (HTp.out.call b5)
  go_wp2_with fail
  have hs0 : w5.drew.cell? ⟨w.heap.size + 1, 0, none⟩ = some (.int .u64 pa) ∧ w5.drew.cell? ⟨w.heap.size + 1, 1, none⟩ = some (.int .u64 pb) ∧ Below w3.heap.size w3 w5.drew := ⟨cell_later (Below.refl _ _).drew p0, cell_later (Below.refl _ _).drew p1, b5.drew⟩
  have HS0 := Lib.hid hs0
  clear hs0
  go_region_held3 (fun w' => w'.cell? ⟨w.heap.size + 1, 0, none⟩ = some (.int .u64 pa) ∧ w'.cell? ⟨w.heap.size + 1, 1, none⟩ = some (.int .u64 pb) ∧ Below w3.heap.size w3 w')
    (first | exact HS0.out | exact HSTp.out _ _ (by assumption) hbA | assumption)
    ((first
      | (go_at_call 17; refine (HTO.out _ (And.right (And.right (by assumption)))).mono ?_; rintro e wA ⟨rfl, hbA⟩)
      | (go_at_call 16; refine (HPLp.out _).mono ?_; rintro e wA ⟨rfl, hbA⟩)))
  rename_i hHeld
  obtain ⟨_, _, b6⟩ := hHeld
  have HB6 := Lib.hid b6
  clear HS0 b6 hbA
  generalize wA = w6 at *
  obtain ⟨q0, q1, _, _⟩ := id (HTq.out.call HB6.out)
  clear p0 p1 hc4 b5
  go_wp2_with fail
  have hs0 : w6.drew.cell? ⟨w.heap.size + 1 + 1, 0, none⟩ = some (.int .u64 qa) ∧ w6.drew.cell? ⟨w.heap.size + 1 + 1, 1, none⟩ = some (.int .u64 qb) ∧ Below w3.heap.size w3 w6.drew := ⟨cell_later (Below.refl _ _).drew q0, cell_later (Below.refl _ _).drew q1, HB6.out.drew⟩
  have HS0 := Lib.hid hs0
  clear hs0
  go_region_held3 (fun w' => w'.cell? ⟨w.heap.size + 1 + 1, 0, none⟩ = some (.int .u64 qa) ∧ w'.cell? ⟨w.heap.size + 1 + 1, 1, none⟩ = some (.int .u64 qb) ∧ Below w3.heap.size w3 w')
    (first | exact HS0.out | exact HSTq.out _ _ (by assumption) hbA | assumption)
    ((first
      | (go_at_call 17; refine (HTO.out _ (And.right (And.right (by assumption)))).mono ?_; rintro e wA ⟨rfl, hbA⟩)
      | (go_at_call 16; refine (HPLq.out _).mono ?_; rintro e wA ⟨rfl, hbA⟩)))
  rename_i hHeld
  obtain ⟨_, _, b7⟩ := hHeld
  have HB7 := Lib.hid b7
  clear HS0 b7 hbA
  generalize wA = w7 at *
  obtain ⟨p0, p1, _, _⟩ := id (HTp.out.call HB7.out)
  clear q0 q1
  go_wp2_with fail
  refine (HQp.out _ HB7.out).mono ?_
  rintro e w8 ⟨rfl, b8⟩
  have b8 := HB7.out.trans (b8.mono HB7.out.size)
  obtain ⟨q0, q1, _, _⟩ := id (HTq.out.call b8)
  clear p0 p1
  go_wp2_with fail
  refine (HQq.out _ b8).mono ?_
  rintro e w9 ⟨rfl, b9⟩
  have b9 := b8.trans (b9.mono b8.size)
  clear q0 q1 b8
  by_cases e1 : ep = 0
  · subst e1
    by_cases e2 : eq = 0
    · subst e2
      go_wp2_with fail
      refine (HEN.out _ b9).mono ?_
      rintro e w10 ⟨rfl, b10⟩
      have b10 := b9.trans (b10.mono b9.size)
      obtain ⟨i1, i2⟩ := HIN.out HA0.out (by first | rfl | trivial)
      by_cases hle : t ≤ u'
      · have n1 : ¬ u' < t := by omega
        have n2 := HRI.out (by first | rfl | trivial) (by first | rfl | trivial) hle
        go_wp2_with fail
        go_ret
        exact ⟨rfl, b3.trans (b10.mono b3.size)⟩
      · have n1 : u' < t := by omega
        go_wp2_with fail
        go_ret
        exact ⟨rfl, b3.trans (b10.mono b3.size)⟩
    · have e3 : (eq == 0) = false := beq_eq_false_iff_ne.2 e2
      go_wp2_with fail
      go_ret
      exact ⟨rfl, b3.trans (b9.mono b3.size)⟩
  · have e3 : (ep == 0) = false := beq_eq_false_iff_ne.2 e1
    go_wp2_with fail
    go_ret
    exact ⟨rfl, b3.trans (b9.mono b3.size)⟩
end Go.Proofs.YtcijflakldggaaaGreat
