/-
  Walks: the law BinsAdds, from what package bins is to do.
-/
import Derived.Test.YtdnmeninglfhlaaGreatDoorK6
import Derived.Deep.RegionHeld3
namespace Go.Proofs.YtdnmeninglfhlaaGreatDoor
set_option linter.unusedVariables false
set_option linter.unusedSimpArgs false
open Go.RowKit

/-- Bins, and what they must be, while the law asks: nothing turns that is looked at. -/
structure InvA (w : World) (Bn : BnT) (C B : Nat) (R : Nat → Prop) (M : Nat) (P : Pt) (s : Bool) (m : Int) (A : List PairV) (n : Nat) (W : World) : Prop where
  ex : ∃ S, Bn W B S R P s m (stV P s m A) ∧ (∀ k, S k ∨ R k → n ≤ k) ∧ RefK n W M P s m A ∧ n ≤ W.heap.size ∧ C < n
  c4 : W.cell? ⟨C, 4, none⟩ = some (.int .i64 m)
  le : w.heap.size ≤ n
  bel : Below w.heap.size w W
theorem inva_keeps {Bn : BnT} (D : BinsDoes Bn) {w W W' : World} {C B : Nat} {R : Nat → Prop} {M : Nat} {P : Pt} {s : Bool} {m : Int} {A : List PairV} {n : Nat} {S S' : Nat → Prop} (h : InvA w Bn C B R M P s m A n W) (hS : ∀ k, S k → n ≤ k) (hk : Keeps S W W') (hB : Bn W' B S' R P s m (stV P s m A)) (hS' : ∀ k, S' k ∨ R k → n ≤ k) : InvA w Bn C B R M P s m A n W' := by
  obtain ⟨S0, h1, h2, h3, h4, h5⟩ := h.ex
  have hz := hk.size
  refine ⟨⟨S', hB, hS', ⟨h3.stay W' (fun k hlt => hk.block k (by omega) (fun x => by have := hS k x; omega)) (by omega), fun w' hh hn => h3.stay w' (fun k hlt => (hh k hlt).trans (hk.block k (by omega) (fun x => by have := hS k x; omega))) hn⟩, by omega, h5⟩, hk.cell (fun x => by have := hS _ x; omega) h.c4, h.le, hk.below h.bel (by have := h.le; omega) (fun i hi => by have := hS i hi; have := h.le; omega)⟩
theorem inva_below {Bn : BnT} (D : BinsDoes Bn) {w W W' : World} {C B : Nat} {R : Nat → Prop} {M : Nat} {P : Pt} {s : Bool} {m : Int} {A : List PairV} {n : Nat} (h : InvA w Bn C B R M P s m A n W) (hb : Below W.heap.size W W') : InvA w Bn C B R M P s m A n W' := by
  obtain ⟨S0, h1, h2, h3, h4, h5⟩ := h.ex
  exact inva_keeps D h (S := S0) (fun k hk => h2 k (Or.inl hk)) (Keeps.of_below hb) (D.call h1 hb) h2
theorem inva_drew {Bn : BnT} (D : BinsDoes Bn) {w W : World} {C B : Nat} {R : Nat → Prop} {M : Nat} {P : Pt} {s : Bool} {m : Int} {A : List PairV} {n : Nat} (h : InvA w Bn C B R M P s m A n W) : InvA w Bn C B R M P s m A n W.drew := inva_below D h (Below.refl _ _).drew
theorem lwe_zero (T : Int) : lwErr T 0 = 1 := by unfold lwErr; rw [if_pos rfl]
theorem inva_calls {Bn : BnT} (D : BinsDoes Bn) {w : World} {C B : Nat} {R : Nat → Prop} {M : Nat} {P : Pt} {s : Bool} {m : Int} {A : List PairV} {n : Nat} (hP : P.ok) (hf : FineV A) (hl : A.length ≤ 60) (m1 : 1 ≤ m) (m2 : m ≤ 4096) :
    (∀ W, InvA w Bn C B R M P s m A n W → Calls Tryz.prog 21 #[.pointer (some ⟨B, 0, none⟩), .pointer (some ⟨M, 0, none⟩)] W fun e w' => e = .returned (.bool true) ∧ InvA w Bn C B R M P s m A n w') ∧
    (∀ W, InvA w Bn C B R M P s m A n W → Calls Tryz.prog 15 #[.pointer (some ⟨B, 0, none⟩), .int .i64 5, .int .u64 0] W fun e w' => e = .returned (.int .i64 1) ∧ InvA w Bn C B R M P s m A n w') ∧
    (∀ W, InvA w Bn C B R M P s m A n W → Calls Tryz.prog 13 #[.pointer (some ⟨B, 0, none⟩)] W fun e w' => e = .returned (.int .u64 (sumP A)) ∧ InvA w Bn C B R M P s m A n w') ∧
    (∀ W, InvA w Bn C B R M P s m A n W → Calls Tryz.prog 15 #[.pointer (some ⟨B, 0, none⟩), .int .i64 5, .int .u64 (9223372036854775807 - sumP A + 1)] W fun e w' => e = .returned (.int .i64 6) ∧ InvA w Bn C B R M P s m A n w') ∧
    (∀ W, InvA w Bn C B R M P s m A n W → Calls Tryz.prog 19 #[.pointer (some ⟨B, 0, none⟩)] W fun e w' => e = .returned (.int .i64 m) ∧ InvA w Bn C B R M P s m A n w') := by
  have hsl := stv_len hP s m hf (by omega)
  have hall := stv_all hP s m hf (by omega)
  have hsum := fine_fit hf (by omega)
  have h0 := (fine_sum hf).1
  refine ⟨fun W h => ?_, fun W h => ?_, fun W h => ?_, fun W h => ?_, fun W h => ?_⟩
  · obtain ⟨S0, h1, h2, h3, h4, h5⟩ := h.ex
    exact (same13_any D W B M S0 R P s m A h1 h3.ref hf (by omega) m1 m2).mono fun e w' ⟨he, hb⟩ => ⟨he, inva_below D h hb⟩
  · obtain ⟨S0, h1, h2, h3, h4, h5⟩ := h.ex
    refine (D.add W B S0 R P s m _ 5 0 h1 (by omega) (by omega) ⟨by decide, by decide⟩ ⟨by decide, by decide⟩).mono fun e w' ⟨S', he, hB, hk, hS⟩ => ?_
    have e0 : binErr (stV P s m A) 0 = 1 := lwe_zero _
    have e1 : binSt P s m (stV P s m A) 5 0 = stV P s m A := by unfold binSt; rw [e0, if_neg (by decide)]
    rw [e0] at he
    rw [e1] at hB
    refine ⟨he, inva_keeps D h (fun k hk => h2 k (Or.inl hk)) hk hB (fun k hk' => ?_)⟩
    rcases hk' with h' | h'
    · rcases hS k h' with h'' | h''
      · exact h2 k (Or.inl h'')
      · omega
    · exact h2 k (Or.inr h')
  · obtain ⟨S0, h1, h2, h3, h4, h5⟩ := h.ex
    refine (D.total W B S0 R P s m _ h1 (by omega) (by omega)).mono fun e w' ⟨he, hb⟩ => ⟨by rw [he, hall], inva_below D h hb⟩
  · obtain ⟨S0, h1, h2, h3, h4, h5⟩ := h.ex
    refine (D.add W B S0 R P s m _ 5 (9223372036854775807 - sumP A + 1) h1 (by omega) (by omega) ⟨by decide, by decide⟩ ⟨by omega, by omega⟩).mono fun e w' ⟨S', he, hB, hk, hS⟩ => ?_
    have e0 : binErr (stV P s m A) (9223372036854775807 - sumP A + 1) = 6 := by unfold binErr lwErr; rw [hall, if_neg (by omega), if_pos (by omega)]
    have e1 : binSt P s m (stV P s m A) 5 (9223372036854775807 - sumP A + 1) = stV P s m A := by unfold binSt; rw [e0, if_neg (by decide)]
    rw [e0] at he
    rw [e1] at hB
    refine ⟨he, inva_keeps D h (fun k hk => h2 k (Or.inl hk)) hk hB (fun k hk' => ?_)⟩
    rcases hk' with h' | h'
    · rcases hS k h' with h'' | h''
      · exact h2 k (Or.inl h'')
      · omega
    · exact h2 k (Or.inr h')
  · obtain ⟨S0, h1, h2, h3, h4, h5⟩ := h.ex
    exact (D.most W B S0 R P s m _ h1).mono fun e w' ⟨he, hb⟩ => ⟨he, inva_below D h hb⟩

set_option maxRecDepth 100000 in
set_option maxHeartbeats 8000000 in
theorem bins_adds_walk {Bn : BnT} (D : BinsDoes Bn) (NB : BinsNil) (u v dg sd m : Int) (A : List PairV) (a : Option Addr) (cap : Nat) (wu : Word u) (wv : Word v) (wd : I64 dg) (ws : I64 sd) (wm : I64 m) (hl : A.length ≤ 140737488351232) (w : World) (hA : Pairs w a A) (ht : Tens w) :
    Calls Tryz.prog 3 #[.agg #[.int .u64 u, .int .u64 v, .int .i64 dg, .int .i64 sd, .int .i64 m, .slice a A.length cap]] w fun e w' => e = .returned (.bool true) ∧ Below w.heap.size w w' := by
  have HD := Lib.hid D
  have HNB := Lib.hid NB
  have BC := ((Below.refl w.heap.size w).alloc (Nat.le_refl _) (.cells #[.int .u64 u, .int .u64 v, .int .i64 dg, .int .i64 sd, .int .i64 m, .slice a A.length cap] 27))
  have hcs := case_new w u v dg sd m a A.length cap 27
  have HTN := Lib.hid (ht.call BC)
  have HA := Lib.hid hA
  have HBD := Lib.hid (fun W hW hp => build13_any D W u v dg sd m A a cap hW wu wv wd ws wm hp hl)
  have hs1 : SpanP 1 4 10 := by unfold SpanP; omega
  have HSN := Lib.hid (fun W hW => snew_good 1 4 10 hs1 W hW)
  have HBAD := Lib.hid (fun W V R P hV hb => D.bad W V R P sd m hV ws wm hb)
  have HS1 := Lib.hid hs1
  have hsz : (w.alloc (.cells #[.int .u64 u, .int .u64 v, .int .i64 dg, .int .i64 sd, .int .i64 m, .slice a A.length cap] 27)).heap.size = w.heap.size + 1 := by simp
  obtain ⟨ln, hln⟩ : ∃ ln : Nat, A.length = ln := ⟨_, rfl⟩
  rw [hln] at hcs HBD BC hsz HTN ⊢
  obtain ⟨ws0, ws1⟩ := ws
  obtain ⟨wm0, wm1⟩ := wm
  clear ht hA hl D NB hln hs1
  go_enter Tryz.func3, Tryz.ntmps3
  go_wp2_with fail
  generalize (w.alloc (.cells #[.int .u64 u, .int .u64 v, .int .i64 dg, .int .i64 sd, .int .i64 m, .slice a ln cap] 27)) = wC at *
  refine (alive13_any HD.out wC HTN.out).mono ?_
  rintro e w2 ⟨rfl, hb2⟩
  have b2 := BC.trans (hb2.mono (by omega))
  have hc2 := hcs.call hb2
  have HT2 := Lib.hid (HTN.out.call hb2)
  clear hcs hb2
  go_wp2_with fail
  refine (HNB.out.find _ 1 ⟨by decide, by decide⟩).mono ?_
  rintro e w3 ⟨rfl, hb3⟩
  have b3 := b2.trans (hb3.mono b2.size)
  have hc3 := hc2.call hb3
  have HT3 := Lib.hid (HT2.out.call hb3)
  clear hc2 hb3
  go_wp2_with fail
  refine (HNB.out.rank _ 1 ⟨by decide, by decide⟩).mono ?_
  rintro e w4 ⟨rfl, hb4⟩
  have b4 := b3.trans (hb4.mono b3.size)
  have hc4 := hc3.call hb4
  have HT4 := Lib.hid (HT3.out.call hb4)
  clear hc3 hb4
  go_wp2_with fail
  refine (HD.out.nop _ 0 1 ⟨by decide, by decide⟩ ⟨by decide, by decide⟩).mono ?_
  rintro e w5 ⟨rfl, hb5⟩
  have b5 := b4.trans (hb5.mono b4.size)
  have hc5 := hc4.call hb5
  have HT5 := Lib.hid (HT4.out.call hb5)
  clear hc4 hb5
  go_wp2_with fail
  refine (HSN.out _ HT5.out).mono ?_
  rintro e w6 ⟨B0, rfl, hsp, _, hb6⟩
  have b6 := b5.trans (hb6.mono b5.size)
  have hc6 := hc5.call hb6
  have HT6 := Lib.hid (HT5.out.call hb6)
  have HPX : Hid (PtX w6 (.iface 38 (.pointer (some ⟨B0, 0, none⟩))) (fun k => k = B0) (.spans 1 4 10)) := Lib.hid ⟨B0, rfl, hsp, HS1.out, fun k => Iff.rfl⟩
  clear hc5 hb6 hsp HSN HT2 HT3 HT4 HT5 b2 b3 b4 b5
  obtain ⟨p0, p1, p2, p3, p4, p5⟩ := hc6
  have hcase : (0 ≤ sd ∧ sd ≤ 1 ∧ 1 ≤ m ∧ m ≤ 4096) ∨ sd < 0 ∨ (0 ≤ sd ∧ 1 < sd) ∨ (0 ≤ sd ∧ sd ≤ 1 ∧ m < 1) ∨ (0 ≤ sd ∧ sd ≤ 1 ∧ 1 ≤ m ∧ 4096 < m) := by omega
  rcases hcase with ⟨g1, g2, g3, g4⟩ | g1 | ⟨g1, g2⟩ | ⟨g1, g2, g3⟩ | ⟨g1, g2, g3, g4⟩
  · skip
    obtain ⟨s0, hs0⟩ : ∃ s0, sideI s0 = sd := by
      by_cases h0 : sd = 0
      · exact ⟨false, h0.symm⟩
      · exact ⟨true, by show 1 = sd; omega⟩
    have HNW := Lib.hid (HD.out.new w6 _ _ _ s0 m HPX.out g3 g4)
    rw [hs0] at HNW
    clear hs0
    go_wp2_with fail
    refine HNW.out.mono ?_
    rintro e w6z ⟨B1, S1, rfl, _, _, hb⟩
    have b6 := b6.trans (hb.mono b6.size)
    have p0 := cell_later hb p0
    have p1 := cell_later hb p1
    have p2 := cell_later hb p2
    have p3 := cell_later hb p3
    have p4 := cell_later hb p4
    have p5 := cell_later hb p5
    have HT6 := Lib.hid (HT6.out.call hb)
    clear hb HNW
    go_wp2_with fail
    refine (HNB.out.total _).mono ?_
    rintro e w6a ⟨rfl, hb⟩
    have b6 := b6.trans (hb.mono b6.size)
    have p0 := cell_later hb p0
    have p1 := cell_later hb p1
    have p2 := cell_later hb p2
    have p3 := cell_later hb p3
    have p4 := cell_later hb p4
    have p5 := cell_later hb p5
    have HT6 := Lib.hid (HT6.out.call hb)
    clear hb
    go_wp2_with fail
    refine (HNB.out.zero _).mono ?_
    rintro e w6b ⟨rfl, hb⟩
    have b6 := b6.trans (hb.mono b6.size)
    have p0 := cell_later hb p0
    have p1 := cell_later hb p1
    have p2 := cell_later hb p2
    have p3 := cell_later hb p3
    have p4 := cell_later hb p4
    have p5 := cell_later hb p5
    have HT6 := Lib.hid (HT6.out.call hb)
    clear hb
    go_wp2_with fail
    refine (HNB.out.add _ 1 1 ⟨by decide, by decide⟩ ⟨by decide, by decide⟩).mono ?_
    rintro e w6c ⟨rfl, hb⟩
    have b6 := b6.trans (hb.mono b6.size)
    have p0 := cell_later hb p0
    have p1 := cell_later hb p1
    have p2 := cell_later hb p2
    have p3 := cell_later hb p3
    have p4 := cell_later hb p4
    have p5 := cell_later hb p5
    have HT6 := Lib.hid (HT6.out.call hb)
    clear hb
    go_wp2_with fail
    refine (HNB.out.merge _).mono ?_
    rintro e w6d ⟨rfl, hb⟩
    have b6 := b6.trans (hb.mono b6.size)
    have p0 := cell_later hb p0
    have p1 := cell_later hb p1
    have p2 := cell_later hb p2
    have p3 := cell_later hb p3
    have p4 := cell_later hb p4
    have p5 := cell_later hb p5
    have HT6 := Lib.hid (HT6.out.call hb)
    clear hb
    go_wp2_with fail
    refine (HNB.out.load _).mono ?_
    rintro e w6e ⟨rfl, hb⟩
    have b6 := b6.trans (hb.mono b6.size)
    have p0 := cell_later hb p0
    have p1 := cell_later hb p1
    have p2 := cell_later hb p2
    have p3 := cell_later hb p3
    have p4 := cell_later hb p4
    have p5 := cell_later hb p5
    have HT6 := Lib.hid (HT6.out.call hb)
    clear hb
    go_wp2_with fail
    refine (HNB.out.like _).mono ?_
    rintro e w6f ⟨rfl, hb⟩
    have b6 := b6.trans (hb.mono b6.size)
    have p0 := cell_later hb p0
    have p1 := cell_later hb p1
    have p2 := cell_later hb p2
    have p3 := cell_later hb p3
    have p4 := cell_later hb p4
    have p5 := cell_later hb p5
    have HT6 := Lib.hid (HT6.out.call hb)
    clear hb
    go_wp2_with fail
    refine (HNB.out.most _).mono ?_
    rintro e w6g ⟨rfl, hb⟩
    have b6 := b6.trans (hb.mono b6.size)
    have p0 := cell_later hb p0
    have p1 := cell_later hb p1
    have p2 := cell_later hb p2
    have p3 := cell_later hb p3
    have p4 := cell_later hb p4
    have p5 := cell_later hb p5
    have HT6 := Lib.hid (HT6.out.call hb)
    clear hb
    have hlt6 := World.block_lt_of_cell? (a := ⟨w.heap.size, 4, none⟩) _ p4
    simp only at hlt6
    go_wp2_with fail
    refine (HBD.out _ HT6.out (HA.out.call b6)).mono ?_
    rintro e w7 (⟨B, S, R, M, P, s, n, rfl, hsi, hP, hof, m1, m2, hf, hl, hbn, hrk, hsr, hn1, hn2, d0, d4, hb7, _, _⟩ | ⟨rfl, hb7⟩)
    case inr =>
      have b7 := b6.trans (hb7.mono b6.size)
      go_wp2_with fail
      go_ret
      exact ⟨rfl, b7⟩
    have b7 := b6.trans (hb7.mono b6.size)
    have p4 := cell_later hb7 p4
    have hI : InvA w Bn w.heap.size B R M P s m A n w7 := ⟨⟨S, hbn, hsr, hrk, by omega, by omega⟩, p4, by omega, b7⟩
    have HC := Lib.hid (inva_calls HD.out (w := w) (C := w.heap.size) (B := B) (R := R) (M := M) (P := P) (s := s) (m := m) (A := A) (n := n) hP hf (by omega) m1 m2)
    have hsum := fine_fit hf (by omega)
    obtain ⟨T, hT⟩ : ∃ T, sumP A = T := ⟨_, rfl⟩
    have T0 : 0 ≤ T := by rw [← hT]; exact (fine_sum hf).1
    rw [hT] at HC hsum
    have ew1 : IntKind.u64.wrap (9223372036854775807 - T) = 9223372036854775807 - T := by rw [IntKind.wrap_u64]; omega
    have ew2 : IntKind.u64.wrap (9223372036854775807 - T + 1) = 9223372036854775807 - T + 1 := by rw [IntKind.wrap_u64]; omega
    obtain ⟨HSA', HA0', HTO', HAF', HMO'⟩ := HC.out
    have HSA := Lib.hid HSA'
    have HA0 := Lib.hid HA0'
    have HTO := Lib.hid HTO'
    have HAF := Lib.hid HAF'
    have HMO := Lib.hid HMO'
    have HI7 := Lib.hid hI
    have hmm : (m == m) = true := by simp
    clear hI HC HSA' HA0' HTO' HAF' HMO' hbn hrk hsr hP hf hof hT hb7 hsi
    go_wp2_with fail
    go_region_held3 (fun w' => w'.cell? ⟨w.heap.size, 4, none⟩ = some (.int .i64 m) ∧ InvA w Bn w.heap.size B R M P s m A n w')
      (first | exact ⟨by go_simp, inva_drew HD.out HI7.out⟩ | exact ⟨hIA.c4, hIA⟩ | assumption)
      ((first
        | (go_at_call 21; refine (HSA.out _ (And.right (by assumption))).mono ?_; rintro e wA ⟨rfl, hIA⟩)
        | (go_at_call 13; refine (HTO.out _ (And.right (by assumption))).mono ?_; rintro e wA ⟨rfl, hIA⟩)
        | (go_at_call 19; refine (HMO.out _ (And.right (by assumption))).mono ?_; rintro e wA ⟨rfl, hIA⟩)
        | (go_at_call 15; first | (with_reducible refine (HA0.out _ (And.right (by assumption))).mono ?_; rintro e wA ⟨rfl, hIA⟩) | (refine (HAF.out _ (And.right (by assumption))).mono ?_; rintro e wA ⟨rfl, hIA⟩))))
    all_goals
      rename_i hHeld
      obtain ⟨_, hfin⟩ := hHeld
      have HFIN := Lib.hid hfin
      clear hfin
      go_wp2_with fail
      go_ret
      exact ⟨rfl, HFIN.out.bel⟩
  · skip
    go_wp2_with fail
    refine (HBAD.out _ _ _ _ HPX.out (by omega)).mono ?_
    rintro e w6z ⟨rfl, hb⟩
    have b6 := b6.trans (hb.mono b6.size)
    have p0 := cell_later hb p0
    have p1 := cell_later hb p1
    have p2 := cell_later hb p2
    have p3 := cell_later hb p3
    have p4 := cell_later hb p4
    have p5 := cell_later hb p5
    have HT6 := Lib.hid (HT6.out.call hb)
    clear hb
    go_wp2_with fail
    refine (HNB.out.total _).mono ?_
    rintro e w6a ⟨rfl, hb⟩
    have b6 := b6.trans (hb.mono b6.size)
    have p0 := cell_later hb p0
    have p1 := cell_later hb p1
    have p2 := cell_later hb p2
    have p3 := cell_later hb p3
    have p4 := cell_later hb p4
    have p5 := cell_later hb p5
    have HT6 := Lib.hid (HT6.out.call hb)
    clear hb
    go_wp2_with fail
    refine (HNB.out.zero _).mono ?_
    rintro e w6b ⟨rfl, hb⟩
    have b6 := b6.trans (hb.mono b6.size)
    have p0 := cell_later hb p0
    have p1 := cell_later hb p1
    have p2 := cell_later hb p2
    have p3 := cell_later hb p3
    have p4 := cell_later hb p4
    have p5 := cell_later hb p5
    have HT6 := Lib.hid (HT6.out.call hb)
    clear hb
    go_wp2_with fail
    refine (HNB.out.add _ 1 1 ⟨by decide, by decide⟩ ⟨by decide, by decide⟩).mono ?_
    rintro e w6c ⟨rfl, hb⟩
    have b6 := b6.trans (hb.mono b6.size)
    have p0 := cell_later hb p0
    have p1 := cell_later hb p1
    have p2 := cell_later hb p2
    have p3 := cell_later hb p3
    have p4 := cell_later hb p4
    have p5 := cell_later hb p5
    have HT6 := Lib.hid (HT6.out.call hb)
    clear hb
    go_wp2_with fail
    refine (HNB.out.merge _).mono ?_
    rintro e w6d ⟨rfl, hb⟩
    have b6 := b6.trans (hb.mono b6.size)
    have p0 := cell_later hb p0
    have p1 := cell_later hb p1
    have p2 := cell_later hb p2
    have p3 := cell_later hb p3
    have p4 := cell_later hb p4
    have p5 := cell_later hb p5
    have HT6 := Lib.hid (HT6.out.call hb)
    clear hb
    go_wp2_with fail
    refine (HNB.out.load _).mono ?_
    rintro e w6e ⟨rfl, hb⟩
    have b6 := b6.trans (hb.mono b6.size)
    have p0 := cell_later hb p0
    have p1 := cell_later hb p1
    have p2 := cell_later hb p2
    have p3 := cell_later hb p3
    have p4 := cell_later hb p4
    have p5 := cell_later hb p5
    have HT6 := Lib.hid (HT6.out.call hb)
    clear hb
    go_wp2_with fail
    refine (HNB.out.like _).mono ?_
    rintro e w6f ⟨rfl, hb⟩
    have b6 := b6.trans (hb.mono b6.size)
    have p0 := cell_later hb p0
    have p1 := cell_later hb p1
    have p2 := cell_later hb p2
    have p3 := cell_later hb p3
    have p4 := cell_later hb p4
    have p5 := cell_later hb p5
    have HT6 := Lib.hid (HT6.out.call hb)
    clear hb
    go_wp2_with fail
    refine (HNB.out.most _).mono ?_
    rintro e w6g ⟨rfl, hb⟩
    have b6 := b6.trans (hb.mono b6.size)
    have p0 := cell_later hb p0
    have p1 := cell_later hb p1
    have p2 := cell_later hb p2
    have p3 := cell_later hb p3
    have p4 := cell_later hb p4
    have p5 := cell_later hb p5
    have HT6 := Lib.hid (HT6.out.call hb)
    clear hb
    go_wp2_with fail
    refine (HBD.out _ HT6.out (HA.out.call b6)).mono ?_
    rintro e w7 (⟨B, S, R, M, P, s, n, rfl, hsi, hP, hof, m1, m2, hf, hl, hbn, hrk, hsr, hn1, hn2, d0, d4, hb7, _, _⟩ | ⟨rfl, hb7⟩)
    · exfalso
      have : sideI s = 0 ∨ sideI s = 1 := by cases s; exact Or.inl rfl; exact Or.inr rfl
      omega
    · have b7 := b6.trans (hb7.mono b6.size)
      go_wp2_with fail
      go_ret
      exact ⟨rfl, b7⟩
  · skip
    go_wp2_with fail
    refine (HBAD.out _ _ _ _ HPX.out (by omega)).mono ?_
    rintro e w6z ⟨rfl, hb⟩
    have b6 := b6.trans (hb.mono b6.size)
    have p0 := cell_later hb p0
    have p1 := cell_later hb p1
    have p2 := cell_later hb p2
    have p3 := cell_later hb p3
    have p4 := cell_later hb p4
    have p5 := cell_later hb p5
    have HT6 := Lib.hid (HT6.out.call hb)
    clear hb
    go_wp2_with fail
    refine (HNB.out.total _).mono ?_
    rintro e w6a ⟨rfl, hb⟩
    have b6 := b6.trans (hb.mono b6.size)
    have p0 := cell_later hb p0
    have p1 := cell_later hb p1
    have p2 := cell_later hb p2
    have p3 := cell_later hb p3
    have p4 := cell_later hb p4
    have p5 := cell_later hb p5
    have HT6 := Lib.hid (HT6.out.call hb)
    clear hb
    go_wp2_with fail
    refine (HNB.out.zero _).mono ?_
    rintro e w6b ⟨rfl, hb⟩
    have b6 := b6.trans (hb.mono b6.size)
    have p0 := cell_later hb p0
    have p1 := cell_later hb p1
    have p2 := cell_later hb p2
    have p3 := cell_later hb p3
    have p4 := cell_later hb p4
    have p5 := cell_later hb p5
    have HT6 := Lib.hid (HT6.out.call hb)
    clear hb
    go_wp2_with fail
    refine (HNB.out.add _ 1 1 ⟨by decide, by decide⟩ ⟨by decide, by decide⟩).mono ?_
    rintro e w6c ⟨rfl, hb⟩
    have b6 := b6.trans (hb.mono b6.size)
    have p0 := cell_later hb p0
    have p1 := cell_later hb p1
    have p2 := cell_later hb p2
    have p3 := cell_later hb p3
    have p4 := cell_later hb p4
    have p5 := cell_later hb p5
    have HT6 := Lib.hid (HT6.out.call hb)
    clear hb
    go_wp2_with fail
    refine (HNB.out.merge _).mono ?_
    rintro e w6d ⟨rfl, hb⟩
    have b6 := b6.trans (hb.mono b6.size)
    have p0 := cell_later hb p0
    have p1 := cell_later hb p1
    have p2 := cell_later hb p2
    have p3 := cell_later hb p3
    have p4 := cell_later hb p4
    have p5 := cell_later hb p5
    have HT6 := Lib.hid (HT6.out.call hb)
    clear hb
    go_wp2_with fail
    refine (HNB.out.load _).mono ?_
    rintro e w6e ⟨rfl, hb⟩
    have b6 := b6.trans (hb.mono b6.size)
    have p0 := cell_later hb p0
    have p1 := cell_later hb p1
    have p2 := cell_later hb p2
    have p3 := cell_later hb p3
    have p4 := cell_later hb p4
    have p5 := cell_later hb p5
    have HT6 := Lib.hid (HT6.out.call hb)
    clear hb
    go_wp2_with fail
    refine (HNB.out.like _).mono ?_
    rintro e w6f ⟨rfl, hb⟩
    have b6 := b6.trans (hb.mono b6.size)
    have p0 := cell_later hb p0
    have p1 := cell_later hb p1
    have p2 := cell_later hb p2
    have p3 := cell_later hb p3
    have p4 := cell_later hb p4
    have p5 := cell_later hb p5
    have HT6 := Lib.hid (HT6.out.call hb)
    clear hb
    go_wp2_with fail
    refine (HNB.out.most _).mono ?_
    rintro e w6g ⟨rfl, hb⟩
    have b6 := b6.trans (hb.mono b6.size)
    have p0 := cell_later hb p0
    have p1 := cell_later hb p1
    have p2 := cell_later hb p2
    have p3 := cell_later hb p3
    have p4 := cell_later hb p4
    have p5 := cell_later hb p5
    have HT6 := Lib.hid (HT6.out.call hb)
    clear hb
    go_wp2_with fail
    refine (HBD.out _ HT6.out (HA.out.call b6)).mono ?_
    rintro e w7 (⟨B, S, R, M, P, s, n, rfl, hsi, hP, hof, m1, m2, hf, hl, hbn, hrk, hsr, hn1, hn2, d0, d4, hb7, _, _⟩ | ⟨rfl, hb7⟩)
    · exfalso
      have : sideI s = 0 ∨ sideI s = 1 := by cases s; exact Or.inl rfl; exact Or.inr rfl
      omega
    · have b7 := b6.trans (hb7.mono b6.size)
      go_wp2_with fail
      go_ret
      exact ⟨rfl, b7⟩
  · skip
    go_wp2_with fail
    refine (HBAD.out _ _ _ _ HPX.out (by omega)).mono ?_
    rintro e w6z ⟨rfl, hb⟩
    have b6 := b6.trans (hb.mono b6.size)
    have p0 := cell_later hb p0
    have p1 := cell_later hb p1
    have p2 := cell_later hb p2
    have p3 := cell_later hb p3
    have p4 := cell_later hb p4
    have p5 := cell_later hb p5
    have HT6 := Lib.hid (HT6.out.call hb)
    clear hb
    go_wp2_with fail
    refine (HNB.out.total _).mono ?_
    rintro e w6a ⟨rfl, hb⟩
    have b6 := b6.trans (hb.mono b6.size)
    have p0 := cell_later hb p0
    have p1 := cell_later hb p1
    have p2 := cell_later hb p2
    have p3 := cell_later hb p3
    have p4 := cell_later hb p4
    have p5 := cell_later hb p5
    have HT6 := Lib.hid (HT6.out.call hb)
    clear hb
    go_wp2_with fail
    refine (HNB.out.zero _).mono ?_
    rintro e w6b ⟨rfl, hb⟩
    have b6 := b6.trans (hb.mono b6.size)
    have p0 := cell_later hb p0
    have p1 := cell_later hb p1
    have p2 := cell_later hb p2
    have p3 := cell_later hb p3
    have p4 := cell_later hb p4
    have p5 := cell_later hb p5
    have HT6 := Lib.hid (HT6.out.call hb)
    clear hb
    go_wp2_with fail
    refine (HNB.out.add _ 1 1 ⟨by decide, by decide⟩ ⟨by decide, by decide⟩).mono ?_
    rintro e w6c ⟨rfl, hb⟩
    have b6 := b6.trans (hb.mono b6.size)
    have p0 := cell_later hb p0
    have p1 := cell_later hb p1
    have p2 := cell_later hb p2
    have p3 := cell_later hb p3
    have p4 := cell_later hb p4
    have p5 := cell_later hb p5
    have HT6 := Lib.hid (HT6.out.call hb)
    clear hb
    go_wp2_with fail
    refine (HNB.out.merge _).mono ?_
    rintro e w6d ⟨rfl, hb⟩
    have b6 := b6.trans (hb.mono b6.size)
    have p0 := cell_later hb p0
    have p1 := cell_later hb p1
    have p2 := cell_later hb p2
    have p3 := cell_later hb p3
    have p4 := cell_later hb p4
    have p5 := cell_later hb p5
    have HT6 := Lib.hid (HT6.out.call hb)
    clear hb
    go_wp2_with fail
    refine (HNB.out.load _).mono ?_
    rintro e w6e ⟨rfl, hb⟩
    have b6 := b6.trans (hb.mono b6.size)
    have p0 := cell_later hb p0
    have p1 := cell_later hb p1
    have p2 := cell_later hb p2
    have p3 := cell_later hb p3
    have p4 := cell_later hb p4
    have p5 := cell_later hb p5
    have HT6 := Lib.hid (HT6.out.call hb)
    clear hb
    go_wp2_with fail
    refine (HNB.out.like _).mono ?_
    rintro e w6f ⟨rfl, hb⟩
    have b6 := b6.trans (hb.mono b6.size)
    have p0 := cell_later hb p0
    have p1 := cell_later hb p1
    have p2 := cell_later hb p2
    have p3 := cell_later hb p3
    have p4 := cell_later hb p4
    have p5 := cell_later hb p5
    have HT6 := Lib.hid (HT6.out.call hb)
    clear hb
    go_wp2_with fail
    refine (HNB.out.most _).mono ?_
    rintro e w6g ⟨rfl, hb⟩
    have b6 := b6.trans (hb.mono b6.size)
    have p0 := cell_later hb p0
    have p1 := cell_later hb p1
    have p2 := cell_later hb p2
    have p3 := cell_later hb p3
    have p4 := cell_later hb p4
    have p5 := cell_later hb p5
    have HT6 := Lib.hid (HT6.out.call hb)
    clear hb
    go_wp2_with fail
    refine (HBD.out _ HT6.out (HA.out.call b6)).mono ?_
    rintro e w7 (⟨B, S, R, M, P, s, n, rfl, hsi, hP, hof, m1, m2, hf, hl, hbn, hrk, hsr, hn1, hn2, d0, d4, hb7, _, _⟩ | ⟨rfl, hb7⟩)
    · exfalso
      have : sideI s = 0 ∨ sideI s = 1 := by cases s; exact Or.inl rfl; exact Or.inr rfl
      omega
    · have b7 := b6.trans (hb7.mono b6.size)
      go_wp2_with fail
      go_ret
      exact ⟨rfl, b7⟩
  · skip
    go_wp2_with fail
    refine (HBAD.out _ _ _ _ HPX.out (by omega)).mono ?_
    rintro e w6z ⟨rfl, hb⟩
    have b6 := b6.trans (hb.mono b6.size)
    have p0 := cell_later hb p0
    have p1 := cell_later hb p1
    have p2 := cell_later hb p2
    have p3 := cell_later hb p3
    have p4 := cell_later hb p4
    have p5 := cell_later hb p5
    have HT6 := Lib.hid (HT6.out.call hb)
    clear hb
    go_wp2_with fail
    refine (HNB.out.total _).mono ?_
    rintro e w6a ⟨rfl, hb⟩
    have b6 := b6.trans (hb.mono b6.size)
    have p0 := cell_later hb p0
    have p1 := cell_later hb p1
    have p2 := cell_later hb p2
    have p3 := cell_later hb p3
    have p4 := cell_later hb p4
    have p5 := cell_later hb p5
    have HT6 := Lib.hid (HT6.out.call hb)
    clear hb
    go_wp2_with fail
    refine (HNB.out.zero _).mono ?_
    rintro e w6b ⟨rfl, hb⟩
    have b6 := b6.trans (hb.mono b6.size)
    have p0 := cell_later hb p0
    have p1 := cell_later hb p1
    have p2 := cell_later hb p2
    have p3 := cell_later hb p3
    have p4 := cell_later hb p4
    have p5 := cell_later hb p5
    have HT6 := Lib.hid (HT6.out.call hb)
    clear hb
    go_wp2_with fail
    refine (HNB.out.add _ 1 1 ⟨by decide, by decide⟩ ⟨by decide, by decide⟩).mono ?_
    rintro e w6c ⟨rfl, hb⟩
    have b6 := b6.trans (hb.mono b6.size)
    have p0 := cell_later hb p0
    have p1 := cell_later hb p1
    have p2 := cell_later hb p2
    have p3 := cell_later hb p3
    have p4 := cell_later hb p4
    have p5 := cell_later hb p5
    have HT6 := Lib.hid (HT6.out.call hb)
    clear hb
    go_wp2_with fail
    refine (HNB.out.merge _).mono ?_
    rintro e w6d ⟨rfl, hb⟩
    have b6 := b6.trans (hb.mono b6.size)
    have p0 := cell_later hb p0
    have p1 := cell_later hb p1
    have p2 := cell_later hb p2
    have p3 := cell_later hb p3
    have p4 := cell_later hb p4
    have p5 := cell_later hb p5
    have HT6 := Lib.hid (HT6.out.call hb)
    clear hb
    go_wp2_with fail
    refine (HNB.out.load _).mono ?_
    rintro e w6e ⟨rfl, hb⟩
    have b6 := b6.trans (hb.mono b6.size)
    have p0 := cell_later hb p0
    have p1 := cell_later hb p1
    have p2 := cell_later hb p2
    have p3 := cell_later hb p3
    have p4 := cell_later hb p4
    have p5 := cell_later hb p5
    have HT6 := Lib.hid (HT6.out.call hb)
    clear hb
    go_wp2_with fail
    refine (HNB.out.like _).mono ?_
    rintro e w6f ⟨rfl, hb⟩
    have b6 := b6.trans (hb.mono b6.size)
    have p0 := cell_later hb p0
    have p1 := cell_later hb p1
    have p2 := cell_later hb p2
    have p3 := cell_later hb p3
    have p4 := cell_later hb p4
    have p5 := cell_later hb p5
    have HT6 := Lib.hid (HT6.out.call hb)
    clear hb
    go_wp2_with fail
    refine (HNB.out.most _).mono ?_
    rintro e w6g ⟨rfl, hb⟩
    have b6 := b6.trans (hb.mono b6.size)
    have p0 := cell_later hb p0
    have p1 := cell_later hb p1
    have p2 := cell_later hb p2
    have p3 := cell_later hb p3
    have p4 := cell_later hb p4
    have p5 := cell_later hb p5
    have HT6 := Lib.hid (HT6.out.call hb)
    clear hb
    go_wp2_with fail
    refine (HBD.out _ HT6.out (HA.out.call b6)).mono ?_
    rintro e w7 (⟨B, S, R, M, P, s, n, rfl, hsi, hP, hof, m1, m2, hf, hl, hbn, hrk, hsr, hn1, hn2, d0, d4, hb7, _, _⟩ | ⟨rfl, hb7⟩)
    · exfalso
      have : sideI s = 0 ∨ sideI s = 1 := by cases s; exact Or.inl rfl; exact Or.inr rfl
      omega
    · have b7 := b6.trans (hb7.mono b6.size)
      go_wp2_with fail
      go_ret
      exact ⟨rfl, b7⟩
end Go.Proofs.YtdnmeninglfhlaaGreatDoor
