/-
  The law DigestErrors, walked from the contract.
-/
import Derived.Test.YthjcdbnjmpjikaaGreatK4
namespace Go.Proofs.YthjcdbnjmpjikaaGreat
set_option linter.unusedVariables false
set_option linter.unusedSimpArgs false
open Go.RowKit

theorem out_cases (x lv : Int) : (x < 0 ∧ ¬ (0 ≤ x ∧ x < lv)) ∨ (¬ x < 0 ∧ lv ≤ x ∧ ¬ (0 ≤ x ∧ x < lv)) ∨ (¬ x < 0 ∧ ¬ lv ≤ x) := by omega
theorem conf_bool (d f : Int) : (confB d f = true ∧ ∃ b k : Nat, d = b ∧ f = k ∧ 1 ≤ b ∧ b ≤ 24 ∧ 1 ≤ k ∧ k ≤ 64) ∨ (confB d f = false ∧ (d < 1 ∨ (¬ d < 1 ∧ 24 < d) ∨ (¬ d < 1 ∧ ¬ 24 < d ∧ f < 1) ∨ (¬ d < 1 ∧ ¬ 24 < d ∧ ¬ f < 1 ∧ 64 < f))) := by
  unfold confB
  by_cases h1 : 1 ≤ d
  · by_cases h2 : d ≤ 24
    · by_cases h3 : 1 ≤ f
      · by_cases h4 : f ≤ 64
        · exact Or.inl ⟨by rw [decide_eq_true h1, decide_eq_true h2, decide_eq_true h3, decide_eq_true h4]; rfl, d.toNat, f.toNat, by omega, by omega, by omega, by omega, by omega, by omega⟩
        · exact Or.inr ⟨by rw [decide_eq_false h4, Bool.and_false], by omega⟩
      · exact Or.inr ⟨by rw [decide_eq_false h3, Bool.and_false, Bool.false_and], by omega⟩
    · exact Or.inr ⟨by rw [decide_eq_false h2, Bool.and_false, Bool.false_and, Bool.false_and], by omega⟩
  · exact Or.inr ⟨by rw [decide_eq_false h1, Bool.false_and, Bool.false_and, Bool.false_and], by omega⟩

set_option maxRecDepth 100000 in
set_option maxHeartbeats 16000000 in
theorem digest_errors_walk {Dg : DgT} (D : DigDoes Dg) (N : DigNil) (d f : Int) (A : List PairV) (a : Option Addr) (cap : Nat) (x d2 f2 : Int) (hd : I64 d) (hf : I64 f) (hx : I64 x) (hd2 : I64 d2) (hf2 : I64 f2) (w : World) (hA : Pairs w a A) (hl : A.length ≤ 140737488351232) :
    Calls Tryz.prog 7 #[.agg #[.int .i64 d, .int .i64 f], .slice a A.length cap, .int .i64 x, .agg #[.int .i64 d2, .int .i64 f2]] w fun e w' => e = .returned (.bool true) ∧ Below w.heap.size w w' := by
  have HD := Lib.hid D
  have HN := Lib.hid N
  have HA := Lib.hid hA
  have HAL := Lib.hid (fun W => alive17_any D W)
  have HBD := Lib.hid (fun W hW => build17_any D W d f A a cap hd hf hW hl)
  have HBX := Lib.hid (boxes_new w (.int .i64 d) (.int .i64 f) (.int .i64 d2) (.int .i64 f2) 23 23)
  obtain ⟨c0, c1, p0, p1, b0⟩ := HBX.out
  have N1 := Lib.hid (fun W (h : BoxG w.heap.size (.int .i64 d) (.int .i64 f) (.int .i64 d2) (.int .i64 f2) w W) => boxg_calls (N.ends W) h)
  have N2 := Lib.hid (fun W (h : BoxG w.heap.size (.int .i64 d) (.int .i64 f) (.int .i64 d2) (.int .i64 f2) w W) => boxg_calls (N.quantile W 0 1 ⟨by decide, by decide⟩ ⟨by decide, by decide⟩) h)
  have N3 := Lib.hid (fun W (h : BoxG w.heap.size (.int .i64 d) (.int .i64 f) (.int .i64 d2) (.int .i64 f2) w W) => boxg_calls (N.rank W 1 ⟨by decide, by decide⟩) h)
  have N4 := Lib.hid (fun W (h : BoxG w.heap.size (.int .i64 d) (.int .i64 f) (.int .i64 d2) (.int .i64 f2) w W) => boxg_calls (N.put W 1 1 ⟨by decide, by decide⟩ ⟨by decide, by decide⟩) h)
  have N5 := Lib.hid (fun W (h : BoxG w.heap.size (.int .i64 d) (.int .i64 f) (.int .i64 d2) (.int .i64 f2) w W) => boxg_calls (N.join W) h)
  have N6 := Lib.hid (fun W (h : BoxG w.heap.size (.int .i64 d) (.int .i64 f) (.int .i64 d2) (.int .i64 f2) w W) => boxg_calls (N.total W) h)
  have N7 := Lib.hid (fun W (h : BoxG w.heap.size (.int .i64 d) (.int .i64 f) (.int .i64 d2) (.int .i64 f2) w W) => (N.nodes W).mono fun e w' ⟨A, cap, he, hb⟩ => (⟨A, cap, he, boxg_later h hb⟩ : ∃ A cap, e = Ending.returned (Value.slice A 0 cap) ∧ BoxG w.heap.size (.int .i64 d) (.int .i64 f) (.int .i64 d2) (.int .i64 f2) w w'))
  have N8 := Lib.hid (fun W (h : BoxG w.heap.size (.int .i64 d) (.int .i64 f) (.int .i64 d2) (.int .i64 f2) w W) => boxg_calls (N.most W) h)
  have N9 := Lib.hid (fun W (h : BoxG w.heap.size (.int .i64 d) (.int .i64 f) (.int .i64 d2) (.int .i64 f2) w W) => boxg_calls (N.config W) h)
  have NA := Lib.hid (fun W (h : BoxG w.heap.size (.int .i64 d) (.int .i64 f) (.int .i64 d2) (.int .i64 f2) w W) => boxg_calls (HAL.out W) h)
  clear hA D N
  go_enter Tryz.func7, Tryz.ntmps7
  go_wp2_with ((first
    | (go_at_call 9; with_reducible refine (NA.out _ ⟨by assumption, by assumption, by assumption, by assumption, by assumption⟩).mono ?_; rintro e w' ⟨rfl, x0', x1', x2', x3', x4'⟩)
    | (go_at_call 15; with_reducible refine (N1.out _ ⟨by assumption, by assumption, by assumption, by assumption, by assumption⟩).mono ?_; rintro e w' ⟨rfl, x0', x1', x2', x3', x4'⟩)
    | (go_at_call 11; with_reducible refine (N2.out _ ⟨by assumption, by assumption, by assumption, by assumption, by assumption⟩).mono ?_; rintro e w' ⟨rfl, x0', x1', x2', x3', x4'⟩)
    | (go_at_call 13; with_reducible refine (N3.out _ ⟨by assumption, by assumption, by assumption, by assumption, by assumption⟩).mono ?_; rintro e w' ⟨rfl, x0', x1', x2', x3', x4'⟩)
    | (go_at_call 24; with_reducible refine (N4.out _ ⟨by assumption, by assumption, by assumption, by assumption, by assumption⟩).mono ?_; rintro e w' ⟨rfl, x0', x1', x2', x3', x4'⟩)
    | (go_at_call 23; with_reducible refine (N5.out _ ⟨by assumption, by assumption, by assumption, by assumption, by assumption⟩).mono ?_; rintro e w' ⟨rfl, x0', x1', x2', x3', x4'⟩)
    | (go_at_call 19; with_reducible refine (N6.out _ ⟨by assumption, by assumption, by assumption, by assumption, by assumption⟩).mono ?_; rintro e w' ⟨rfl, x0', x1', x2', x3', x4'⟩)
    | (go_at_call 18; with_reducible refine (N7.out _ ⟨by assumption, by assumption, by assumption, by assumption, by assumption⟩).mono ?_; rintro e w' ⟨aN, kN, rfl, x0', x1', x2', x3', x4'⟩)
    | (go_at_call 29; with_reducible refine (N8.out _ ⟨by assumption, by assumption, by assumption, by assumption, by assumption⟩).mono ?_; rintro e w' ⟨rfl, x0', x1', x2', x3', x4'⟩)
    | (go_at_call 30; with_reducible refine (N9.out _ ⟨by assumption, by assumption, by assumption, by assumption, by assumption⟩).mono ?_; rintro e w' ⟨rfl, x0', x1', x2', x3', x4'⟩)))
  have HB1 := Lib.hid (show BoxG w.heap.size (.int .i64 d) (.int .i64 f) (.int .i64 d2) (.int .i64 f2) w w' from ⟨x0', x1', x2', x3', x4'⟩)
  have HB1d : Hid (w.heap.size + 1 < w'.heap.size) := Lib.hid (World.block_lt_of_cell? (a := ⟨w.heap.size + 1, 0, none⟩) w' x2')
  generalize w' = w1 at *
  clear N1 N2 N3 N4 N5 N6 N7 N8 N9 NA HBX HN c0 c1 p0 p1 b0
  rcases conf_bool d f with ⟨hcf, b, k, rfl, rfl, q1, q2, q3, q4⟩ | ⟨hcf, hbad⟩
  case inr =>
    have HNB := Lib.hid (HD.out.bad w1 d f hd hf hcf)
    rcases hbad with g1 | ⟨g1, g2⟩ | ⟨g1, g2, g3⟩ | ⟨g1, g2, g3, g4⟩
    all_goals
      go_wp2_with fail
      refine HNB.out.mono ?_
      rintro e w2 ⟨rfl, b2'⟩
      have HB2 := Lib.hid (boxg_later HB1.out b2')
      clear x0' x1' x2' x3' x4' b2'
      obtain ⟨x0', x1', x2', x3', x4'⟩ := HB2.out
      go_wp2_with fail
      refine (HBD.out _ (HA.out.call x4')).mono ?_
      rintro e w3 (⟨B, S, M, b, k, v, rfl, e1, e2, q1, q2, q3, q4, _⟩ | ⟨rfl, b3'⟩)
      · exfalso; omega
      · have b3 := x4'.trans (b3'.mono x4'.size)
        clear b3'
        go_wp2_with fail
        go_ret
        exact ⟨rfl, b3⟩
  have HNG := Lib.hid (HD.out.new w1 b k q1 q2 q3 q4)
  have g1 : (1 : Int) ≤ b := by omega
  have g2 : (b : Int) ≤ 24 := by omega
  have g3 : (1 : Int) ≤ k := by omega
  have g4 : (k : Int) ≤ 64 := by omega
  go_wp2_with fail
  refine HNG.out.mono ?_
  rintro e w2 ⟨B0, S0, rfl, _, _, b2'⟩
  have HB2 := Lib.hid (boxg_later HB1.out b2')
  clear x0' x1' x2' x3' x4' b2'
  obtain ⟨x0', x1', x2', x3', x4'⟩ := HB2.out
  go_wp2_with fail
  refine (HBD.out _ (HA.out.call x4')).mono ?_
  rintro e w3 (⟨B, S, M, b', k', v, rfl, e1, e2, r1, r2, r3, r4, hfi, hl60, hdg, hrg, hS, hM, hSM, hvS, b3'⟩ | ⟨rfl, b3'⟩)
  case inr =>
    have b3 := x4'.trans (b3'.mono x4'.size)
    clear b3'
    go_wp2_with fail
    go_ret
    exact ⟨rfl, b3⟩
  obtain rfl : b = b' := by omega
  obtain rfl : k = k' := by omega
  have HB3 := Lib.hid (boxg_later HB2.out b3')
  have HH := hfi.has (k := k) q3 (by omega)
  have hsA := fineG_sum hfi
  have hrow := HH.row (by omega)
  have hfew := HH.few
  have hsR := HH.dig.sum
  generalize rowD b k A = R at *
  obtain ⟨T, hT⟩ : ∃ T, sumP R = T := ⟨_, rfl⟩
  have hT0 : 0 ≤ T ∧ T ≤ 140000000000000000 := by omega
  have hokR := hrow.ok q2
  obtain ⟨aR, kR, rfl, hpR⟩ := hrg.row hokR
  have HDG := Lib.hid hdg
  have HRG := Lib.hid hrg
  have HPR := Lib.hid hpR
  obtain ⟨lv, hlv⟩ : ∃ lv : Nat, 2 ^ b = lv := ⟨_, rfl⟩
  have hlv1 := pow_bdD q2
  have hlv3 : (2 : Int) ^ b = (lv : Int) := by rw [← hlv, Int.natCast_pow]; rfl
  rw [hlv] at hlv1
  have W1 : IntKind.i64.wrap ((2 : Int) ^ b) = (lv : Int) := by rw [hlv3, IntKind.wrap_i64]; omega
  have W2 : wrap64 ((2 : Int) ^ b) = (lv : Int) := by rw [hlv3]; unfold wrap64; omega
  have b0' : (0 : Int) ≤ (b : Int) := by omega
  have HLV := Lib.hid hlv
  have HTT := Lib.hid hT
  have HFE := Lib.hid hfew
  have HXX := Lib.hid hx
  obtain ⟨xx0, xx1⟩ := hx
  have HOUT : Hid ((x < 0 ∧ ¬ (0 ≤ x ∧ x < ((2 ^ b : Nat) : Int))) ∨ (¬ x < 0 ∧ (lv : Int) ≤ x ∧ ¬ (0 ≤ x ∧ x < ((2 ^ b : Nat) : Int))) ∨ (¬ x < 0 ∧ ¬ (lv : Int) ≤ x)) := Lib.hid (by rw [hlv]; exact out_cases x lv)
  clear e1 e2 r1 r2 r3 r4 hfi hdg hrg hS hM hSM hvS HH hsA hrow hsR hokR hpR hlv hlv3 hT hfew x0' x1' x2' x3' x4' b3' HBD HNG HB2 HB1 HAL
  obtain ⟨x0', x1', x2', x3', x4'⟩ := HB3.out
  rcases conf_bool d2 f2 with ⟨hcf, b2, k2, h2a, h2b, s1, s2, s3, s4⟩ | ⟨hcf, hbad⟩
  case inr =>
    have HNB := Lib.hid (HD.out.bad w3 d2 f2 hd2 hf2 hcf)
    rcases HOUT.out with ⟨o1, o2⟩ | ⟨o1, o2, o3⟩ | ⟨o1, o2⟩
    · go_wp2_with fail
      refine HNB.out.mono ?_
      rintro e w4 ⟨rfl, b4'⟩
      have HX4 := Lib.hid (HD.out.call HDG.out b4')
      have HR4 := Lib.hid (HRG.out.call b4')
      have HP4 := Lib.hid (HPR.out.call b4')
      have HB4 := Lib.hid (HB3.out.2.2.2.2.trans (b4'.mono HB3.out.2.2.2.2.size))
      obtain ⟨x0', x1', x2', x3', _⟩ := boxg_later HB3.out b4'
      have x4' : Below w4.heap.size w4 w4 := Below.refl _ _
      have Z1 := Lib.hid (fun W (h : BoxG w.heap.size (.int .i64 b) (.int .i64 k) (.int .i64 d2) (.int .i64 f2) w4 W) => boxg_calls (HD.out.zero W B S b k R _ 0 (HD.out.call HX4.out h.2.2.2.2) ⟨by decide, by decide⟩) h)
      have Z3 := Lib.hid (fun W (h : BoxG w.heap.size (.int .i64 b) (.int .i64 k) (.int .i64 d2) (.int .i64 f2) w4 W) => boxg_calls (HD.out.full W B S b k R _ 0 (9223372036854775808 - T) (HD.out.call HX4.out h.2.2.2.2) (by omega) (by have := HLV.out; rw [this]; omega) ⟨by omega, by omega⟩ (by rw [HTT.out]; omega)) h)
      have Z4 := Lib.hid (fun W (h : BoxG w.heap.size (.int .i64 b) (.int .i64 k) (.int .i64 d2) (.int .i64 f2) w4 W) => boxg_calls (HD.out.join_nil W B S b k R _ (HD.out.call HX4.out h.2.2.2.2)) h)
      have Z5 := Lib.hid (fun W (h : BoxG w.heap.size (.int .i64 b) (.int .i64 k) (.int .i64 d2) (.int .i64 f2) w4 W) => boxg_calls (HD.out.total W B S b k R _ (HD.out.call HX4.out h.2.2.2.2)) h)
      rw [HTT.out] at Z5
      have HNO := Lib.hid (fun W (h : Below w4.heap.size w4 W) => HD.out.nodes W B S b k R _ (HD.out.call HX4.out h))
      have HCF := Lib.hid (fun W (h : Below w4.heap.size w4 W) => HD.out.config W B S b k R _ (HD.out.call HX4.out h))
      have HMO := Lib.hid (fun W (h : Below w4.heap.size w4 W) => HD.out.most W B S b k R _ (HD.out.call HX4.out h))
      have HSM := Lib.hid (fun W a1 k1 (h1 : Pairs W a1 R) (h : Below w4.heap.size w4 W) => same_any W a1 aR k1 kR R R true (by simp) h1 (HP4.out.call h) (by have := HFE.out; omega) (by have := HFE.out; omega))
      have HC2 := Lib.hid HR4.out.c2
      have u1 : IntKind.u64.wrap (9223372036854775808 - T) = 9223372036854775808 - T := by rw [IntKind.wrap_u64]; omega
      have u2 : IntKind.i64.wrap (4 * (k : Int)) = 4 * (k : Int) := by rw [IntKind.wrap_i64]; omega
      have t1 : ((b : Int) == b) = true := by simp
      have t2 : ((k : Int) == k) = true := by simp
      have t3 : ((4 * (k : Int)) == 4 * (k : Int)) = true := by simp
      clear b4'
      have Z2 := Lib.hid (fun W (h : BoxG w.heap.size (.int .i64 b) (.int .i64 k) (.int .i64 d2) (.int .i64 f2) w4 W) => boxg_calls (HD.out.out W B S b k R _ x 1 (HD.out.call HX4.out h.2.2.2.2) HXX.out ⟨by decide, by decide⟩ (by decide) o2) h)
      go_wp2_with ((first
        | (go_at_call 24; with_reducible refine (Z1.out _ ⟨by assumption, by assumption, by assumption, by assumption, by assumption⟩).mono ?_; rintro e w' ⟨rfl, x0', x1', x2', x3', x4'⟩)
        | (go_at_call 24; with_reducible refine (Z2.out _ ⟨by assumption, by assumption, by assumption, by assumption, by assumption⟩).mono ?_; rintro e w' ⟨rfl, x0', x1', x2', x3', x4'⟩)
        | (go_at_call 24; with_reducible refine (Z3.out _ ⟨by assumption, by assumption, by assumption, by assumption, by assumption⟩).mono ?_; rintro e w' ⟨rfl, x0', x1', x2', x3', x4'⟩)
        | (go_at_call 23; with_reducible refine (Z4.out _ ⟨by assumption, by assumption, by assumption, by assumption, by assumption⟩).mono ?_; rintro e w' ⟨rfl, x0', x1', x2', x3', x4'⟩)
        | (go_at_call 23; with_reducible refine (Z6.out _ ⟨by assumption, by assumption, by assumption, by assumption, by assumption⟩).mono ?_; rintro e w' ⟨rfl, x0', x1', x2', x3', x4'⟩)
        | (go_at_call 19; with_reducible refine (Z5.out _ ⟨by assumption, by assumption, by assumption, by assumption, by assumption⟩).mono ?_; rintro e w' ⟨rfl, x0', x1', x2', x3', x4'⟩)))
      have HS0 := Lib.hid (show w'.drew.cell? ⟨w.heap.size, 0, none⟩ = some (.int .i64 b) ∧ w'.drew.cell? ⟨w.heap.size, 1, none⟩ = some (.int .i64 k) ∧ w'.drew.cell? ⟨M, 2, none⟩ = some (.slice aR R.length kR) ∧ Below w4.heap.size w4 w'.drew from ⟨cell_later (Below.refl _ _).drew x0', cell_later (Below.refl _ _).drew x1', cell_later x4'.drew HC2.out, x4'.drew⟩)
      have HST := Lib.hid (fun (W W' : World) (h : W.cell? ⟨w.heap.size, 0, none⟩ = some (.int .i64 b) ∧ W.cell? ⟨w.heap.size, 1, none⟩ = some (.int .i64 k) ∧ W.cell? ⟨M, 2, none⟩ = some (.slice aR R.length kR) ∧ Below w4.heap.size w4 W) (hb : Below W.heap.size W W') => (⟨cell_later hb h.1, cell_later hb h.2.1, cell_later hb h.2.2.1, h.2.2.2.trans (hb.mono h.2.2.2.size)⟩ : W'.cell? ⟨w.heap.size, 0, none⟩ = some (.int .i64 b) ∧ W'.cell? ⟨w.heap.size, 1, none⟩ = some (.int .i64 k) ∧ W'.cell? ⟨M, 2, none⟩ = some (.slice aR R.length kR) ∧ Below w4.heap.size w4 W'))
      clear x0' x1' x2' x3' x4'
      go_region_held3 (fun w' => w'.cell? ⟨w.heap.size, 0, none⟩ = some (.int .i64 b) ∧ w'.cell? ⟨w.heap.size, 1, none⟩ = some (.int .i64 k) ∧ w'.cell? ⟨M, 2, none⟩ = some (.slice aR R.length kR) ∧ Below w4.heap.size w4 w')
        (first | exact HS0.out | exact HST.out _ _ (by assumption) hbA | exact HST.out _ _ (by assumption) hbB | exact HST.out _ _ (by assumption) hbC | exact HST.out _ _ (by assumption) hbD | assumption)
        ((first
          | (go_at_call 18; with_reducible refine (HNO.out _ (And.right (And.right (And.right (by assumption))))).mono ?_; rintro e wA ⟨a1, k1', rfl, hp1, hbA⟩)
          | (go_at_call 17; with_reducible refine (HSM.out _ _ _ (by assumption) (And.right (And.right (And.right (by assumption))))).mono ?_; rintro e wB ⟨rfl, hbB⟩)
          | (go_at_call 30; with_reducible refine (HCF.out _ (And.right (And.right (And.right (by assumption))))).mono ?_; rintro e wC ⟨rfl, hbC⟩)
          | (go_at_call 29; with_reducible refine (HMO.out _ (And.right (And.right (And.right (by assumption))))).mono ?_; rintro e wD ⟨rfl, hbD⟩)))
      all_goals
        rename_i hHeld
        obtain ⟨_, _, _, hb9⟩ := hHeld
        go_wp2_with fail
        go_ret
        exact ⟨rfl, HB4.out.trans (hb9.mono HB4.out.size)⟩
    · go_wp2_with fail
      refine HNB.out.mono ?_
      rintro e w4 ⟨rfl, b4'⟩
      have HX4 := Lib.hid (HD.out.call HDG.out b4')
      have HR4 := Lib.hid (HRG.out.call b4')
      have HP4 := Lib.hid (HPR.out.call b4')
      have HB4 := Lib.hid (HB3.out.2.2.2.2.trans (b4'.mono HB3.out.2.2.2.2.size))
      obtain ⟨x0', x1', x2', x3', _⟩ := boxg_later HB3.out b4'
      have x4' : Below w4.heap.size w4 w4 := Below.refl _ _
      have Z1 := Lib.hid (fun W (h : BoxG w.heap.size (.int .i64 b) (.int .i64 k) (.int .i64 d2) (.int .i64 f2) w4 W) => boxg_calls (HD.out.zero W B S b k R _ 0 (HD.out.call HX4.out h.2.2.2.2) ⟨by decide, by decide⟩) h)
      have Z3 := Lib.hid (fun W (h : BoxG w.heap.size (.int .i64 b) (.int .i64 k) (.int .i64 d2) (.int .i64 f2) w4 W) => boxg_calls (HD.out.full W B S b k R _ 0 (9223372036854775808 - T) (HD.out.call HX4.out h.2.2.2.2) (by omega) (by have := HLV.out; rw [this]; omega) ⟨by omega, by omega⟩ (by rw [HTT.out]; omega)) h)
      have Z4 := Lib.hid (fun W (h : BoxG w.heap.size (.int .i64 b) (.int .i64 k) (.int .i64 d2) (.int .i64 f2) w4 W) => boxg_calls (HD.out.join_nil W B S b k R _ (HD.out.call HX4.out h.2.2.2.2)) h)
      have Z5 := Lib.hid (fun W (h : BoxG w.heap.size (.int .i64 b) (.int .i64 k) (.int .i64 d2) (.int .i64 f2) w4 W) => boxg_calls (HD.out.total W B S b k R _ (HD.out.call HX4.out h.2.2.2.2)) h)
      rw [HTT.out] at Z5
      have HNO := Lib.hid (fun W (h : Below w4.heap.size w4 W) => HD.out.nodes W B S b k R _ (HD.out.call HX4.out h))
      have HCF := Lib.hid (fun W (h : Below w4.heap.size w4 W) => HD.out.config W B S b k R _ (HD.out.call HX4.out h))
      have HMO := Lib.hid (fun W (h : Below w4.heap.size w4 W) => HD.out.most W B S b k R _ (HD.out.call HX4.out h))
      have HSM := Lib.hid (fun W a1 k1 (h1 : Pairs W a1 R) (h : Below w4.heap.size w4 W) => same_any W a1 aR k1 kR R R true (by simp) h1 (HP4.out.call h) (by have := HFE.out; omega) (by have := HFE.out; omega))
      have HC2 := Lib.hid HR4.out.c2
      have u1 : IntKind.u64.wrap (9223372036854775808 - T) = 9223372036854775808 - T := by rw [IntKind.wrap_u64]; omega
      have u2 : IntKind.i64.wrap (4 * (k : Int)) = 4 * (k : Int) := by rw [IntKind.wrap_i64]; omega
      have t1 : ((b : Int) == b) = true := by simp
      have t2 : ((k : Int) == k) = true := by simp
      have t3 : ((4 * (k : Int)) == 4 * (k : Int)) = true := by simp
      clear b4'
      have Z2 := Lib.hid (fun W (h : BoxG w.heap.size (.int .i64 b) (.int .i64 k) (.int .i64 d2) (.int .i64 f2) w4 W) => boxg_calls (HD.out.out W B S b k R _ x 1 (HD.out.call HX4.out h.2.2.2.2) HXX.out ⟨by decide, by decide⟩ (by decide) o3) h)
      go_wp2_with ((first
        | (go_at_call 24; with_reducible refine (Z1.out _ ⟨by assumption, by assumption, by assumption, by assumption, by assumption⟩).mono ?_; rintro e w' ⟨rfl, x0', x1', x2', x3', x4'⟩)
        | (go_at_call 24; with_reducible refine (Z2.out _ ⟨by assumption, by assumption, by assumption, by assumption, by assumption⟩).mono ?_; rintro e w' ⟨rfl, x0', x1', x2', x3', x4'⟩)
        | (go_at_call 24; with_reducible refine (Z3.out _ ⟨by assumption, by assumption, by assumption, by assumption, by assumption⟩).mono ?_; rintro e w' ⟨rfl, x0', x1', x2', x3', x4'⟩)
        | (go_at_call 23; with_reducible refine (Z4.out _ ⟨by assumption, by assumption, by assumption, by assumption, by assumption⟩).mono ?_; rintro e w' ⟨rfl, x0', x1', x2', x3', x4'⟩)
        | (go_at_call 23; with_reducible refine (Z6.out _ ⟨by assumption, by assumption, by assumption, by assumption, by assumption⟩).mono ?_; rintro e w' ⟨rfl, x0', x1', x2', x3', x4'⟩)
        | (go_at_call 19; with_reducible refine (Z5.out _ ⟨by assumption, by assumption, by assumption, by assumption, by assumption⟩).mono ?_; rintro e w' ⟨rfl, x0', x1', x2', x3', x4'⟩)))
      have HS0 := Lib.hid (show w'.drew.cell? ⟨w.heap.size, 0, none⟩ = some (.int .i64 b) ∧ w'.drew.cell? ⟨w.heap.size, 1, none⟩ = some (.int .i64 k) ∧ w'.drew.cell? ⟨M, 2, none⟩ = some (.slice aR R.length kR) ∧ Below w4.heap.size w4 w'.drew from ⟨cell_later (Below.refl _ _).drew x0', cell_later (Below.refl _ _).drew x1', cell_later x4'.drew HC2.out, x4'.drew⟩)
      have HST := Lib.hid (fun (W W' : World) (h : W.cell? ⟨w.heap.size, 0, none⟩ = some (.int .i64 b) ∧ W.cell? ⟨w.heap.size, 1, none⟩ = some (.int .i64 k) ∧ W.cell? ⟨M, 2, none⟩ = some (.slice aR R.length kR) ∧ Below w4.heap.size w4 W) (hb : Below W.heap.size W W') => (⟨cell_later hb h.1, cell_later hb h.2.1, cell_later hb h.2.2.1, h.2.2.2.trans (hb.mono h.2.2.2.size)⟩ : W'.cell? ⟨w.heap.size, 0, none⟩ = some (.int .i64 b) ∧ W'.cell? ⟨w.heap.size, 1, none⟩ = some (.int .i64 k) ∧ W'.cell? ⟨M, 2, none⟩ = some (.slice aR R.length kR) ∧ Below w4.heap.size w4 W'))
      clear x0' x1' x2' x3' x4'
      go_region_held3 (fun w' => w'.cell? ⟨w.heap.size, 0, none⟩ = some (.int .i64 b) ∧ w'.cell? ⟨w.heap.size, 1, none⟩ = some (.int .i64 k) ∧ w'.cell? ⟨M, 2, none⟩ = some (.slice aR R.length kR) ∧ Below w4.heap.size w4 w')
        (first | exact HS0.out | exact HST.out _ _ (by assumption) hbA | exact HST.out _ _ (by assumption) hbB | exact HST.out _ _ (by assumption) hbC | exact HST.out _ _ (by assumption) hbD | assumption)
        ((first
          | (go_at_call 18; with_reducible refine (HNO.out _ (And.right (And.right (And.right (by assumption))))).mono ?_; rintro e wA ⟨a1, k1', rfl, hp1, hbA⟩)
          | (go_at_call 17; with_reducible refine (HSM.out _ _ _ (by assumption) (And.right (And.right (And.right (by assumption))))).mono ?_; rintro e wB ⟨rfl, hbB⟩)
          | (go_at_call 30; with_reducible refine (HCF.out _ (And.right (And.right (And.right (by assumption))))).mono ?_; rintro e wC ⟨rfl, hbC⟩)
          | (go_at_call 29; with_reducible refine (HMO.out _ (And.right (And.right (And.right (by assumption))))).mono ?_; rintro e wD ⟨rfl, hbD⟩)))
      all_goals
        rename_i hHeld
        obtain ⟨_, _, _, hb9⟩ := hHeld
        go_wp2_with fail
        go_ret
        exact ⟨rfl, HB4.out.trans (hb9.mono HB4.out.size)⟩
    · go_wp2_with fail
      refine HNB.out.mono ?_
      rintro e w4 ⟨rfl, b4'⟩
      have HX4 := Lib.hid (HD.out.call HDG.out b4')
      have HR4 := Lib.hid (HRG.out.call b4')
      have HP4 := Lib.hid (HPR.out.call b4')
      have HB4 := Lib.hid (HB3.out.2.2.2.2.trans (b4'.mono HB3.out.2.2.2.2.size))
      obtain ⟨x0', x1', x2', x3', _⟩ := boxg_later HB3.out b4'
      have x4' : Below w4.heap.size w4 w4 := Below.refl _ _
      have Z1 := Lib.hid (fun W (h : BoxG w.heap.size (.int .i64 b) (.int .i64 k) (.int .i64 d2) (.int .i64 f2) w4 W) => boxg_calls (HD.out.zero W B S b k R _ 0 (HD.out.call HX4.out h.2.2.2.2) ⟨by decide, by decide⟩) h)
      have Z3 := Lib.hid (fun W (h : BoxG w.heap.size (.int .i64 b) (.int .i64 k) (.int .i64 d2) (.int .i64 f2) w4 W) => boxg_calls (HD.out.full W B S b k R _ 0 (9223372036854775808 - T) (HD.out.call HX4.out h.2.2.2.2) (by omega) (by have := HLV.out; rw [this]; omega) ⟨by omega, by omega⟩ (by rw [HTT.out]; omega)) h)
      have Z4 := Lib.hid (fun W (h : BoxG w.heap.size (.int .i64 b) (.int .i64 k) (.int .i64 d2) (.int .i64 f2) w4 W) => boxg_calls (HD.out.join_nil W B S b k R _ (HD.out.call HX4.out h.2.2.2.2)) h)
      have Z5 := Lib.hid (fun W (h : BoxG w.heap.size (.int .i64 b) (.int .i64 k) (.int .i64 d2) (.int .i64 f2) w4 W) => boxg_calls (HD.out.total W B S b k R _ (HD.out.call HX4.out h.2.2.2.2)) h)
      rw [HTT.out] at Z5
      have HNO := Lib.hid (fun W (h : Below w4.heap.size w4 W) => HD.out.nodes W B S b k R _ (HD.out.call HX4.out h))
      have HCF := Lib.hid (fun W (h : Below w4.heap.size w4 W) => HD.out.config W B S b k R _ (HD.out.call HX4.out h))
      have HMO := Lib.hid (fun W (h : Below w4.heap.size w4 W) => HD.out.most W B S b k R _ (HD.out.call HX4.out h))
      have HSM := Lib.hid (fun W a1 k1 (h1 : Pairs W a1 R) (h : Below w4.heap.size w4 W) => same_any W a1 aR k1 kR R R true (by simp) h1 (HP4.out.call h) (by have := HFE.out; omega) (by have := HFE.out; omega))
      have HC2 := Lib.hid HR4.out.c2
      have u1 : IntKind.u64.wrap (9223372036854775808 - T) = 9223372036854775808 - T := by rw [IntKind.wrap_u64]; omega
      have u2 : IntKind.i64.wrap (4 * (k : Int)) = 4 * (k : Int) := by rw [IntKind.wrap_i64]; omega
      have t1 : ((b : Int) == b) = true := by simp
      have t2 : ((k : Int) == k) = true := by simp
      have t3 : ((4 * (k : Int)) == 4 * (k : Int)) = true := by simp
      clear b4'
      go_wp2_with ((first
        | (go_at_call 24; with_reducible refine (Z1.out _ ⟨by assumption, by assumption, by assumption, by assumption, by assumption⟩).mono ?_; rintro e w' ⟨rfl, x0', x1', x2', x3', x4'⟩)
        | (go_at_call 24; with_reducible refine (Z2.out _ ⟨by assumption, by assumption, by assumption, by assumption, by assumption⟩).mono ?_; rintro e w' ⟨rfl, x0', x1', x2', x3', x4'⟩)
        | (go_at_call 24; with_reducible refine (Z3.out _ ⟨by assumption, by assumption, by assumption, by assumption, by assumption⟩).mono ?_; rintro e w' ⟨rfl, x0', x1', x2', x3', x4'⟩)
        | (go_at_call 23; with_reducible refine (Z4.out _ ⟨by assumption, by assumption, by assumption, by assumption, by assumption⟩).mono ?_; rintro e w' ⟨rfl, x0', x1', x2', x3', x4'⟩)
        | (go_at_call 23; with_reducible refine (Z6.out _ ⟨by assumption, by assumption, by assumption, by assumption, by assumption⟩).mono ?_; rintro e w' ⟨rfl, x0', x1', x2', x3', x4'⟩)
        | (go_at_call 19; with_reducible refine (Z5.out _ ⟨by assumption, by assumption, by assumption, by assumption, by assumption⟩).mono ?_; rintro e w' ⟨rfl, x0', x1', x2', x3', x4'⟩)))
      have HS0 := Lib.hid (show w'.drew.cell? ⟨w.heap.size, 0, none⟩ = some (.int .i64 b) ∧ w'.drew.cell? ⟨w.heap.size, 1, none⟩ = some (.int .i64 k) ∧ w'.drew.cell? ⟨M, 2, none⟩ = some (.slice aR R.length kR) ∧ Below w4.heap.size w4 w'.drew from ⟨cell_later (Below.refl _ _).drew x0', cell_later (Below.refl _ _).drew x1', cell_later x4'.drew HC2.out, x4'.drew⟩)
      have HST := Lib.hid (fun (W W' : World) (h : W.cell? ⟨w.heap.size, 0, none⟩ = some (.int .i64 b) ∧ W.cell? ⟨w.heap.size, 1, none⟩ = some (.int .i64 k) ∧ W.cell? ⟨M, 2, none⟩ = some (.slice aR R.length kR) ∧ Below w4.heap.size w4 W) (hb : Below W.heap.size W W') => (⟨cell_later hb h.1, cell_later hb h.2.1, cell_later hb h.2.2.1, h.2.2.2.trans (hb.mono h.2.2.2.size)⟩ : W'.cell? ⟨w.heap.size, 0, none⟩ = some (.int .i64 b) ∧ W'.cell? ⟨w.heap.size, 1, none⟩ = some (.int .i64 k) ∧ W'.cell? ⟨M, 2, none⟩ = some (.slice aR R.length kR) ∧ Below w4.heap.size w4 W'))
      clear x0' x1' x2' x3' x4'
      go_region_held3 (fun w' => w'.cell? ⟨w.heap.size, 0, none⟩ = some (.int .i64 b) ∧ w'.cell? ⟨w.heap.size, 1, none⟩ = some (.int .i64 k) ∧ w'.cell? ⟨M, 2, none⟩ = some (.slice aR R.length kR) ∧ Below w4.heap.size w4 w')
        (first | exact HS0.out | exact HST.out _ _ (by assumption) hbA | exact HST.out _ _ (by assumption) hbB | exact HST.out _ _ (by assumption) hbC | exact HST.out _ _ (by assumption) hbD | assumption)
        ((first
          | (go_at_call 18; with_reducible refine (HNO.out _ (And.right (And.right (And.right (by assumption))))).mono ?_; rintro e wA ⟨a1, k1', rfl, hp1, hbA⟩)
          | (go_at_call 17; with_reducible refine (HSM.out _ _ _ (by assumption) (And.right (And.right (And.right (by assumption))))).mono ?_; rintro e wB ⟨rfl, hbB⟩)
          | (go_at_call 30; with_reducible refine (HCF.out _ (And.right (And.right (And.right (by assumption))))).mono ?_; rintro e wC ⟨rfl, hbC⟩)
          | (go_at_call 29; with_reducible refine (HMO.out _ (And.right (And.right (And.right (by assumption))))).mono ?_; rintro e wD ⟨rfl, hbD⟩)))
      all_goals
        rename_i hHeld
        obtain ⟨_, _, _, hb9⟩ := hHeld
        go_wp2_with fail
        go_ret
        exact ⟨rfl, HB4.out.trans (hb9.mono HB4.out.size)⟩
  case inl =>
    have HNG2 := Lib.hid (HD.out.new w3 b2 k2 s1 s2 s3 s4)
    rw [← h2a, ← h2b] at HNG2
    have HDF : Hid (¬ (d2 = b ∧ f2 = k) → b ≠ b2 ∨ k ≠ k2) := Lib.hid (by omega)
    clear h2a h2b
    by_cases hsame : d2 = b ∧ f2 = k
    · have y1 : (d2 == (b : Int)) = true := by simp [hsame.1]
      have y2 : (f2 == (k : Int)) = true := by simp [hsame.2]
      clear hsame
      rcases HOUT.out with ⟨o1, o2⟩ | ⟨o1, o2, o3⟩ | ⟨o1, o2⟩
      · go_wp2_with fail
        with_reducible refine HNG2.out.mono ?_
        rintro e w4 ⟨B2, S2, rfl, hx2, hs2, b4'⟩
        clear hx2 hs2
        have HX4 := Lib.hid (HD.out.call HDG.out b4')
        have HR4 := Lib.hid (HRG.out.call b4')
        have HP4 := Lib.hid (HPR.out.call b4')
        have HB4 := Lib.hid (HB3.out.2.2.2.2.trans (b4'.mono HB3.out.2.2.2.2.size))
        obtain ⟨x0', x1', x2', x3', _⟩ := boxg_later HB3.out b4'
        have x4' : Below w4.heap.size w4 w4 := Below.refl _ _
        have Z1 := Lib.hid (fun W (h : BoxG w.heap.size (.int .i64 b) (.int .i64 k) (.int .i64 d2) (.int .i64 f2) w4 W) => boxg_calls (HD.out.zero W B S b k R _ 0 (HD.out.call HX4.out h.2.2.2.2) ⟨by decide, by decide⟩) h)
        have Z3 := Lib.hid (fun W (h : BoxG w.heap.size (.int .i64 b) (.int .i64 k) (.int .i64 d2) (.int .i64 f2) w4 W) => boxg_calls (HD.out.full W B S b k R _ 0 (9223372036854775808 - T) (HD.out.call HX4.out h.2.2.2.2) (by omega) (by have := HLV.out; rw [this]; omega) ⟨by omega, by omega⟩ (by rw [HTT.out]; omega)) h)
        have Z4 := Lib.hid (fun W (h : BoxG w.heap.size (.int .i64 b) (.int .i64 k) (.int .i64 d2) (.int .i64 f2) w4 W) => boxg_calls (HD.out.join_nil W B S b k R _ (HD.out.call HX4.out h.2.2.2.2)) h)
        have Z5 := Lib.hid (fun W (h : BoxG w.heap.size (.int .i64 b) (.int .i64 k) (.int .i64 d2) (.int .i64 f2) w4 W) => boxg_calls (HD.out.total W B S b k R _ (HD.out.call HX4.out h.2.2.2.2)) h)
        rw [HTT.out] at Z5
        have HNO := Lib.hid (fun W (h : Below w4.heap.size w4 W) => HD.out.nodes W B S b k R _ (HD.out.call HX4.out h))
        have HCF := Lib.hid (fun W (h : Below w4.heap.size w4 W) => HD.out.config W B S b k R _ (HD.out.call HX4.out h))
        have HMO := Lib.hid (fun W (h : Below w4.heap.size w4 W) => HD.out.most W B S b k R _ (HD.out.call HX4.out h))
        have HSM := Lib.hid (fun W a1 k1 (h1 : Pairs W a1 R) (h : Below w4.heap.size w4 W) => same_any W a1 aR k1 kR R R true (by simp) h1 (HP4.out.call h) (by have := HFE.out; omega) (by have := HFE.out; omega))
        have HC2 := Lib.hid HR4.out.c2
        have u1 : IntKind.u64.wrap (9223372036854775808 - T) = 9223372036854775808 - T := by rw [IntKind.wrap_u64]; omega
        have u2 : IntKind.i64.wrap (4 * (k : Int)) = 4 * (k : Int) := by rw [IntKind.wrap_i64]; omega
        have t1 : ((b : Int) == b) = true := by simp
        have t2 : ((k : Int) == k) = true := by simp
        have t3 : ((4 * (k : Int)) == 4 * (k : Int)) = true := by simp
        clear b4'
        have Z2 := Lib.hid (fun W (h : BoxG w.heap.size (.int .i64 b) (.int .i64 k) (.int .i64 d2) (.int .i64 f2) w4 W) => boxg_calls (HD.out.out W B S b k R _ x 1 (HD.out.call HX4.out h.2.2.2.2) HXX.out ⟨by decide, by decide⟩ (by decide) o2) h)
        go_wp2_with ((first
          | (go_at_call 24; with_reducible refine (Z1.out _ ⟨by assumption, by assumption, by assumption, by assumption, by assumption⟩).mono ?_; rintro e w' ⟨rfl, x0', x1', x2', x3', x4'⟩)
          | (go_at_call 24; with_reducible refine (Z2.out _ ⟨by assumption, by assumption, by assumption, by assumption, by assumption⟩).mono ?_; rintro e w' ⟨rfl, x0', x1', x2', x3', x4'⟩)
          | (go_at_call 24; with_reducible refine (Z3.out _ ⟨by assumption, by assumption, by assumption, by assumption, by assumption⟩).mono ?_; rintro e w' ⟨rfl, x0', x1', x2', x3', x4'⟩)
          | (go_at_call 23; with_reducible refine (Z4.out _ ⟨by assumption, by assumption, by assumption, by assumption, by assumption⟩).mono ?_; rintro e w' ⟨rfl, x0', x1', x2', x3', x4'⟩)
          | (go_at_call 23; with_reducible refine (Z6.out _ ⟨by assumption, by assumption, by assumption, by assumption, by assumption⟩).mono ?_; rintro e w' ⟨rfl, x0', x1', x2', x3', x4'⟩)
          | (go_at_call 19; with_reducible refine (Z5.out _ ⟨by assumption, by assumption, by assumption, by assumption, by assumption⟩).mono ?_; rintro e w' ⟨rfl, x0', x1', x2', x3', x4'⟩)))
        have HS0 := Lib.hid (show w'.drew.cell? ⟨w.heap.size, 0, none⟩ = some (.int .i64 b) ∧ w'.drew.cell? ⟨w.heap.size, 1, none⟩ = some (.int .i64 k) ∧ w'.drew.cell? ⟨M, 2, none⟩ = some (.slice aR R.length kR) ∧ Below w4.heap.size w4 w'.drew from ⟨cell_later (Below.refl _ _).drew x0', cell_later (Below.refl _ _).drew x1', cell_later x4'.drew HC2.out, x4'.drew⟩)
        have HST := Lib.hid (fun (W W' : World) (h : W.cell? ⟨w.heap.size, 0, none⟩ = some (.int .i64 b) ∧ W.cell? ⟨w.heap.size, 1, none⟩ = some (.int .i64 k) ∧ W.cell? ⟨M, 2, none⟩ = some (.slice aR R.length kR) ∧ Below w4.heap.size w4 W) (hb : Below W.heap.size W W') => (⟨cell_later hb h.1, cell_later hb h.2.1, cell_later hb h.2.2.1, h.2.2.2.trans (hb.mono h.2.2.2.size)⟩ : W'.cell? ⟨w.heap.size, 0, none⟩ = some (.int .i64 b) ∧ W'.cell? ⟨w.heap.size, 1, none⟩ = some (.int .i64 k) ∧ W'.cell? ⟨M, 2, none⟩ = some (.slice aR R.length kR) ∧ Below w4.heap.size w4 W'))
        clear x0' x1' x2' x3' x4'
        go_region_held3 (fun w' => w'.cell? ⟨w.heap.size, 0, none⟩ = some (.int .i64 b) ∧ w'.cell? ⟨w.heap.size, 1, none⟩ = some (.int .i64 k) ∧ w'.cell? ⟨M, 2, none⟩ = some (.slice aR R.length kR) ∧ Below w4.heap.size w4 w')
          (first | exact HS0.out | exact HST.out _ _ (by assumption) hbA | exact HST.out _ _ (by assumption) hbB | exact HST.out _ _ (by assumption) hbC | exact HST.out _ _ (by assumption) hbD | assumption)
          ((first
            | (go_at_call 18; with_reducible refine (HNO.out _ (And.right (And.right (And.right (by assumption))))).mono ?_; rintro e wA ⟨a1, k1', rfl, hp1, hbA⟩)
            | (go_at_call 17; with_reducible refine (HSM.out _ _ _ (by assumption) (And.right (And.right (And.right (by assumption))))).mono ?_; rintro e wB ⟨rfl, hbB⟩)
            | (go_at_call 30; with_reducible refine (HCF.out _ (And.right (And.right (And.right (by assumption))))).mono ?_; rintro e wC ⟨rfl, hbC⟩)
            | (go_at_call 29; with_reducible refine (HMO.out _ (And.right (And.right (And.right (by assumption))))).mono ?_; rintro e wD ⟨rfl, hbD⟩)))
        all_goals
          rename_i hHeld
          obtain ⟨_, _, _, hb9⟩ := hHeld
          go_wp2_with fail
          go_ret
          exact ⟨rfl, HB4.out.trans (hb9.mono HB4.out.size)⟩
      · go_wp2_with fail
        with_reducible refine HNG2.out.mono ?_
        rintro e w4 ⟨B2, S2, rfl, hx2, hs2, b4'⟩
        clear hx2 hs2
        have HX4 := Lib.hid (HD.out.call HDG.out b4')
        have HR4 := Lib.hid (HRG.out.call b4')
        have HP4 := Lib.hid (HPR.out.call b4')
        have HB4 := Lib.hid (HB3.out.2.2.2.2.trans (b4'.mono HB3.out.2.2.2.2.size))
        obtain ⟨x0', x1', x2', x3', _⟩ := boxg_later HB3.out b4'
        have x4' : Below w4.heap.size w4 w4 := Below.refl _ _
        have Z1 := Lib.hid (fun W (h : BoxG w.heap.size (.int .i64 b) (.int .i64 k) (.int .i64 d2) (.int .i64 f2) w4 W) => boxg_calls (HD.out.zero W B S b k R _ 0 (HD.out.call HX4.out h.2.2.2.2) ⟨by decide, by decide⟩) h)
        have Z3 := Lib.hid (fun W (h : BoxG w.heap.size (.int .i64 b) (.int .i64 k) (.int .i64 d2) (.int .i64 f2) w4 W) => boxg_calls (HD.out.full W B S b k R _ 0 (9223372036854775808 - T) (HD.out.call HX4.out h.2.2.2.2) (by omega) (by have := HLV.out; rw [this]; omega) ⟨by omega, by omega⟩ (by rw [HTT.out]; omega)) h)
        have Z4 := Lib.hid (fun W (h : BoxG w.heap.size (.int .i64 b) (.int .i64 k) (.int .i64 d2) (.int .i64 f2) w4 W) => boxg_calls (HD.out.join_nil W B S b k R _ (HD.out.call HX4.out h.2.2.2.2)) h)
        have Z5 := Lib.hid (fun W (h : BoxG w.heap.size (.int .i64 b) (.int .i64 k) (.int .i64 d2) (.int .i64 f2) w4 W) => boxg_calls (HD.out.total W B S b k R _ (HD.out.call HX4.out h.2.2.2.2)) h)
        rw [HTT.out] at Z5
        have HNO := Lib.hid (fun W (h : Below w4.heap.size w4 W) => HD.out.nodes W B S b k R _ (HD.out.call HX4.out h))
        have HCF := Lib.hid (fun W (h : Below w4.heap.size w4 W) => HD.out.config W B S b k R _ (HD.out.call HX4.out h))
        have HMO := Lib.hid (fun W (h : Below w4.heap.size w4 W) => HD.out.most W B S b k R _ (HD.out.call HX4.out h))
        have HSM := Lib.hid (fun W a1 k1 (h1 : Pairs W a1 R) (h : Below w4.heap.size w4 W) => same_any W a1 aR k1 kR R R true (by simp) h1 (HP4.out.call h) (by have := HFE.out; omega) (by have := HFE.out; omega))
        have HC2 := Lib.hid HR4.out.c2
        have u1 : IntKind.u64.wrap (9223372036854775808 - T) = 9223372036854775808 - T := by rw [IntKind.wrap_u64]; omega
        have u2 : IntKind.i64.wrap (4 * (k : Int)) = 4 * (k : Int) := by rw [IntKind.wrap_i64]; omega
        have t1 : ((b : Int) == b) = true := by simp
        have t2 : ((k : Int) == k) = true := by simp
        have t3 : ((4 * (k : Int)) == 4 * (k : Int)) = true := by simp
        clear b4'
        have Z2 := Lib.hid (fun W (h : BoxG w.heap.size (.int .i64 b) (.int .i64 k) (.int .i64 d2) (.int .i64 f2) w4 W) => boxg_calls (HD.out.out W B S b k R _ x 1 (HD.out.call HX4.out h.2.2.2.2) HXX.out ⟨by decide, by decide⟩ (by decide) o3) h)
        go_wp2_with ((first
          | (go_at_call 24; with_reducible refine (Z1.out _ ⟨by assumption, by assumption, by assumption, by assumption, by assumption⟩).mono ?_; rintro e w' ⟨rfl, x0', x1', x2', x3', x4'⟩)
          | (go_at_call 24; with_reducible refine (Z2.out _ ⟨by assumption, by assumption, by assumption, by assumption, by assumption⟩).mono ?_; rintro e w' ⟨rfl, x0', x1', x2', x3', x4'⟩)
          | (go_at_call 24; with_reducible refine (Z3.out _ ⟨by assumption, by assumption, by assumption, by assumption, by assumption⟩).mono ?_; rintro e w' ⟨rfl, x0', x1', x2', x3', x4'⟩)
          | (go_at_call 23; with_reducible refine (Z4.out _ ⟨by assumption, by assumption, by assumption, by assumption, by assumption⟩).mono ?_; rintro e w' ⟨rfl, x0', x1', x2', x3', x4'⟩)
          | (go_at_call 23; with_reducible refine (Z6.out _ ⟨by assumption, by assumption, by assumption, by assumption, by assumption⟩).mono ?_; rintro e w' ⟨rfl, x0', x1', x2', x3', x4'⟩)
          | (go_at_call 19; with_reducible refine (Z5.out _ ⟨by assumption, by assumption, by assumption, by assumption, by assumption⟩).mono ?_; rintro e w' ⟨rfl, x0', x1', x2', x3', x4'⟩)))
        have HS0 := Lib.hid (show w'.drew.cell? ⟨w.heap.size, 0, none⟩ = some (.int .i64 b) ∧ w'.drew.cell? ⟨w.heap.size, 1, none⟩ = some (.int .i64 k) ∧ w'.drew.cell? ⟨M, 2, none⟩ = some (.slice aR R.length kR) ∧ Below w4.heap.size w4 w'.drew from ⟨cell_later (Below.refl _ _).drew x0', cell_later (Below.refl _ _).drew x1', cell_later x4'.drew HC2.out, x4'.drew⟩)
        have HST := Lib.hid (fun (W W' : World) (h : W.cell? ⟨w.heap.size, 0, none⟩ = some (.int .i64 b) ∧ W.cell? ⟨w.heap.size, 1, none⟩ = some (.int .i64 k) ∧ W.cell? ⟨M, 2, none⟩ = some (.slice aR R.length kR) ∧ Below w4.heap.size w4 W) (hb : Below W.heap.size W W') => (⟨cell_later hb h.1, cell_later hb h.2.1, cell_later hb h.2.2.1, h.2.2.2.trans (hb.mono h.2.2.2.size)⟩ : W'.cell? ⟨w.heap.size, 0, none⟩ = some (.int .i64 b) ∧ W'.cell? ⟨w.heap.size, 1, none⟩ = some (.int .i64 k) ∧ W'.cell? ⟨M, 2, none⟩ = some (.slice aR R.length kR) ∧ Below w4.heap.size w4 W'))
        clear x0' x1' x2' x3' x4'
        go_region_held3 (fun w' => w'.cell? ⟨w.heap.size, 0, none⟩ = some (.int .i64 b) ∧ w'.cell? ⟨w.heap.size, 1, none⟩ = some (.int .i64 k) ∧ w'.cell? ⟨M, 2, none⟩ = some (.slice aR R.length kR) ∧ Below w4.heap.size w4 w')
          (first | exact HS0.out | exact HST.out _ _ (by assumption) hbA | exact HST.out _ _ (by assumption) hbB | exact HST.out _ _ (by assumption) hbC | exact HST.out _ _ (by assumption) hbD | assumption)
          ((first
            | (go_at_call 18; with_reducible refine (HNO.out _ (And.right (And.right (And.right (by assumption))))).mono ?_; rintro e wA ⟨a1, k1', rfl, hp1, hbA⟩)
            | (go_at_call 17; with_reducible refine (HSM.out _ _ _ (by assumption) (And.right (And.right (And.right (by assumption))))).mono ?_; rintro e wB ⟨rfl, hbB⟩)
            | (go_at_call 30; with_reducible refine (HCF.out _ (And.right (And.right (And.right (by assumption))))).mono ?_; rintro e wC ⟨rfl, hbC⟩)
            | (go_at_call 29; with_reducible refine (HMO.out _ (And.right (And.right (And.right (by assumption))))).mono ?_; rintro e wD ⟨rfl, hbD⟩)))
        all_goals
          rename_i hHeld
          obtain ⟨_, _, _, hb9⟩ := hHeld
          go_wp2_with fail
          go_ret
          exact ⟨rfl, HB4.out.trans (hb9.mono HB4.out.size)⟩
      · go_wp2_with fail
        with_reducible refine HNG2.out.mono ?_
        rintro e w4 ⟨B2, S2, rfl, hx2, hs2, b4'⟩
        clear hx2 hs2
        have HX4 := Lib.hid (HD.out.call HDG.out b4')
        have HR4 := Lib.hid (HRG.out.call b4')
        have HP4 := Lib.hid (HPR.out.call b4')
        have HB4 := Lib.hid (HB3.out.2.2.2.2.trans (b4'.mono HB3.out.2.2.2.2.size))
        obtain ⟨x0', x1', x2', x3', _⟩ := boxg_later HB3.out b4'
        have x4' : Below w4.heap.size w4 w4 := Below.refl _ _
        have Z1 := Lib.hid (fun W (h : BoxG w.heap.size (.int .i64 b) (.int .i64 k) (.int .i64 d2) (.int .i64 f2) w4 W) => boxg_calls (HD.out.zero W B S b k R _ 0 (HD.out.call HX4.out h.2.2.2.2) ⟨by decide, by decide⟩) h)
        have Z3 := Lib.hid (fun W (h : BoxG w.heap.size (.int .i64 b) (.int .i64 k) (.int .i64 d2) (.int .i64 f2) w4 W) => boxg_calls (HD.out.full W B S b k R _ 0 (9223372036854775808 - T) (HD.out.call HX4.out h.2.2.2.2) (by omega) (by have := HLV.out; rw [this]; omega) ⟨by omega, by omega⟩ (by rw [HTT.out]; omega)) h)
        have Z4 := Lib.hid (fun W (h : BoxG w.heap.size (.int .i64 b) (.int .i64 k) (.int .i64 d2) (.int .i64 f2) w4 W) => boxg_calls (HD.out.join_nil W B S b k R _ (HD.out.call HX4.out h.2.2.2.2)) h)
        have Z5 := Lib.hid (fun W (h : BoxG w.heap.size (.int .i64 b) (.int .i64 k) (.int .i64 d2) (.int .i64 f2) w4 W) => boxg_calls (HD.out.total W B S b k R _ (HD.out.call HX4.out h.2.2.2.2)) h)
        rw [HTT.out] at Z5
        have HNO := Lib.hid (fun W (h : Below w4.heap.size w4 W) => HD.out.nodes W B S b k R _ (HD.out.call HX4.out h))
        have HCF := Lib.hid (fun W (h : Below w4.heap.size w4 W) => HD.out.config W B S b k R _ (HD.out.call HX4.out h))
        have HMO := Lib.hid (fun W (h : Below w4.heap.size w4 W) => HD.out.most W B S b k R _ (HD.out.call HX4.out h))
        have HSM := Lib.hid (fun W a1 k1 (h1 : Pairs W a1 R) (h : Below w4.heap.size w4 W) => same_any W a1 aR k1 kR R R true (by simp) h1 (HP4.out.call h) (by have := HFE.out; omega) (by have := HFE.out; omega))
        have HC2 := Lib.hid HR4.out.c2
        have u1 : IntKind.u64.wrap (9223372036854775808 - T) = 9223372036854775808 - T := by rw [IntKind.wrap_u64]; omega
        have u2 : IntKind.i64.wrap (4 * (k : Int)) = 4 * (k : Int) := by rw [IntKind.wrap_i64]; omega
        have t1 : ((b : Int) == b) = true := by simp
        have t2 : ((k : Int) == k) = true := by simp
        have t3 : ((4 * (k : Int)) == 4 * (k : Int)) = true := by simp
        clear b4'
        go_wp2_with ((first
          | (go_at_call 24; with_reducible refine (Z1.out _ ⟨by assumption, by assumption, by assumption, by assumption, by assumption⟩).mono ?_; rintro e w' ⟨rfl, x0', x1', x2', x3', x4'⟩)
          | (go_at_call 24; with_reducible refine (Z2.out _ ⟨by assumption, by assumption, by assumption, by assumption, by assumption⟩).mono ?_; rintro e w' ⟨rfl, x0', x1', x2', x3', x4'⟩)
          | (go_at_call 24; with_reducible refine (Z3.out _ ⟨by assumption, by assumption, by assumption, by assumption, by assumption⟩).mono ?_; rintro e w' ⟨rfl, x0', x1', x2', x3', x4'⟩)
          | (go_at_call 23; with_reducible refine (Z4.out _ ⟨by assumption, by assumption, by assumption, by assumption, by assumption⟩).mono ?_; rintro e w' ⟨rfl, x0', x1', x2', x3', x4'⟩)
          | (go_at_call 23; with_reducible refine (Z6.out _ ⟨by assumption, by assumption, by assumption, by assumption, by assumption⟩).mono ?_; rintro e w' ⟨rfl, x0', x1', x2', x3', x4'⟩)
          | (go_at_call 19; with_reducible refine (Z5.out _ ⟨by assumption, by assumption, by assumption, by assumption, by assumption⟩).mono ?_; rintro e w' ⟨rfl, x0', x1', x2', x3', x4'⟩)))
        have HS0 := Lib.hid (show w'.drew.cell? ⟨w.heap.size, 0, none⟩ = some (.int .i64 b) ∧ w'.drew.cell? ⟨w.heap.size, 1, none⟩ = some (.int .i64 k) ∧ w'.drew.cell? ⟨M, 2, none⟩ = some (.slice aR R.length kR) ∧ Below w4.heap.size w4 w'.drew from ⟨cell_later (Below.refl _ _).drew x0', cell_later (Below.refl _ _).drew x1', cell_later x4'.drew HC2.out, x4'.drew⟩)
        have HST := Lib.hid (fun (W W' : World) (h : W.cell? ⟨w.heap.size, 0, none⟩ = some (.int .i64 b) ∧ W.cell? ⟨w.heap.size, 1, none⟩ = some (.int .i64 k) ∧ W.cell? ⟨M, 2, none⟩ = some (.slice aR R.length kR) ∧ Below w4.heap.size w4 W) (hb : Below W.heap.size W W') => (⟨cell_later hb h.1, cell_later hb h.2.1, cell_later hb h.2.2.1, h.2.2.2.trans (hb.mono h.2.2.2.size)⟩ : W'.cell? ⟨w.heap.size, 0, none⟩ = some (.int .i64 b) ∧ W'.cell? ⟨w.heap.size, 1, none⟩ = some (.int .i64 k) ∧ W'.cell? ⟨M, 2, none⟩ = some (.slice aR R.length kR) ∧ Below w4.heap.size w4 W'))
        clear x0' x1' x2' x3' x4'
        go_region_held3 (fun w' => w'.cell? ⟨w.heap.size, 0, none⟩ = some (.int .i64 b) ∧ w'.cell? ⟨w.heap.size, 1, none⟩ = some (.int .i64 k) ∧ w'.cell? ⟨M, 2, none⟩ = some (.slice aR R.length kR) ∧ Below w4.heap.size w4 w')
          (first | exact HS0.out | exact HST.out _ _ (by assumption) hbA | exact HST.out _ _ (by assumption) hbB | exact HST.out _ _ (by assumption) hbC | exact HST.out _ _ (by assumption) hbD | assumption)
          ((first
            | (go_at_call 18; with_reducible refine (HNO.out _ (And.right (And.right (And.right (by assumption))))).mono ?_; rintro e wA ⟨a1, k1', rfl, hp1, hbA⟩)
            | (go_at_call 17; with_reducible refine (HSM.out _ _ _ (by assumption) (And.right (And.right (And.right (by assumption))))).mono ?_; rintro e wB ⟨rfl, hbB⟩)
            | (go_at_call 30; with_reducible refine (HCF.out _ (And.right (And.right (And.right (by assumption))))).mono ?_; rintro e wC ⟨rfl, hbC⟩)
            | (go_at_call 29; with_reducible refine (HMO.out _ (And.right (And.right (And.right (by assumption))))).mono ?_; rintro e wD ⟨rfl, hbD⟩)))
        all_goals
          rename_i hHeld
          obtain ⟨_, _, _, hb9⟩ := hHeld
          go_wp2_with fail
          go_ret
          exact ⟨rfl, HB4.out.trans (hb9.mono HB4.out.size)⟩
    · have hdf : b ≠ b2 ∨ k ≠ k2 := HDF.out hsame
      have hyy : (d2 == (b : Int)) = false ∨ ((d2 == (b : Int)) = true ∧ (f2 == (k : Int)) = false) := by
        by_cases h1 : d2 = b
        · exact Or.inr ⟨by simp [h1], by simp; omega⟩
        · exact Or.inl (by simp [h1])
      clear hsame HDF
      rcases hyy with y1 | ⟨y1, y2⟩ <;> rcases HOUT.out with ⟨o1, o2⟩ | ⟨o1, o2, o3⟩ | ⟨o1, o2⟩
      · go_wp2_with fail
        with_reducible refine HNG2.out.mono ?_
        rintro e w4 ⟨B2, S2, rfl, hx2, hs2, b4'⟩
        have HX2 := Lib.hid hx2
        clear hx2 hs2
        have HX4 := Lib.hid (HD.out.call HDG.out b4')
        have HR4 := Lib.hid (HRG.out.call b4')
        have HP4 := Lib.hid (HPR.out.call b4')
        have HB4 := Lib.hid (HB3.out.2.2.2.2.trans (b4'.mono HB3.out.2.2.2.2.size))
        obtain ⟨x0', x1', x2', x3', _⟩ := boxg_later HB3.out b4'
        have x4' : Below w4.heap.size w4 w4 := Below.refl _ _
        have Z1 := Lib.hid (fun W (h : BoxG w.heap.size (.int .i64 b) (.int .i64 k) (.int .i64 d2) (.int .i64 f2) w4 W) => boxg_calls (HD.out.zero W B S b k R _ 0 (HD.out.call HX4.out h.2.2.2.2) ⟨by decide, by decide⟩) h)
        have Z3 := Lib.hid (fun W (h : BoxG w.heap.size (.int .i64 b) (.int .i64 k) (.int .i64 d2) (.int .i64 f2) w4 W) => boxg_calls (HD.out.full W B S b k R _ 0 (9223372036854775808 - T) (HD.out.call HX4.out h.2.2.2.2) (by omega) (by have := HLV.out; rw [this]; omega) ⟨by omega, by omega⟩ (by rw [HTT.out]; omega)) h)
        have Z4 := Lib.hid (fun W (h : BoxG w.heap.size (.int .i64 b) (.int .i64 k) (.int .i64 d2) (.int .i64 f2) w4 W) => boxg_calls (HD.out.join_nil W B S b k R _ (HD.out.call HX4.out h.2.2.2.2)) h)
        have Z5 := Lib.hid (fun W (h : BoxG w.heap.size (.int .i64 b) (.int .i64 k) (.int .i64 d2) (.int .i64 f2) w4 W) => boxg_calls (HD.out.total W B S b k R _ (HD.out.call HX4.out h.2.2.2.2)) h)
        rw [HTT.out] at Z5
        have HNO := Lib.hid (fun W (h : Below w4.heap.size w4 W) => HD.out.nodes W B S b k R _ (HD.out.call HX4.out h))
        have HCF := Lib.hid (fun W (h : Below w4.heap.size w4 W) => HD.out.config W B S b k R _ (HD.out.call HX4.out h))
        have HMO := Lib.hid (fun W (h : Below w4.heap.size w4 W) => HD.out.most W B S b k R _ (HD.out.call HX4.out h))
        have HSM := Lib.hid (fun W a1 k1 (h1 : Pairs W a1 R) (h : Below w4.heap.size w4 W) => same_any W a1 aR k1 kR R R true (by simp) h1 (HP4.out.call h) (by have := HFE.out; omega) (by have := HFE.out; omega))
        have HC2 := Lib.hid HR4.out.c2
        have u1 : IntKind.u64.wrap (9223372036854775808 - T) = 9223372036854775808 - T := by rw [IntKind.wrap_u64]; omega
        have u2 : IntKind.i64.wrap (4 * (k : Int)) = 4 * (k : Int) := by rw [IntKind.wrap_i64]; omega
        have t1 : ((b : Int) == b) = true := by simp
        have t2 : ((k : Int) == k) = true := by simp
        have t3 : ((4 * (k : Int)) == 4 * (k : Int)) = true := by simp
        clear b4'
        have Z2 := Lib.hid (fun W (h : BoxG w.heap.size (.int .i64 b) (.int .i64 k) (.int .i64 d2) (.int .i64 f2) w4 W) => boxg_calls (HD.out.out W B S b k R _ x 1 (HD.out.call HX4.out h.2.2.2.2) HXX.out ⟨by decide, by decide⟩ (by decide) o2) h)
        have Z6 := Lib.hid (fun W (h : BoxG w.heap.size (.int .i64 b) (.int .i64 k) (.int .i64 d2) (.int .i64 f2) w4 W) => boxg_calls (HD.out.match_ W B S b k R _ B2 S2 b2 k2 [] _ (HD.out.call HX4.out h.2.2.2.2) (HD.out.call HX2.out h.2.2.2.2) hdf) h)
        go_wp2_with ((first
          | (go_at_call 24; with_reducible refine (Z1.out _ ⟨by assumption, by assumption, by assumption, by assumption, by assumption⟩).mono ?_; rintro e w' ⟨rfl, x0', x1', x2', x3', x4'⟩)
          | (go_at_call 24; with_reducible refine (Z2.out _ ⟨by assumption, by assumption, by assumption, by assumption, by assumption⟩).mono ?_; rintro e w' ⟨rfl, x0', x1', x2', x3', x4'⟩)
          | (go_at_call 24; with_reducible refine (Z3.out _ ⟨by assumption, by assumption, by assumption, by assumption, by assumption⟩).mono ?_; rintro e w' ⟨rfl, x0', x1', x2', x3', x4'⟩)
          | (go_at_call 23; with_reducible refine (Z4.out _ ⟨by assumption, by assumption, by assumption, by assumption, by assumption⟩).mono ?_; rintro e w' ⟨rfl, x0', x1', x2', x3', x4'⟩)
          | (go_at_call 23; with_reducible refine (Z6.out _ ⟨by assumption, by assumption, by assumption, by assumption, by assumption⟩).mono ?_; rintro e w' ⟨rfl, x0', x1', x2', x3', x4'⟩)
          | (go_at_call 19; with_reducible refine (Z5.out _ ⟨by assumption, by assumption, by assumption, by assumption, by assumption⟩).mono ?_; rintro e w' ⟨rfl, x0', x1', x2', x3', x4'⟩)))
        have HS0 := Lib.hid (show w'.drew.cell? ⟨w.heap.size, 0, none⟩ = some (.int .i64 b) ∧ w'.drew.cell? ⟨w.heap.size, 1, none⟩ = some (.int .i64 k) ∧ w'.drew.cell? ⟨M, 2, none⟩ = some (.slice aR R.length kR) ∧ Below w4.heap.size w4 w'.drew from ⟨cell_later (Below.refl _ _).drew x0', cell_later (Below.refl _ _).drew x1', cell_later x4'.drew HC2.out, x4'.drew⟩)
        have HST := Lib.hid (fun (W W' : World) (h : W.cell? ⟨w.heap.size, 0, none⟩ = some (.int .i64 b) ∧ W.cell? ⟨w.heap.size, 1, none⟩ = some (.int .i64 k) ∧ W.cell? ⟨M, 2, none⟩ = some (.slice aR R.length kR) ∧ Below w4.heap.size w4 W) (hb : Below W.heap.size W W') => (⟨cell_later hb h.1, cell_later hb h.2.1, cell_later hb h.2.2.1, h.2.2.2.trans (hb.mono h.2.2.2.size)⟩ : W'.cell? ⟨w.heap.size, 0, none⟩ = some (.int .i64 b) ∧ W'.cell? ⟨w.heap.size, 1, none⟩ = some (.int .i64 k) ∧ W'.cell? ⟨M, 2, none⟩ = some (.slice aR R.length kR) ∧ Below w4.heap.size w4 W'))
        clear x0' x1' x2' x3' x4'
        go_region_held3 (fun w' => w'.cell? ⟨w.heap.size, 0, none⟩ = some (.int .i64 b) ∧ w'.cell? ⟨w.heap.size, 1, none⟩ = some (.int .i64 k) ∧ w'.cell? ⟨M, 2, none⟩ = some (.slice aR R.length kR) ∧ Below w4.heap.size w4 w')
          (first | exact HS0.out | exact HST.out _ _ (by assumption) hbA | exact HST.out _ _ (by assumption) hbB | exact HST.out _ _ (by assumption) hbC | exact HST.out _ _ (by assumption) hbD | assumption)
          ((first
            | (go_at_call 18; with_reducible refine (HNO.out _ (And.right (And.right (And.right (by assumption))))).mono ?_; rintro e wA ⟨a1, k1', rfl, hp1, hbA⟩)
            | (go_at_call 17; with_reducible refine (HSM.out _ _ _ (by assumption) (And.right (And.right (And.right (by assumption))))).mono ?_; rintro e wB ⟨rfl, hbB⟩)
            | (go_at_call 30; with_reducible refine (HCF.out _ (And.right (And.right (And.right (by assumption))))).mono ?_; rintro e wC ⟨rfl, hbC⟩)
            | (go_at_call 29; with_reducible refine (HMO.out _ (And.right (And.right (And.right (by assumption))))).mono ?_; rintro e wD ⟨rfl, hbD⟩)))
        all_goals
          rename_i hHeld
          obtain ⟨_, _, _, hb9⟩ := hHeld
          go_wp2_with fail
          go_ret
          exact ⟨rfl, HB4.out.trans (hb9.mono HB4.out.size)⟩
      · go_wp2_with fail
        with_reducible refine HNG2.out.mono ?_
        rintro e w4 ⟨B2, S2, rfl, hx2, hs2, b4'⟩
        have HX2 := Lib.hid hx2
        clear hx2 hs2
        have HX4 := Lib.hid (HD.out.call HDG.out b4')
        have HR4 := Lib.hid (HRG.out.call b4')
        have HP4 := Lib.hid (HPR.out.call b4')
        have HB4 := Lib.hid (HB3.out.2.2.2.2.trans (b4'.mono HB3.out.2.2.2.2.size))
        obtain ⟨x0', x1', x2', x3', _⟩ := boxg_later HB3.out b4'
        have x4' : Below w4.heap.size w4 w4 := Below.refl _ _
        have Z1 := Lib.hid (fun W (h : BoxG w.heap.size (.int .i64 b) (.int .i64 k) (.int .i64 d2) (.int .i64 f2) w4 W) => boxg_calls (HD.out.zero W B S b k R _ 0 (HD.out.call HX4.out h.2.2.2.2) ⟨by decide, by decide⟩) h)
        have Z3 := Lib.hid (fun W (h : BoxG w.heap.size (.int .i64 b) (.int .i64 k) (.int .i64 d2) (.int .i64 f2) w4 W) => boxg_calls (HD.out.full W B S b k R _ 0 (9223372036854775808 - T) (HD.out.call HX4.out h.2.2.2.2) (by omega) (by have := HLV.out; rw [this]; omega) ⟨by omega, by omega⟩ (by rw [HTT.out]; omega)) h)
        have Z4 := Lib.hid (fun W (h : BoxG w.heap.size (.int .i64 b) (.int .i64 k) (.int .i64 d2) (.int .i64 f2) w4 W) => boxg_calls (HD.out.join_nil W B S b k R _ (HD.out.call HX4.out h.2.2.2.2)) h)
        have Z5 := Lib.hid (fun W (h : BoxG w.heap.size (.int .i64 b) (.int .i64 k) (.int .i64 d2) (.int .i64 f2) w4 W) => boxg_calls (HD.out.total W B S b k R _ (HD.out.call HX4.out h.2.2.2.2)) h)
        rw [HTT.out] at Z5
        have HNO := Lib.hid (fun W (h : Below w4.heap.size w4 W) => HD.out.nodes W B S b k R _ (HD.out.call HX4.out h))
        have HCF := Lib.hid (fun W (h : Below w4.heap.size w4 W) => HD.out.config W B S b k R _ (HD.out.call HX4.out h))
        have HMO := Lib.hid (fun W (h : Below w4.heap.size w4 W) => HD.out.most W B S b k R _ (HD.out.call HX4.out h))
        have HSM := Lib.hid (fun W a1 k1 (h1 : Pairs W a1 R) (h : Below w4.heap.size w4 W) => same_any W a1 aR k1 kR R R true (by simp) h1 (HP4.out.call h) (by have := HFE.out; omega) (by have := HFE.out; omega))
        have HC2 := Lib.hid HR4.out.c2
        have u1 : IntKind.u64.wrap (9223372036854775808 - T) = 9223372036854775808 - T := by rw [IntKind.wrap_u64]; omega
        have u2 : IntKind.i64.wrap (4 * (k : Int)) = 4 * (k : Int) := by rw [IntKind.wrap_i64]; omega
        have t1 : ((b : Int) == b) = true := by simp
        have t2 : ((k : Int) == k) = true := by simp
        have t3 : ((4 * (k : Int)) == 4 * (k : Int)) = true := by simp
        clear b4'
        have Z2 := Lib.hid (fun W (h : BoxG w.heap.size (.int .i64 b) (.int .i64 k) (.int .i64 d2) (.int .i64 f2) w4 W) => boxg_calls (HD.out.out W B S b k R _ x 1 (HD.out.call HX4.out h.2.2.2.2) HXX.out ⟨by decide, by decide⟩ (by decide) o3) h)
        have Z6 := Lib.hid (fun W (h : BoxG w.heap.size (.int .i64 b) (.int .i64 k) (.int .i64 d2) (.int .i64 f2) w4 W) => boxg_calls (HD.out.match_ W B S b k R _ B2 S2 b2 k2 [] _ (HD.out.call HX4.out h.2.2.2.2) (HD.out.call HX2.out h.2.2.2.2) hdf) h)
        go_wp2_with ((first
          | (go_at_call 24; with_reducible refine (Z1.out _ ⟨by assumption, by assumption, by assumption, by assumption, by assumption⟩).mono ?_; rintro e w' ⟨rfl, x0', x1', x2', x3', x4'⟩)
          | (go_at_call 24; with_reducible refine (Z2.out _ ⟨by assumption, by assumption, by assumption, by assumption, by assumption⟩).mono ?_; rintro e w' ⟨rfl, x0', x1', x2', x3', x4'⟩)
          | (go_at_call 24; with_reducible refine (Z3.out _ ⟨by assumption, by assumption, by assumption, by assumption, by assumption⟩).mono ?_; rintro e w' ⟨rfl, x0', x1', x2', x3', x4'⟩)
          | (go_at_call 23; with_reducible refine (Z4.out _ ⟨by assumption, by assumption, by assumption, by assumption, by assumption⟩).mono ?_; rintro e w' ⟨rfl, x0', x1', x2', x3', x4'⟩)
          | (go_at_call 23; with_reducible refine (Z6.out _ ⟨by assumption, by assumption, by assumption, by assumption, by assumption⟩).mono ?_; rintro e w' ⟨rfl, x0', x1', x2', x3', x4'⟩)
          | (go_at_call 19; with_reducible refine (Z5.out _ ⟨by assumption, by assumption, by assumption, by assumption, by assumption⟩).mono ?_; rintro e w' ⟨rfl, x0', x1', x2', x3', x4'⟩)))
        have HS0 := Lib.hid (show w'.drew.cell? ⟨w.heap.size, 0, none⟩ = some (.int .i64 b) ∧ w'.drew.cell? ⟨w.heap.size, 1, none⟩ = some (.int .i64 k) ∧ w'.drew.cell? ⟨M, 2, none⟩ = some (.slice aR R.length kR) ∧ Below w4.heap.size w4 w'.drew from ⟨cell_later (Below.refl _ _).drew x0', cell_later (Below.refl _ _).drew x1', cell_later x4'.drew HC2.out, x4'.drew⟩)
        have HST := Lib.hid (fun (W W' : World) (h : W.cell? ⟨w.heap.size, 0, none⟩ = some (.int .i64 b) ∧ W.cell? ⟨w.heap.size, 1, none⟩ = some (.int .i64 k) ∧ W.cell? ⟨M, 2, none⟩ = some (.slice aR R.length kR) ∧ Below w4.heap.size w4 W) (hb : Below W.heap.size W W') => (⟨cell_later hb h.1, cell_later hb h.2.1, cell_later hb h.2.2.1, h.2.2.2.trans (hb.mono h.2.2.2.size)⟩ : W'.cell? ⟨w.heap.size, 0, none⟩ = some (.int .i64 b) ∧ W'.cell? ⟨w.heap.size, 1, none⟩ = some (.int .i64 k) ∧ W'.cell? ⟨M, 2, none⟩ = some (.slice aR R.length kR) ∧ Below w4.heap.size w4 W'))
        clear x0' x1' x2' x3' x4'
        go_region_held3 (fun w' => w'.cell? ⟨w.heap.size, 0, none⟩ = some (.int .i64 b) ∧ w'.cell? ⟨w.heap.size, 1, none⟩ = some (.int .i64 k) ∧ w'.cell? ⟨M, 2, none⟩ = some (.slice aR R.length kR) ∧ Below w4.heap.size w4 w')
          (first | exact HS0.out | exact HST.out _ _ (by assumption) hbA | exact HST.out _ _ (by assumption) hbB | exact HST.out _ _ (by assumption) hbC | exact HST.out _ _ (by assumption) hbD | assumption)
          ((first
            | (go_at_call 18; with_reducible refine (HNO.out _ (And.right (And.right (And.right (by assumption))))).mono ?_; rintro e wA ⟨a1, k1', rfl, hp1, hbA⟩)
            | (go_at_call 17; with_reducible refine (HSM.out _ _ _ (by assumption) (And.right (And.right (And.right (by assumption))))).mono ?_; rintro e wB ⟨rfl, hbB⟩)
            | (go_at_call 30; with_reducible refine (HCF.out _ (And.right (And.right (And.right (by assumption))))).mono ?_; rintro e wC ⟨rfl, hbC⟩)
            | (go_at_call 29; with_reducible refine (HMO.out _ (And.right (And.right (And.right (by assumption))))).mono ?_; rintro e wD ⟨rfl, hbD⟩)))
        all_goals
          rename_i hHeld
          obtain ⟨_, _, _, hb9⟩ := hHeld
          go_wp2_with fail
          go_ret
          exact ⟨rfl, HB4.out.trans (hb9.mono HB4.out.size)⟩
      · go_wp2_with fail
        with_reducible refine HNG2.out.mono ?_
        rintro e w4 ⟨B2, S2, rfl, hx2, hs2, b4'⟩
        have HX2 := Lib.hid hx2
        clear hx2 hs2
        have HX4 := Lib.hid (HD.out.call HDG.out b4')
        have HR4 := Lib.hid (HRG.out.call b4')
        have HP4 := Lib.hid (HPR.out.call b4')
        have HB4 := Lib.hid (HB3.out.2.2.2.2.trans (b4'.mono HB3.out.2.2.2.2.size))
        obtain ⟨x0', x1', x2', x3', _⟩ := boxg_later HB3.out b4'
        have x4' : Below w4.heap.size w4 w4 := Below.refl _ _
        have Z1 := Lib.hid (fun W (h : BoxG w.heap.size (.int .i64 b) (.int .i64 k) (.int .i64 d2) (.int .i64 f2) w4 W) => boxg_calls (HD.out.zero W B S b k R _ 0 (HD.out.call HX4.out h.2.2.2.2) ⟨by decide, by decide⟩) h)
        have Z3 := Lib.hid (fun W (h : BoxG w.heap.size (.int .i64 b) (.int .i64 k) (.int .i64 d2) (.int .i64 f2) w4 W) => boxg_calls (HD.out.full W B S b k R _ 0 (9223372036854775808 - T) (HD.out.call HX4.out h.2.2.2.2) (by omega) (by have := HLV.out; rw [this]; omega) ⟨by omega, by omega⟩ (by rw [HTT.out]; omega)) h)
        have Z4 := Lib.hid (fun W (h : BoxG w.heap.size (.int .i64 b) (.int .i64 k) (.int .i64 d2) (.int .i64 f2) w4 W) => boxg_calls (HD.out.join_nil W B S b k R _ (HD.out.call HX4.out h.2.2.2.2)) h)
        have Z5 := Lib.hid (fun W (h : BoxG w.heap.size (.int .i64 b) (.int .i64 k) (.int .i64 d2) (.int .i64 f2) w4 W) => boxg_calls (HD.out.total W B S b k R _ (HD.out.call HX4.out h.2.2.2.2)) h)
        rw [HTT.out] at Z5
        have HNO := Lib.hid (fun W (h : Below w4.heap.size w4 W) => HD.out.nodes W B S b k R _ (HD.out.call HX4.out h))
        have HCF := Lib.hid (fun W (h : Below w4.heap.size w4 W) => HD.out.config W B S b k R _ (HD.out.call HX4.out h))
        have HMO := Lib.hid (fun W (h : Below w4.heap.size w4 W) => HD.out.most W B S b k R _ (HD.out.call HX4.out h))
        have HSM := Lib.hid (fun W a1 k1 (h1 : Pairs W a1 R) (h : Below w4.heap.size w4 W) => same_any W a1 aR k1 kR R R true (by simp) h1 (HP4.out.call h) (by have := HFE.out; omega) (by have := HFE.out; omega))
        have HC2 := Lib.hid HR4.out.c2
        have u1 : IntKind.u64.wrap (9223372036854775808 - T) = 9223372036854775808 - T := by rw [IntKind.wrap_u64]; omega
        have u2 : IntKind.i64.wrap (4 * (k : Int)) = 4 * (k : Int) := by rw [IntKind.wrap_i64]; omega
        have t1 : ((b : Int) == b) = true := by simp
        have t2 : ((k : Int) == k) = true := by simp
        have t3 : ((4 * (k : Int)) == 4 * (k : Int)) = true := by simp
        clear b4'
        have Z6 := Lib.hid (fun W (h : BoxG w.heap.size (.int .i64 b) (.int .i64 k) (.int .i64 d2) (.int .i64 f2) w4 W) => boxg_calls (HD.out.match_ W B S b k R _ B2 S2 b2 k2 [] _ (HD.out.call HX4.out h.2.2.2.2) (HD.out.call HX2.out h.2.2.2.2) hdf) h)
        go_wp2_with ((first
          | (go_at_call 24; with_reducible refine (Z1.out _ ⟨by assumption, by assumption, by assumption, by assumption, by assumption⟩).mono ?_; rintro e w' ⟨rfl, x0', x1', x2', x3', x4'⟩)
          | (go_at_call 24; with_reducible refine (Z2.out _ ⟨by assumption, by assumption, by assumption, by assumption, by assumption⟩).mono ?_; rintro e w' ⟨rfl, x0', x1', x2', x3', x4'⟩)
          | (go_at_call 24; with_reducible refine (Z3.out _ ⟨by assumption, by assumption, by assumption, by assumption, by assumption⟩).mono ?_; rintro e w' ⟨rfl, x0', x1', x2', x3', x4'⟩)
          | (go_at_call 23; with_reducible refine (Z4.out _ ⟨by assumption, by assumption, by assumption, by assumption, by assumption⟩).mono ?_; rintro e w' ⟨rfl, x0', x1', x2', x3', x4'⟩)
          | (go_at_call 23; with_reducible refine (Z6.out _ ⟨by assumption, by assumption, by assumption, by assumption, by assumption⟩).mono ?_; rintro e w' ⟨rfl, x0', x1', x2', x3', x4'⟩)
          | (go_at_call 19; with_reducible refine (Z5.out _ ⟨by assumption, by assumption, by assumption, by assumption, by assumption⟩).mono ?_; rintro e w' ⟨rfl, x0', x1', x2', x3', x4'⟩)))
        have HS0 := Lib.hid (show w'.drew.cell? ⟨w.heap.size, 0, none⟩ = some (.int .i64 b) ∧ w'.drew.cell? ⟨w.heap.size, 1, none⟩ = some (.int .i64 k) ∧ w'.drew.cell? ⟨M, 2, none⟩ = some (.slice aR R.length kR) ∧ Below w4.heap.size w4 w'.drew from ⟨cell_later (Below.refl _ _).drew x0', cell_later (Below.refl _ _).drew x1', cell_later x4'.drew HC2.out, x4'.drew⟩)
        have HST := Lib.hid (fun (W W' : World) (h : W.cell? ⟨w.heap.size, 0, none⟩ = some (.int .i64 b) ∧ W.cell? ⟨w.heap.size, 1, none⟩ = some (.int .i64 k) ∧ W.cell? ⟨M, 2, none⟩ = some (.slice aR R.length kR) ∧ Below w4.heap.size w4 W) (hb : Below W.heap.size W W') => (⟨cell_later hb h.1, cell_later hb h.2.1, cell_later hb h.2.2.1, h.2.2.2.trans (hb.mono h.2.2.2.size)⟩ : W'.cell? ⟨w.heap.size, 0, none⟩ = some (.int .i64 b) ∧ W'.cell? ⟨w.heap.size, 1, none⟩ = some (.int .i64 k) ∧ W'.cell? ⟨M, 2, none⟩ = some (.slice aR R.length kR) ∧ Below w4.heap.size w4 W'))
        clear x0' x1' x2' x3' x4'
        go_region_held3 (fun w' => w'.cell? ⟨w.heap.size, 0, none⟩ = some (.int .i64 b) ∧ w'.cell? ⟨w.heap.size, 1, none⟩ = some (.int .i64 k) ∧ w'.cell? ⟨M, 2, none⟩ = some (.slice aR R.length kR) ∧ Below w4.heap.size w4 w')
          (first | exact HS0.out | exact HST.out _ _ (by assumption) hbA | exact HST.out _ _ (by assumption) hbB | exact HST.out _ _ (by assumption) hbC | exact HST.out _ _ (by assumption) hbD | assumption)
          ((first
            | (go_at_call 18; with_reducible refine (HNO.out _ (And.right (And.right (And.right (by assumption))))).mono ?_; rintro e wA ⟨a1, k1', rfl, hp1, hbA⟩)
            | (go_at_call 17; with_reducible refine (HSM.out _ _ _ (by assumption) (And.right (And.right (And.right (by assumption))))).mono ?_; rintro e wB ⟨rfl, hbB⟩)
            | (go_at_call 30; with_reducible refine (HCF.out _ (And.right (And.right (And.right (by assumption))))).mono ?_; rintro e wC ⟨rfl, hbC⟩)
            | (go_at_call 29; with_reducible refine (HMO.out _ (And.right (And.right (And.right (by assumption))))).mono ?_; rintro e wD ⟨rfl, hbD⟩)))
        all_goals
          rename_i hHeld
          obtain ⟨_, _, _, hb9⟩ := hHeld
          go_wp2_with fail
          go_ret
          exact ⟨rfl, HB4.out.trans (hb9.mono HB4.out.size)⟩
      · go_wp2_with fail
        with_reducible refine HNG2.out.mono ?_
        rintro e w4 ⟨B2, S2, rfl, hx2, hs2, b4'⟩
        have HX2 := Lib.hid hx2
        clear hx2 hs2
        have HX4 := Lib.hid (HD.out.call HDG.out b4')
        have HR4 := Lib.hid (HRG.out.call b4')
        have HP4 := Lib.hid (HPR.out.call b4')
        have HB4 := Lib.hid (HB3.out.2.2.2.2.trans (b4'.mono HB3.out.2.2.2.2.size))
        obtain ⟨x0', x1', x2', x3', _⟩ := boxg_later HB3.out b4'
        have x4' : Below w4.heap.size w4 w4 := Below.refl _ _
        have Z1 := Lib.hid (fun W (h : BoxG w.heap.size (.int .i64 b) (.int .i64 k) (.int .i64 d2) (.int .i64 f2) w4 W) => boxg_calls (HD.out.zero W B S b k R _ 0 (HD.out.call HX4.out h.2.2.2.2) ⟨by decide, by decide⟩) h)
        have Z3 := Lib.hid (fun W (h : BoxG w.heap.size (.int .i64 b) (.int .i64 k) (.int .i64 d2) (.int .i64 f2) w4 W) => boxg_calls (HD.out.full W B S b k R _ 0 (9223372036854775808 - T) (HD.out.call HX4.out h.2.2.2.2) (by omega) (by have := HLV.out; rw [this]; omega) ⟨by omega, by omega⟩ (by rw [HTT.out]; omega)) h)
        have Z4 := Lib.hid (fun W (h : BoxG w.heap.size (.int .i64 b) (.int .i64 k) (.int .i64 d2) (.int .i64 f2) w4 W) => boxg_calls (HD.out.join_nil W B S b k R _ (HD.out.call HX4.out h.2.2.2.2)) h)
        have Z5 := Lib.hid (fun W (h : BoxG w.heap.size (.int .i64 b) (.int .i64 k) (.int .i64 d2) (.int .i64 f2) w4 W) => boxg_calls (HD.out.total W B S b k R _ (HD.out.call HX4.out h.2.2.2.2)) h)
        rw [HTT.out] at Z5
        have HNO := Lib.hid (fun W (h : Below w4.heap.size w4 W) => HD.out.nodes W B S b k R _ (HD.out.call HX4.out h))
        have HCF := Lib.hid (fun W (h : Below w4.heap.size w4 W) => HD.out.config W B S b k R _ (HD.out.call HX4.out h))
        have HMO := Lib.hid (fun W (h : Below w4.heap.size w4 W) => HD.out.most W B S b k R _ (HD.out.call HX4.out h))
        have HSM := Lib.hid (fun W a1 k1 (h1 : Pairs W a1 R) (h : Below w4.heap.size w4 W) => same_any W a1 aR k1 kR R R true (by simp) h1 (HP4.out.call h) (by have := HFE.out; omega) (by have := HFE.out; omega))
        have HC2 := Lib.hid HR4.out.c2
        have u1 : IntKind.u64.wrap (9223372036854775808 - T) = 9223372036854775808 - T := by rw [IntKind.wrap_u64]; omega
        have u2 : IntKind.i64.wrap (4 * (k : Int)) = 4 * (k : Int) := by rw [IntKind.wrap_i64]; omega
        have t1 : ((b : Int) == b) = true := by simp
        have t2 : ((k : Int) == k) = true := by simp
        have t3 : ((4 * (k : Int)) == 4 * (k : Int)) = true := by simp
        clear b4'
        have Z2 := Lib.hid (fun W (h : BoxG w.heap.size (.int .i64 b) (.int .i64 k) (.int .i64 d2) (.int .i64 f2) w4 W) => boxg_calls (HD.out.out W B S b k R _ x 1 (HD.out.call HX4.out h.2.2.2.2) HXX.out ⟨by decide, by decide⟩ (by decide) o2) h)
        have Z6 := Lib.hid (fun W (h : BoxG w.heap.size (.int .i64 b) (.int .i64 k) (.int .i64 d2) (.int .i64 f2) w4 W) => boxg_calls (HD.out.match_ W B S b k R _ B2 S2 b2 k2 [] _ (HD.out.call HX4.out h.2.2.2.2) (HD.out.call HX2.out h.2.2.2.2) hdf) h)
        go_wp2_with ((first
          | (go_at_call 24; with_reducible refine (Z1.out _ ⟨by assumption, by assumption, by assumption, by assumption, by assumption⟩).mono ?_; rintro e w' ⟨rfl, x0', x1', x2', x3', x4'⟩)
          | (go_at_call 24; with_reducible refine (Z2.out _ ⟨by assumption, by assumption, by assumption, by assumption, by assumption⟩).mono ?_; rintro e w' ⟨rfl, x0', x1', x2', x3', x4'⟩)
          | (go_at_call 24; with_reducible refine (Z3.out _ ⟨by assumption, by assumption, by assumption, by assumption, by assumption⟩).mono ?_; rintro e w' ⟨rfl, x0', x1', x2', x3', x4'⟩)
          | (go_at_call 23; with_reducible refine (Z4.out _ ⟨by assumption, by assumption, by assumption, by assumption, by assumption⟩).mono ?_; rintro e w' ⟨rfl, x0', x1', x2', x3', x4'⟩)
          | (go_at_call 23; with_reducible refine (Z6.out _ ⟨by assumption, by assumption, by assumption, by assumption, by assumption⟩).mono ?_; rintro e w' ⟨rfl, x0', x1', x2', x3', x4'⟩)
          | (go_at_call 19; with_reducible refine (Z5.out _ ⟨by assumption, by assumption, by assumption, by assumption, by assumption⟩).mono ?_; rintro e w' ⟨rfl, x0', x1', x2', x3', x4'⟩)))
        have HS0 := Lib.hid (show w'.drew.cell? ⟨w.heap.size, 0, none⟩ = some (.int .i64 b) ∧ w'.drew.cell? ⟨w.heap.size, 1, none⟩ = some (.int .i64 k) ∧ w'.drew.cell? ⟨M, 2, none⟩ = some (.slice aR R.length kR) ∧ Below w4.heap.size w4 w'.drew from ⟨cell_later (Below.refl _ _).drew x0', cell_later (Below.refl _ _).drew x1', cell_later x4'.drew HC2.out, x4'.drew⟩)
        have HST := Lib.hid (fun (W W' : World) (h : W.cell? ⟨w.heap.size, 0, none⟩ = some (.int .i64 b) ∧ W.cell? ⟨w.heap.size, 1, none⟩ = some (.int .i64 k) ∧ W.cell? ⟨M, 2, none⟩ = some (.slice aR R.length kR) ∧ Below w4.heap.size w4 W) (hb : Below W.heap.size W W') => (⟨cell_later hb h.1, cell_later hb h.2.1, cell_later hb h.2.2.1, h.2.2.2.trans (hb.mono h.2.2.2.size)⟩ : W'.cell? ⟨w.heap.size, 0, none⟩ = some (.int .i64 b) ∧ W'.cell? ⟨w.heap.size, 1, none⟩ = some (.int .i64 k) ∧ W'.cell? ⟨M, 2, none⟩ = some (.slice aR R.length kR) ∧ Below w4.heap.size w4 W'))
        clear x0' x1' x2' x3' x4'
        go_region_held3 (fun w' => w'.cell? ⟨w.heap.size, 0, none⟩ = some (.int .i64 b) ∧ w'.cell? ⟨w.heap.size, 1, none⟩ = some (.int .i64 k) ∧ w'.cell? ⟨M, 2, none⟩ = some (.slice aR R.length kR) ∧ Below w4.heap.size w4 w')
          (first | exact HS0.out | exact HST.out _ _ (by assumption) hbA | exact HST.out _ _ (by assumption) hbB | exact HST.out _ _ (by assumption) hbC | exact HST.out _ _ (by assumption) hbD | assumption)
          ((first
            | (go_at_call 18; with_reducible refine (HNO.out _ (And.right (And.right (And.right (by assumption))))).mono ?_; rintro e wA ⟨a1, k1', rfl, hp1, hbA⟩)
            | (go_at_call 17; with_reducible refine (HSM.out _ _ _ (by assumption) (And.right (And.right (And.right (by assumption))))).mono ?_; rintro e wB ⟨rfl, hbB⟩)
            | (go_at_call 30; with_reducible refine (HCF.out _ (And.right (And.right (And.right (by assumption))))).mono ?_; rintro e wC ⟨rfl, hbC⟩)
            | (go_at_call 29; with_reducible refine (HMO.out _ (And.right (And.right (And.right (by assumption))))).mono ?_; rintro e wD ⟨rfl, hbD⟩)))
        all_goals
          rename_i hHeld
          obtain ⟨_, _, _, hb9⟩ := hHeld
          go_wp2_with fail
          go_ret
          exact ⟨rfl, HB4.out.trans (hb9.mono HB4.out.size)⟩
      · go_wp2_with fail
        with_reducible refine HNG2.out.mono ?_
        rintro e w4 ⟨B2, S2, rfl, hx2, hs2, b4'⟩
        have HX2 := Lib.hid hx2
        clear hx2 hs2
        have HX4 := Lib.hid (HD.out.call HDG.out b4')
        have HR4 := Lib.hid (HRG.out.call b4')
        have HP4 := Lib.hid (HPR.out.call b4')
        have HB4 := Lib.hid (HB3.out.2.2.2.2.trans (b4'.mono HB3.out.2.2.2.2.size))
        obtain ⟨x0', x1', x2', x3', _⟩ := boxg_later HB3.out b4'
        have x4' : Below w4.heap.size w4 w4 := Below.refl _ _
        have Z1 := Lib.hid (fun W (h : BoxG w.heap.size (.int .i64 b) (.int .i64 k) (.int .i64 d2) (.int .i64 f2) w4 W) => boxg_calls (HD.out.zero W B S b k R _ 0 (HD.out.call HX4.out h.2.2.2.2) ⟨by decide, by decide⟩) h)
        have Z3 := Lib.hid (fun W (h : BoxG w.heap.size (.int .i64 b) (.int .i64 k) (.int .i64 d2) (.int .i64 f2) w4 W) => boxg_calls (HD.out.full W B S b k R _ 0 (9223372036854775808 - T) (HD.out.call HX4.out h.2.2.2.2) (by omega) (by have := HLV.out; rw [this]; omega) ⟨by omega, by omega⟩ (by rw [HTT.out]; omega)) h)
        have Z4 := Lib.hid (fun W (h : BoxG w.heap.size (.int .i64 b) (.int .i64 k) (.int .i64 d2) (.int .i64 f2) w4 W) => boxg_calls (HD.out.join_nil W B S b k R _ (HD.out.call HX4.out h.2.2.2.2)) h)
        have Z5 := Lib.hid (fun W (h : BoxG w.heap.size (.int .i64 b) (.int .i64 k) (.int .i64 d2) (.int .i64 f2) w4 W) => boxg_calls (HD.out.total W B S b k R _ (HD.out.call HX4.out h.2.2.2.2)) h)
        rw [HTT.out] at Z5
        have HNO := Lib.hid (fun W (h : Below w4.heap.size w4 W) => HD.out.nodes W B S b k R _ (HD.out.call HX4.out h))
        have HCF := Lib.hid (fun W (h : Below w4.heap.size w4 W) => HD.out.config W B S b k R _ (HD.out.call HX4.out h))
        have HMO := Lib.hid (fun W (h : Below w4.heap.size w4 W) => HD.out.most W B S b k R _ (HD.out.call HX4.out h))
        have HSM := Lib.hid (fun W a1 k1 (h1 : Pairs W a1 R) (h : Below w4.heap.size w4 W) => same_any W a1 aR k1 kR R R true (by simp) h1 (HP4.out.call h) (by have := HFE.out; omega) (by have := HFE.out; omega))
        have HC2 := Lib.hid HR4.out.c2
        have u1 : IntKind.u64.wrap (9223372036854775808 - T) = 9223372036854775808 - T := by rw [IntKind.wrap_u64]; omega
        have u2 : IntKind.i64.wrap (4 * (k : Int)) = 4 * (k : Int) := by rw [IntKind.wrap_i64]; omega
        have t1 : ((b : Int) == b) = true := by simp
        have t2 : ((k : Int) == k) = true := by simp
        have t3 : ((4 * (k : Int)) == 4 * (k : Int)) = true := by simp
        clear b4'
        have Z2 := Lib.hid (fun W (h : BoxG w.heap.size (.int .i64 b) (.int .i64 k) (.int .i64 d2) (.int .i64 f2) w4 W) => boxg_calls (HD.out.out W B S b k R _ x 1 (HD.out.call HX4.out h.2.2.2.2) HXX.out ⟨by decide, by decide⟩ (by decide) o3) h)
        have Z6 := Lib.hid (fun W (h : BoxG w.heap.size (.int .i64 b) (.int .i64 k) (.int .i64 d2) (.int .i64 f2) w4 W) => boxg_calls (HD.out.match_ W B S b k R _ B2 S2 b2 k2 [] _ (HD.out.call HX4.out h.2.2.2.2) (HD.out.call HX2.out h.2.2.2.2) hdf) h)
        go_wp2_with ((first
          | (go_at_call 24; with_reducible refine (Z1.out _ ⟨by assumption, by assumption, by assumption, by assumption, by assumption⟩).mono ?_; rintro e w' ⟨rfl, x0', x1', x2', x3', x4'⟩)
          | (go_at_call 24; with_reducible refine (Z2.out _ ⟨by assumption, by assumption, by assumption, by assumption, by assumption⟩).mono ?_; rintro e w' ⟨rfl, x0', x1', x2', x3', x4'⟩)
          | (go_at_call 24; with_reducible refine (Z3.out _ ⟨by assumption, by assumption, by assumption, by assumption, by assumption⟩).mono ?_; rintro e w' ⟨rfl, x0', x1', x2', x3', x4'⟩)
          | (go_at_call 23; with_reducible refine (Z4.out _ ⟨by assumption, by assumption, by assumption, by assumption, by assumption⟩).mono ?_; rintro e w' ⟨rfl, x0', x1', x2', x3', x4'⟩)
          | (go_at_call 23; with_reducible refine (Z6.out _ ⟨by assumption, by assumption, by assumption, by assumption, by assumption⟩).mono ?_; rintro e w' ⟨rfl, x0', x1', x2', x3', x4'⟩)
          | (go_at_call 19; with_reducible refine (Z5.out _ ⟨by assumption, by assumption, by assumption, by assumption, by assumption⟩).mono ?_; rintro e w' ⟨rfl, x0', x1', x2', x3', x4'⟩)))
        have HS0 := Lib.hid (show w'.drew.cell? ⟨w.heap.size, 0, none⟩ = some (.int .i64 b) ∧ w'.drew.cell? ⟨w.heap.size, 1, none⟩ = some (.int .i64 k) ∧ w'.drew.cell? ⟨M, 2, none⟩ = some (.slice aR R.length kR) ∧ Below w4.heap.size w4 w'.drew from ⟨cell_later (Below.refl _ _).drew x0', cell_later (Below.refl _ _).drew x1', cell_later x4'.drew HC2.out, x4'.drew⟩)
        have HST := Lib.hid (fun (W W' : World) (h : W.cell? ⟨w.heap.size, 0, none⟩ = some (.int .i64 b) ∧ W.cell? ⟨w.heap.size, 1, none⟩ = some (.int .i64 k) ∧ W.cell? ⟨M, 2, none⟩ = some (.slice aR R.length kR) ∧ Below w4.heap.size w4 W) (hb : Below W.heap.size W W') => (⟨cell_later hb h.1, cell_later hb h.2.1, cell_later hb h.2.2.1, h.2.2.2.trans (hb.mono h.2.2.2.size)⟩ : W'.cell? ⟨w.heap.size, 0, none⟩ = some (.int .i64 b) ∧ W'.cell? ⟨w.heap.size, 1, none⟩ = some (.int .i64 k) ∧ W'.cell? ⟨M, 2, none⟩ = some (.slice aR R.length kR) ∧ Below w4.heap.size w4 W'))
        clear x0' x1' x2' x3' x4'
        go_region_held3 (fun w' => w'.cell? ⟨w.heap.size, 0, none⟩ = some (.int .i64 b) ∧ w'.cell? ⟨w.heap.size, 1, none⟩ = some (.int .i64 k) ∧ w'.cell? ⟨M, 2, none⟩ = some (.slice aR R.length kR) ∧ Below w4.heap.size w4 w')
          (first | exact HS0.out | exact HST.out _ _ (by assumption) hbA | exact HST.out _ _ (by assumption) hbB | exact HST.out _ _ (by assumption) hbC | exact HST.out _ _ (by assumption) hbD | assumption)
          ((first
            | (go_at_call 18; with_reducible refine (HNO.out _ (And.right (And.right (And.right (by assumption))))).mono ?_; rintro e wA ⟨a1, k1', rfl, hp1, hbA⟩)
            | (go_at_call 17; with_reducible refine (HSM.out _ _ _ (by assumption) (And.right (And.right (And.right (by assumption))))).mono ?_; rintro e wB ⟨rfl, hbB⟩)
            | (go_at_call 30; with_reducible refine (HCF.out _ (And.right (And.right (And.right (by assumption))))).mono ?_; rintro e wC ⟨rfl, hbC⟩)
            | (go_at_call 29; with_reducible refine (HMO.out _ (And.right (And.right (And.right (by assumption))))).mono ?_; rintro e wD ⟨rfl, hbD⟩)))
        all_goals
          rename_i hHeld
          obtain ⟨_, _, _, hb9⟩ := hHeld
          go_wp2_with fail
          go_ret
          exact ⟨rfl, HB4.out.trans (hb9.mono HB4.out.size)⟩
      · go_wp2_with fail
        with_reducible refine HNG2.out.mono ?_
        rintro e w4 ⟨B2, S2, rfl, hx2, hs2, b4'⟩
        have HX2 := Lib.hid hx2
        clear hx2 hs2
        have HX4 := Lib.hid (HD.out.call HDG.out b4')
        have HR4 := Lib.hid (HRG.out.call b4')
        have HP4 := Lib.hid (HPR.out.call b4')
        have HB4 := Lib.hid (HB3.out.2.2.2.2.trans (b4'.mono HB3.out.2.2.2.2.size))
        obtain ⟨x0', x1', x2', x3', _⟩ := boxg_later HB3.out b4'
        have x4' : Below w4.heap.size w4 w4 := Below.refl _ _
        have Z1 := Lib.hid (fun W (h : BoxG w.heap.size (.int .i64 b) (.int .i64 k) (.int .i64 d2) (.int .i64 f2) w4 W) => boxg_calls (HD.out.zero W B S b k R _ 0 (HD.out.call HX4.out h.2.2.2.2) ⟨by decide, by decide⟩) h)
        have Z3 := Lib.hid (fun W (h : BoxG w.heap.size (.int .i64 b) (.int .i64 k) (.int .i64 d2) (.int .i64 f2) w4 W) => boxg_calls (HD.out.full W B S b k R _ 0 (9223372036854775808 - T) (HD.out.call HX4.out h.2.2.2.2) (by omega) (by have := HLV.out; rw [this]; omega) ⟨by omega, by omega⟩ (by rw [HTT.out]; omega)) h)
        have Z4 := Lib.hid (fun W (h : BoxG w.heap.size (.int .i64 b) (.int .i64 k) (.int .i64 d2) (.int .i64 f2) w4 W) => boxg_calls (HD.out.join_nil W B S b k R _ (HD.out.call HX4.out h.2.2.2.2)) h)
        have Z5 := Lib.hid (fun W (h : BoxG w.heap.size (.int .i64 b) (.int .i64 k) (.int .i64 d2) (.int .i64 f2) w4 W) => boxg_calls (HD.out.total W B S b k R _ (HD.out.call HX4.out h.2.2.2.2)) h)
        rw [HTT.out] at Z5
        have HNO := Lib.hid (fun W (h : Below w4.heap.size w4 W) => HD.out.nodes W B S b k R _ (HD.out.call HX4.out h))
        have HCF := Lib.hid (fun W (h : Below w4.heap.size w4 W) => HD.out.config W B S b k R _ (HD.out.call HX4.out h))
        have HMO := Lib.hid (fun W (h : Below w4.heap.size w4 W) => HD.out.most W B S b k R _ (HD.out.call HX4.out h))
        have HSM := Lib.hid (fun W a1 k1 (h1 : Pairs W a1 R) (h : Below w4.heap.size w4 W) => same_any W a1 aR k1 kR R R true (by simp) h1 (HP4.out.call h) (by have := HFE.out; omega) (by have := HFE.out; omega))
        have HC2 := Lib.hid HR4.out.c2
        have u1 : IntKind.u64.wrap (9223372036854775808 - T) = 9223372036854775808 - T := by rw [IntKind.wrap_u64]; omega
        have u2 : IntKind.i64.wrap (4 * (k : Int)) = 4 * (k : Int) := by rw [IntKind.wrap_i64]; omega
        have t1 : ((b : Int) == b) = true := by simp
        have t2 : ((k : Int) == k) = true := by simp
        have t3 : ((4 * (k : Int)) == 4 * (k : Int)) = true := by simp
        clear b4'
        have Z6 := Lib.hid (fun W (h : BoxG w.heap.size (.int .i64 b) (.int .i64 k) (.int .i64 d2) (.int .i64 f2) w4 W) => boxg_calls (HD.out.match_ W B S b k R _ B2 S2 b2 k2 [] _ (HD.out.call HX4.out h.2.2.2.2) (HD.out.call HX2.out h.2.2.2.2) hdf) h)
        go_wp2_with ((first
          | (go_at_call 24; with_reducible refine (Z1.out _ ⟨by assumption, by assumption, by assumption, by assumption, by assumption⟩).mono ?_; rintro e w' ⟨rfl, x0', x1', x2', x3', x4'⟩)
          | (go_at_call 24; with_reducible refine (Z2.out _ ⟨by assumption, by assumption, by assumption, by assumption, by assumption⟩).mono ?_; rintro e w' ⟨rfl, x0', x1', x2', x3', x4'⟩)
          | (go_at_call 24; with_reducible refine (Z3.out _ ⟨by assumption, by assumption, by assumption, by assumption, by assumption⟩).mono ?_; rintro e w' ⟨rfl, x0', x1', x2', x3', x4'⟩)
          | (go_at_call 23; with_reducible refine (Z4.out _ ⟨by assumption, by assumption, by assumption, by assumption, by assumption⟩).mono ?_; rintro e w' ⟨rfl, x0', x1', x2', x3', x4'⟩)
          | (go_at_call 23; with_reducible refine (Z6.out _ ⟨by assumption, by assumption, by assumption, by assumption, by assumption⟩).mono ?_; rintro e w' ⟨rfl, x0', x1', x2', x3', x4'⟩)
          | (go_at_call 19; with_reducible refine (Z5.out _ ⟨by assumption, by assumption, by assumption, by assumption, by assumption⟩).mono ?_; rintro e w' ⟨rfl, x0', x1', x2', x3', x4'⟩)))
        have HS0 := Lib.hid (show w'.drew.cell? ⟨w.heap.size, 0, none⟩ = some (.int .i64 b) ∧ w'.drew.cell? ⟨w.heap.size, 1, none⟩ = some (.int .i64 k) ∧ w'.drew.cell? ⟨M, 2, none⟩ = some (.slice aR R.length kR) ∧ Below w4.heap.size w4 w'.drew from ⟨cell_later (Below.refl _ _).drew x0', cell_later (Below.refl _ _).drew x1', cell_later x4'.drew HC2.out, x4'.drew⟩)
        have HST := Lib.hid (fun (W W' : World) (h : W.cell? ⟨w.heap.size, 0, none⟩ = some (.int .i64 b) ∧ W.cell? ⟨w.heap.size, 1, none⟩ = some (.int .i64 k) ∧ W.cell? ⟨M, 2, none⟩ = some (.slice aR R.length kR) ∧ Below w4.heap.size w4 W) (hb : Below W.heap.size W W') => (⟨cell_later hb h.1, cell_later hb h.2.1, cell_later hb h.2.2.1, h.2.2.2.trans (hb.mono h.2.2.2.size)⟩ : W'.cell? ⟨w.heap.size, 0, none⟩ = some (.int .i64 b) ∧ W'.cell? ⟨w.heap.size, 1, none⟩ = some (.int .i64 k) ∧ W'.cell? ⟨M, 2, none⟩ = some (.slice aR R.length kR) ∧ Below w4.heap.size w4 W'))
        clear x0' x1' x2' x3' x4'
        go_region_held3 (fun w' => w'.cell? ⟨w.heap.size, 0, none⟩ = some (.int .i64 b) ∧ w'.cell? ⟨w.heap.size, 1, none⟩ = some (.int .i64 k) ∧ w'.cell? ⟨M, 2, none⟩ = some (.slice aR R.length kR) ∧ Below w4.heap.size w4 w')
          (first | exact HS0.out | exact HST.out _ _ (by assumption) hbA | exact HST.out _ _ (by assumption) hbB | exact HST.out _ _ (by assumption) hbC | exact HST.out _ _ (by assumption) hbD | assumption)
          ((first
            | (go_at_call 18; with_reducible refine (HNO.out _ (And.right (And.right (And.right (by assumption))))).mono ?_; rintro e wA ⟨a1, k1', rfl, hp1, hbA⟩)
            | (go_at_call 17; with_reducible refine (HSM.out _ _ _ (by assumption) (And.right (And.right (And.right (by assumption))))).mono ?_; rintro e wB ⟨rfl, hbB⟩)
            | (go_at_call 30; with_reducible refine (HCF.out _ (And.right (And.right (And.right (by assumption))))).mono ?_; rintro e wC ⟨rfl, hbC⟩)
            | (go_at_call 29; with_reducible refine (HMO.out _ (And.right (And.right (And.right (by assumption))))).mono ?_; rintro e wD ⟨rfl, hbD⟩)))
        all_goals
          rename_i hHeld
          obtain ⟨_, _, _, hb9⟩ := hHeld
          go_wp2_with fail
          go_ret
          exact ⟨rfl, HB4.out.trans (hb9.mono HB4.out.size)⟩
end Go.Proofs.YthjcdbnjmpjikaaGreat
