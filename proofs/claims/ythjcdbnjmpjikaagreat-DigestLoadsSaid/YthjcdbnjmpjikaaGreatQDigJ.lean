/-
  The law DigestLoads, walked from the contract.
-/
import Derived.Test.YthjcdbnjmpjikaaGreatK4
namespace Go.Proofs.YthjcdbnjmpjikaaGreat
set_option linter.unusedVariables false
set_option linter.unusedSimpArgs false
open Go.RowKit

/-- What the second Load tells. -/
def LoadP (Dg : DgT) (w : World) (b k : Nat) (L : List PairV) (lo hi : Int) (X : Bool) (p : Option Addr) (c : Int) : Prop :=
  (X = true ∧ c = 0 ∧ ∃ B S, p = some ⟨B, 0, none⟩ ∧ Dg w B S b k L (if L = [] then (0, 0, false) else (lo, hi, true))) ∨ (X = false ∧ c = 1 ∧ p = none)
theorem LoadP.call {Dg : DgT} (D : DigDoes Dg) {w w' : World} {b k : Nat} {L : List PairV} {lo hi : Int} {X : Bool} {p : Option Addr} {c : Int} (h : LoadP Dg w b k L lo hi X p c) (hb : Below w.heap.size w w') : LoadP Dg w' b k L lo hi X p c := by
  rcases h with ⟨h1, h2, B, S, h3, h4⟩ | h
  · exact Or.inl ⟨h1, h2, B, S, h3, D.call h4 hb⟩
  · exact Or.inr h
theorem LoadP.no {Dg : DgT} {w : World} {b k : Nat} {L : List PairV} {lo hi : Int} {p : Option Addr} {c : Int} (h : LoadP Dg w b k L lo hi false p c) : c = 1 ∧ p = none := by
  rcases h with ⟨h1, _⟩ | ⟨_, h⟩
  · cases h1
  · exact h
theorem LoadP.yes {Dg : DgT} {w : World} {b k : Nat} {L : List PairV} {lo hi : Int} {p : Option Addr} {c : Int} (h : LoadP Dg w b k L lo hi true p c) : c = 0 ∧ ∃ B S, p = some ⟨B, 0, none⟩ ∧ Dg w B S b k L (if L = [] then (0, 0, false) else (lo, hi, true)) := by
  rcases h with ⟨_, h⟩ | ⟨h1, _⟩
  · exact h
  · cases h1
theorem load_both {Dg : DgT} (D : DigDoes Dg) (w : World) (b k : Nat) (A : Option Addr) (cap : Nat) (L : List PairV) (lo hi : Int) (b1 : 1 ≤ b) (b2 : b ≤ 24) (k1 : 1 ≤ k) (k2 : k ≤ 64) (hP : Pairs w A L) (hl : L.length ≤ 300) (hlo : I64 lo) (hhi : I64 hi) (X : Bool) (hX : loadG b k L lo hi = X) :
    Calls Tryz.prog 32 #[.agg #[.int .i64 b, .int .i64 k], .slice A L.length cap, .int .i64 lo, .int .i64 hi] w fun r w' => ∃ p c, r = .returned (.tuple #[.pointer p, .int .i64 c]) ∧ LoadP Dg w' b k L lo hi X p c ∧ Below w.heap.size w w' := by
  cases X with
  | true =>
    refine (D.load w b k A cap L lo hi b1 b2 k1 k2 hP hl hlo hhi hX).mono ?_
    rintro e w' ⟨B, S, rfl, hx, _, hb⟩
    exact ⟨_, _, rfl, Or.inl ⟨rfl, rfl, B, S, rfl, hx⟩, hb⟩
  | false =>
    refine (D.unfit w b k A cap L lo hi b1 b2 k1 k2 hP hl hlo hhi hX).mono ?_
    rintro e w' ⟨rfl, hb⟩
    exact ⟨_, _, rfl, Or.inr ⟨rfl, rfl, rfl⟩, hb⟩
/-- What the first loop has reckoned. -/
def WantS (b : Nat) (L : List PairV) (n : Nat) (wv : Value) (s : Int) : Prop :=
  (wv = .bool true ∧ wantN b L n = true ∧ s = sumP (L.take n)) ∨ (wv = .bool false ∧ wantN b L n = false)

set_option maxRecDepth 100000 in
set_option maxHeartbeats 16000000 in
theorem digest_loads_walk {Dg : DgT} (D : DigDoes Dg) (d f : Int) (A : List PairV) (a : Option Addr) (cap : Nat) (L : List PairV) (al : Option Addr) (kl : Nat) (lo hi : Int) (hd : I64 d) (hf : I64 f) (hlo : I64 lo) (hhi : I64 hi) (w : World) (hA : Pairs w a A) (hl : A.length ≤ 140737488351232) (hL : Pairs w al L) (hll : L.length ≤ 140737488351232) :
    Calls Tryz.prog 8 #[.agg #[.int .i64 d, .int .i64 f], .slice a A.length cap, .slice al L.length kl, .agg #[.int .i64 lo, .int .i64 hi]] w fun e w' => e = .returned (.bool true) ∧ Below w.heap.size w w' := by
  have HD := Lib.hid D
  have HA := Lib.hid hA
  have HL := Lib.hid hL
  have HAL := Lib.hid (fun W => alive17_any D W)
  have HBD := Lib.hid (fun W hW => build17_any D W d f A a cap hd hf hW hl)
  have HBX := Lib.hid (boxes_new w (.int .i64 d) (.int .i64 f) (.int .i64 lo) (.int .i64 hi) 23 71)
  obtain ⟨c0, c1, p0, p1, b0⟩ := HBX.out
  have HLO := Lib.hid hlo
  have HHI := Lib.hid hhi
  clear hA hL D
  go_enter Tryz.func8, Tryz.ntmps8
  go_wp2_with fail
  refine (HAL.out _).mono ?_
  rintro e w1 ⟨rfl, b1'⟩
  have HB1 := Lib.hid (boxg_later HBX.out b1')
  clear c0 c1 p0 p1 b0 b1' HBX HAL
  obtain ⟨c0, c1, p0, p1, b1⟩ := HB1.out
  go_wp2_with fail
  refine (HBD.out _ (HA.out.call b1)).mono ?_
  rintro e w2 (⟨B, S, M, b, k, v, rfl, rfl, rfl, q1, q2, q3, q4, hfi, hl60, hdg, hrg, hS, hM, hSM, hvS, b2'⟩ | ⟨rfl, b2'⟩)
  case inr =>
    have b2 := b1.trans (b2'.mono b1.size)
    go_wp2_with fail
    go_ret
    exact ⟨rfl, b2⟩
  by_cases hbig : 60 < L.length
  · have kk : (60 : Int) < L.length := by omega
    have b2 := b1.trans (b2'.mono b1.size)
    clear hdg hrg hS hM hSM hvS hfi b2'
    go_wp2_with fail
    go_ret
    exact ⟨rfl, b2⟩
  have kk : ¬ (60 : Int) < L.length := by omega
  have HB2 := Lib.hid (boxg_later HB1.out b2')
  have HH := hfi.has (k := k) q3 (by omega)
  have hsA := fineG_sum hfi
  have hrow := HH.row (by omega)
  have hfew := HH.few
  obtain ⟨ex, ey, ez, hee⟩ : ∃ ex ey ez, endAD A = (ex, ey, ez) := ⟨_, _, _, rfl⟩
  have hfit := load_fits HH hfi (by omega) hee
  obtain ⟨n1, n2, n3, n4⟩ := end_in hfi hee
  have hp2 := pow_bdD q2
  rw [hee] at hdg
  have hput := HH.put q3 (x := 0) (c := 2) (by omega) (by omega) (by omega) (by rw [HH.dig.sum]; omega)
  have hsR := HH.dig.sum
  generalize rowD b k A = R at *
  have hokR := hrow.ok q2
  obtain ⟨aR, kR, rfl, hpR⟩ := hrg.row hokR
  have HDG := Lib.hid hdg
  have HRG := Lib.hid hrg
  have HPR := Lib.hid hpR
  have HRW := Lib.hid hrow
  have HPT := Lib.hid hput
  have HSR : Hid (0 ≤ sumP R ∧ sumP R ≤ 70000000000000000) := Lib.hid (by rw [hsR]; omega)
  have HFE := Lib.hid hfew
  have HEX : Hid (I64 ex ∧ I64 ey) := Lib.hid ⟨⟨by omega, by omega⟩, ⟨by omega, by omega⟩⟩
  have HEN := Lib.hid (HD.out.ends w2 B S b k R ex ey ez hdg)
  have HLD := Lib.hid (fun W (h : Below w2.heap.size w2 W) => HD.out.load W b k aR kR R ex ey q1 q2 q3 q4 (HPR.out.call h) (by have := HFE.out; omega) HEX.out.1 HEX.out.2 hfit)
  have HM2 : Hid (w.heap.size + 1 < M) := Lib.hid (by
    have := World.block_lt_of_cell? (a := ⟨w.heap.size + 1, 0, none⟩) w1 HB1.out.2.2.1
    simp only at this
    omega)
  clear c0 c1 p0 p1 b1 b2' hdg hrg hS hSM hvS hfi HH hsA hrow hfew hee n1 n2 n3 n4 hp2 hput hsR hokR hpR hM HBD HB1
  obtain ⟨c0, c1, p0, p1, b2⟩ := HB2.out
  go_wp2_with fail
  refine HEN.out.mono ?_
  rintro e w3 ⟨rfl, b3'⟩
  have HB3 := Lib.hid (boxg_later HB2.out b3')
  have HS0 : Hid (w3.drew.cell? ⟨w.heap.size, 0, none⟩ = some (.int .i64 b) ∧ w3.drew.cell? ⟨w.heap.size, 1, none⟩ = some (.int .i64 k) ∧ w3.drew.cell? ⟨M, 2, none⟩ = some (.slice aR R.length kR) ∧ Below w2.heap.size w2 w3.drew) := Lib.hid ⟨cell_later b3'.drew HB2.out.1, cell_later b3'.drew HB2.out.2.1, cell_later b3'.drew HRG.out.c2, b3'.drew⟩
  clear c0 c1 p0 p1 b2 b3' HEN
  have HST := Lib.hid (fun (W W' : World) (h : W.cell? ⟨w.heap.size, 0, none⟩ = some (.int .i64 b) ∧ W.cell? ⟨w.heap.size, 1, none⟩ = some (.int .i64 k) ∧ W.cell? ⟨M, 2, none⟩ = some (.slice aR R.length kR) ∧ Below w2.heap.size w2 W) (hb : Below W.heap.size W W') => (⟨cell_later hb h.1, cell_later hb h.2.1, cell_later hb h.2.2.1, h.2.2.2.trans (hb.mono h.2.2.2.size)⟩ : W'.cell? ⟨w.heap.size, 0, none⟩ = some (.int .i64 b) ∧ W'.cell? ⟨w.heap.size, 1, none⟩ = some (.int .i64 k) ∧ W'.cell? ⟨M, 2, none⟩ = some (.slice aR R.length kR) ∧ Below w2.heap.size w2 W'))
  go_wp2_with fail
  go_region_held3 (fun w' => w'.cell? ⟨w.heap.size, 0, none⟩ = some (.int .i64 b) ∧ w'.cell? ⟨w.heap.size, 1, none⟩ = some (.int .i64 k) ∧ w'.cell? ⟨M, 2, none⟩ = some (.slice aR R.length kR) ∧ Below w2.heap.size w2 w')
    (first | exact HS0.out | exact HST.out _ _ (by assumption) hbA | assumption)
    ((go_at_call 32; with_reducible refine (HLD.out _ (And.right (And.right (And.right (by assumption))))).mono ?_; rintro e wA ⟨B2, S2, rfl, hx2, hs2, hbA⟩))
  all_goals
    rename_i hHeld
    obtain ⟨c0, c1, m2, b4⟩ := hHeld
    obtain ⟨w4, hw4⟩ : ∃ w4, w4 = wA := ⟨_, rfl⟩
    subst hw4
    have HX2 := Lib.hid hx2
    have HS2 := Lib.hid (show ∀ i, S2 i → w2.heap.size ≤ i from fun i hi => by
      have h1 := hs2 i hi
      have h2 := HB3.out
      have h3 := (show Below w2.heap.size w2 w4 from b4).size
      first | omega | (have := h2.2.2.2.2.size; omega) | exact Nat.le_trans (by first | exact HS0.out.2.2.2.size | exact Nat.le_refl _) h1)
    have HB4 := Lib.hid b4
    have HNO := Lib.hid (fun W (h : Below w4.heap.size w4 W) => HD.out.nodes W B2 S2 b k R _ (HD.out.call HX2.out h))
    have HSM := Lib.hid (fun W a1 k1 (h1 : Pairs W a1 R) (h : Below w4.heap.size w4 W) => same_any W a1 aR k1 kR R R true (by simp) h1 (HPR.out.call (HB4.out.trans (h.mono HB4.out.size))) (by have := HFE.out; omega) (by have := HFE.out; omega))
    clear HST HS0
    have HS0 : Hid (w4.drew.cell? ⟨w.heap.size, 0, none⟩ = some (.int .i64 b) ∧ w4.drew.cell? ⟨w.heap.size, 1, none⟩ = some (.int .i64 k) ∧ w4.drew.cell? ⟨M, 2, none⟩ = some (.slice aR R.length kR) ∧ Below w4.heap.size w4 w4.drew) := Lib.hid ⟨cell_later (Below.refl _ _).drew c0, cell_later (Below.refl _ _).drew c1, cell_later (Below.refl _ _).drew m2, (Below.refl _ _).drew⟩
    have HST := Lib.hid (fun (W W' : World) (h : W.cell? ⟨w.heap.size, 0, none⟩ = some (.int .i64 b) ∧ W.cell? ⟨w.heap.size, 1, none⟩ = some (.int .i64 k) ∧ W.cell? ⟨M, 2, none⟩ = some (.slice aR R.length kR) ∧ Below w4.heap.size w4 W) (hb : Below W.heap.size W W') => (⟨cell_later hb h.1, cell_later hb h.2.1, cell_later hb h.2.2.1, h.2.2.2.trans (hb.mono h.2.2.2.size)⟩ : W'.cell? ⟨w.heap.size, 0, none⟩ = some (.int .i64 b) ∧ W'.cell? ⟨w.heap.size, 1, none⟩ = some (.int .i64 k) ∧ W'.cell? ⟨M, 2, none⟩ = some (.slice aR R.length kR) ∧ Below w4.heap.size w4 W'))
    clear c0 c1 m2 b4 hx2 hs2 HLD
    go_wp2_with fail
    go_region_held3 (fun w' => w'.cell? ⟨w.heap.size, 0, none⟩ = some (.int .i64 b) ∧ w'.cell? ⟨w.heap.size, 1, none⟩ = some (.int .i64 k) ∧ w'.cell? ⟨M, 2, none⟩ = some (.slice aR R.length kR) ∧ Below w4.heap.size w4 w')
      (first | exact HS0.out | exact HST.out _ _ (by assumption) hbA | exact HST.out _ _ (by assumption) hbB | assumption)
      ((first
        | (go_at_call 18; with_reducible refine (HNO.out _ (And.right (And.right (And.right (by assumption))))).mono ?_; rintro e wA ⟨a1, k1', rfl, hp1, hbA⟩)
        | (go_at_call 17; with_reducible refine (HSM.out _ _ _ (by assumption) (And.right (And.right (And.right (by assumption))))).mono ?_; rintro e wB ⟨rfl, hbB⟩)))
    rename_i hHeld
    obtain ⟨_, _, _, b5⟩ := hHeld
    obtain ⟨w5, hw5⟩ : ∃ w5, w5 = wB := ⟨_, rfl⟩
    subst hw5
    have HB5 := Lib.hid (HB4.out.trans (b5.mono HB4.out.size))
    have HX5 := Lib.hid (HD.out.call HX2.out b5)
    have HC5 := Lib.hid (boxg_later HB2.out HB5.out)
    have HR5 := Lib.hid (HRG.out.call HB5.out)
    have HMM := Lib.hid (HRG.out.lt)
    have nS : ∀ i, i < w2.heap.size → ¬ S2 i := fun i hi h => by have := HS2.out i h; omega
    have HNS := Lib.hid nS
    have HWM := Lib.hid (World.block_lt_of_cell? (a := ⟨w.heap.size + 1, 0, none⟩) w2 HB2.out.2.2.1)
    have HPU := Lib.hid (HD.out.put w5 B2 S2 b k R _ 0 2 HX5.out (by decide) (by have := Nat.two_pow_pos b; omega) (by decide) (by have := HSR.out; omega))
    clear hbA hbB hp1 b5 HS0 HST HNO HSM nS
    go_wp2_with fail
    refine HPU.out.mono ?_
    rintro e w6 ⟨S3, rfl, hx6, hk6, hs6⟩
    have HX6 := Lib.hid hx6
    have HR6 := Lib.hid (HR5.out.past hk6 (HNS.out M HMM.out) (fun g hg => HNS.out g (HRG.out.own.lt g hg).2))
    have HC6 := Lib.hid (show w6.cell? ⟨w.heap.size, 0, none⟩ = some (.int .i64 b) ∧ w6.cell? ⟨w.heap.size, 1, none⟩ = some (.int .i64 k) ∧ w6.cell? ⟨w.heap.size + 1, 0, none⟩ = some (.int .i64 lo) ∧ w6.cell? ⟨w.heap.size + 1, 1, none⟩ = some (.int .i64 hi) from
      ⟨hk6.cell (HNS.out _ (by have := HWM.out; omega)) HC5.out.1, hk6.cell (HNS.out _ (by have := HWM.out; omega)) HC5.out.2.1, hk6.cell (HNS.out _ (by have := HWM.out; omega)) HC5.out.2.2.1, hk6.cell (HNS.out _ (by have := HWM.out; omega)) HC5.out.2.2.2.1⟩)
    have HB6 := Lib.hid (Keeps.below HC5.out.2.2.2.2 hk6 HC5.out.2.2.2.2.size (fun i hi => by have := HS2.out i hi; have := HB2.out.2.2.2.2.size; omega))
    have HN3 : Hid (¬ S3 M) := Lib.hid fun h => by
      rcases hs6 M h with h | h
      · exact HNS.out M HMM.out h
      · have := HMM.out; have := HB5.out.size; omega
    have HRP := Lib.hid (rput17_any w6 M b k _ R 0 2 _ HR6.out q2 HRW.out (by have := HFE.out; omega) q3 q4 (by decide) (by have := Nat.two_pow_pos b; omega) (by decide) (by have := HSR.out; omega) rfl)
    clear hx6 hk6 hs6 HPU
    go_wp2_with fail
    refine HRP.out.mono ?_
    rintro e w7 ⟨rfl, ⟨v7, hr7, _⟩, hg7⟩
    have HX7 := Lib.hid (HD.out.grown HX6.out hg7 HN3.out)
    have hne : M ≠ w.heap.size ∧ M ≠ w.heap.size + 1 := by have := HM2.out; omega
    have HC7 := Lib.hid (show w7.cell? ⟨w.heap.size, 0, none⟩ = some (.int .i64 b) ∧ w7.cell? ⟨w.heap.size, 1, none⟩ = some (.int .i64 k) ∧ w7.cell? ⟨w.heap.size + 1, 0, none⟩ = some (.int .i64 lo) ∧ w7.cell? ⟨w.heap.size + 1, 1, none⟩ = some (.int .i64 hi) from
      ⟨cell_grown hg7 (fun h => hne.1 h.symm) HC6.out.1, cell_grown hg7 (fun h => hne.1 h.symm) HC6.out.2.1, cell_grown hg7 (fun h => hne.2 h.symm) HC6.out.2.2.1, cell_grown hg7 (fun h => hne.2 h.symm) HC6.out.2.2.2⟩)
    have HB7 := Lib.hid (Below.grown HB6.out hg7 HB6.out.size (fun x hx => by have := Option.some.inj hx; have := HM2.out; omega))
    have hpt : putD b k R 0 2 = squeezeD (4 * k) ((sumP R + 2) / k) (addP R (((2 ^ b : Nat) : Int) + 0) 2) := rfl
    rw [← hpt] at hr7
    have HQ7 := Lib.hid hr7.c2
    have hs7 : sumP (A ++ [((0, 2) : PairV)]) ≤ 9223372036854775807 := by
      have h1 := HPT.out.dig.sum
      rw [← h1, hpt]
      have := (squeeze_keeps (q := (sumP R + 2) / k) (P := fun S => GoodP S ∧ sumP S = sumP (addP R (((2 ^ b : Nat) : Int) + 0) 2)) (fun S v hS hv => ⟨lift_good hS.1 (by rw [hS.2, add_sumD HRW.out.good (by decide)]; have := HSR.out; omega) hv, (lift_sum hS.1 hv).trans hS.2⟩) (most := 4 * k) (R := addP R (((2 ^ b : Nat) : Int) + 0) 2) (fun p hp => by
        rcases add_memD hp with h | ⟨h, _⟩
        · exact (HRW.out.node p h).1
        · rw [h]; have := Nat.two_pow_pos b; omega) ⟨add_good HRW.out.good (by
          have := count_leD HRW.out.pos (((2 ^ b : Nat) : Int) + 0)
          have := HSR.out
          omega), rfl⟩).2
      rw [this, add_sumD HRW.out.good (by decide)]
      have := HSR.out; omega
    have HW7 := Lib.hid (HPT.out.row hs7)
    have HF7 := Lib.hid HPT.out.few
    generalize putD b k R 0 2 = R7 at *
    obtain ⟨a7, k7, rfl, hp7⟩ := hr7.row (HW7.out.ok q2)
    have HP7 := Lib.hid hp7
    have HNO := Lib.hid (fun W (h : Below w7.heap.size w7 W) => HD.out.nodes W B2 S3 b k R7 _ (HD.out.call HX7.out h))
    have HSM := Lib.hid (fun W a1 k1 (h1 : Pairs W a1 R7) (h : Below w7.heap.size w7 W) => same_any W a1 a7 k1 k7 R7 R7 true (by simp) h1 (HP7.out.call h) (by have := HF7.out; omega) (by have := HF7.out; omega))
    have HS0 : Hid (w7.drew.cell? ⟨w.heap.size, 0, none⟩ = some (.int .i64 b) ∧ w7.drew.cell? ⟨w.heap.size, 1, none⟩ = some (.int .i64 k) ∧ w7.drew.cell? ⟨M, 2, none⟩ = some (.slice a7 R7.length k7) ∧ Below w7.heap.size w7 w7.drew) := Lib.hid ⟨cell_later (Below.refl _ _).drew HC7.out.1, cell_later (Below.refl _ _).drew HC7.out.2.1, cell_later (Below.refl _ _).drew HQ7.out, (Below.refl _ _).drew⟩
    have HST := Lib.hid (fun (W W' : World) (h : W.cell? ⟨w.heap.size, 0, none⟩ = some (.int .i64 b) ∧ W.cell? ⟨w.heap.size, 1, none⟩ = some (.int .i64 k) ∧ W.cell? ⟨M, 2, none⟩ = some (.slice a7 R7.length k7) ∧ Below w7.heap.size w7 W) (hb : Below W.heap.size W W') => (⟨cell_later hb h.1, cell_later hb h.2.1, cell_later hb h.2.2.1, h.2.2.2.trans (hb.mono h.2.2.2.size)⟩ : W'.cell? ⟨w.heap.size, 0, none⟩ = some (.int .i64 b) ∧ W'.cell? ⟨w.heap.size, 1, none⟩ = some (.int .i64 k) ∧ W'.cell? ⟨M, 2, none⟩ = some (.slice a7 R7.length k7) ∧ Below w7.heap.size w7 W'))
    clear hr7 hg7 hne hpt hs7 hp7 HRP
    go_wp2_with fail
    go_region_held3 (fun w' => w'.cell? ⟨w.heap.size, 0, none⟩ = some (.int .i64 b) ∧ w'.cell? ⟨w.heap.size, 1, none⟩ = some (.int .i64 k) ∧ w'.cell? ⟨M, 2, none⟩ = some (.slice a7 R7.length k7) ∧ Below w7.heap.size w7 w')
      (first | exact HS0.out | exact HST.out _ _ (by assumption) hbA | exact HST.out _ _ (by assumption) hbB | assumption)
      ((first
        | (go_at_call 18; with_reducible refine (HNO.out _ (And.right (And.right (And.right (by assumption))))).mono ?_; rintro e wA ⟨a1, k1', rfl, hp1, hbA⟩)
        | (go_at_call 17; with_reducible refine (HSM.out _ _ _ (by assumption) (And.right (And.right (And.right (by assumption))))).mono ?_; rintro e wB ⟨rfl, hbB⟩)))
    rename_i hHeld
    obtain ⟨_, _, _, b8⟩ := hHeld
    obtain ⟨w8, hw8⟩ : ∃ w8, w8 = wB := ⟨_, rfl⟩
    subst hw8
    have HB8 := Lib.hid (HB7.out.trans (b8.mono HB7.out.size))
    have c0 := cell_later b8 HC7.out.1
    have c1 := cell_later b8 HC7.out.2.1
    have p0 := cell_later b8 HC7.out.2.2.1
    have p1 := cell_later b8 HC7.out.2.2.2
    have HL8 := Lib.hid (HL.out.call HB8.out)
    obtain ⟨lv, hlv⟩ : ∃ lv : Nat, 2 ^ b = lv := ⟨_, rfl⟩
    have hlv1 := pow_bdD q2
    have hlv3 : (2 : Int) ^ b = (lv : Int) := by rw [← hlv, Int.natCast_pow]; rfl
    rw [hlv] at hlv1
    have W1 : IntKind.i64.wrap ((2 : Int) ^ b) = (lv : Int) := by rw [hlv3, IntKind.wrap_i64]; omega
    have W2 : wrap64 ((2 : Int) ^ b) = (lv : Int) := by rw [hlv3]; unfold wrap64; omega
    have u4 : IntKind.i64.wrap (4 * (k : Int)) = 4 * (k : Int) := by rw [IntKind.wrap_i64]; omega
    have b0' : (0 : Int) ≤ (b : Int) := by omega
    have HLV := Lib.hid hlv
    have HLP := Lib.hid (load_parts b k L lo hi)
    have HPC := Lib.hid (pre_cases b k lv hlv L lo hi)
    clear hbA hbB hp1 b8 HS0 HST HNO HSM hlv hlv3
    rcases HPC.out with ⟨g1, hp⟩ | ⟨g1, g2, hp⟩ | ⟨g1, g2, g3, hp⟩ | ⟨g1, g2, g3, g4, hp⟩ | ⟨g1, g2, g3, g4, g5, hp⟩ | ⟨g1, g2, g3, g4, g5, g6, hp⟩ | ⟨g1, g2, g3, g4, g5, g6, g7, hp⟩ | ⟨g1, g2, g3, g4, g5, g6, g7, hp⟩
    · have HUN := Lib.hid (HD.out.unfit w8 b k al kl L lo hi q1 q2 q3 q4 HL8.out (by omega) HLO.out HHI.out (by rw [HLP.out, hp]; rfl))
      clear hp HPC
      go_wp2_with fail
      refine HUN.out.mono ?_
      rintro e w9 ⟨rfl, b9⟩
      have c0 := cell_later b9 c0
      have c1 := cell_later b9 c1
      have p0 := cell_later b9 p0
      have p1 := cell_later b9 p1
      have HB9 := Lib.hid (HB8.out.trans (b9.mono HB8.out.size))
      have HGR := Lib.hid (rgood_row w9 al kl L _ rfl (HL8.out.call b9) (by omega))
      rw [g1] at HGR
      clear b9 HUN
      go_wp2_with fail
      refine HGR.out.mono ?_
      rintro e wG ⟨rfl, bG⟩
      have c0 := cell_later bG c0
      have c1 := cell_later bG c1
      have p0 := cell_later bG p0
      have p1 := cell_later bG p1
      have HBG := Lib.hid (HB9.out.trans (bG.mono HB9.out.size))
      clear bG HGR
      go_wp2_with fail
      go_loopg [18] (0 : Nat) (fun g x wr => ∃ n : Nat, n = g ∧ x = .bool false ∧ Below w.heap.size w wr)
      case atStart => exact ⟨0, rfl, rfl, HBG.out⟩
      case round =>
        obtain ⟨n, hn, rfl, hbw⟩ := hrel
        have HBW := Lib.hid hbw
        clear hbw c0 c1 p0 p1
        go_wp2_with fail
        go_loopg [18] (0 : Nat) (fun g x wr => ∃ n : Nat, n = g ∧ x = .bool false ∧ Below w.heap.size w wr)
        case atStart => exact ⟨0, rfl, rfl, HBW.out⟩
        case round =>
          obtain ⟨n, hn, rfl, hbw⟩ := hrel
          go_wp2_with fail
          go_ret
          exact ⟨rfl, hbw⟩
    · have HUN := Lib.hid (HD.out.unfit w8 b k al kl L lo hi q1 q2 q3 q4 HL8.out (by omega) HLO.out HHI.out (by rw [HLP.out, hp]; rfl))
      clear hp HPC
      go_wp2_with fail
      refine HUN.out.mono ?_
      rintro e w9 ⟨rfl, b9⟩
      have c0 := cell_later b9 c0
      have c1 := cell_later b9 c1
      have p0 := cell_later b9 p0
      have p1 := cell_later b9 p1
      have HB9 := Lib.hid (HB8.out.trans (b9.mono HB8.out.size))
      have HGR := Lib.hid (rgood_row w9 al kl L _ rfl (HL8.out.call b9) (by omega))
      rw [g1] at HGR
      clear b9 HUN
      go_wp2_with fail
      refine HGR.out.mono ?_
      rintro e wG ⟨rfl, bG⟩
      have c0 := cell_later bG c0
      have c1 := cell_later bG c1
      have p0 := cell_later bG p0
      have p1 := cell_later bG p1
      have HBG := Lib.hid (HB9.out.trans (bG.mono HB9.out.size))
      clear bG HGR
      go_wp2_with fail
      go_loopg [18] (0 : Nat) (fun g x wr => ∃ n : Nat, n = g ∧ x = .bool false ∧ Below w.heap.size w wr)
      case atStart => exact ⟨0, rfl, rfl, HBG.out⟩
      case round =>
        obtain ⟨n, hn, rfl, hbw⟩ := hrel
        have HBW := Lib.hid hbw
        clear hbw c0 c1 p0 p1
        go_wp2_with fail
        go_loopg [18] (0 : Nat) (fun g x wr => ∃ n : Nat, n = g ∧ x = .bool false ∧ Below w.heap.size w wr)
        case atStart => exact ⟨0, rfl, rfl, HBW.out⟩
        case round =>
          obtain ⟨n, hn, rfl, hbw⟩ := hrel
          go_wp2_with fail
          go_ret
          exact ⟨rfl, hbw⟩
    · have HUN := Lib.hid (HD.out.unfit w8 b k al kl L lo hi q1 q2 q3 q4 HL8.out (by omega) HLO.out HHI.out (by rw [HLP.out, hp]; rfl))
      clear hp HPC
      go_wp2_with fail
      refine HUN.out.mono ?_
      rintro e w9 ⟨rfl, b9⟩
      have c0 := cell_later b9 c0
      have c1 := cell_later b9 c1
      have p0 := cell_later b9 p0
      have p1 := cell_later b9 p1
      have HB9 := Lib.hid (HB8.out.trans (b9.mono HB8.out.size))
      have HGR := Lib.hid (rgood_row w9 al kl L _ rfl (HL8.out.call b9) (by omega))
      rw [g1] at HGR
      clear b9 HUN
      go_wp2_with fail
      refine HGR.out.mono ?_
      rintro e wG ⟨rfl, bG⟩
      have c0 := cell_later bG c0
      have c1 := cell_later bG c1
      have p0 := cell_later bG p0
      have p1 := cell_later bG p1
      have HBG := Lib.hid (HB9.out.trans (bG.mono HB9.out.size))
      clear bG HGR
      go_wp2_with fail
      go_loopg [18] (0 : Nat) (fun g x wr => ∃ n : Nat, n = g ∧ x = .bool false ∧ Below w.heap.size w wr)
      case atStart => exact ⟨0, rfl, rfl, HBG.out⟩
      case round =>
        obtain ⟨n, hn, rfl, hbw⟩ := hrel
        have HBW := Lib.hid hbw
        clear hbw c0 c1 p0 p1
        go_wp2_with fail
        go_loopg [18] (0 : Nat) (fun g x wr => ∃ n : Nat, n = g ∧ x = .bool false ∧ Below w.heap.size w wr)
        case atStart => exact ⟨0, rfl, rfl, HBW.out⟩
        case round =>
          obtain ⟨n, hn, rfl, hbw⟩ := hrel
          go_wp2_with fail
          go_ret
          exact ⟨rfl, hbw⟩
    · have HUN := Lib.hid (HD.out.unfit w8 b k al kl L lo hi q1 q2 q3 q4 HL8.out (by omega) HLO.out HHI.out (by rw [HLP.out, hp]; rfl))
      clear hp HPC
      go_wp2_with fail
      refine HUN.out.mono ?_
      rintro e w9 ⟨rfl, b9⟩
      have c0 := cell_later b9 c0
      have c1 := cell_later b9 c1
      have p0 := cell_later b9 p0
      have p1 := cell_later b9 p1
      have HB9 := Lib.hid (HB8.out.trans (b9.mono HB8.out.size))
      have HGR := Lib.hid (rgood_row w9 al kl L _ rfl (HL8.out.call b9) (by omega))
      rw [g1] at HGR
      clear b9 HUN
      go_wp2_with fail
      refine HGR.out.mono ?_
      rintro e wG ⟨rfl, bG⟩
      have c0 := cell_later bG c0
      have c1 := cell_later bG c1
      have p0 := cell_later bG p0
      have p1 := cell_later bG p1
      have HBG := Lib.hid (HB9.out.trans (bG.mono HB9.out.size))
      clear bG HGR
      go_wp2_with fail
      go_loopg [18] (0 : Nat) (fun g x wr => ∃ n : Nat, n = g ∧ x = .bool false ∧ Below w.heap.size w wr)
      case atStart => exact ⟨0, rfl, rfl, HBG.out⟩
      case round =>
        obtain ⟨n, hn, rfl, hbw⟩ := hrel
        have HBW := Lib.hid hbw
        clear hbw c0 c1 p0 p1
        go_wp2_with fail
        go_loopg [18] (0 : Nat) (fun g x wr => ∃ n : Nat, n = g ∧ x = .bool false ∧ Below w.heap.size w wr)
        case atStart => exact ⟨0, rfl, rfl, HBW.out⟩
        case round =>
          obtain ⟨n, hn, rfl, hbw⟩ := hrel
          go_wp2_with fail
          go_ret
          exact ⟨rfl, hbw⟩
    · have HUN := Lib.hid (HD.out.unfit w8 b k al kl L lo hi q1 q2 q3 q4 HL8.out (by omega) HLO.out HHI.out (by rw [HLP.out, hp]; rfl))
      clear hp HPC
      go_wp2_with fail
      refine HUN.out.mono ?_
      rintro e w9 ⟨rfl, b9⟩
      have c0 := cell_later b9 c0
      have c1 := cell_later b9 c1
      have p0 := cell_later b9 p0
      have p1 := cell_later b9 p1
      have HB9 := Lib.hid (HB8.out.trans (b9.mono HB8.out.size))
      have HGR := Lib.hid (rgood_row w9 al kl L _ rfl (HL8.out.call b9) (by omega))
      rw [g1] at HGR
      clear b9 HUN
      go_wp2_with fail
      refine HGR.out.mono ?_
      rintro e wG ⟨rfl, bG⟩
      have c0 := cell_later bG c0
      have c1 := cell_later bG c1
      have p0 := cell_later bG p0
      have p1 := cell_later bG p1
      have HBG := Lib.hid (HB9.out.trans (bG.mono HB9.out.size))
      clear bG HGR
      go_wp2_with fail
      go_loopg [18] (0 : Nat) (fun g x wr => ∃ n : Nat, n = g ∧ x = .bool false ∧ Below w.heap.size w wr)
      case atStart => exact ⟨0, rfl, rfl, HBG.out⟩
      case round =>
        obtain ⟨n, hn, rfl, hbw⟩ := hrel
        have HBW := Lib.hid hbw
        clear hbw c0 c1 p0 p1
        go_wp2_with fail
        go_loopg [18] (0 : Nat) (fun g x wr => ∃ n : Nat, n = g ∧ x = .bool false ∧ Below w.heap.size w wr)
        case atStart => exact ⟨0, rfl, rfl, HBW.out⟩
        case round =>
          obtain ⟨n, hn, rfl, hbw⟩ := hrel
          go_wp2_with fail
          go_ret
          exact ⟨rfl, hbw⟩
    · obtain ⟨X, hX⟩ : ∃ X, loadG b k L lo hi = X := ⟨_, rfl⟩
      have HLX : Hid (X = (wantN b L L.length && smallN b (sumP L / k) L L.length)) := Lib.hid (by rw [← hX, HLP.out, hp]; rfl)
      have HL2 := Lib.hid (load_both HD.out w8 b k al kl L lo hi q1 q2 q3 q4 HL8.out (by omega) HLO.out HHI.out X hX)
      have hg1 := goodB_true.1 g1
      have HPOS := Lib.hid (show ∀ q, q ∈ L → 0 ≤ q.2 from fun q hq => by have := hg1.1 q hq; omega)
      have HCM := Lib.hid (show ∀ q, q ∈ L → 1 ≤ q.2 ∧ q.2 ≤ 9223372036854775807 from fun q hq => hg1.1 q hq)
      have HOKL := Lib.hid HL8.out.ok
      have HGRR := Lib.hid (fun W (h : Below w8.heap.size w8 W) => rgood_row W al kl L _ rfl (HL8.out.call h) (by omega))
      rw [g1] at HGRR
      obtain ⟨ln, hln⟩ : ∃ ln : Nat, L.length = ln := ⟨_, rfl⟩
      rw [hln] at kk g2 g6 HLX HL2 HGRR ⊢
      have HLN := Lib.hid hln
      have hl60 : ln ≤ 60 := by omega
      have g6n : 0 < ln := by have := of_decide_eq_true g6; omega
      have g6m : decide (0 < ln) = true := decide_eq_true g6n
      have HG16 := Lib.hid (fun W v (hv : I64 v) => good16_any (b := b) W q2 (v := v) hv)
      obtain ⟨qq, hqq⟩ : ∃ qq, sumP L / (k : Int) = qq := ⟨_, rfl⟩
      rw [hqq] at HLX
      have HQQ := Lib.hid hqq
      clear hp HPC hX hg1 hln hqq
      go_wp2_with fail
      refine HL2.out.mono ?_
      rintro e w9 ⟨pp, ec, rfl, hlp, b9⟩
      have c0 := cell_later b9 c0
      have c1 := cell_later b9 c1
      have p0 := cell_later b9 p0
      have p1 := cell_later b9 p1
      have HB9 := Lib.hid b9
      have HLP9 := Lib.hid hlp
      clear b9 hlp HL2
      go_wp2_with fail
      refine (HGRR.out _ HB9.out).mono ?_
      rintro e wG ⟨rfl, bG⟩
      have HCG := Lib.hid (⟨cell_later bG c0, cell_later bG c1⟩ : wG.cell? ⟨w.heap.size, 0, none⟩ = some (.int .i64 b) ∧ wG.cell? ⟨w.heap.size, 1, none⟩ = some (.int .i64 k))
      have p0 := cell_later bG p0
      have p1 := cell_later bG p1
      have c0 := HCG.out.1
      have c1 := HCG.out.2
      have HBG := Lib.hid (HB8.out.trans ((HB9.out.trans (bG.mono HB9.out.size)).mono HB8.out.size))
      have HLPG := Lib.hid (HLP9.out.call HD.out bG)
      have HLG := Lib.hid ((HL8.out.call HB9.out).call bG)
      clear bG HGRR
      go_wp2_with fail
      go_loopw [18, 19, 20] (fun wv sv iv wr => ∃ (n : Nat) (s : Int), n ≤ ln ∧ iv = .int .i64 n ∧ sv = .int .u64 s ∧ WantS b L n wv s ∧ Below wG.heap.size wG wr) (fun _ _ iv _ => ln - (intOf iv).toNat)
      case atStart => exact ⟨0, 0, Nat.zero_le _, rfl, rfl, Or.inl ⟨rfl, rfl, rfl⟩, Below.refl _ _⟩
      case round =>
        obtain ⟨n, s, hn, rfl, rfl, hws, hbw⟩ := hrel
        have HBW := Lib.hid hbw
        have c0 := cell_later hbw HCG.out.1
        have c1 := cell_later hbw HCG.out.2
        clear hbw p0 p1
        rcases hws with ⟨rfl, hw1, hs1⟩ | ⟨rfl, hw1⟩
        case inr =>
          have hxf : X = false := by
            rw [HLX.out, wantN_mono HPOS.out hw1 ln hn (by rw [HLN.out]; exact Nat.le_refl _)]; rfl
          subst hxf
          obtain ⟨rfl, rfl⟩ := HLPG.out.no
          clear hw1
          go_wp2_with fail
          go_loopg [18] (0 : Nat) (fun g x wr => ∃ n : Nat, n = g ∧ x = .bool false ∧ Below w.heap.size w wr)
          case atStart => exact ⟨0, rfl, rfl, HBG.out.trans (HBW.out.mono HBG.out.size)⟩
          case round =>
            obtain ⟨n, hn, rfl, hbw⟩ := hrel
            go_wp2_with fail
            go_ret
            exact ⟨rfl, hbw⟩
        case inl =>
          have HW1 := Lib.hid hw1
          have HS1 := Lib.hid hs1
          have hsb : 0 ≤ s ∧ s ≤ 9223372036854775807 := by
            have h0 := (sumP_take (L := L) n HPOS.out).1
            unfold wantN at hw1
            have h1 := of_decide_eq_true (Bool.and_eq_true_iff.1 hw1).1
            rw [hs1]; exact ⟨h0, h1⟩
          obtain ⟨sb0, sb1⟩ := hsb
          clear hw1 hs1
          by_cases hlt : n < ln
          · have kl : (n : Int) < ln := by omega
            have hx : L[n]? = some (L[n]'(by rw [HLN.out]; exact hlt)) := List.getElem?_eq_getElem _
            generalize hit : L[n]'(by rw [HLN.out]; exact hlt) = p at *
            obtain ⟨px, pc⟩ := p
            obtain ⟨bb, off, rfl, hbl, e0, e1⟩ := (HLG.out.call HBW.out).at_ n _ hx
            have hmem := List.mem_of_getElem? hx
            have hok := HOKL.out _ hmem
            have hcm := HCM.out _ hmem
            have HWN := Lib.hid (wantN_next (b := b) hx HPOS.out)
            have HSN := Lib.hid (show sumP (L.take (n + 1)) = s + pc by rw [take_snocP hx, sumP_app, sumP_one, HS1.out])
            have HG1 := Lib.hid (fun W => HG16.out W px hok.1)
            obtain ⟨⟨o1, o2⟩, o3, o4⟩ := hok
            simp only at e0 e1 o1 o2 o3 o4 hcm HWN HG1
            have sw : IntKind.u64.wrap (s + pc) = s + pc := by rw [IntKind.wrap_u64]; omega
            clear hx hit hmem
            by_cases hbig : s + pc < 9223372036854775808
            · have hd1 : decide (s + pc < 9223372036854775808) = true := decide_eq_true hbig
              obtain ⟨gd, hgd⟩ : ∃ gd, (decide (1 ≤ px) && decide (px < ((2 ^ (b + 1) : Nat) : Int))) = gd := ⟨_, rfl⟩
              rw [hgd] at HWN HG1
              have HWW : Hid (wantN b L (n + 1) = gd) := Lib.hid (by
                rw [HWN.out, HW1.out, HSN.out, decide_eq_true (show s + pc ≤ 9223372036854775807 by omega)]; simp)
              have HS0 : Hid (wr.drew.cell? ⟨w.heap.size, 0, none⟩ = some (.int .i64 b) ∧ wr.drew.cell? ⟨bb, off + n * 2, none⟩ = some (.int .i64 px) ∧ Below wG.heap.size wG wr.drew) := Lib.hid ⟨c0, e0, HBW.out.drew⟩
              have HST := Lib.hid (fun (W W' : World) (h : W.cell? ⟨w.heap.size, 0, none⟩ = some (.int .i64 b) ∧ W.cell? ⟨bb, off + n * 2, none⟩ = some (.int .i64 px) ∧ Below wG.heap.size wG W) (hb : Below W.heap.size W W') => (⟨cell_later hb h.1, cell_later hb h.2.1, h.2.2.trans (hb.mono h.2.2.size)⟩ : W'.cell? ⟨w.heap.size, 0, none⟩ = some (.int .i64 b) ∧ W'.cell? ⟨bb, off + n * 2, none⟩ = some (.int .i64 px) ∧ Below wG.heap.size wG W'))
              clear hgd hcm
              go_wp2_with fail
              go_region_held3 (fun w' => w'.cell? ⟨w.heap.size, 0, none⟩ = some (.int .i64 b) ∧ w'.cell? ⟨bb, off + n * 2, none⟩ = some (.int .i64 px) ∧ Below wG.heap.size wG w')
                (first | exact HS0.out | exact HST.out _ _ (by assumption) hbA | assumption)
                ((go_at_call 27; with_reducible refine (HG1.out _).mono ?_; rintro e wA ⟨rfl, hbA⟩))
              all_goals
                rename_i hHeld
                have HBA := Lib.hid hHeld.2.2
                clear hHeld HS0 HST
                go_wp2_with fail
                go_roundw
                case rel =>
                  refine ⟨n + 1, s + pc, by omega, by go_num, rfl, ?_, HBA.out⟩
                  cases gd with
                  | true => exact Or.inl ⟨rfl, HWW.out, by rw [HSN.out]⟩
                  | false => exact Or.inr ⟨rfl, HWW.out⟩
                case measure => simp [intOf]; omega
            · have hd1 : decide (s + pc < 9223372036854775808) = false := decide_eq_false hbig
              have HWW : Hid (wantN b L (n + 1) = false) := Lib.hid (by
                rw [HWN.out, HSN.out, decide_eq_false (show ¬ s + pc ≤ 9223372036854775807 by omega)]; simp)
              clear hcm
              go_wp2_with fail
              go_quiet (fail)
              rename_i nq
              have HBA : Hid (Below wG.heap.size wG (wr.drewN nq)) := Lib.hid (below_drewN HBW.out nq)
              go_wp2_with fail
              go_roundw
              case rel => exact ⟨n + 1, s + pc, by omega, by go_num, rfl, Or.inr ⟨rfl, HWW.out⟩, HBA.out⟩
              case measure => simp [intOf]; omega
          · obtain rfl : n = ln := by omega
            have kl : ¬ (n : Int) < n := by omega
            have hsL : s = sumP L := by rw [HS1.out, List.take_of_length_le (by rw [HLN.out]; exact Nat.le_refl n)]
            have HSL := Lib.hid hsL
            have HXS : Hid (X = smallN b qq L n) := Lib.hid (by rw [HLX.out, HW1.out, Bool.true_and])
            have hq0 : 0 ≤ qq ∧ qq ≤ s := by
              rw [← HQQ.out, ← hsL]
              exact ⟨Int.ediv_nonneg sb0 (by omega), Int.ediv_le_self _ sb0⟩
            obtain ⟨wI, hwI⟩ : ∃ wI, wI = wr := ⟨_, rfl⟩
            subst hwI
            clear hsL
            go_wp2_with fail
            go_loopw [18, 21] (fun wv iv wr => ∃ m : Nat, m ≤ n ∧ iv = .int .i64 m ∧ wv = .bool (smallN b qq L m) ∧ Below wG.heap.size wG wr) (fun _ iv _ => n - (intOf iv).toNat)
            case atStart => exact ⟨0, Nat.zero_le _, rfl, rfl, HBW.out⟩
            case round =>
              obtain ⟨m, hm, rfl, rfl, hbm⟩ := hrel
              have HBM := Lib.hid hbm
              have c0 := cell_later hbm HCG.out.1
              have c1 := cell_later hbm HCG.out.2
              clear hbm
              obtain ⟨sm, hsm⟩ : ∃ sm, smallN b qq L m = sm := ⟨_, rfl⟩
              rw [hsm]
              cases sm with
              | false =>
                have hxf : X = false := by rw [HXS.out]; exact smallN_mono hsm n hm (by rw [HLN.out]; exact Nat.le_refl _)
                subst hxf
                obtain ⟨rfl, rfl⟩ := HLPG.out.no
                have HF := Lib.hid (HBG.out.trans (HBM.out.mono HBG.out.size))
                clear hsm
                go_wp2_with fail
                go_ret
                exact ⟨rfl, HF.out⟩
              | true =>
                have HSM := Lib.hid hsm
                clear hsm
                by_cases hlt2 : m < n
                · have kl2 : (m : Int) < n := by omega
                  have hx : L[m]? = some (L[m]'(by rw [HLN.out]; exact hlt2)) := List.getElem?_eq_getElem _
                  generalize hit : L[m]'(by rw [HLN.out]; exact hlt2) = p at *
                  obtain ⟨px, pc⟩ := p
                  obtain ⟨bb, off, rfl, hbl, e0, e1⟩ := (HLG.out.call HBM.out).at_ m _ hx
                  have hok := HOKL.out _ (List.mem_of_getElem? hx)
                  have HSN := Lib.hid (smallN_next (b := b) (q := qq) hx)
                  obtain ⟨⟨o1, o2⟩, o3, o4⟩ := hok
                  simp only at e0 e1 o1 o2 o3 o4 HSN
                  have hlvb : ((2 ^ b : Nat) : Int) = (lv : Int) := by rw [HLV.out]
                  rw [hlvb, HSM.out, Bool.true_and] at HSN
                  clear hx hit hlvb
                  by_cases hge : (lv : Int) ≤ px
                  · have hge1 : decide ((lv : Int) ≤ px) = true := decide_eq_true hge
                    have HSS : Hid (smallN b qq L (m + 1) = true) := Lib.hid (by rw [HSN.out, hge1]; rfl)
                    go_wp2_with fail
                    go_quiet (fail)
                    rename_i nq
                    have HBA : Hid (Below wG.heap.size wG (wr.drewN nq)) := Lib.hid (below_drewN HBM.out nq)
                    go_wp2_with fail
                    go_roundw
                    case rel => exact ⟨m + 1, by omega, by go_num, by rw [HSS.out], HBA.out⟩
                    case measure => simp [intOf]; omega
                  · have hge1 : decide ((lv : Int) ≤ px) = false := decide_eq_false hge
                    have kz : ¬ (k : Int) = 0 := by omega
                    have kw : IntKind.u64.wrap (k : Int) = (k : Int) := by rw [IntKind.wrap_u64]; omega
                    have hqs : s / (k : Int) = qq := by rw [← HQQ.out, HSL.out]
                    have hqt : s.tdiv (k : Int) = qq := by rw [Int.tdiv_eq_ediv_of_nonneg sb0]; exact hqs
                    have hqw : IntKind.u64.wrap qq = qq := by rw [IntKind.wrap_u64]; omega
                    by_cases hle : pc ≤ qq
                    · have hle1 : decide (pc ≤ qq) = true := decide_eq_true hle
                      have HSS : Hid (smallN b qq L (m + 1) = true) := Lib.hid (by rw [HSN.out, hge1, hle1]; rfl)
                      go_wp2_with fail
                      go_quiet (fail)
                      rename_i nq
                      have HBA : Hid (Below wG.heap.size wG (wr.drewN nq)) := Lib.hid (below_drewN HBM.out nq)
                      go_wp2_with fail
                      go_roundw
                      case rel => exact ⟨m + 1, by omega, by go_num, by rw [HSS.out], HBA.out⟩
                      case measure => simp [intOf]; omega
                    · have hle1 : decide (pc ≤ qq) = false := decide_eq_false hle
                      have HSS : Hid (smallN b qq L (m + 1) = false) := Lib.hid (by rw [HSN.out, hge1, hle1]; rfl)
                      go_wp2_with fail
                      go_quiet (fail)
                      rename_i nq
                      have HBA : Hid (Below wG.heap.size wG (wr.drewN nq)) := Lib.hid (below_drewN HBM.out nq)
                      go_wp2_with fail
                      go_roundw
                      case rel => exact ⟨m + 1, by omega, by go_num, by rw [HSS.out], HBA.out⟩
                      case measure => simp [intOf]; omega
                · obtain rfl : m = n := by omega
                  have kl2 : ¬ (m : Int) < m := by omega
                  have hxt : X = true := by rw [HXS.out]; exact HSM.out
                  subst hxt
                  obtain ⟨rfl, B9, S9, rfl, hx9⟩ := HLPG.out.yes
                  have HTT := Lib.hid (HD.out.total wr B9 S9 b k L _ (HD.out.call hx9 HBM.out))
                  rw [← HSL.out] at HTT
                  clear hx9
                  go_wp2_with fail
                  refine HTT.out.mono ?_
                  rintro e wT ⟨rfl, bT⟩
                  have HF := Lib.hid (HBG.out.trans ((HBM.out.trans (bT.mono HBM.out.size)).mono HBG.out.size))
                  clear bT
                  go_wp2_with fail
                  go_ret
                  exact ⟨rfl, HF.out⟩
    · have hL0 : L = [] := by
        cases hL : L with
        | nil => rfl
        | cons a r => rw [hL] at g6; simp at g6 <;> omega
      subst hL0
      obtain rfl : hi = 0 := by simpa using g7
      obtain rfl : lo = 0 := by
        have h3 := of_decide_eq_true g3
        have h4 := of_decide_eq_true g4
        omega
      have hX : loadG b k [] 0 0 = true := by rw [HLP.out, hp]; rfl
      have HUN := Lib.hid (HD.out.load w8 b k al kl [] 0 0 q1 q2 q3 q4 HL8.out (by omega) HLO.out HHI.out hX)
      clear hp HPC g6 g7 hX
      rw [List.length_nil] at HUN g2 ⊢
      go_wp2_with fail
      refine HUN.out.mono ?_
      rintro e w9 ⟨B9, S9, rfl, hx9, hs9, b9⟩
      have c0 := cell_later b9 c0
      have c1 := cell_later b9 c1
      have p0 := cell_later b9 p0
      have p1 := cell_later b9 p1
      have HB9 := Lib.hid (HB8.out.trans (b9.mono HB8.out.size))
      have HGR := Lib.hid (rgood_row w9 al kl [] _ rfl (HL8.out.call b9) (by omega))
      have HX9 := Lib.hid hx9
      rw [g1, List.length_nil] at HGR
      clear b9 HUN hx9 hs9
      go_wp2_with fail
      refine HGR.out.mono ?_
      rintro e wG ⟨rfl, bG⟩
      have c0 := cell_later bG c0
      have c1 := cell_later bG c1
      have p0 := cell_later bG p0
      have p1 := cell_later bG p1
      have HBG := Lib.hid (HB9.out.trans (bG.mono HB9.out.size))
      have HXG := Lib.hid (HD.out.call HX9.out bG)
      have HTG := Lib.hid (fun W (h : Below wG.heap.size wG W) => HD.out.total W B9 S9 b k [] _ (HD.out.call HXG.out h))
      have hs0 : sumP [] = 0 := rfl
      rw [hs0] at HTG
      clear bG HGR hs0
      go_wp2_with fail
      go_loopg [18, 19, 20] (0 : Nat) (fun g x y z wr => ∃ n : Nat, n = g ∧ x = .bool true ∧ y = .int .u64 0 ∧ z = .int .i64 0 ∧ Below wG.heap.size wG wr)
      case atStart => exact ⟨0, rfl, rfl, rfl, rfl, Below.refl _ _⟩
      case round =>
        obtain ⟨n, hn, rfl, rfl, rfl, hbw⟩ := hrel
        have HBW := Lib.hid hbw
        clear hbw c0 c1 p0 p1
        go_wp2_with fail
        go_loopg [18, 21] (0 : Nat) (fun g x z wr => ∃ n : Nat, n = g ∧ x = .bool true ∧ z = .int .i64 0 ∧ Below wG.heap.size wG wr)
        case atStart => exact ⟨0, rfl, rfl, rfl, HBW.out⟩
        case round =>
          obtain ⟨n, hn, rfl, rfl, hbw⟩ := hrel
          have HBW2 := Lib.hid hbw
          clear hbw
          go_wp2_with fail
          refine (HTG.out _ HBW2.out).mono ?_
          rintro e wT ⟨rfl, bT⟩
          have HF := Lib.hid (HBG.out.trans ((HBW2.out.trans (bT.mono HBW2.out.size)).mono HBG.out.size))
          clear bT
          go_wp2_with fail
          go_ret
          exact ⟨rfl, HF.out⟩
    · have hL0 : L = [] := by
        cases hL : L with
        | nil => rfl
        | cons a r => rw [hL] at g6; simp at g6 <;> omega
      subst hL0
      have HUN := Lib.hid (HD.out.unfit w8 b k al kl [] lo hi q1 q2 q3 q4 HL8.out (by omega) HLO.out HHI.out (by rw [HLP.out, hp]; rfl))
      clear hp HPC g6
      rw [List.length_nil] at HUN g2 ⊢
      go_wp2_with fail
      refine HUN.out.mono ?_
      rintro e w9 ⟨rfl, b9⟩
      have c0 := cell_later b9 c0
      have c1 := cell_later b9 c1
      have p0 := cell_later b9 p0
      have p1 := cell_later b9 p1
      have HB9 := Lib.hid (HB8.out.trans (b9.mono HB8.out.size))
      have HGR := Lib.hid (rgood_row w9 al kl [] _ rfl (HL8.out.call b9) (by omega))
      rw [g1, List.length_nil] at HGR
      clear b9 HUN
      go_wp2_with fail
      refine HGR.out.mono ?_
      rintro e wG ⟨rfl, bG⟩
      have c0 := cell_later bG c0
      have c1 := cell_later bG c1
      have p0 := cell_later bG p0
      have p1 := cell_later bG p1
      have HBG := Lib.hid (HB9.out.trans (bG.mono HB9.out.size))
      clear bG HGR
      go_wp2_with fail
      go_loopg [18] (0 : Nat) (fun g x wr => ∃ n : Nat, n = g ∧ x = .bool false ∧ Below w.heap.size w wr)
      case atStart => exact ⟨0, rfl, rfl, HBG.out⟩
      case round =>
        obtain ⟨n, hn, rfl, hbw⟩ := hrel
        have HBW := Lib.hid hbw
        clear hbw c0 c1 p0 p1
        go_wp2_with fail
        go_loopg [18] (0 : Nat) (fun g x wr => ∃ n : Nat, n = g ∧ x = .bool false ∧ Below w.heap.size w wr)
        case atStart => exact ⟨0, rfl, rfl, HBW.out⟩
        case round =>
          obtain ⟨n, hn, rfl, hbw⟩ := hrel
          go_wp2_with fail
          go_ret
          exact ⟨rfl, hbw⟩
end Go.Proofs.YthjcdbnjmpjikaaGreat
