/-
  The law DigestJoins, walked from the contract.
-/
import Derived.Test.YthjcdbnjmpjikaaGreatK4
import Derived.Test.YthjcdbnjmpjikaaGreatQDigX
namespace Go.Proofs.YthjcdbnjmpjikaaGreat
set_option linter.unusedVariables false
set_option linter.unusedSimpArgs false
open Go.RowKit

theorem squeeze_few {most : Nat} {q : Int} {R : List PairV} (h : R.length ≤ most) : squeezeD most q R = R := by unfold squeezeD; rw [if_pos h]
/-- A join, of one without values too. -/
theorem djoin_any {Dg : DgT} (D : DigDoes Dg) (w : World) (B : Nat) (S : Nat → Prop) (b k : Nat) (R : List PairV) (e : Int × Int × Bool) (B' : Nat) (S' : Nat → Prop) (R' : List PairV) (e' : Int × Int × Bool) (h : Dg w B S b k R e) (h' : Dg w B' S' b k R' e') (hne : ∀ i, S i → ¬ S' i) (he : R' = [] → e'.2.2 = false) (hs : sumP R + sumP R' ≤ 9223372036854775807) :
    Calls Tryz.prog 23 #[.pointer (some ⟨B, 0, none⟩), .pointer (some ⟨B', 0, none⟩)] w fun r w' => ∃ S2, r = .returned (.int .i64 0) ∧ Dg w' B S2 b k (squeezeD (4 * k) ((sumP R + sumP R') / k) (joinD R R')) (joinE e e') ∧ Keeps S w w' ∧ (∀ i, S2 i → S i ∨ w.heap.size ≤ i) := by
  by_cases hR : R' = []
  · subst hR
    refine (D.none_ w B S b k R e B' S' e' h h').mono ?_
    rintro r w' ⟨rfl, hb⟩
    have e1 : joinD R [] = R := rfl
    have e2 : joinE e e' = e := by unfold joinE; rw [he rfl]; rfl
    rw [e1, e2, squeeze_few (D.ok _ _ _ _ _ _ _ h).few]
    exact ⟨S, rfl, D.call h hb, Keeps.of_below hb, fun i hi => Or.inl hi⟩
  · exact D.join w B S b k R e B' S' R' e' h h' hne hR hs
theorem pairs_past2 {w w' : World} {M N : Nat} {A : Option Addr} {cap : Nat} {L : List PairV} (ho : OwnP w (N + 1) (.slice A L.length cap) L) (hMN : M ≤ N) (hok : ∀ p, p ∈ L → okP p) (hg : w.grownBy w' (some M)) : Pairs w' A L :=
  pairs_pastG (World.ownsRow.mono ho (by omega)) hok hg
theorem has_nil {b k : Nat} {R A : List PairV} (h : HasG b k R A) (hf : FineG b A) (hR : R = []) : A = [] := by
  have h1 := h.dig.sum
  rw [hR, sumP_nil] at h1
  apply Classical.byContradiction
  intro hA
  have := fineG_sum0 hf hA
  omega
theorem end_nil {A : List PairV} (h : A = []) : (endAD A).2.2 = false := by rw [h]; rfl

set_option maxRecDepth 100000 in
set_option maxHeartbeats 16000000 in
theorem digest_joins_walk {Dg : DgT} (D : DigDoes Dg) (d f : Int) (A : List PairV) (a : Option Addr) (cap : Nat) (A2 : List PairV) (a2 : Option Addr) (cap2 : Nat) (pa pb : Int) (hd : I64 d) (hf : I64 f) (wa : Word pa) (wb : Word pb) (w : World) (hA : Pairs w a A) (hl : A.length ≤ 140737488351232) (hA2 : Pairs w a2 A2) (hl2 : A2.length ≤ 140737488351232) :
    Calls Tryz.prog 6 #[.agg #[.int .i64 d, .int .i64 f], .slice a A.length cap, .slice a2 A2.length cap2, .agg #[.int .u64 pa, .int .u64 pb]] w fun e w' => e = .returned (.bool true) ∧ Below w.heap.size w w' := by
  have HD := Lib.hid D
  have HA := Lib.hid hA
  have HA2 := Lib.hid hA2
  have HAL := Lib.hid (fun W => alive17_any D W)
  have HBD := Lib.hid (fun W hW => build17_any D W d f A a cap hd hf hW hl)
  have HBE := Lib.hid (fun W hW => build17_any D W d f A2 a2 cap2 hd hf hW hl2)
  have HBX := Lib.hid (boxes_new w (.int .i64 d) (.int .i64 f) (.int .u64 pa) (.int .u64 pb) 23 27)
  obtain ⟨c0, c1, p0, p1, b0⟩ := HBX.out
  have HWA := Lib.hid wa
  have HWB := Lib.hid wb
  clear hA hA2 D
  go_enter Tryz.func6, Tryz.ntmps6
  go_wp2_with fail
  refine (HAL.out _).mono ?_
  rintro e w1 ⟨rfl, b1'⟩
  have HB1 := Lib.hid (boxg_later HBX.out b1')
  clear c0 c1 p0 p1 b0 b1' HBX HAL
  obtain ⟨c0, c1, p0, p1, b1⟩ := HB1.out
  go_wp2_with fail
  refine (HBD.out _ (HA.out.call b1)).mono ?_
  rintro e w2 (⟨B, S, M, b, k, v, rfl, rfl, rfl, q1, q2, q3, q4, hfi, hl60, hdg, hrg, hS, hM, hSM, hvS, b2'⟩ | ⟨rfl, b2'⟩)
  case inr =>
    have HB2 := Lib.hid (boxg_later HB1.out b2')
    clear c0 c1 p0 p1 b1 b2'
    obtain ⟨c0, c1, p0, p1, b2⟩ := HB2.out
    go_wp2_with fail
    refine (HBE.out _ (HA2.out.call b2)).mono ?_
    rintro e w3 (⟨B', S', M', b', k', v', rfl, e1, e2, t1, t2, t3, t4, hfi', hl60', hdg', hrg', hS', hM', hSM', hvS', b3'⟩ | ⟨rfl, b3'⟩)
    · have b3 := b2.trans (b3'.mono b2.size)
      clear b3' hdg' hrg' hfi'
      go_wp2_with fail
      go_ret
      exact ⟨rfl, b3⟩
    · have b3 := b2.trans (b3'.mono b2.size)
      clear b3'
      go_wp2_with fail
      go_ret
      exact ⟨rfl, b3⟩
  have HB2 := Lib.hid (boxg_later HB1.out b2')
  have HS1 : Hid (∀ i, S i → w.heap.size + 1 < i) := Lib.hid fun i hi => by
    have := hS i hi
    have := World.block_lt_of_cell? (a := ⟨w.heap.size + 1, 0, none⟩) w1 HB1.out.2.2.1
    simp only at this
    omega
  have HM1 : Hid (w.heap.size + 1 < M) := Lib.hid (by
    have := World.block_lt_of_cell? (a := ⟨w.heap.size + 1, 0, none⟩) w1 HB1.out.2.2.1
    simp only at this
    omega)
  clear c0 c1 p0 p1 b1 b2' hS hM
  obtain ⟨c0, c1, p0, p1, b2⟩ := HB2.out
  have HDG := Lib.hid hdg
  have HRG := Lib.hid hrg
  have HSM := Lib.hid hSM
  have HVS := Lib.hid hvS
  have HFI := Lib.hid hfi
  clear hdg hrg hSM hvS hfi HBD
  go_wp2_with fail
  refine (HBE.out _ (HA2.out.call b2)).mono ?_
  rintro e w3 (⟨B', S', M', b', k', v', rfl, e1, e2, t1, t2, t3, t4, hfi', hl60', hdg', hrg', hS', hM', hSM', hvS', b3'⟩ | ⟨rfl, b3'⟩)
  case inr =>
    have b3 := b2.trans (b3'.mono b2.size)
    clear b3'
    go_wp2_with fail
    go_ret
    exact ⟨rfl, b3⟩
  obtain rfl : b = b' := by omega
  obtain rfl : k = k' := by omega
  clear e1 e2 t1 t2 t3 t4 HBE
  have HB3 := Lib.hid (boxg_later HB2.out b3')
  have HH := HFI.out.has (k := k) q3 (by omega)
  have HH' := hfi'.has (k := k) q3 (by omega)
  have hs1 := fineG_sum HFI.out
  have hs2 := fineG_sum hfi'
  have hr1 := HH.row (by omega)
  have hr2 := HH'.row (by omega)
  have hf1 := HH.few
  have hf2 := HH'.few
  have hm1 := HH.dig.sum
  have hm2 := HH'.dig.sum
  have hHJ := HH.join HH' q3 (by omega)
  have hFJ := HFI.out.app hfi'
  have hnil : rowD b k A2 = [] → (endAD A2).2.2 = false := fun h => end_nil (has_nil HH' hfi' h)
  have HDJ := Lib.hid (djoin_any HD.out w3 B S b k _ _ B' S' _ _ (HD.out.call HDG.out b3') hdg' (fun i hi h => by
    have := HD.out.lt _ _ _ _ _ _ _ HDG.out i hi
    have := hS' i h
    omega) hnil (by omega))
  have HLS := Lib.hid (HD.out.lt _ _ _ _ _ _ _ HDG.out)
  have HMS := Lib.hid HRG.out.lt
  have HR3 := Lib.hid (HRG.out.call b3')
  have HSL := Lib.hid (HRG.out.own.lt)
  generalize rowD b k A = R1 at *
  generalize rowD b k A2 = R2 at *
  obtain ⟨R3, hR3⟩ : ∃ R3, squeezeD (4 * k) ((sumP R1 + sumP R2) / k) (joinD R1 R2) = R3 := ⟨_, rfl⟩
  have HJ := Lib.hid hHJ
  have HFJ := Lib.hid hFJ
  have HEJ := Lib.hid (endA_app A A2)
  rw [hR3] at HDJ HJ
  rw [← HEJ.out] at HDJ
  have hok2 := hr2.ok q2
  obtain ⟨aR, kR, rfl, hpR⟩ := hrg'.row hok2
  have hz3 := b3'.size
  have HRJ := Lib.hid (fun W v1 h1 h2 h3 => rjoin17_any W M M' b k v1 R1 R2 ((sumP R1 + sumP R2) / k) aR kR h1 q2 hr1 hr2 (by omega) (by omega) q3 q4 h2 h3 (by omega) rfl)
  rw [hR3] at HRJ
  have HRG' := Lib.hid hrg'
  have HDG' := Lib.hid hdg'
  have HS' := Lib.hid hS'
  have HM' := Lib.hid hM'
  have HSM' := Lib.hid hSM'
  have HVS' := Lib.hid hvS'
  have HOK2 := Lib.hid hok2
  have HHS := Lib.hid (show sumP A + sumP A2 ≤ 140000000000000000 by omega)
  have hb3 := b2.trans (b3'.mono b2.size)
  clear c0 c1 p0 p1 b2
  obtain ⟨c0, c1, p0, p1, b3⟩ := HB3.out
  have m2 := HRG'.out.c2
  clear hHJ hFJ hnil hR3 hrg' hdg' hS' hM' hSM' hvS' hok2 hpR hr1 hr2 hs1 hs2 hm1 hm2 hf1 hf2 HH HH' hb3
  go_wp2_with fail
  refine HDJ.out.mono ?_
  rintro e w4 ⟨S3, rfl, hx4, hk4, hS4⟩
  have nS : ∀ i, i ≤ w.heap.size + 1 → ¬ S i := fun i hi h => by have := HS1.out i h; omega
  have HX4 := Lib.hid hx4
  have HR4 := Lib.hid (HR3.out.past hk4 HSM.out HVS.out)
  have HU4 := Lib.hid (HRG'.out.past hk4 (fun h => by have := HLS.out _ h; have := HM'.out; omega) (fun g hg h => by have := HLS.out _ h; have := (HRG'.out.own.lt g hg).1; have := HM'.out; omega))
  have HY4 := Lib.hid (HD.out.past HDG'.out hk4 (fun i hi h => by have := HLS.out _ h; have := HS'.out i hi; omega))
  have HB4 := Lib.hid (Keeps.below b3 hk4 b3.size (fun i hi => by have := HS1.out i hi; omega))
  have HC4 := Lib.hid (show w4.cell? ⟨w.heap.size, 0, none⟩ = some (.int .i64 b) ∧ w4.cell? ⟨w.heap.size, 1, none⟩ = some (.int .i64 k) ∧ w4.cell? ⟨w.heap.size + 1, 0, none⟩ = some (.int .u64 pa) ∧ w4.cell? ⟨w.heap.size + 1, 1, none⟩ = some (.int .u64 pb) from
    ⟨hk4.cell (nS _ (by omega)) HB3.out.1, hk4.cell (nS _ (by omega)) HB3.out.2.1, hk4.cell (nS _ (by omega)) HB3.out.2.2.1, hk4.cell (nS _ (by omega)) HB3.out.2.2.2.1⟩)
  have HN3 : Hid (¬ S3 M) := Lib.hid fun h => by
    rcases hS4 M h with h | h
    · exact HSM.out h
    · have := HMS.out; omega
  have HMM : Hid (M ≤ M' ∧ M < w2.heap.size) := Lib.hid (by have := HMS.out; have := HM'.out; omega)
  have HJ4 := Lib.hid (HRJ.out w4 v HR4.out HU4.out.c2 (fun W' hg => pairs_past2 HU4.out.own HMM.out.1 HOK2.out hg))
  clear c0 c1 p0 p1 b3 m2 nS hx4 hk4 hS4 HDJ HRJ hz3
  go_wp2_with fail
  refine HJ4.out.mono ?_
  rintro e w5 ⟨rfl, ⟨v5, hr5, _⟩, hg5⟩
  have HR5 := Lib.hid hr5
  have HX5 := Lib.hid (HD.out.grown HX4.out hg5 HN3.out)
  have HY5 := Lib.hid (HD.out.grown HY4.out hg5 (fun h => by have := HS'.out _ h; have := HMM.out; omega))
  have HP5 := Lib.hid (pairs_past2 HU4.out.own HMM.out.1 HOK2.out hg5)
  have HB5 := Lib.hid (Below.grown HB4.out hg5 HB4.out.size (fun x hx => by have := Option.some.inj hx; have := HM1.out; omega))
  have hne : M ≠ w.heap.size ∧ M ≠ w.heap.size + 1 := by have := HM1.out; omega
  have HC5 := Lib.hid (show w5.cell? ⟨w.heap.size, 0, none⟩ = some (.int .i64 b) ∧ w5.cell? ⟨w.heap.size, 1, none⟩ = some (.int .i64 k) ∧ w5.cell? ⟨w.heap.size + 1, 0, none⟩ = some (.int .u64 pa) ∧ w5.cell? ⟨w.heap.size + 1, 1, none⟩ = some (.int .u64 pb) from
    ⟨cell_grown hg5 (fun h => hne.1 h.symm) HC4.out.1, cell_grown hg5 (fun h => hne.1 h.symm) HC4.out.2.1, cell_grown hg5 (fun h => hne.2 h.symm) HC4.out.2.2.1, cell_grown hg5 (fun h => hne.2 h.symm) HC4.out.2.2.2⟩)
  have hO6 := World.ownsRow_made (base := w5.heap.size) (e := 44) (size := 2) w5 #[] 0 (by simp) (by decide) rfl
  have HO6 : Hid (OwnVD (w5.alloc (.cells #[] 44)) w5.heap.size (.slice (some ⟨w5.heap.size, 0, none⟩) 0 0) []) := Lib.hid hO6
  have HB7 : Hid (Below w5.heap.size w5 (w5.alloc (.cells #[] 44))) := Lib.hid ((Below.refl _ _).alloc (Nat.le_refl _) _)
  have HP7 : Hid (Pairs (w5.alloc (.cells #[] 44)) a A) := Lib.hid (HA.out.call (HB5.out.trans (HB7.out.mono HB5.out.size)))
  clear hO6 hr5 hg5 hne
  go_wp2_with (at_builtin; refine wpList_append_valsD rfl (.tmp 60) (.tmp 61) rfl w5.heap.size _ [] a cap A rfl HO6.out rfl HP7.out ?c1 ?c2 ?_)
  case c1 => simp; omega
  case c2 => exact HB7.out.size
  intro v7 w7 hown7' hg7
  have hown7 : OwnVD w7 w5.heap.size v7 A := hown7'
  clear hown7'
  have hb7 : Below w5.heap.size w5 w7 := HB7.out.grown hg7 HB7.out.size (fun k hk => by cases hk; exact Nat.le_refl _)
  obtain ⟨A7, k7, rfl⟩ := hown7.form
  have HO7 := Lib.hid hown7
  have HB8 := Lib.hid hb7
  have HP8 := Lib.hid (HA2.out.call (HB5.out.trans (hb7.mono HB5.out.size)))
  clear hown7 hg7 hb7 HO6 HP7 HB7
  go_wp2_with (at_builtin; refine wpList_append_valsD rfl (.tmp 62) (.tmp 63) rfl w5.heap.size _ A a2 cap2 A2 rfl HO7.out rfl HP8.out ?d1 ?d2 ?_)
  case d1 => omega
  case d2 => exact HB8.out.size
  intro v9 w9 hown9 hg9
  have hb9 : Below w5.heap.size w5 w9 := OwnVD.below HO7.out HB8.out hg9 HB8.out.size
  have hokk : ∀ p, p ∈ A ++ A2 → okP p := fun p hp => by
    rcases List.mem_append.1 hp with h | h
    · exact HA.out.ok p h
    · exact HA2.out.ok p h
  obtain ⟨a9, k9, rfl⟩ := hown9.form
  have HV9 := Lib.hid (hown9.row hokk)
  have hl12 : (A ++ A2).length ≤ 120 := by rw [List.length_append]; omega
  obtain ⟨AA, hAA⟩ : ∃ AA, A ++ A2 = AA := ⟨_, rfl⟩
  rw [hAA] at HV9 HJ HFJ HX5 hl12 ⊢
  have HSA : Hid (0 ≤ sumP AA ∧ sumP AA ≤ 140000000000000000) := Lib.hid ⟨(fineG_sum HFJ.out).1, by rw [← hAA, sumP_app]; exact HHS.out⟩
  have hsZ : AA ≠ [] → 0 < sumP AA := fun h => fineG_sum0 HFJ.out h
  obtain ⟨T, hT⟩ : ∃ T, sumP AA = T := ⟨_, rfl⟩
  rw [hT] at HSA hsZ
  have hsA0 := HSA.out.1
  have hsA := HSA.out.2
  have hsR : sumP R3 = T := by rw [HJ.out.dig.sum, hT]
  have hr3 := HJ.out.row (by rw [hT]; omega)
  have hf3 := HJ.out.few
  have HB9 := Lib.hid (HB5.out.trans (hb9.mono HB5.out.size))
  have HX9 := Lib.hid (HD.out.call HX5.out hb9)
  have HY9 := Lib.hid (HD.out.call HY5.out hb9)
  have HP9 := Lib.hid (HP5.out.call hb9)
  have hr9 := HR5.out.call hb9
  obtain ⟨aM, kM, rfl, hpM⟩ := hr9.row (hr3.ok q2)
  have HPM := Lib.hid hpM
  have HCM := Lib.hid hr9.c2
  have c0 := cell_later hb9 HC5.out.1
  have c1 := cell_later hb9 HC5.out.2.1
  have p0 := cell_later hb9 HC5.out.2.2.1
  have p1 := cell_later hb9 HC5.out.2.2.2
  have bz : Below w9.heap.size w9 w9 := Below.refl _ _
  obtain ⟨ex, ey, ez, hee⟩ : ∃ ex ey ez, endAD AA = (ex, ey, ez) := ⟨_, _, _, rfl⟩
  rw [hee] at HX9
  have HEN := Lib.hid (fun W (h : BoxG w.heap.size (.int .i64 b) (.int .i64 k) (.int .u64 pa) (.int .u64 pb) w9 W) => boxg_calls (HD.out.ends W B S3 b k R3 ex ey ez (HD.out.call HX9.out h.2.2.2.2)) h)
  have HER := Lib.hid (fun W (h : BoxG w.heap.size (.int .i64 b) (.int .i64 k) (.int .u64 pa) (.int .u64 pb) w9 W) => boxg_calls (rends17_any W a9 k9 AA ex ey ez (HV9.out.call h.2.2.2.2) (by omega) hee) h)
  have HN1 := Lib.hid (fun W (h : Below w9.heap.size w9 W) => HD.out.nodes W B S3 b k R3 _ (HD.out.call HX9.out h))
  have HN2 := Lib.hid (fun W (h : Below w9.heap.size w9 W) => HD.out.nodes W B' S' b k R2 _ (HD.out.call HY9.out h))
  have hl2' : R2.length ≤ 256 := by have := (HD.out.ok _ _ _ _ _ _ _ HY9.out).few; omega
  have hl3' : R3.length ≤ 256 := by omega
  have HSM1 := Lib.hid (fun W a1 k1 (h1 : Pairs W a1 R3) (h : Below w9.heap.size w9 W) => same_any W a1 aM k1 kM R3 R3 true (by simp) h1 (HPM.out.call h) (by omega) (by omega))
  have HSM2 := Lib.hid (fun W a1 k1 (h1 : Pairs W a1 R2) (h : Below w9.heap.size w9 W) => same_any W a1 aR k1 kR R2 R2 true (by simp) h1 (HP9.out.call h) (by omega) (by omega))
  have HGD := Lib.hid (fun W (h : BoxG w.heap.size (.int .i64 b) (.int .i64 k) (.int .u64 pa) (.int .u64 pb) w9 W) => boxg_calls (rgood_any pa pb HWA.out HWB.out W) h)
  have HTO := Lib.hid (fun W (h : Below w9.heap.size w9 W) => HD.out.total W B S3 b k R3 _ (HD.out.call HX9.out h))
  rw [hsR] at HTO
  have HUP := Lib.hid (fun W y n (hy : I64 y) (hn : whereP (fun u => decide (u ≤ y)) AA = n) (h : Below w9.heap.size w9 W) => rup17_any W a9 k9 AA y n (HV9.out.call h) hy (by omega) (by rw [hT]; omega) hn)
  have HSR := Lib.hid hsR
  have t1 : (!ex == ex) = false := by simp
  have t2 : (!ey == ey) = false := by simp
  have t3 : (ex != ex) = false := by simp
  have t4 : (ey != ey) = false := by simp
  have HHH := Lib.hid HJ.out
  clear hown9 hg9 hokk hAA hT hsR hr3 hf3 hr9 hpM hee hb9
  have HE9 : Hid (Below w.heap.size w w9) := HB9
  go_wp2_with ((first
    | (go_at_call 15; with_reducible refine (HEN.out _ ⟨by assumption, by assumption, by assumption, by assumption, by assumption⟩).mono ?_; rintro e w' ⟨rfl, x0', x1', x2', x3', x4'⟩)
    | (go_at_call 16; with_reducible refine (HER.out _ ⟨by assumption, by assumption, by assumption, by assumption, by assumption⟩).mono ?_; rintro e w' ⟨rfl, x0', x1', x2', x3', x4'⟩)))
  have HS0 := Lib.hid (show w'.drew.cell? ⟨M, 2, none⟩ = some (.slice aM R3.length kM) ∧ BoxG w.heap.size (.int .i64 b) (.int .i64 k) (.int .u64 pa) (.int .u64 pb) w9 w'.drew from ⟨cell_later x4'.drew HCM.out, ⟨cell_later (Below.refl _ _).drew x0', cell_later (Below.refl _ _).drew x1', cell_later (Below.refl _ _).drew x2', cell_later (Below.refl _ _).drew x3', x4'.drew⟩⟩)
  have HST := Lib.hid (fun (W W' : World) (h : W.cell? ⟨M, 2, none⟩ = some (.slice aM R3.length kM) ∧ BoxG w.heap.size (.int .i64 b) (.int .i64 k) (.int .u64 pa) (.int .u64 pb) w9 W) (hb : Below W.heap.size W W') => (⟨cell_later hb h.1, boxg_later h.2 hb⟩ : W'.cell? ⟨M, 2, none⟩ = some (.slice aM R3.length kM) ∧ BoxG w.heap.size (.int .i64 b) (.int .i64 k) (.int .u64 pa) (.int .u64 pb) w9 W'))
  clear x0' x1' x2' x3' x4' bz c0 c1 p0 p1
  go_region_held3 (fun w' => w'.cell? ⟨M, 2, none⟩ = some (.slice aM R3.length kM) ∧ w'.cell? ⟨w.heap.size, 0, none⟩ = some (.int .i64 b) ∧ w'.cell? ⟨w.heap.size, 1, none⟩ = some (.int .i64 k) ∧ w'.cell? ⟨w.heap.size + 1, 0, none⟩ = some (.int .u64 pa) ∧ w'.cell? ⟨w.heap.size + 1, 1, none⟩ = some (.int .u64 pb) ∧ Below w9.heap.size w9 w')
    (first | exact HS0.out | exact HST.out _ _ (by assumption) hbA | exact HST.out _ _ (by assumption) hbB | assumption)
    ((first
      | (go_at_call 18; with_reducible refine (HN1.out _ (And.right (And.right (And.right (And.right (And.right (by assumption))))))).mono ?_; rintro e wA ⟨a1, k1', rfl, hp1, hbA⟩)
      | (go_at_call 18; with_reducible refine (HN2.out _ (And.right (And.right (And.right (And.right (And.right (by assumption))))))).mono ?_; rintro e wA ⟨a1, k1', rfl, hp1, hbA⟩)
      | (go_at_call 17; with_reducible refine (HSM1.out _ _ _ (by assumption) (And.right (And.right (And.right (And.right (And.right (by assumption))))))).mono ?_; rintro e wB ⟨rfl, hbB⟩)
      | (go_at_call 17; with_reducible refine (HSM2.out _ _ _ (by assumption) (And.right (And.right (And.right (And.right (And.right (by assumption))))))).mono ?_; rintro e wB ⟨rfl, hbB⟩)))
  rename_i hHeld
  obtain ⟨_, c0, c1, p0, p1, bz⟩ := hHeld
  clear HS0 HST HN1 HN2 HSM1 HSM2
  obtain ⟨gd, hgd⟩ : ∃ gd, gdB pa pb = gd := ⟨_, rfl⟩
  rw [hgd] at HGD
  cases gd with
  | false =>
    clear hsZ
    go_wp2_with (((go_at_call 21; with_reducible refine (HGD.out _ ⟨by assumption, by assumption, by assumption, by assumption, by assumption⟩).mono ?_; rintro e w' ⟨rfl, x0', x1', x2', x3', x4'⟩)))
    go_ret
    exact ⟨rfl, HE9.out.trans (x4'.mono HE9.out.size)⟩
  | true =>
    by_cases hA0 : AA = []
    · have hz : ((AA.length : Int) == 0) = true := by rw [hA0]; rfl
      clear hsZ hA0
      go_wp2_with (((go_at_call 21; with_reducible refine (HGD.out _ ⟨by assumption, by assumption, by assumption, by assumption, by assumption⟩).mono ?_; rintro e w' ⟨rfl, x0', x1', x2', x3', x4'⟩)))
      go_ret
      exact ⟨rfl, HE9.out.trans (x4'.mono HE9.out.size)⟩
    · have hT0 := hsZ hA0
      have hTw : Word T := ⟨by omega, by omega⟩
      obtain ⟨g1, g2, g3⟩ : plE pa pb T = 0 ∧ 1 ≤ plV pa pb T ∧ plV pa pb T ≤ T := by
        have h0 : ¬ T = 0 := by omega
        have := pl_spec HWA.out HWB.out hTw hgd h0
        exact ⟨(pl_good hgd h0).2, this.1, this.2.1⟩
      have hz : ((AA.length : Int) == 0) = false := by
        have : AA.length ≠ 0 := fun h => hA0 (List.eq_nil_of_length_eq_zero h)
        simp; omega
      have HPL := Lib.hid (fun W => rplace_any pa pb T HWA.out HWB.out hTw W)
      obtain ⟨t, ht⟩ : ∃ t, plV pa pb T = t := ⟨_, rfl⟩
      rw [g1, ht] at HPL
      rw [ht] at g2 g3
      obtain ⟨r, hr⟩ : ∃ r, findD b R3 t = r := ⟨_, rfl⟩
      have hq : quanG b R3 pa pb = (r, 0) := by unfold quanG; rw [HSR.out, if_pos g1, ht, hr]
      obtain ⟨z1, z2, z3, z4⟩ := find_closeG HHH.out.dig q3 g2 (by rw [HSR.out]; exact g3)
      rw [hr] at z1 z2 z3 z4
      rw [HSR.out] at z4
      have hp2 := pow_bdD q2
      have HQ := Lib.hid (fun W (h : BoxG w.heap.size (.int .i64 b) (.int .i64 k) (.int .u64 pa) (.int .u64 pb) w9 W) => boxg_calls (HD.out.quantile W B S3 b k R3 _ pa pb r 0 (HD.out.call HX9.out h.2.2.2.2) HWA.out HWB.out hq) h)
      obtain ⟨m1, hm1⟩ : ∃ m, whereP (fun y => decide (y ≤ r)) AA = m := ⟨_, rfl⟩
      obtain ⟨m2, hm2⟩ : ∃ m, whereP (fun y => decide (y ≤ r - 1)) AA = m := ⟨_, rfl⟩
      have HU1 := Lib.hid (fun W (h : Below w9.heap.size w9 W) => HUP.out W r m1 ⟨by omega, by omega⟩ hm1 h)
      have HU2 := Lib.hid (fun W (h : Below w9.heap.size w9 W) => HUP.out W (r - 1) m2 ⟨by omega, by omega⟩ hm2 h)
      rw [hm1] at z3
      rw [hm2] at z4
      obtain ⟨q, hqq⟩ : ∃ q, T / (k : Int) = q := ⟨_, rfl⟩
      rw [hqq] at z4
      have hq0 : 0 ≤ q ∧ q ≤ T := by rw [← hqq]; exact ⟨Int.ediv_nonneg (by omega) (by omega), Int.ediv_le_self _ (by omega)⟩
      obtain ⟨s, hs⟩ : ∃ s, (b : Int) * q = s := ⟨_, rfl⟩
      have hs0 : 0 ≤ s ∧ s ≤ 24 * T := by
        rw [← hs]
        refine ⟨Int.mul_nonneg (by omega) hq0.1, ?_⟩
        exact Int.le_trans (Int.mul_le_mul_of_nonneg_right (show (b : Int) ≤ 24 by omega) hq0.1) (Int.mul_le_mul_of_nonneg_left hq0.2 (by omega))
      rw [hs] at z4
      have u1 : IntKind.u64.wrap (b : Int) = b := by rw [IntKind.wrap_u64]; omega
      have u2 : IntKind.u64.wrap (k : Int) = k := by rw [IntKind.wrap_u64]; omega
      have u3 : T.tdiv (k : Int) = q := by rw [Int.tdiv_eq_ediv_of_nonneg (by omega)]; exact hqq
      have u4 : IntKind.u64.wrap q = q := by rw [IntKind.wrap_u64]; omega
      have u5 : IntKind.u64.wrap s = s := by rw [IntKind.wrap_u64]; omega
      have u6 : IntKind.u64.wrap (t + s) = t + s := by rw [IntKind.wrap_u64]; omega
      have u7 : IntKind.i64.wrap (r - 1) = r - 1 := by rw [IntKind.wrap_i64]; omega
      have u8 : ¬ (k : Int) = 0 := by omega
      have u9 : ¬ k = 0 := by omega
      have u10 : ((k : Int) == 0) = false := by simp; omega
      have v1 : decide (t ≤ m1) = true := decide_eq_true z3
      have v2 : decide (m2 ≤ t + s) = true := decide_eq_true z4
      clear hsZ hr ht hm1 hm2 hqq hq hgd z1 z2 hp2 hq0 hs0 g1 hTw
      go_wp2_with (((go_at_call 21; with_reducible refine (HGD.out _ ⟨by assumption, by assumption, by assumption, by assumption, by assumption⟩).mono ?_; rintro e w' ⟨rfl, x0', x1', x2', x3', x4'⟩)))
      have HS0 := Lib.hid (show BoxG w.heap.size (.int .i64 b) (.int .i64 k) (.int .u64 pa) (.int .u64 pb) w9 w'.drew from ⟨cell_later (Below.refl _ _).drew x0', cell_later (Below.refl _ _).drew x1', cell_later (Below.refl _ _).drew x2', cell_later (Below.refl _ _).drew x3', x4'.drew⟩)
      have HST := Lib.hid (fun (W W' : World) (h : BoxG w.heap.size (.int .i64 b) (.int .i64 k) (.int .u64 pa) (.int .u64 pb) w9 W) (hb : Below W.heap.size W W') => boxg_later h hb)
      clear x0' x1' x2' x3' x4' c0 c1 p0 p1 bz
      go_region_held3 (fun w' => w'.cell? ⟨w.heap.size, 0, none⟩ = some (.int .i64 b) ∧ w'.cell? ⟨w.heap.size, 1, none⟩ = some (.int .i64 k) ∧ w'.cell? ⟨w.heap.size + 1, 0, none⟩ = some (.int .u64 pa) ∧ w'.cell? ⟨w.heap.size + 1, 1, none⟩ = some (.int .u64 pb) ∧ Below w9.heap.size w9 w')
        (first | exact HS0.out | exact HST.out _ _ (by assumption) hbA | exact HST.out _ _ (by assumption) hbB | assumption)
        ((first
          | (go_at_call 19; with_reducible refine (HTO.out _ (And.right (And.right (And.right (And.right (by assumption)))))).mono ?_; rintro e wA ⟨rfl, hbA⟩)
          | (go_at_call 22; with_reducible refine (HPL.out _).mono ?_; rintro e wB ⟨rfl, hbB⟩)))
      rename_i hHeld
      have HH2 := Lib.hid hHeld
      obtain ⟨x0', x1', x2', x3', x4'⟩ := hHeld
      clear HS0
      go_wp2_with fail
      refine (HQ.out _ ⟨by assumption, by assumption, by assumption, by assumption, by assumption⟩).mono ?_
      rintro e w8 ⟨rfl, y0', y1', y2', y3', y4'⟩
      have HS0 := Lib.hid (show BoxG w.heap.size (.int .i64 b) (.int .i64 k) (.int .u64 pa) (.int .u64 pb) w9 w8.drew from ⟨cell_later (Below.refl _ _).drew y0', cell_later (Below.refl _ _).drew y1', cell_later (Below.refl _ _).drew y2', cell_later (Below.refl _ _).drew y3', y4'.drew⟩)
      clear x0' x1' x2' x3' x4' y0' y1' y2' y3' y4' HH2
      go_wp2_with fail
      go_region_held3 (fun w' => w'.cell? ⟨w.heap.size, 0, none⟩ = some (.int .i64 b) ∧ w'.cell? ⟨w.heap.size, 1, none⟩ = some (.int .i64 k) ∧ w'.cell? ⟨w.heap.size + 1, 0, none⟩ = some (.int .u64 pa) ∧ w'.cell? ⟨w.heap.size + 1, 1, none⟩ = some (.int .u64 pb) ∧ Below w9.heap.size w9 w')
        (first | exact HS0.out | exact HST.out _ _ (by assumption) hbA | exact HST.out _ _ (by assumption) hbB | exact HST.out _ _ (by assumption) hbC | assumption)
        ((first
          | (go_at_call 19; with_reducible refine (HTO.out _ (And.right (And.right (And.right (And.right (by assumption)))))).mono ?_; rintro e wA ⟨rfl, hbA⟩)
          | (go_at_call 20; with_reducible refine (HU1.out _ (And.right (And.right (And.right (And.right (by assumption)))))).mono ?_; rintro e wB ⟨rfl, hbB⟩)
          | (go_at_call 20; with_reducible refine (HU2.out _ (And.right (And.right (And.right (And.right (by assumption)))))).mono ?_; rintro e wC ⟨rfl, hbC⟩)))
      all_goals
        rename_i hHeld
        obtain ⟨_, _, _, _, hb9⟩ := hHeld
        go_wp2_with fail
        go_ret
        exact ⟨rfl, HE9.out.trans (hb9.mono HE9.out.size)⟩
end Go.Proofs.YthjcdbnjmpjikaaGreat
