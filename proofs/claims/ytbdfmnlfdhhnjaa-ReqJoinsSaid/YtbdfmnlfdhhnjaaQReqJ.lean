/-
  The law ReqJoins, from the contracts.
-/
import Derived.Test.YtbdfmnlfdhhnjaaK5
import Derived.Deep.RegionHeld3
namespace Go.Proofs.Ytbdfmnlfdhhnjaa
set_option linter.unusedVariables false
set_option linter.unusedSimpArgs false
open Go.RowKit

set_option maxRecDepth 100000 in
set_option maxHeartbeats 8000000 in
theorem joins21_walk {Rq : RqT} (D : RqDoes Rq) (w : World) (B word : Int) (A1 A2 : List PairV) (a1 a2 : Option Addr) (k1 k2 : Nat) (word2 : Int) (hB : I64 B) (hw : Word word) (hw2 : Word word2) (hA1 : Pairs w a1 A1) (hA2 : Pairs w a2 A2) (hl1 : A1.length ≤ 140737488351232) (hl2 : A2.length ≤ 140737488351232) :
    Calls Try.prog 7 #[.agg #[.int .i64 B, .int .u64 word], .slice a1 A1.length k1, .slice a2 A2.length k2, .int .u64 word2] w fun e w' => e = .returned (.bool true) ∧ Below w.heap.size w w' := by
  have HD := Lib.hid D
  have HA1 := Lib.hid hA1
  have HA2 := Lib.hid hA2
  have HAL := Lib.hid (fun W => alive21_any D W)
  have HWD := Lib.hid hw
  have HBD1 := Lib.hid (fun W hW => build21_any D W B word A1 a1 k1 hB hw hW hl1)
  have HBD2 := Lib.hid (fun W hW => build21_any D W B word2 A2 a2 k2 hB hw2 hW hl2)
  obtain ⟨bx0, bx1⟩ := two_boxQ w (.int .i64 B) (.int .u64 word) 24
  have HBX : Hid (Below w.heap.size w (w.alloc (.cells #[.int .i64 B, .int .u64 word] 24))) := Lib.hid ((Below.refl _ _).alloc (Nat.le_refl _) _)
  have HX0 := Lib.hid bx0
  have HX1 := Lib.hid bx1
  clear D hA1 hA2 hl1 hl2 hB hw hw2 bx0 bx1
  go_enter Try.func7, Try.ntmps7
  go_wp2_with fail
  with_reducible (refine (HAL.out _).mono ?_)
  rintro e w1 ⟨rfl, b1⟩
  have HB1 := Lib.hid (HBX.out.trans (b1.mono HBX.out.size))
  have HC0 := Lib.hid (cell_later b1 HX0.out)
  have HC1 := Lib.hid (cell_later b1 HX1.out)
  have c0 := HC0.out
  have c1 := HC1.out
  have HZ1 : Hid (w.heap.size + 1 ≤ w1.heap.size) := Lib.hid (by have h := b1.size; rw [size_boxQ] at h; exact h)
  clear b1
  go_wp2_with fail
  with_reducible (refine (HBD1.out _ (HA1.out.call HB1.out)).mono ?_)
  rintro e w2 (⟨P1, S1, M1, hv1, R1, rfl, hg, hf1, hq1⟩ | ⟨rfl, hno1, hb2⟩)
  case inr =>
    have HB2 := Lib.hid (HB1.out.trans (hb2.mono HB1.out.size))
    have d0 := cell_later hb2 HC0.out
    have d1 := cell_later hb2 HC1.out
    clear hb2 c0 c1 hno1
    go_wp2_with fail
    with_reducible (refine (HBD2.out _ (HA2.out.call HB2.out)).mono ?_)
    rintro e w3 (⟨P2, S2, M2, hv2, R2, rfl, _, _, hq2⟩ | ⟨rfl, _, hb3⟩)
    · have HB3 := Lib.hid (HB2.out.trans (hq2.below.mono HB2.out.size))
      clear hq2 d0 d1
      go_wp2_with fail
      go_ret
      exact ⟨rfl, HB3.out⟩
    · have HB3 := Lib.hid (HB2.out.trans (hb3.mono HB2.out.size))
      clear hb3 d0 d1
      go_wp2_with fail
      go_ret
      exact ⟨rfl, HB3.out⟩
  case inl =>
  have HB2 := Lib.hid (HB1.out.trans (hq1.below.mono HB1.out.size))
  have HD0 := Lib.hid (cell_later hq1.below HC0.out)
  have HD1 := Lib.hid (cell_later hq1.below HC1.out)
  have d0 := HD0.out
  have d1 := HD1.out
  have HQ1 := Lib.hid hq1
  have HF1 := Lib.hid hf1
  obtain ⟨gb1, gb2, gb3⟩ := goodQ_iff.1 hg
  clear hq1 hf1 c0 c1 hg
  go_wp2_with fail
  with_reducible (refine (HBD2.out _ (HA2.out.call HB2.out)).mono ?_)
  rintro e w3 (⟨P2, S2, M2, hv2, R2, rfl, _, hf2, hq2⟩ | ⟨rfl, _, hb3⟩)
  case inr =>
    have HB3 := Lib.hid (HB2.out.trans (hb3.mono HB2.out.size))
    clear hb3 d0 d1
    go_wp2_with fail
    go_ret
    exact ⟨rfl, HB3.out⟩
  case inl =>
  have HF2 := Lib.hid hf2
  have HZ23 := Lib.hid hq2.below.size
  have HB3 := Lib.hid (HB2.out.trans (hq2.below.mono HB2.out.size))
  have e0 := cell_later hq2.below HD0.out
  have e1 := cell_later hq2.below HD1.out
  have HE0 := Lib.hid e0
  have hr1 := HD.out.call HQ1.out.rq hq2.below
  have hr2 := hq2.rq
  have hsep : ∀ i, S1 i → ¬ S2 i := fun i h1 h2 => by
    have := HD.out.lt _ _ _ _ _ _ _ HQ1.out.rq i h1
    have := hq2.newS i h2
    omega
  have HSW : Hid (∀ i, S1 i → w.heap.size ≤ i) := Lib.hid fun i h => by have := HQ1.out.newS i h; have := HB1.out.size; omega
  obtain ⟨V1, hV1⟩ : ∃ V, allG A1 = V := ⟨_, rfl⟩
  obtain ⟨V2, hV2⟩ : ∃ V, allG A2 = V := ⟨_, rfl⟩
  have HP1 := Lib.hid (all_lenQ HF1.out.one)
  have HP2 := Lib.hid (all_lenQ HF2.out.one)
  rw [hV1] at hr1 HP1
  rw [hV2] at hr2 HP2
  have HU1 := Lib.hid (fun y => (where_up (ok_pos HA1.out.ok) y).1)
  have HU2 := Lib.hid (fun y => (where_up (ok_pos HA2.out.ok) y).1)
  rw [hV1] at HU1
  rw [hV2] at HU2
  have HL1 : Hid ((V1.length : Int) ≤ 200) := Lib.hid (by have := HP1.out; have := HF1.out.sum; omega)
  have HL2 : Hid ((V2.length : Int) ≤ 200) := Lib.hid (by have := HP2.out; have := HF2.out.sum; omega)
  have HT1 := Lib.hid (tow_P (B := B) word gb3 gb1 V1)
  have HT2 := Lib.hid (tow_P (B := B) word2 gb3 gb1 V2)
  have HTJ := Lib.hid (joint_P word gb3 gb1 HT1.out HT2.out)
  have HQ2 := Lib.hid hq2
  have hRF1 := HQ1.out.ref.call hq2.below
  have hRW1 := HQ1.out.rows
  have hRF2 := hq2.ref
  have hRW2 := hq2.rows
  rw [hV1] at hRF1 hRW1
  rw [hV2] at hRF2 hRW2
  obtain ⟨t1, ht1⟩ : ∃ t, towQ B word V1 = t := ⟨_, rfl⟩
  obtain ⟨t2, ht2⟩ : ∃ t, towQ B word2 V2 = t := ⟨_, rfl⟩
  have HTL1 := Lib.hid (tow_less (B := B) word gb3 gb1 gb2 V1 (by have := HL1.out; omega))
  have HTL2 := Lib.hid (tow_less (B := B) word2 gb3 gb1 gb2 V2 (by have := HL2.out; omega))
  rw [ht1] at hr1 hRF1 hRW1 HT1 HTJ HTL1
  rw [ht2] at hr2 hRF2 hRW2 HT2 HTJ HTL2
  have hf1' := HT1.out.fuel gb1 gb2 (by have := HL1.out; omega)
  have hf2' := HT2.out.fuel gb1 gb2 (by have := HL2.out; omega)
  have hne1 : R1 ≠ [] := fun e => by rw [e] at hRW1; exact HT1.out.ne hRW1.symm
  have hne2 : R2 ≠ [] := fun e => by rw [e] at hRW2; exact HT2.out.ne hRW2.symm
  have HM1 := Lib.hid (fun k (h : rgT M1 hv1 R1 k) => (HQ1.out.ref.blocks k h : k < w2.heap.size))
  have HM2 := Lib.hid (fun k (h : rgT M2 hv2 R2 k) => (hq2.newR k h : w2.heap.size ≤ k))
  have HM3 := Lib.hid (fun k (h : rgT M2 hv2 R2 k) => hRF2.blocks k h)
  have HS1 := Lib.hid (HD.out.lt _ _ _ _ _ _ _ HQ1.out.rq)
  have HS2 := Lib.hid hq2.newS
  have HS3 := Lib.hid (HD.out.lt _ _ _ _ _ _ _ hr2)
  have HSEP1 := Lib.hid HQ1.out.sep
  have HSEP2 := Lib.hid hq2.sep
  have HSN1 := Lib.hid HQ1.out.newS
  have HRN1 := Lib.hid HQ1.out.newR
  have HJO := Lib.hid (HD.out.join w3 P1 S1 B word _ _ P2 S2 word2 _ _ hr1 hr2 hsep (by rw [HT1.out.wt, HT2.out.wt]; have := HL1.out; have := HL2.out; omega) (by have := HTL1.out; have := HL1.out; omega))
  have hj1 : Calls Try.prog 27 #[] w3 (fun _ _ => True) → True := fun _ => trivial
  have HRJ := Lib.hid (fun W (h1 : RefT W M1 B word t1.2 hv1 R1) (h2 : RefT W M2 B word2 t2.2 hv2 R2) => rjoin21_any W M1 M2 B word B word2 t1.2 t2.2 hv1 hv2 R1 R2 h1 h2 hne1 hne2 gb3 gb1 gb2 HWD.out (by have := HTL1.out; have := HL1.out; omega) (by rw [hRW1]; omega) (by rw [hRW2]; omega)
    (fun g hg => by
      have h2 := HM2.out g (Or.inr (Or.inl hg))
      refine ⟨fun e => ?_, fun e => ?_⟩
      · have := HM1.out M1 (Or.inl rfl); omega
      · have := HM1.out g (Or.inr (Or.inl e)); omega)
    (fun r hr a ha => by
      have h2 := HM2.out a.block (Or.inr (Or.inr ⟨r, hr, a, ha, rfl⟩))
      refine ⟨fun e => ?_, fun e => ?_⟩
      · have := HM1.out M1 (Or.inl rfl); omega
      · have := HM1.out a.block (Or.inr (Or.inl e)); omega))
  rw [hRW1, hRW2] at HRJ
  obtain ⟨J, hJ⟩ : ∃ J, jointT B (coinB word) t1 t2 = J := ⟨_, rfl⟩
  rw [hJ] at HTJ
  have HJW : Hid (wtR J.1 = (V1.length : Int) + V2.length) := Lib.hid (by rw [HTJ.out.wt, List.length_append]; omega)
  have HJE : Hid (¬ V2.length = 0 → joinT B (coinB word) (t1.1, t1.2) (t2.1, t2.2) = J) := Lib.hid (fun hz => by
    rw [← hJ]
    unfold jointT
    rw [if_neg (by rw [HT2.out.wt]; omega)])
  have HFJ := Lib.hid (HTJ.out.fuel gb1 gb2 (by rw [List.length_append]; have := HL1.out; have := HL2.out; omega))
  have HF2' := Lib.hid hf2'
  have HNE2 := Lib.hid hne2
  have HRW2 := Lib.hid hRW2
  rw [hJ] at HJO
  have HR1 := Lib.hid hr1
  have HR2 := Lib.hid hr2
  have HRF1 := Lib.hid hRF1
  have HRF2 := Lib.hid hRF2
  have HGB := Lib.hid (And.intro gb1 (And.intro gb2 gb3))
  obtain ⟨T, hT⟩ : ∃ T : Int, (V1.length : Int) + V2.length = T := ⟨_, rfl⟩
  rw [hT] at HJW
  have HTV := Lib.hid hT
  have HAA := Lib.hid (fun y => (where_up (A := A1 ++ A2) (fun p hp => by
    rcases List.mem_append.1 hp with h | h
    · exact ok_pos HA1.out.ok p h
    · exact ok_pos HA2.out.ok p h) y).1)
  have HAO : Hid (∀ p, p ∈ A1 ++ A2 → okP p) := Lib.hid fun p hp => by
    rcases List.mem_append.1 hp with h | h
    · exact HA1.out.ok p h
    · exact HA2.out.ok p h
  have HUW : Hid (whereP (fun y => decide (y ≤ 9223372036854775807)) (A1 ++ A2) = T) := Lib.hid (by
    rw [HAA.out, show allG (A1 ++ A2) = V1 ++ V2 by rw [← hV1, ← hV2]; unfold allG; rw [List.flatMap_append], up_allQ fun y hy => (all_ok HAO.out y (by rw [show allG (A1 ++ A2) = V1 ++ V2 by rw [← hV1, ← hV2]; unfold allG; rw [List.flatMap_append]]; exact hy)).2, List.length_append, ← hT]; omega)
  obtain ⟨lo, hi, ok, hend⟩ : ∃ a b c, endAD (A1 ++ A2) = (a, b, c) := ⟨_, _, _, rfl⟩
  have HEA : Hid (joinW (endAD A1) (endAD A2) = (lo, hi, ok)) := Lib.hid (by rw [← endA_app, hend])
  rw [HEA.out] at HJO
  have HEND := Lib.hid hend
  have HL12 : Hid (A1.length ≤ 60 ∧ A2.length ≤ 60) := Lib.hid ⟨HF1.out.len, HF2.out.len⟩
  have HSUM : Hid (sumP (A1 ++ A2) < 18446744073709551616) := Lib.hid (by rw [sumP_app]; have := HF1.out.sum; have := HF2.out.sum; omega)
  have HZV : Hid (A2.length ≠ 0 → ¬ V2.length = 0) := Lib.hid (fun h e => by
    have h1 := HP2.out
    rw [e] at h1
    cases hA2 : A2 with
    | nil => rw [hA2] at h; exact h rfl
    | cons p r =>
      have h2 := HF2.out.one
      rw [hA2] at h1 h2
      have h3 := h2 p List.mem_cons_self
      have h4 := (one_sumQ fun q hq => h2 q (List.mem_cons_of_mem _ hq)).1
      rw [sumP_cons] at h1
      omega)
  clear hq2 hf2 d0 d1 e0 e1 hr1 hr2 hsep hV1 hV2 hRF1 hRF2 hRW1 hRW2 ht1 ht2 hf1' hf2' hne1 hne2 hj1 hJ hT hend gb1 gb2 gb3
  go_wp2_with fail
  with_reducible (refine HJO.out.mono ?_)
  rintro e w4 ⟨S4, rfl, hq4, hk4, hs4⟩
  have HQ4 := Lib.hid hq4
  have HK4 := Lib.hid hk4
  have HS4 := Lib.hid hs4
  have HB4 := Lib.hid (hk4.below HB3.out HB3.out.size HSW.out)
  have HRF14 := Lib.hid (HRF1.out.keep hk4 HSEP1.out)
  have HRF24 := Lib.hid (HRF2.out.keep hk4 (fun k h1 h2 => by have := HM2.out k h1; have := HS1.out k h2; omega))
  have HR24 := Lib.hid (HD.out.past HR2.out hk4 (fun k h1 h2 => by have := HS2.out k h1; have := HS1.out k h2; omega))
  have HRJ4 := Lib.hid (HRJ.out w4 HRF14.out HRF24.out)
  clear hq4 hk4 hs4 HJO HRJ
  go_wp2_with fail
  with_reducible (refine HRJ4.out.mono ?_)
  rintro e w5 ⟨rfl, hs5⟩
  obtain ⟨hv5, R5, hr5, hl5, ha5⟩ := hs5
  have hk5 := ha5.keepR
  have HK5 := Lib.hid hk5
  have HB5 := Lib.hid (hk5.below HB4.out HB4.out.size (fun k h => by have := HRN1.out k h; have := HB1.out.size; omega))
  have HQ5 := Lib.hid (HD.out.past HQ4.out hk5 (fun k h1 h2 => by
    rcases HS4.out k h1 with h | h
    · exact HSEP1.out k h2 h
    · have h3 := HM1.out k h2
      have h4 := HK4.out.size
      have h5 := HZ23.out
      omega))
  have HR25 := Lib.hid (HD.out.past HR24.out hk5 (fun k h1 h2 => by have := HS2.out k h1; have := HM1.out k h2; omega))
  have HRF25 := Lib.hid (HRF24.out.keep hk5 (fun k h1 h2 => by have := HM2.out k h1; have := HM1.out k h2; omega))
  have HR5 := Lib.hid hr5
  have HL5 := Lib.hid hl5
  have hO5 := World.ownsRow_made (base := w5.heap.size) (e := 70) (size := 2) w5 #[] 0 (by simp) (by decide) rfl
  have HO6 : Hid (OwnVG (w5.alloc (.cells #[] 70)) w5.heap.size (.slice (some ⟨w5.heap.size, 0, none⟩) 0 0) []) := Lib.hid hO5
  have HC6 : Hid (Below w5.heap.size w5 (w5.alloc (.cells #[] 70))) := Lib.hid ((Below.refl _ _).alloc (Nat.le_refl _) _)
  have HP6 := Lib.hid (HA1.out.call (HB5.out.trans (HC6.out.mono HB5.out.size)))
  clear hr5 hl5 ha5 hk5 hO5 HRJ4
  go_wp2_with (at_builtin; refine wpList_append_valsG rfl (.tmp 54) (.tmp 55) rfl w5.heap.size _ [] a1 k1 A1 rfl HO6.out rfl HP6.out ?c1 ?c2 ?_)
  case c1 => have := HL12.out.1; simp; omega
  case c2 => exact HC6.out.size
  intro v7 w7 hown7' hg7
  have hown7 : OwnVG w7 w5.heap.size v7 A1 := hown7'
  clear hown7'
  have hb7 : Below w5.heap.size w5 w7 := HC6.out.grown hg7 HC6.out.size (fun k hk => by cases hk; exact Nat.le_refl _)
  obtain ⟨A7, k7, rfl⟩ := hown7.form
  have HO7 := Lib.hid hown7
  have HC7 := Lib.hid hb7
  have HP7 := Lib.hid (HA2.out.call (HB5.out.trans (hb7.mono HB5.out.size)))
  clear hown7 hg7 hb7 HO6 HP6 HC6
  go_wp2_with (at_builtin; refine wpList_append_valsG rfl (.tmp 56) (.tmp 57) rfl w5.heap.size _ A1 a2 k2 A2 rfl HO7.out rfl HP7.out ?d1 ?d2 ?_)
  case d1 => have := HL12.out; omega
  case d2 => exact HC7.out.size
  intro v8 w8 hown8 hg8
  have hb8 : Below w5.heap.size w5 w8 := OwnVG.below HO7.out HC7.out hg8 HC7.out.size
  obtain ⟨AA, hAA⟩ : ∃ x, A1 ++ A2 = x := ⟨_, rfl⟩
  have hlAA : AA.length ≤ 120 := by rw [← hAA, List.length_append]; have := HL12.out; omega
  rw [hAA] at hown8 HUW HEND HAO HSUM
  obtain ⟨A8, k8, rfl⟩ := hown8.form
  have HP8 := Lib.hid (hown8.row HAO.out)
  have HC8 := Lib.hid hb8
  obtain ⟨nA, hnA⟩ : ∃ n, AA.length = n := ⟨_, rfl⟩
  have HRE := Lib.hid (fun W (hb : Below w8.heap.size w8 W) => rends19_any W A8 k8 AA lo hi ok (HP8.out.call hb) (by omega) HEND.out)
  have HUP := Lib.hid (fun W (hb : Below w8.heap.size w8 W) => rup19_any W A8 k8 AA 9223372036854775807 T (HP8.out.call hb) ⟨by decide, by decide⟩ (by omega) HSUM.out HUW.out)
  rw [hnA] at HRE HUP ⊢
  have HB8 := Lib.hid (HB5.out.trans (hb8.mono HB5.out.size))
  have HEN := Lib.hid (HD.out.ends w8 P1 S4 B word J lo hi ok (HD.out.call HQ5.out hb8))
  clear hown8 hg8 hb8 HO7 HP7 HC7 hAA hlAA hnA
  go_wp2_with fail
  with_reducible (refine HEN.out.mono ?_)
  rintro e w9 ⟨rfl, b9⟩
  have HB9 := Lib.hid (HB8.out.trans (b9.mono HB8.out.size))
  have HC9 := Lib.hid b9
  have HD9 := Lib.hid (HC8.out.trans (b9.mono HC8.out.size))
  clear b9
  go_wp2_with fail
  with_reducible (refine (HRE.out _ HC9.out).mono ?_)
  rintro e wA ⟨rfl, bA⟩
  have HBA := Lib.hid (HB9.out.trans (bA.mono HB9.out.size))
  have HCA := Lib.hid (HC9.out.trans (bA.mono HC9.out.size))
  have HDA := Lib.hid (HD9.out.trans (bA.mono HD9.out.size))
  clear bA
  have y3 : (lo == lo) = true := by simp
  have y4 : (hi == hi) = true := by simp
  have y6 : (T == T) = true := by simp
  have HSO := Lib.hid (fun W (hb : Below w5.heap.size w5 W) => same21_any HD.out W P2 S2 B word2 word2 t2 _ M2 hv2 R2 (HD.out.call HR25.out hb) (HRF25.out.call hb) HRW2.out HNE2.out (by rw [← ls_len, HRW2.out]; have := HF2'.out.1; omega) (fun r hr => by
    have := HF2'.out.2.2 r.l (by rw [← HRW2.out]; exact List.mem_map.2 ⟨r, hr, rfl⟩)
    omega))
  have HTO := Lib.hid (fun W (hb : Below w5.heap.size w5 W) => HD.out.total W P1 S4 B word J _ (HD.out.call HQ5.out hb))
  rw [HJW.out] at HTO
  obtain ⟨n2, hn2⟩ : ∃ n, A2.length = n := ⟨_, rfl⟩
  rw [hn2] at HZV ⊢
  clear hn2
  by_cases hz : n2 = 0
  · have z1 : ((n2 : Int) == 0) = true := by simp [hz]
    subst hz
    go_wp2_with fail
    with_reducible (refine (HSO.out _ HDA.out).mono ?_)
    rintro e wB ⟨rfl, bB⟩
    have HBB := Lib.hid (HBA.out.trans (bB.mono HBA.out.size))
    have HCB := Lib.hid (HCA.out.trans (bB.mono HCA.out.size))
    have HDB := Lib.hid (HDA.out.trans (bB.mono HDA.out.size))
    clear bB
    go_wp2_with fail
    with_reducible (refine (HTO.out _ HDB.out).mono ?_)
    rintro e wC ⟨rfl, bC⟩
    have HBC := Lib.hid (HBB.out.trans (bC.mono HBB.out.size))
    have HCC := Lib.hid (HCB.out.trans (bC.mono HCB.out.size))
    clear bC
    go_wp2_with fail
    with_reducible (refine (HUP.out _ HCC.out).mono ?_)
    rintro e wD ⟨rfl, bD⟩
    have HBD := Lib.hid (HBC.out.trans (bD.mono HBC.out.size))
    clear bD
    go_wp2_with fail
    go_ret
    exact ⟨rfl, HBD.out⟩
  · have z1 : ((n2 : Int) == 0) = false := by rw [beq_eq_false_iff_ne]; omega
    have hje := HJE.out (HZV.out hz)
    have hr5 := HR5.out
    have hl5 := HL5.out
    rw [hje] at hr5 hl5
    have HST := Lib.hid (fun W (hb : Below w5.heap.size w5 W) => same21_any HD.out W P1 S4 B word word J _ M1 hv5 R5 (HD.out.call HQ5.out hb) (hr5.call hb) hl5 (fun e => by rw [e] at hl5; exact HTJ.out.ne hl5.symm) (by rw [← ls_len, hl5]; have := HFJ.out.1; omega) (fun r hr => by
      have := HFJ.out.2.2 r.l (by rw [← hl5]; exact List.mem_map.2 ⟨r, hr, rfl⟩)
      omega))
    clear hje hr5 hl5 hz
    go_wp2_with fail
    with_reducible (refine (HST.out _ HDA.out).mono ?_)
    rintro e wE ⟨rfl, bE⟩
    have HBE := Lib.hid (HBA.out.trans (bE.mono HBA.out.size))
    have HCE := Lib.hid (HCA.out.trans (bE.mono HCA.out.size))
    have HDE := Lib.hid (HDA.out.trans (bE.mono HDA.out.size))
    clear bE
    go_wp2_with fail
    with_reducible (refine (HSO.out _ HDE.out).mono ?_)
    rintro e wB ⟨rfl, bB⟩
    have HBB := Lib.hid (HBE.out.trans (bB.mono HBE.out.size))
    have HCB := Lib.hid (HCE.out.trans (bB.mono HCE.out.size))
    have HDB := Lib.hid (HDE.out.trans (bB.mono HDE.out.size))
    clear bB
    go_wp2_with fail
    with_reducible (refine (HTO.out _ HDB.out).mono ?_)
    rintro e wC ⟨rfl, bC⟩
    have HBC := Lib.hid (HBB.out.trans (bC.mono HBB.out.size))
    have HCC := Lib.hid (HCB.out.trans (bC.mono HCB.out.size))
    clear bC
    go_wp2_with fail
    with_reducible (refine (HUP.out _ HCC.out).mono ?_)
    rintro e wD ⟨rfl, bD⟩
    have HBD := Lib.hid (HBC.out.trans (bD.mono HBC.out.size))
    clear bD
    go_wp2_with fail
    go_ret
    exact ⟨rfl, HBD.out⟩
end Go.Proofs.Ytbdfmnlfdhhnjaa
