/-
  The law CoinsHalves, from the contracts.
-/
import Derived.Test.YtecnlpkfcggimaaCoinF
namespace Go.Proofs.Ytecnlpkfcggimaa
set_option linter.unusedVariables false
set_option linter.unusedSimpArgs false
open Go.RowKit

theorem wpList_noguard {P : Program} {ops : Array Oper} {Q : Exit → Act → World → Prop} {rest : List Oper} {o : Oper} {a : Act} {w : World}
    (hw : Region.wanted o (yielded ops a.tmps) = true) (h : wpList P ops Q ({ o with guard := none } :: rest) a w) : wpList P ops Q (o :: rest) a w := by
  unfold wpList at h ⊢
  rw [if_pos hw]
  rw [if_pos (by simp [Region.wanted])] at h
  exact h
theorem grown20_put (w : World) (g o : Nat) (v : Value) : w.grownBy (w.setCell ⟨g, o, none⟩ v) (some g) :=
  ⟨rfl, rfl, rfl, by simp [World.setCell], fun k _ hr => Below.heap_setCell w _ _ k (fun e => hr (by rw [e]))⟩
theorem grown20_trans {w w1 w2 : World} {r : Option Nat} (h : w.grownBy w1 r) (h2 : w1.grownBy w2 r) : w.grownBy w2 r :=
  ⟨h2.os.trans h.os, h2.tape.trans h.tape, h2.output.trans h.output, Nat.le_trans h.size h2.size, fun k hk hr => (h2.block k (Nat.lt_of_lt_of_le hk h.size) hr).trans (h.block k hk hr)⟩
theorem Nums.put_apart {w : World} {A : Option Addr} {L : List Int} {g o j : Nat} {v : Value} (h : Nums w A L) (ha : ∀ i b q, A = some ⟨b, q, none⟩ → i < L.length → (⟨b, q + i, none⟩ : Addr) ≠ ⟨g, o + j, none⟩) : Nums (w.setCell ⟨g, o + j, none⟩ v) A L :=
  ⟨h.ok, fun i p hi => by
    obtain ⟨b, off, e, hlt, c0⟩ := h.at_ i p hi
    have hil : i < L.length := by
      rcases Nat.lt_or_ge i L.length with h1 | h1
      · exact h1
      · rw [List.getElem?_eq_none h1] at hi; cases hi
    exact ⟨b, off, e, by simpa [World.setCell] using hlt, by rw [World.cell?_setCell_other _ _ _ _ (ha i b off e hil).symm]; exact c0⟩⟩

set_option maxRecDepth 100000 in
set_option maxHeartbeats 4000000 in
theorem halves20_walk {Tp : TapT} (D : TapDoes Tp) (H : RowDoes) (w : World) (A : Option Addr) (cap : Nat) (L : List Int) (keep : Int) (z : Bool) (h : Nums w A L) (hl : L.length ≤ 140737488351232) (hfit : L.length ≤ cap) (hk : I64 keep) :
    Calls Try.prog 4 #[.slice A L.length cap, .int .i64 keep, .bool z] w fun e w' => e = .returned (.bool true) ∧ Below w.heap.size w w' := by
  have CA := Lib.hid (alive20_any D H w)
  have HI := Lib.hid h
  have HH := Lib.hid H
  have HK := Lib.hid hk
  obtain ⟨k0, k1⟩ := hk
  clear D H h
  by_cases h100 : (100 : Int) < L.length
  · go_enter Try.func4, Try.ntmps4
    go_wp2_with fail
    refine CA.out.mono ?_
    rintro e w1 ⟨rfl, b1⟩
    go_wp2_with fail
    go_ret
    exact ⟨rfl, b1⟩
  have hn1 : L.length ≤ 100 := by omega
  have CS := Lib.hid (fun W hW => HH.out.split W A L.length cap L keep hW rfl hfit (by omega) HK.out)
  have CR := Lib.hid (fun W hW => rsplit20_any W A L.length cap L keep hW rfl (by omega) HK.out)
  have CH := Lib.hid (fun W hW => HH.out.halve W A L.length cap L z hW rfl (by omega))
  have CG := Lib.hid (fun W hW => rhalve20_any W A L.length cap L z hW rfl (by omega))
  obtain ⟨l1, l2⟩ := stay_len keep L
  obtain ⟨p, hp⟩ : ∃ p, keepN keep L.length = p := ⟨_, rfl⟩
  obtain ⟨q, hq⟩ : ∃ q, L.length - p = q := ⟨_, rfl⟩
  have hpn := keepN_le keep L.length
  rw [hp] at hpn
  rw [hq] at hpn
  have hqe : q % 2 = 0 := hpn.2.1
  have hp100 : p ≤ 100 := by have := hpn.1; omega
  have hq100 : q ≤ 100 := by omega
  have t1 : (q : Int).tmod 2 = 0 := by rw [Int.tmod_eq_emod_of_nonneg (by omega)]; omega
  have t2 : (q : Int) % 2 = 0 := by omega
  rw [hp] at l1
  rw [hp, hq] at l2
  obtain ⟨S, hS⟩ : ∃ S, stayL keep L = S := ⟨_, rfl⟩
  obtain ⟨R, hR⟩ : ∃ R, restL keep L = R := ⟨_, rfl⟩
  obtain ⟨V, hV⟩ : ∃ V, halvB z L = V := ⟨_, rfl⟩
  have hmem : ∀ a, (a ∈ S ∨ a ∈ R) → I64 a := fun a ha => HI.out.ok a ((stay_rest keep L).mem_iff.1 (by rw [hS, hR]; exact List.mem_append.2 ha))
  have hvm : ∀ a, a ∈ V → I64 a := fun a ha => HI.out.ok a ((halv_sub z L).subset (by rw [hV]; exact ha))
  have hvl : V.length ≤ 100 := by rw [← hV, halv_len]; split <;> omega
  rw [hS] at CS l1
  rw [hR] at CS l2
  rw [hV] at CH CG
  have HRS : Hid (∀ W base A7 B7 p' q' c' d', RefSplit W base A7 B7 p' q' c' d' keep L → p' = p ∧ q' = q ∧ Nums W A7 S ∧ Nums W B7 R ∧ (∀ a, A7 = some a → base ≤ a.block)) := Lib.hid (by
    intro W base A7 B7 p' q' c' d' ⟨r1, r2, r3, r4, r5, _⟩
    rw [hS] at r1 r2
    rw [hR] at r3 r4
    exact ⟨by omega, by omega, r1, r3, r5⟩)
  have HSL := Lib.hid l1
  have HRL := Lib.hid l2
  have HME := Lib.hid hmem
  have HVM := Lib.hid hvm
  clear l1 l2 hp hq hpn hS hR hV hmem hvm hqe
  go_enter Try.func4, Try.ntmps4
  go_wp2_with fail
  refine CA.out.mono ?_
  rintro e w1 ⟨rfl, b1⟩
  have HB1 := Lib.hid b1
  have hO := World.ownsRow_made (base := w1.heap.size) (e := 2) (size := 1) w1 #[] 0 (by simp) (by decide) rfl
  have HE0 : Hid (OwnN (w1.alloc (.cells #[] 2)) w1.heap.size (.slice (some ⟨w1.heap.size, 0, none⟩) 0 0) []) := Lib.hid hO
  have HBE : Hid (Below w1.heap.size w1 (w1.alloc (.cells #[] 2))) := Lib.hid ((Below.refl _ _).alloc (Nat.le_refl _) _)
  have CE := Lib.hid (HB1.out.trans (HBE.out.mono HB1.out.size))
  clear b1 hO
  go_wp2_with (at_builtin; refine wpList_append_nums rfl (.tmp 18) (.tmp 19) rfl w1.heap.size _ [] A cap L rfl HE0.out rfl (HI.out.call CE.out) ?f1 ?f2 ?_)
  case f1 => simp; omega
  case f2 => exact HBE.out.size
  intro v5 w5 h5 g5
  have h5' : OwnN w5 w1.heap.size v5 L := h5
  have B5 := Lib.hid (HBE.out.grown g5 HBE.out.size (fun g h => (HE0.out.lt g h).1))
  have HB5 := Lib.hid (HB1.out.trans (B5.out.mono HB1.out.size))
  obtain ⟨A5, c5, rfl⟩ := h5'.form
  have H5 := Lib.hid h5'
  clear h5 h5' g5
  go_wp2_with fail
  refine (CS.out w5 (HI.out.call HB5.out)).mono ?_
  rintro e w6 ⟨vs, vr, rfl, hos, hor, hap, b6⟩
  obtain ⟨A6, c6, rfl, hN6⟩ := hos.rows (fun a ha => HME.out a (Or.inl ha))
  obtain ⟨A8, c8, rfl, hN8⟩ := hor.rows (fun a ha => HME.out a (Or.inr ha))
  rw [HSL.out] at hos hap ⊢
  rw [HRL.out] at hor hap ⊢
  have HVS := Lib.hid hos
  have HVR := Lib.hid hor
  have HAP := Lib.hid hap
  have HNS := Lib.hid hN6
  have HNR := Lib.hid hN8
  have HB6 := Lib.hid (HB5.out.trans (b6.mono HB5.out.size))
  have HC6 := Lib.hid b6
  clear hos hor hap hN6 hN8 b6
  go_wp2_with fail
  refine (CR.out w6 (HI.out.call HB6.out)).mono ?_
  rintro e w7 ⟨A7, B7, p', q', c7, d7, rfl, hrs, b7⟩
  obtain ⟨rfl, rfl, hr1, hr2, hr3⟩ := HRS.out _ _ _ _ _ _ _ _ hrs
  have HR1 := Lib.hid hr1
  have HR2 := Lib.hid hr2
  have HR3 := Lib.hid hr3
  have HB7 := Lib.hid (HB6.out.trans (b7.mono HB6.out.size))
  have E7 := Lib.hid b7
  clear hrs hr1 hr2 hr3 b7 HRS
  go_wp2_with fail
  refine (rsame20_any w7 A6 A7 p' p' c6 c7 S (HNS.out.call E7.out) HR1.out HSL.out HSL.out (by omega)).mono ?_
  rintro e w8 ⟨rfl, b8⟩
  have E8 := Lib.hid (E7.out.trans (b8.mono E7.out.size))
  have F8 := Lib.hid b8
  clear b8
  go_wp2_with fail
  refine (rsame20_any w8 A8 B7 q' q' c8 d7 R (HNR.out.call E8.out) (HR2.out.call F8.out) HRL.out HRL.out (by omega)).mono ?_
  rintro e w9 ⟨rfl, b9⟩
  have E9 := Lib.hid (E8.out.trans (b9.mono E8.out.size))
  have F9 := Lib.hid (F8.out.trans (b9.mono F8.out.size))
  clear b9
  go_wp2_with fail
  refine (CH.out w9 (HI.out.call (HB6.out.trans (E9.out.mono HB6.out.size)))).mono ?_
  rintro e wA ⟨vA, rfl, hoA, bA⟩
  obtain ⟨AA, cA, rfl, hNA⟩ := hoA.rows HVM.out
  have EA := Lib.hid (E9.out.trans (bA.mono E9.out.size))
  have FA := Lib.hid (F9.out.trans (bA.mono F9.out.size))
  have HNA := Lib.hid hNA
  clear hoA bA hNA
  go_wp2_with fail
  refine (CG.out wA (HI.out.call (HB6.out.trans (EA.out.mono HB6.out.size)))).mono ?_
  rintro e wB ⟨vB, rfl, hoB, bB⟩
  obtain ⟨AB, cB, rfl, hNB⟩ := hoB.rows HVM.out
  have EB := Lib.hid (EA.out.trans (bB.mono EA.out.size))
  have FB := Lib.hid (FA.out.trans (bB.mono FA.out.size))
  have HNB := Lib.hid hNB
  have HNA2 := Lib.hid (HNA.out.call bB)
  clear hoB bB hNB
  go_wp2_with fail
  refine (rsame20_any wB AA AB V.length V.length cA cB V HNA2.out HNB.out rfl rfl (by omega)).mono ?_
  rintro e wC ⟨rfl, bC⟩
  have EC := Lib.hid (EB.out.trans (bC.mono EB.out.size))
  have FC := Lib.hid (FB.out.trans (bC.mono FB.out.size))
  have HBC := Lib.hid (HB6.out.trans (EC.out.mono HB6.out.size))
  have HSV : Hid (SlotsV wC A8 q') := Lib.hid ((HVR.out.slots HRL.out).call EC.out)
  clear bC
  go_wp2_with fail
  go_loopw [61] (fun jv wr => ∃ j : Nat, j ≤ q' ∧ jv = .int .i64 j ∧ wC.grownBy wr (Value.slice A8 q' c8).ownBlock ∧ SlotsV wr A8 q' ∧ Nums wr A6 S) (fun jv _ => q' - (intOf jv).toNat)
  case atStart => exact ⟨0, Nat.zero_le _, rfl, World.grownBy.refl _ _, HSV.out, HNS.out.call EC.out⟩
  case round =>
    obtain ⟨j, hj, rfl, hg, hsv, hns⟩ := hrel
    have HG := Lib.hid hg
    have HN2 := Lib.hid hns
    clear hns
    by_cases hlt : j < q'
    · have kk : (j : Int) < q' := by omega
      rcases hsv with e0 | ⟨g, og, rfl, hg0, hs⟩
      · omega
      obtain ⟨y, c0⟩ := hs.c j hlt
      have f0 := hs.f (og + j)
      have HS := Lib.hid hs
      have hg1 : g < (wr.setCell ⟨g, og + j, none⟩ (.int .i64 7)).heap.size := by simpa [World.setCell] using hg0
      have HG1 := Lib.hid hg1
      clear hg hs hg1
      go_wp2_with fail
      go_roundw
      case rel => exact ⟨j + 1, by omega, by go_num, grown20_trans HG.out (grown20_put _ _ _ _), Or.inr ⟨g, og, rfl, HG1.out, HS.out.put⟩, HN2.out.put_apart (fun i b o e hi => HAP.out b o p' c6 g og q' c8 (by rw [e]) rfl i j (by rw [← HSL.out]; exact hi) hlt)⟩
      case measure => simp [intOf]; omega
    · have kk : ¬ (j : Int) < q' := by omega
      have HBR := Lib.hid (HBC.out.grown hg HBC.out.size (fun k hk => by have := (HVR.out.lt k hk).1; have := HB5.out.size; omega))
      have hz := hg.size
      have HW := Lib.hid (((H5.out.call (HC6.out.trans (EC.out.mono HC6.out.size)))).other hg (by
        cases hh : (Value.slice A5 L.length c5).ownBlock with
        | none => exact Or.inl rfl
        | some k => exact Or.inr (fun e => by have := (H5.out.lt k hh).2; have := (HVR.out.lt k e.symm).1; omega)))
      have HA2 : Hid (FullN wr w5.heap.size (.slice A6 p' c6) S) := Lib.hid (by
        obtain ⟨A6', e6, _, h62, h63⟩ := HVS.out
        obtain ⟨rfl, _, rfl⟩ := Value.slice.inj e6
        exact ⟨A6, by rw [HSL.out], HN2.out.at_, h62, fun a e => ⟨(h63 a e).1, by have := (h63 a e).2; have := EC.out.size; have := hg.size; omega⟩⟩)
      have HC2 := Lib.hid ((HR1.out.call FC.out).grown hg (fun a ha e => by have := HR3.out a ha; have := (HVR.out.lt _ e.symm).2; omega))
      obtain ⟨A5', c5', e5, hN5⟩ := HW.out.rows HI.out.ok
      obtain ⟨rfl, _, rfl⟩ : A5 = A5' ∧ True ∧ c5 = c5' := by injection e5 with a b c; exact ⟨a, trivial, c⟩
      have HN5 := Lib.hid hN5
      clear hg hsv hN5 e5
      go_wp2_with fail
      refine (rsame20_any wr A A5 L.length L.length cap c5 L (HI.out.call HBR.out) HN5.out rfl rfl (by omega)).mono ?_
      rintro e wD ⟨rfl, bD⟩
      have BD := Lib.hid (HBR.out.trans (bD.mono HBR.out.size))
      have HAL : Hid (Below wr.heap.size wr (wD.alloc (.cells #[.int .i64 5] 2))) := Lib.hid (bD.alloc bD.size _)
      have BE := Lib.hid (HBR.out.trans (HAL.out.mono HBR.out.size))
      have HA3 := Lib.hid (HA2.out.call HAL.out)
      have HC3 := Lib.hid (HC2.out.call HAL.out)
      have hzz : w5.heap.size ≤ (wD.alloc (.cells #[.int .i64 5] 2)).heap.size := by have := HAL.out.size; have := EC.out.size; have := HC6.out.size; omega
      have HZZ := Lib.hid hzz
      clear bD hzz
      go_wp2_with (at_builtin; first
        | refine wpList_append_full rfl _ _ rfl w5.heap.size _ S p' HSL.out ⟨wD.heap.size, 0, none⟩ 1 1 [5] rfl HA3.out rfl rfl ?c1 (by decide) ?c4 ?_
        | refine wpList_noguard (by first | rfl | (simp [Region.wanted, yielded]; done)) (wpList_append_full rfl _ _ rfl w5.heap.size _ S p' HSL.out ⟨wD.heap.size, 0, none⟩ 1 1 [5] rfl HA3.out rfl rfl ?c1 (by decide) ?c4 ?_))
      case c1 =>
        intro i p hi
        match i, hi with
        | 0, hi =>
          cases hi
          go_simp
      case c4 => omega
      intro v' w11 hown' hgrow
      have hok5 : ∀ a, a ∈ S ++ [5] → I64 a := fun a ha => by
        rcases List.mem_append.1 ha with h | h
        · exact HME.out a (Or.inl h)
        · rw [List.mem_singleton.1 h]; exact ⟨by decide, by decide⟩
      have HBF := Lib.hid (BE.out.grown hgrow BE.out.size (fun k hk => by cases hk))
      have hc4 := HC3.out.grown hgrow (fun a ha e => by cases e)
      obtain ⟨A9, c9, e9, hN9, hc9⟩ := hown'.full hok5
      have hlen9 : (S ++ [5]).length = p' + 1 := by rw [List.length_append, HSL.out]; rfl
      rw [hlen9] at e9 hc9
      subst e9
      have hN10 : Nums w11 A9 S := by
        have := hN9.take p'
        rwa [List.take_left' HSL.out] at this
      have HX := Lib.hid hN10
      have HY := Lib.hid hc4
      have p1 : (p' : Int) ≤ c9 := by omega
      have p2 : p' ≤ c9 := by omega
      clear hown' hgrow hok5 hc4 hN9 hlen9 hN10 hc9
      go_wp2_with fail
      refine (rsame20_any w11 A9 A7 p' p' c9 c7 S HX.out HY.out HSL.out HSL.out (by omega)).mono ?_
      rintro e w12 ⟨rfl, b12⟩
      have HBG := Lib.hid (HBF.out.trans (b12.mono HBF.out.size))
      clear b12
      go_wp2_with fail
      go_ret
      exact ⟨rfl, HBG.out⟩
end Go.Proofs.Ytecnlpkfcggimaa
