/-
  The law HighcapMerges, walked.
-/
import Derived.Test.YtdblicfcfmfneaaK2
namespace Go.Proofs.Ytdblicfcfmfneaa
set_option linter.unusedVariables false
set_option linter.unusedSimpArgs false
open Go.RowKit

/-- What two are together. -/
theorem merge_all {m : Int} {L L' : List PairV} (hm : 0 < m) (h : Sum50 (foldP L) L.length) (h' : Sum50 (foldP L') L'.length) (hp : ∀ p, p ∈ L → okP p ∧ 0 < p.2 ∧ p.2 ≤ 1125899906842624) (hp' : ∀ p, p ∈ L' → okP p ∧ 0 < p.2 ∧ p.2 ≤ 1125899906842624) (hl : L.length ≤ 60) (hl' : L'.length ≤ 60) :
    keepH m (joinP (keepH m (foldP L)) (keepH m (foldP L'))) = keepH m (foldP (L ++ L')) ∧ sumP (foldP L) + sumP (foldP L') = sumP (foldP (L ++ L')) := by
  have s1 := h.sum
  have s2 := h'.sum
  have n1 := sumP_pos (ok_pos h.ok)
  have n2 := sumP_pos (ok_pos h'.ok)
  have hs : ∀ M : List PairV, (∀ p, p ∈ M → okP p ∧ 0 < p.2 ∧ p.2 ≤ 1125899906842624) → sumP M ≤ M.length * 1125899906842624 := by
    intro M
    induction M with
    | nil => intro _; simp [sumP]
    | cons p r ih =>
      intro hM
      have h1 := hM p (by simp)
      have h2 := ih fun q hq => hM q (List.mem_cons_of_mem _ hq)
      rw [sumP_cons, List.length_cons]; push_cast; omega
  have t2 := hs L' hp'
  have J1 := join_facts L' (foldP L) h.good h.ok (fun p hh => ⟨(hp' p hh).1, (hp' p hh).2.1⟩) (by omega)
  have J2 := join_facts L' [] good_nil (fun p hh => (by cases hh)) (fun p hh => ⟨(hp' p hh).1, (hp' p hh).2.1⟩) (by rw [sumP_nil]; omega)
  have J3 := join_facts (foldP L') (foldP L) h.good h.ok (good_each h'.good h'.ok) (by omega)
  have e2 : joinP [] L' = foldP L' := rfl
  have e1 : joinP (foldP L) L' = foldP (L ++ L') := by rw [fold_app]; rfl
  have e3 : joinP (foldP L) (foldP L') = foldP (L ++ L') := by
    rw [← e1]
    refine good_ext J3.good J1.good fun j => ?_
    have c2 := J2.cnt j
    rw [e2] at c2
    have c0 : countP [] j = 0 := rfl
    rw [J3.cnt, J1.cnt, c2, c0]; omega
  refine ⟨?_, ?_⟩
  · rw [keeph_join hm h.good h.ok h'.good h'.ok (by omega), e3]
  · rw [← e3, J3.sum]

set_option maxRecDepth 100000 in
set_option maxHeartbeats 4000000 in
theorem lmerges_walk {Hw : World → Nat → (Nat → Prop) → Int → List PairV → Int → Prop} (D : HighDoes Hw) (w : World) (m : Int) (A : Option Addr) (cap : Nat) (L : List PairV) (A' : Option Addr) (cap' : Nat) (L' : List PairV) (o : Int) (hm : I64 m) (h : Pairs w A L) (hl : L.length ≤ 140737488351232) (h' : Pairs w A' L') (hl' : L'.length ≤ 140737488351232) (ho : I64 o) :
    Calls Try.prog 5 #[.int .i64 m, .slice A L.length cap, .slice A' L'.length cap', .int .i64 o] w fun e w' => e = .returned (.bool true) ∧ Below w.heap.size w w' := by
  have HD := Lib.hid D
  have HP := Lib.hid h
  have HP' := Lib.hid h'
  have HO := Lib.hid ho
  obtain ⟨gb, hgb⟩ : ∃ b, grtB m L = b := ⟨_, rfl⟩
  obtain ⟨gb', hgb'⟩ : ∃ b, grtB m L' = b := ⟨_, rfl⟩
  have HGR : Hid (∀ w', Below w.heap.size w w' → Calls Try.prog 9 #[.int .i64 m, .slice A L.length cap] w' fun e w'' => e = .returned (.bool gb) ∧ Below w'.heap.size w' w'') := Lib.hid (fun w' hw => grt_any w' m A cap L gb (h.call hw) hl hm hgb)
  have HGR' : Hid (∀ w', Below w.heap.size w w' → Calls Try.prog 9 #[.int .i64 m, .slice A' L'.length cap'] w' fun e w'' => e = .returned (.bool gb') ∧ Below w'.heap.size w' w'') := Lib.hid (fun w' hw => grt_any w' m A' cap' L' gb' (h'.call hw) hl' hm hgb')
  have HGB := Lib.hid hgb
  have HGB' := Lib.hid hgb'
  obtain ⟨m0, m1⟩ := hm
  obtain ⟨o0, o1⟩ := ho
  clear D h h' hgb hgb'
  cases gb with
  | true =>
    go_enter Try.func5, Try.ntmps5
    go_wp2_with fail
    refine (lalive_any HD.out _).mono ?_
    rintro e w0 ⟨rfl, b0⟩
    go_wp2_with fail
    refine (HGR.out _ b0).mono ?_
    rintro e w1 ⟨rfl, b1⟩
    go_wp2_with fail
    go_ret
    exact ⟨rfl, b0.trans (b1.mono b0.size)⟩
  | false =>
    cases gb' with
    | true =>
      go_enter Try.func5, Try.ntmps5
      go_wp2_with fail
      refine (lalive_any HD.out _).mono ?_
      rintro e w0 ⟨rfl, b0⟩
      go_wp2_with fail
      refine (HGR.out _ b0).mono ?_
      rintro e w1 ⟨rfl, b1⟩
      have hb1 := b0.trans (b1.mono b0.size)
      go_wp2_with fail
      refine (HGR'.out _ hb1).mono ?_
      rintro e w2 ⟨rfl, b2⟩
      go_wp2_with fail
      go_ret
      exact ⟨rfl, hb1.trans (b2.mono hb1.size)⟩
    | false =>
      have PL := Lib.hid (grt_false.1 HGB.out)
      have PL' := Lib.hid (grt_false.1 HGB'.out)
      have n1 := PL.out.m1
      have n2 := PL.out.m2
      have hll := PL.out.len
      have hll' := PL'.out.len
      go_enter Try.func5, Try.ntmps5
      go_wp2_with fail
      refine (lalive_any HD.out _).mono ?_
      rintro e w0 ⟨rfl, b0⟩
      go_wp2_with fail
      refine (HGR.out _ b0).mono ?_
      rintro e w1 ⟨rfl, b1⟩
      have hb1 := b0.trans (b1.mono b0.size)
      go_wp2_with fail
      refine (HGR'.out _ hb1).mono ?_
      rintro e w2 ⟨rfl, b2⟩
      have HB2 := Lib.hid (hb1.trans (b2.mono hb1.size))
      clear b0 b1 b2 hb1
      go_wp2_with fail
      refine (build_any HD.out _ m A cap L (HP.out.call HB2.out) PL.out.each (by omega) n1 n2).mono ?_
      rintro e w3 ⟨B1, S1, M1, v1, rfl, hsd1, hsm1, b3⟩
      have HB3 := Lib.hid (HB2.out.trans (b3.mono HB2.out.size))
      have HSD1 := Lib.hid hsd1
      have HSM1 := Lib.hid hsm1
      have HZ1 := Lib.hid hsd1.above
      clear hsd1 hsm1 b3
      go_wp2_with fail
      refine (build_any HD.out _ m A' cap' L' (HP'.out.call HB3.out) PL'.out.each (by omega) n1 n2).mono ?_
      rintro e w4 ⟨B2, S2, M2, v2, rfl, hsd2, hsm2, b4⟩
      have HB4 := Lib.hid (HB3.out.trans (b4.mono HB3.out.size))
      have HSD2 := Lib.hid hsd2
      have HSM2 := Lib.hid hsm2
      have HSA := Lib.hid (SideH.call HD.out HSD1.out b4)
      have HS12 : Hid (∀ k, S1 k → ¬ S2 k) := Lib.hid (fun k h1 h2 => by have := HD.out.lt _ _ _ _ _ _ HSD1.out.st k h1; have := HSD2.out.above k h2; omega)
      have HM12 : Hid (∀ k, S1 k → k ≠ M2 ∧ v2.ownBlock ≠ some k) := Lib.hid (fun k h1 => by
        have h2 := HD.out.lt _ _ _ _ _ _ HSD1.out.st k h1
        exact ⟨by have := HSD2.out.mab; omega, fun e => by have := (HSD2.out.rf.2.lt k e).1; have := HSD2.out.mab; omega⟩)
      clear hsd2 hsm2 b4 HSD1
      have hO4 := World.ownsRow_made (base := w4.heap.size) (e := 34) (size := 2) w4 #[] 0 (by simp) (by decide) rfl
      have HO4 : Hid (OwnP (w4.alloc (.cells #[] 34)) w4.heap.size (.slice (some ⟨w4.heap.size, 0, none⟩) 0 0) []) := Lib.hid hO4
      have HB5 : Hid (Below w4.heap.size w4 (w4.alloc (.cells #[] 34))) := Lib.hid ((Below.refl _ _).alloc (Nat.le_refl _) _)
      have HP5 := Lib.hid (HP.out.call (HB4.out.trans (HB5.out.mono HB4.out.size)))
      clear hO4
      go_wp2_with (at_builtin; refine wpList_append_pairs rfl (.tmp 41) (.tmp 42) rfl w4.heap.size _ [] A cap L rfl HO4.out rfl HP5.out ?c1 ?c2 ?_)
      case c1 => simp; omega
      case c2 => simp
      intro v6 w6 hown6 hg6
      have hb6 : Below w4.heap.size w4 w6 := HB5.out.grown hg6 HB5.out.size (fun k hk => by cases hk; exact Nat.le_refl _)
      have hown6' : OwnP w6 w4.heap.size v6 L := hown6
      clear hown6
      have hown6 := hown6'
      clear hown6'
      obtain ⟨A6, k6, rfl⟩ := hown6.form
      have HO6 := Lib.hid hown6
      have HB6 := Lib.hid hb6
      have HP6 := Lib.hid (HP'.out.call (HB4.out.trans (HB6.out.mono HB4.out.size)))
      clear hown6 hg6 hb6 HO4 HB5 HP5
      go_wp2_with (at_builtin; refine wpList_append_pairs rfl (.tmp 43) (.tmp 44) rfl w4.heap.size _ L A' cap' L' rfl HO6.out rfl HP6.out ?d1 ?d2 ?_)
      case d1 => omega
      case d2 => exact HB6.out.size
      intro v7 w7 hown7 hg7
      have hb7 : Below w4.heap.size w4 w7 := OwnP.below HO6.out HB6.out hg7 HB6.out.size
      have hokk : ∀ p, p ∈ L ++ L' → okP p := fun p hp => by
        rcases List.mem_append.1 hp with h | h
        · exact HP.out.ok p h
        · exact HP'.out.ok p h
      obtain ⟨A7, k7, rfl, hP7⟩ := hown7.pairs hokk
      have hlen7 : (L ++ L').length ≤ 120 := by rw [List.length_append]; omega
      obtain ⟨N7, hN7⟩ : ∃ N7, (L ++ L').length = N7 := ⟨_, rfl⟩
      have HBB := Lib.hid (build_any HD.out w7 m A7 k7 (L ++ L') hP7 (fun p hp => by
        rcases List.mem_append.1 hp with h | h
        · exact PL.out.each p h
        · exact PL'.out.each p h) hlen7 n1 n2)
      rw [hN7] at HBB
      rw [hN7]
      have HB7 := Lib.hid (HB4.out.trans (hb7.mono HB4.out.size))
      have HSA7 := Lib.hid (SideH.call HD.out HSA.out hb7)
      have HSB7 := Lib.hid (SideH.call HD.out HSD2.out hb7)
      clear hown7 hg7 hb7 hP7 HO6 HB6 HP6 HSA HSD2 hokk
      go_wp2_with fail
      refine HBB.out.mono ?_
      rintro e w8 ⟨B3, S3, M3, v3, rfl, hsd3, hsm3, b8⟩
      have HSA8 := Lib.hid (SideH.call HD.out HSA7.out b8)
      have HSB8 := Lib.hid (SideH.call HD.out HSB7.out b8)
      have HSC8 := Lib.hid hsd3
      have hsm3' : Sum50 (foldP (L ++ L')) 120 := ⟨hsm3.good, hsm3.ok, by have := hsm3.len; omega, by have := hsm3.sum; omega⟩
      have HSM3 := Lib.hid hsm3'
      have HS13 : Hid (∀ k, S1 k → ¬ S3 k) := Lib.hid (fun k h1 h2 => by have := HD.out.lt _ _ _ _ _ _ HSA7.out.st k h1; have := HSC8.out.above k h2; omega)
      have HM13 : Hid (∀ k, S1 k → k ≠ M3 ∧ v3.ownBlock ≠ some k) := Lib.hid (fun k h1 => by
        have h2 := HD.out.lt _ _ _ _ _ _ HSA7.out.st k h1
        exact ⟨by have := HSC8.out.mab; omega, fun e => by have := (HSC8.out.rf.2.lt k e).1; have := HSC8.out.mab; omega⟩)
      have HB8 := Lib.hid (HB7.out.trans (b8.mono HB7.out.size))
      have hma := merge_all (m := m) (by omega) HSM1.out HSM2.out (fun p hp => ⟨HP.out.ok p hp, PL.out.each p hp⟩) (fun p hp => ⟨HP'.out.ok p hp, PL'.out.each p hp⟩) hll hll'
      have hs1 := HSM1.out.sum
      have hs2 := HSM2.out.sum
      have hp1 := sumP_pos (ok_pos HSM1.out.ok)
      have hp2 := sumP_pos (ok_pos HSM2.out.ok)
      have hk1 : (keepH m (foldP L)).length ≤ 300 := Nat.le_trans (keeph_le _ _) (by have := HSM1.out.len; omega)
      have hk2 : (keepH m (foldP L')).length ≤ 300 := Nat.le_trans (keeph_le _ _) (by have := HSM2.out.len; omega)
      have hk3 : (keepH m (foldP (L ++ L'))).length ≤ 300 := Nat.le_trans (keeph_le _ _) (by have := HSM3.out.len; omega)
      have HK1 := Lib.hid hk1
      have HK2 := Lib.hid hk2
      have HK3 := Lib.hid hk3
      have HMA := Lib.hid hma
      have HMRG : Hid (∀ wx, Below w8.heap.size w8 wx → Calls Try.prog 29 #[.pointer (some ⟨B1, 0, none⟩), .pointer (some ⟨B2, 0, none⟩)] wx fun e w' => ∃ S2, e = .returned (.int .i64 0) ∧ Hw w' B1 S2 m (keepH m (foldP (L ++ L'))) (sumP (foldP (L ++ L'))) ∧ Keeps S1 wx w' ∧ (∀ k, S2 k → S1 k ∨ wx.heap.size ≤ k)) := Lib.hid (fun wx hx => by
        have h1 := HD.out.merge wx B1 S1 m _ _ B2 S2 _ _ (HD.out.call HSA8.out.st hx) (HD.out.call HSB8.out.st hx) (Or.inr HS12.out) hk1 hk2 (by omega)
        rwa [hma.1, hma.2] at h1)
      clear hsd3 hsm3 hsm3' b8 HSA7 HSB7 HBB hma hk1 hk2 hk3 hs1 hs2 hp1 hp2 hlen7 hN7
      have hcase : (1 ≤ o ∧ o ≤ 4096 ∧ m ≠ o) ∨ (1 ≤ o ∧ o ≤ 4096 ∧ m = o) ∨ (o < 1 ∨ 4096 < o) := by omega
      rcases hcase with ⟨g1, g2, hmo⟩ | ⟨g1, g2, rfl⟩ | hbad
      · have hmo2 : (o == m) = false := by simp; omega
        go_wp2_with fail
        refine (HD.out.new _ o g1 g2).mono ?_
        rintro e w9 ⟨B4, S4, rfl, h4, hs4, b9⟩
        have H4 := Lib.hid h4
        have HB9 := Lib.hid b9
        clear h4 hs4 b9
        go_wp2_with fail
        refine (HD.out.other w9 B1 S1 m _ _ B4 S4 o _ _ (HD.out.call HSA8.out.st HB9.out) H4.out hmo).mono ?_
        rintro e w10 ⟨rfl, b10⟩
        have HB10 := Lib.hid (HB9.out.trans (b10.mono HB9.out.size))
        have H5 := Lib.hid (HD.out.call H4.out b10)
        clear b10
        go_wp2_with fail
        refine (HD.out.other w10 B4 S4 o _ _ B1 S1 m _ _ H5.out (HD.out.call HSA8.out.st HB10.out) (fun e => hmo e.symm)).mono ?_
        rintro e wz ⟨rfl, bz⟩
        have HBZ := Lib.hid (HB10.out.trans (bz.mono HB10.out.size))
        clear bz HB9 H4 HB10 H5
        go_wp2_with fail
        refine (HMRG.out wz HBZ.out).mono ?_
        rintro e w11 ⟨S9, rfl, h11, k11, hs11⟩
        have hb11 := k11.below (HB8.out.trans (HBZ.out.mono HB8.out.size)) (HB8.out.trans (HBZ.out.mono HB8.out.size)).size (fun k hk => Nat.le_trans (Nat.le_trans HB2.out.size (HZ1.out k hk)) (Nat.le_refl _))
        have HB11 := Lib.hid hb11
        have HX11 := Lib.hid h11
        have HC11 := Lib.hid ((SideH.call HD.out HSC8.out HBZ.out).rf.past k11 (fun hk => (HM13.out _ hk).1 rfl) (fun g hg hk => (HM13.out g hk).2 hg))
        have HM11 := Lib.hid ((SideH.call HD.out HSB8.out HBZ.out).rf.past k11 (fun hk => (HM12.out _ hk).1 rfl) (fun g hg hk => (HM12.out g hk).2 hg))
        have HY11 := Lib.hid (HD.out.past (SideH.call HD.out HSB8.out HBZ.out).st k11 (fun k hk h1 => HS12.out k h1 hk))
        clear h11 k11 hs11 hb11
        go_wp2_with fail
        refine (HD.out.mnil w11 B1 S9 m _ _ HX11.out).mono ?_
        rintro e w12 ⟨rfl, b12⟩
        have HB12 := Lib.hid b12
        clear b12
        go_wp2_with fail
        refine (HD.out.pairs w12 B1 S9 m _ _ (HD.out.call HX11.out HB12.out) (by have := HK3.out; omega)).mono ?_
        rintro e w13 ⟨u1, rfl, hu1, b13⟩
        obtain ⟨a1, c1, rfl, hq1⟩ := hu1.pairs (keeph_ok HSM3.out.ok)
        have HB13 := Lib.hid (HB12.out.trans (b13.mono HB12.out.size))
        have HQ1 := Lib.hid hq1
        clear hu1 hq1 b13
        go_wp2_with fail
        refine (hrkept_any w13 M3 m v3 _ (HC11.out.call HB13.out) HSM3.out.good HSM3.out.ok (by have := HSM3.out.len; omega) (by omega) n2).mono ?_
        rintro e w14 ⟨u2, rfl, hu2, b14⟩
        obtain ⟨a2, c2, rfl, hq2⟩ := hu2.pairs (keeph_ok HSM3.out.ok)
        have HB14 := Lib.hid (HB13.out.trans (b14.mono HB13.out.size))
        have HQ2 := Lib.hid hq2
        have HQ1b := Lib.hid (HQ1.out.call b14)
        clear hu2 hq2 b14 HQ1
        go_wp2_with fail
        refine (same_any w14 a1 a2 c1 c2 _ _ true (decide_eq_true rfl) HQ1b.out HQ2.out (by have := HK3.out; omega) (by have := HK3.out; omega)).mono ?_
        rintro e w15 ⟨rfl, b15⟩
        have HB15 := Lib.hid (HB14.out.trans (b15.mono HB14.out.size))
        clear b15 HQ1b HQ2
        go_wp2_with fail
        refine (HD.out.lost w15 B1 S9 m _ _ (HD.out.call HX11.out HB15.out)).mono ?_
        rintro e w16 ⟨rfl, b16⟩
        have HB16 := Lib.hid (HB15.out.trans (b16.mono HB15.out.size))
        clear b16
        go_wp2_with fail
        refine (hrlost_any w16 M3 m v3 _ _ (HC11.out.call HB16.out) HSM3.out.good HSM3.out.ok (by have := HSM3.out.len; omega) (by omega) n2 (by have := HSM3.out.sum; omega) rfl).mono ?_
        rintro e w17 ⟨rfl, b17⟩
        have HB17 := Lib.hid (HB16.out.trans (b17.mono HB16.out.size))
        clear b17
        go_wp2_with fail
        refine (HD.out.pairs w17 B2 S2 m _ _ (HD.out.call HY11.out HB17.out) (by have := HK2.out; omega)).mono ?_
        rintro e w18 ⟨u3, rfl, hu3, b18⟩
        obtain ⟨a3, c3, rfl, hq3⟩ := hu3.pairs (keeph_ok HSM2.out.ok)
        have HB18 := Lib.hid (HB17.out.trans (b18.mono HB17.out.size))
        have HQ3 := Lib.hid hq3
        clear hu3 hq3 b18
        go_wp2_with fail
        refine (hrkept_any w18 M2 m v2 _ (HM11.out.call HB18.out) HSM2.out.good HSM2.out.ok (by have := HSM2.out.len; omega) (by omega) n2).mono ?_
        rintro e w19 ⟨u4, rfl, hu4, b19⟩
        obtain ⟨a4, c4, rfl, hq4⟩ := hu4.pairs (keeph_ok HSM2.out.ok)
        have HB19 := Lib.hid (HB18.out.trans (b19.mono HB18.out.size))
        have HQ4 := Lib.hid hq4
        have HQ3b := Lib.hid (HQ3.out.call b19)
        clear hu4 hq4 b19 HQ3
        go_wp2_with fail
        refine (same_any w19 a3 a4 c3 c4 _ _ true (decide_eq_true rfl) HQ3b.out HQ4.out (by have := HK2.out; omega) (by have := HK2.out; omega)).mono ?_
        rintro e w20 ⟨rfl, b20⟩
        have HB20 := Lib.hid (HB19.out.trans (b20.mono HB19.out.size))
        clear b20 HQ3b HQ4
        go_wp2_with fail
        refine (HD.out.lost w20 B2 S2 m _ _ (HD.out.call HY11.out HB20.out)).mono ?_
        rintro e w21 ⟨rfl, b21⟩
        have HB21 := Lib.hid (HB20.out.trans (b21.mono HB20.out.size))
        clear b21
        go_wp2_with fail
        refine (hrlost_any w21 M2 m v2 _ _ (HM11.out.call HB21.out) HSM2.out.good HSM2.out.ok (by have := HSM2.out.len; omega) (by omega) n2 (by have := HSM2.out.sum; omega) rfl).mono ?_
        rintro e w22 ⟨rfl, b22⟩
        have HB22 := Lib.hid (HB21.out.trans (b22.mono HB21.out.size))
        clear b22
        go_wp2_with fail
        go_ret
        exact ⟨rfl, HB11.out.trans (HB22.out.mono HB11.out.size)⟩
      · go_wp2_with fail
        refine (HD.out.new _ m g1 g2).mono ?_
        rintro e wz ⟨B4, S4, rfl, h4, hs4, b9⟩
        have HBZ := Lib.hid b9
        clear h4 hs4 b9
        go_wp2_with fail
        refine (HMRG.out wz HBZ.out).mono ?_
        rintro e w11 ⟨S9, rfl, h11, k11, hs11⟩
        have hb11 := k11.below (HB8.out.trans (HBZ.out.mono HB8.out.size)) (HB8.out.trans (HBZ.out.mono HB8.out.size)).size (fun k hk => Nat.le_trans (Nat.le_trans HB2.out.size (HZ1.out k hk)) (Nat.le_refl _))
        have HB11 := Lib.hid hb11
        have HX11 := Lib.hid h11
        have HC11 := Lib.hid ((SideH.call HD.out HSC8.out HBZ.out).rf.past k11 (fun hk => (HM13.out _ hk).1 rfl) (fun g hg hk => (HM13.out g hk).2 hg))
        have HM11 := Lib.hid ((SideH.call HD.out HSB8.out HBZ.out).rf.past k11 (fun hk => (HM12.out _ hk).1 rfl) (fun g hg hk => (HM12.out g hk).2 hg))
        have HY11 := Lib.hid (HD.out.past (SideH.call HD.out HSB8.out HBZ.out).st k11 (fun k hk h1 => HS12.out k h1 hk))
        clear h11 k11 hs11 hb11
        go_wp2_with fail
        refine (HD.out.mnil w11 B1 S9 m _ _ HX11.out).mono ?_
        rintro e w12 ⟨rfl, b12⟩
        have HB12 := Lib.hid b12
        clear b12
        go_wp2_with fail
        refine (HD.out.pairs w12 B1 S9 m _ _ (HD.out.call HX11.out HB12.out) (by have := HK3.out; omega)).mono ?_
        rintro e w13 ⟨u1, rfl, hu1, b13⟩
        obtain ⟨a1, c1, rfl, hq1⟩ := hu1.pairs (keeph_ok HSM3.out.ok)
        have HB13 := Lib.hid (HB12.out.trans (b13.mono HB12.out.size))
        have HQ1 := Lib.hid hq1
        clear hu1 hq1 b13
        go_wp2_with fail
        refine (hrkept_any w13 M3 m v3 _ (HC11.out.call HB13.out) HSM3.out.good HSM3.out.ok (by have := HSM3.out.len; omega) (by omega) n2).mono ?_
        rintro e w14 ⟨u2, rfl, hu2, b14⟩
        obtain ⟨a2, c2, rfl, hq2⟩ := hu2.pairs (keeph_ok HSM3.out.ok)
        have HB14 := Lib.hid (HB13.out.trans (b14.mono HB13.out.size))
        have HQ2 := Lib.hid hq2
        have HQ1b := Lib.hid (HQ1.out.call b14)
        clear hu2 hq2 b14 HQ1
        go_wp2_with fail
        refine (same_any w14 a1 a2 c1 c2 _ _ true (decide_eq_true rfl) HQ1b.out HQ2.out (by have := HK3.out; omega) (by have := HK3.out; omega)).mono ?_
        rintro e w15 ⟨rfl, b15⟩
        have HB15 := Lib.hid (HB14.out.trans (b15.mono HB14.out.size))
        clear b15 HQ1b HQ2
        go_wp2_with fail
        refine (HD.out.lost w15 B1 S9 m _ _ (HD.out.call HX11.out HB15.out)).mono ?_
        rintro e w16 ⟨rfl, b16⟩
        have HB16 := Lib.hid (HB15.out.trans (b16.mono HB15.out.size))
        clear b16
        go_wp2_with fail
        refine (hrlost_any w16 M3 m v3 _ _ (HC11.out.call HB16.out) HSM3.out.good HSM3.out.ok (by have := HSM3.out.len; omega) (by omega) n2 (by have := HSM3.out.sum; omega) rfl).mono ?_
        rintro e w17 ⟨rfl, b17⟩
        have HB17 := Lib.hid (HB16.out.trans (b17.mono HB16.out.size))
        clear b17
        go_wp2_with fail
        refine (HD.out.pairs w17 B2 S2 m _ _ (HD.out.call HY11.out HB17.out) (by have := HK2.out; omega)).mono ?_
        rintro e w18 ⟨u3, rfl, hu3, b18⟩
        obtain ⟨a3, c3, rfl, hq3⟩ := hu3.pairs (keeph_ok HSM2.out.ok)
        have HB18 := Lib.hid (HB17.out.trans (b18.mono HB17.out.size))
        have HQ3 := Lib.hid hq3
        clear hu3 hq3 b18
        go_wp2_with fail
        refine (hrkept_any w18 M2 m v2 _ (HM11.out.call HB18.out) HSM2.out.good HSM2.out.ok (by have := HSM2.out.len; omega) (by omega) n2).mono ?_
        rintro e w19 ⟨u4, rfl, hu4, b19⟩
        obtain ⟨a4, c4, rfl, hq4⟩ := hu4.pairs (keeph_ok HSM2.out.ok)
        have HB19 := Lib.hid (HB18.out.trans (b19.mono HB18.out.size))
        have HQ4 := Lib.hid hq4
        have HQ3b := Lib.hid (HQ3.out.call b19)
        clear hu4 hq4 b19 HQ3
        go_wp2_with fail
        refine (same_any w19 a3 a4 c3 c4 _ _ true (decide_eq_true rfl) HQ3b.out HQ4.out (by have := HK2.out; omega) (by have := HK2.out; omega)).mono ?_
        rintro e w20 ⟨rfl, b20⟩
        have HB20 := Lib.hid (HB19.out.trans (b20.mono HB19.out.size))
        clear b20 HQ3b HQ4
        go_wp2_with fail
        refine (HD.out.lost w20 B2 S2 m _ _ (HD.out.call HY11.out HB20.out)).mono ?_
        rintro e w21 ⟨rfl, b21⟩
        have HB21 := Lib.hid (HB20.out.trans (b21.mono HB20.out.size))
        clear b21
        go_wp2_with fail
        refine (hrlost_any w21 M2 m v2 _ _ (HM11.out.call HB21.out) HSM2.out.good HSM2.out.ok (by have := HSM2.out.len; omega) (by omega) n2 (by have := HSM2.out.sum; omega) rfl).mono ?_
        rintro e w22 ⟨rfl, b22⟩
        have HB22 := Lib.hid (HB21.out.trans (b22.mono HB21.out.size))
        clear b22
        go_wp2_with fail
        go_ret
        exact ⟨rfl, HB11.out.trans (HB22.out.mono HB11.out.size)⟩
      · go_wp2_with fail
        refine (HD.out.bad _ o HO.out hbad).mono ?_
        rintro e wz ⟨rfl, b9⟩
        have HBZ := Lib.hid b9
        clear b9 hbad
        go_wp2_with fail
        refine (HMRG.out wz HBZ.out).mono ?_
        rintro e w11 ⟨S9, rfl, h11, k11, hs11⟩
        have hb11 := k11.below (HB8.out.trans (HBZ.out.mono HB8.out.size)) (HB8.out.trans (HBZ.out.mono HB8.out.size)).size (fun k hk => Nat.le_trans (Nat.le_trans HB2.out.size (HZ1.out k hk)) (Nat.le_refl _))
        have HB11 := Lib.hid hb11
        have HX11 := Lib.hid h11
        have HC11 := Lib.hid ((SideH.call HD.out HSC8.out HBZ.out).rf.past k11 (fun hk => (HM13.out _ hk).1 rfl) (fun g hg hk => (HM13.out g hk).2 hg))
        have HM11 := Lib.hid ((SideH.call HD.out HSB8.out HBZ.out).rf.past k11 (fun hk => (HM12.out _ hk).1 rfl) (fun g hg hk => (HM12.out g hk).2 hg))
        have HY11 := Lib.hid (HD.out.past (SideH.call HD.out HSB8.out HBZ.out).st k11 (fun k hk h1 => HS12.out k h1 hk))
        clear h11 k11 hs11 hb11
        go_wp2_with fail
        refine (HD.out.mnil w11 B1 S9 m _ _ HX11.out).mono ?_
        rintro e w12 ⟨rfl, b12⟩
        have HB12 := Lib.hid b12
        clear b12
        go_wp2_with fail
        refine (HD.out.pairs w12 B1 S9 m _ _ (HD.out.call HX11.out HB12.out) (by have := HK3.out; omega)).mono ?_
        rintro e w13 ⟨u1, rfl, hu1, b13⟩
        obtain ⟨a1, c1, rfl, hq1⟩ := hu1.pairs (keeph_ok HSM3.out.ok)
        have HB13 := Lib.hid (HB12.out.trans (b13.mono HB12.out.size))
        have HQ1 := Lib.hid hq1
        clear hu1 hq1 b13
        go_wp2_with fail
        refine (hrkept_any w13 M3 m v3 _ (HC11.out.call HB13.out) HSM3.out.good HSM3.out.ok (by have := HSM3.out.len; omega) (by omega) n2).mono ?_
        rintro e w14 ⟨u2, rfl, hu2, b14⟩
        obtain ⟨a2, c2, rfl, hq2⟩ := hu2.pairs (keeph_ok HSM3.out.ok)
        have HB14 := Lib.hid (HB13.out.trans (b14.mono HB13.out.size))
        have HQ2 := Lib.hid hq2
        have HQ1b := Lib.hid (HQ1.out.call b14)
        clear hu2 hq2 b14 HQ1
        go_wp2_with fail
        refine (same_any w14 a1 a2 c1 c2 _ _ true (decide_eq_true rfl) HQ1b.out HQ2.out (by have := HK3.out; omega) (by have := HK3.out; omega)).mono ?_
        rintro e w15 ⟨rfl, b15⟩
        have HB15 := Lib.hid (HB14.out.trans (b15.mono HB14.out.size))
        clear b15 HQ1b HQ2
        go_wp2_with fail
        refine (HD.out.lost w15 B1 S9 m _ _ (HD.out.call HX11.out HB15.out)).mono ?_
        rintro e w16 ⟨rfl, b16⟩
        have HB16 := Lib.hid (HB15.out.trans (b16.mono HB15.out.size))
        clear b16
        go_wp2_with fail
        refine (hrlost_any w16 M3 m v3 _ _ (HC11.out.call HB16.out) HSM3.out.good HSM3.out.ok (by have := HSM3.out.len; omega) (by omega) n2 (by have := HSM3.out.sum; omega) rfl).mono ?_
        rintro e w17 ⟨rfl, b17⟩
        have HB17 := Lib.hid (HB16.out.trans (b17.mono HB16.out.size))
        clear b17
        go_wp2_with fail
        refine (HD.out.pairs w17 B2 S2 m _ _ (HD.out.call HY11.out HB17.out) (by have := HK2.out; omega)).mono ?_
        rintro e w18 ⟨u3, rfl, hu3, b18⟩
        obtain ⟨a3, c3, rfl, hq3⟩ := hu3.pairs (keeph_ok HSM2.out.ok)
        have HB18 := Lib.hid (HB17.out.trans (b18.mono HB17.out.size))
        have HQ3 := Lib.hid hq3
        clear hu3 hq3 b18
        go_wp2_with fail
        refine (hrkept_any w18 M2 m v2 _ (HM11.out.call HB18.out) HSM2.out.good HSM2.out.ok (by have := HSM2.out.len; omega) (by omega) n2).mono ?_
        rintro e w19 ⟨u4, rfl, hu4, b19⟩
        obtain ⟨a4, c4, rfl, hq4⟩ := hu4.pairs (keeph_ok HSM2.out.ok)
        have HB19 := Lib.hid (HB18.out.trans (b19.mono HB18.out.size))
        have HQ4 := Lib.hid hq4
        have HQ3b := Lib.hid (HQ3.out.call b19)
        clear hu4 hq4 b19 HQ3
        go_wp2_with fail
        refine (same_any w19 a3 a4 c3 c4 _ _ true (decide_eq_true rfl) HQ3b.out HQ4.out (by have := HK2.out; omega) (by have := HK2.out; omega)).mono ?_
        rintro e w20 ⟨rfl, b20⟩
        have HB20 := Lib.hid (HB19.out.trans (b20.mono HB19.out.size))
        clear b20 HQ3b HQ4
        go_wp2_with fail
        refine (HD.out.lost w20 B2 S2 m _ _ (HD.out.call HY11.out HB20.out)).mono ?_
        rintro e w21 ⟨rfl, b21⟩
        have HB21 := Lib.hid (HB20.out.trans (b21.mono HB20.out.size))
        clear b21
        go_wp2_with fail
        refine (hrlost_any w21 M2 m v2 _ _ (HM11.out.call HB21.out) HSM2.out.good HSM2.out.ok (by have := HSM2.out.len; omega) (by omega) n2 (by have := HSM2.out.sum; omega) rfl).mono ?_
        rintro e w22 ⟨rfl, b22⟩
        have HB22 := Lib.hid (HB21.out.trans (b22.mono HB21.out.size))
        clear b22
        go_wp2_with fail
        go_ret
        exact ⟨rfl, HB11.out.trans (HB22.out.mono HB11.out.size)⟩
end Go.Proofs.Ytdblicfcfmfneaa
