/-
  The law CrateAdds, walked.
-/
import Derived.Test.YtggdmlldolaojaaCrateD
import Derived.Test.YtggdmlldolaojaaGrew
namespace Go.Proofs.Ytggdmlldolaojaa
set_option linter.unusedVariables false
set_option linter.unusedSimpArgs false
open Go.RowKit

set_option maxRecDepth 100000 in
set_option maxHeartbeats 4000000 in
theorem cadds_in {Cr : World → Nat → (Nat → Prop) → List PairV → Prop} (D : CrateDoes Cr) (NL : CrateNil) (w : World) (A : Option Addr) (cap : Nat) (L : List PairV) (i : Int) (h : Pairs w A L) (hll : L.length ≤ 100) (hi : I64 i) :
    CallsIn Fence.wide 8 Try.prog 3 #[.slice A L.length cap, .int .i64 i] w fun e w' => e = .returned (.bool true) ∧ Below w.heap.size w w' := by
  have HD := Lib.hid D
  have HP := Lib.hid h
  have HI := Lib.hid hi
  obtain ⟨i0, i1⟩ := hi
  have HN := Lib.hid NL
  clear D h NL
  · have q0 : ¬ (100 : Int) < L.length := by omega
    obtain ⟨wz, hwz⟩ : ∃ wz, w.alloc (.cells #[.bool false] 4) = wz := ⟨_, rfl⟩
    have bz : Below w.heap.size w wz := by rw [← hwz]; exact (Below.refl _ _).alloc (Nat.le_refl _) _
    have cz : wz.cell? ⟨w.heap.size, 0, none⟩ = some (.bool false) := by subst hwz; go_simp
    have fz : wz.frozen? ⟨w.heap.size, 0, none⟩ = false := by subst hwz; go_simp
    have zz : wz.heap.size = w.heap.size + 1 := by rw [← hwz]; simp
    have HPZ := Lib.hid (HP.out.call bz)
    have HWZ := Lib.hid hwz
    have HZZ := Lib.hid zz
    have HCZ := Lib.hid cz
    have HFZ := Lib.hid fz
    have HBZ := Lib.hid bz
    clear bz cz fz zz
    refine callsIn_of_wp_marks Try.func3 rfl trivial ?_ rfl
    refine wpIn_wide.2 ?_
    simp only [Try.ntmps3, List.size_toArray, List.length_cons, List.length_nil, Nat.reduceAdd, Nat.reduceSub, Array.replicate_succ, Array.replicate_zero, List.push_toArray, List.append_toArray, List.nil_append, List.cons_append]
    go_wp2_with fail
    clear hwz
    refine (calive_any HD.out _).mono ?_
    rintro e w0 ⟨rfl, b0⟩
    have z0 := b0.size
    go_wp2_with fail
    refine (HD.out.new _).mono ?_
    rintro e w1 ⟨B, S, rfl, h1, hs1, b1⟩
    have hb1 := b0.trans (b1.mono z0)
    have z1 := hb1.size
    have hs1' : ∀ k, S k → wz.heap.size ≤ k := fun k hk => Nat.le_trans z0 (hs1 k hk)
    have hr0 := RefC.new w1
    have h2 := HD.out.call h1 ((Below.refl _ _).alloc (Nat.le_refl _) (.cells #[.slice none 0 0] 28))
    have hap : ∀ k, S k → k < w1.heap.size := HD.out.lt _ _ _ _ h1
    have HR0 := Lib.hid hr0
    have HC0 := Lib.hid h2
    have HAP := Lib.hid hap
    have HS1 := Lib.hid hs1'
    have hb2 := hb1.alloc z1 (.cells #[.slice none 0 0] 28)
    clear b1 hs1 hr0 h1 h2 hap hs1' hb1
    go_wp2_with fail
    go_loopw [22] (fun j wr => ∃ (k : Nat) (S' : Nat → Prop) (v : Value) (R : List PairV), k ≤ L.length ∧ j = .int .i64 k ∧ Cr wr B S' R ∧ RefC wr w1.heap.size v R ∧ R.length ≤ k ∧ (∀ x, S' x → wz.heap.size ≤ x) ∧ (∀ x, S' x → x ≠ w1.heap.size ∧ v.ownBlock ≠ some x) ∧ Below wz.heap.size wz wr) (fun j _ => L.length - (intOf j).toNat)
    case atStart => exact ⟨0, S, _, [], Nat.zero_le _, rfl, HC0.out, HR0.out, Nat.le_refl _, HS1.out, fun x hx => ⟨fun e => by have := HAP.out x hx; omega, fun e => by simp [Value.ownBlock] at e⟩, hb2⟩
    case round =>
      clear hb2
      obtain ⟨k, S', v, R, hk, rfl, hcr, hrf, hRl, hsw, hsd, hb2⟩ := hrel
      have hbs := hb2.size
      have HCR := Lib.hid hcr
      have HRF := Lib.hid hrf
      have HSW := Lib.hid hsw
      have HSD := Lib.hid hsd
      have HCT := Lib.hid (HD.out.crt _ _ _ _ hcr)
      have hM := hrf.lt
      clear hcr hrf hsw hsd HR0 HC0 HAP HS1
      by_cases hlt : k < L.length
      · have kk : (k : Int) < L.length := by omega
        have hxk : L[k]? = some L[k] := List.getElem?_eq_getElem hlt
        generalize hit : L[k] = p at *
        obtain ⟨px, pc⟩ := p
        obtain ⟨b1, off, rfl, hbl, c0, c1⟩ := (HPZ.out.call hb2).at_ k _ hxk
        simp only at c0 c1
        have hok := HP.out.ok _ (List.mem_of_getElem? hxk)
        have HOK := Lib.hid hok
        obtain ⟨⟨o1, o2⟩, o3, o4⟩ := hok
        simp only at o1 o2 o3 o4
        clear hxk hit
        have HC1 := Lib.hid (HD.out.call HCR.out ((Below.refl _ _).alloc (Nat.le_refl _) (.cells #[.int .i64 px, .int .u64 pc] 31)))
        have HR1 := Lib.hid (HRF.out.call ((Below.refl _ _).alloc (Nat.le_refl _) (.cells #[.int .i64 px, .int .u64 pc] 31)))
        have hsl := Lib.hid (HD.out.lt _ _ _ _ HCR.out)
        go_wp2_with fail
        -- REGION
        refine wp_region_noPanic ?_
        refine wp_region_held_drew (S := fun w' => w'.cell? ⟨wr.heap.size, 0, none⟩ = some (.int .i64 px) ∧ w'.cell? ⟨wr.heap.size, 1, none⟩ = some (.int .u64 pc)) (by kernel_rfl) ⟨by go_simp, by go_simp⟩ (fun hHeld => ?_)
        have hCb : Cr (wr.alloc (.cells #[.int .i64 px, .int .u64 pc] 31)).drew B S' R := HD.out.keep _ _ _ _ _ HC1.out (fun k hk => rfl)
        have hRb : RefC (wr.alloc (.cells #[.int .i64 px, .int .u64 pc] 31)).drew w1.heap.size v R := ⟨HR1.out.1, HR1.out.2⟩
        have hBb : Below wz.heap.size wz (wr.alloc (.cells #[.int .i64 px, .int .u64 pc] 31)).drew := (hb2.alloc hbs _).drew
        have hsb : (wr.alloc (.cells #[.int .i64 px, .int .u64 pc] 31)).drew.heap.size = wr.heap.size + 1 := by simp
        generalize (wr.alloc (.cells #[.int .i64 px, .int .u64 pc] 31)).drew = wb at *
        have HCB := Lib.hid hCb
        have HRB := Lib.hid hRb
        have HBB := Lib.hid hBb
        have HSB := Lib.hid hsb
        clear hCb hRb hBb hsb c0 c1
        refine wpAnyH_take (i := 0) (oi := _) (v := ?v1) (by simp only [List.getElem?_toArray, List.getElem?_cons_succ, List.getElem?_cons_zero]; rfl) (by kernel_rfl) (by kernel_rfl) (by kernel_rfl) (fun _ _ _ h => h) (Or.inl ⟨by rfl, ?y1⟩) hHeld ?r1
        case y1 => (intro w hSw; (try dsimp only at hSw); go_simp; try with_reducible rfl)
        try simp only [Act.put, List.setIfInBounds_toArray, List.set_cons_zero, List.set_cons_succ]
        refine wpAnyH_take (i := 1) (oi := _) (v := ?v2) (by simp only [List.getElem?_toArray, List.getElem?_cons_succ, List.getElem?_cons_zero]; rfl) (by kernel_rfl) (by kernel_rfl) (by kernel_rfl) (fun _ _ _ h => h) (Or.inl ⟨by rfl, ?y2⟩) hHeld ?r2
        case y2 => (intro w hSw; (try dsimp only at hSw); go_simp; try with_reducible rfl)
        try simp only [Act.put, List.setIfInBounds_toArray, List.set_cons_zero, List.set_cons_succ]
        refine wpAnyH_take (i := 2) (oi := _) (v := ?v3) (by simp only [List.getElem?_toArray, List.getElem?_cons_succ, List.getElem?_cons_zero]; rfl) (by kernel_rfl) (by kernel_rfl) (by kernel_rfl) (fun _ _ _ h => h) (Or.inl ⟨by rfl, ?y3⟩) hHeld ?r3
        case y3 => (intro w hSw; (try dsimp only at hSw); go_simp; try with_reducible rfl)
        try simp only [Act.put, List.setIfInBounds_toArray, List.set_cons_zero, List.set_cons_succ]
        refine wpAnyH_take (i := 3) (oi := _) (v := ?v4) (by simp only [List.getElem?_toArray, List.getElem?_cons_succ, List.getElem?_cons_zero]; rfl) (by kernel_rfl) (by kernel_rfl) (by kernel_rfl) (fun _ _ _ h => h) (Or.inl ⟨by rfl, ?y4⟩) hHeld ?r4
        case y4 => (intro w hSw; (try dsimp only at hSw); go_simp; try with_reducible rfl)
        try simp only [Act.put, List.setIfInBounds_toArray, List.set_cons_zero, List.set_cons_succ]
        refine wpAnyH_take (i := 4) (oi := _) (v := ?v5) (by simp only [List.getElem?_toArray, List.getElem?_cons_succ, List.getElem?_cons_zero]; rfl) (by kernel_rfl) (by kernel_rfl) (by kernel_rfl) (fun _ _ _ h => h) (Or.inl ⟨by rfl, ?y5⟩) hHeld ?r5
        case y5 => (intro w hSw; (try dsimp only at hSw); go_simp; try with_reducible rfl)
        try simp only [Act.put, List.setIfInBounds_toArray, List.set_cons_zero, List.set_cons_succ]
        refine wpAnyH_take (i := 6) (oi := _) (v := ?v6) (by simp only [List.getElem?_toArray, List.getElem?_cons_succ, List.getElem?_cons_zero]; rfl) (by kernel_rfl) (by kernel_rfl) (by kernel_rfl) (fun _ _ _ h => h) (Or.inl ⟨by rfl, ?y6⟩) hHeld ?r6
        case y6 => (intro w hSw; (try dsimp only at hSw); go_simp; try with_reducible rfl)
        try simp only [Act.put, List.setIfInBounds_toArray, List.set_cons_zero, List.set_cons_succ]
        refine wpAnyH_take (i := 7) (oi := _) (v := ?v7) (by simp only [List.getElem?_toArray, List.getElem?_cons_succ, List.getElem?_cons_zero]; rfl) (by kernel_rfl) (by kernel_rfl) (by kernel_rfl) (fun _ _ _ h => h) (Or.inl ⟨by rfl, ?y7⟩) hHeld ?r7
        case y7 => (intro w hSw; (try dsimp only at hSw); go_simp; try with_reducible rfl)
        try simp only [Act.put, List.setIfInBounds_toArray, List.set_cons_zero, List.set_cons_succ]
        refine wpAnyH_take (i := 8) (oi := _) (v := ?v8) (by simp only [List.getElem?_toArray, List.getElem?_cons_succ, List.getElem?_cons_zero]; rfl) (by kernel_rfl) (by kernel_rfl) (by kernel_rfl) (fun _ _ _ h => h) (Or.inl ⟨by rfl, ?y8⟩) hHeld ?r8
        case y8 => (intro w hSw; (try dsimp only at hSw); go_simp; try with_reducible rfl)
        try simp only [Act.put, List.setIfInBounds_toArray, List.set_cons_zero, List.set_cons_succ]
        refine wpAnyH_take (i := 9) (oi := _) (v := ?v9) (by simp only [List.getElem?_toArray, List.getElem?_cons_succ, List.getElem?_cons_zero]; rfl) (by kernel_rfl) (by kernel_rfl) (by kernel_rfl) (fun _ _ _ h => h) (Or.inl ⟨by rfl, ?y9⟩) hHeld ?r9
        case y9 => (intro w hSw; (try dsimp only at hSw); go_simp; try with_reducible rfl)
        try simp only [Act.put, List.setIfInBounds_toArray, List.set_cons_zero, List.set_cons_succ]
        refine wpAnyH_take (i := 10) (oi := _) (v := ?v10) (by simp only [List.getElem?_toArray, List.getElem?_cons_succ, List.getElem?_cons_zero]; rfl) (by kernel_rfl) (by kernel_rfl) (by kernel_rfl) (fun _ _ _ h => h) (Or.inl ⟨by rfl, ?y10⟩) hHeld ?r10
        case y10 => (intro w hSw; (try dsimp only at hSw); go_simp; try with_reducible rfl)
        try simp only [Act.put, List.setIfInBounds_toArray, List.set_cons_zero, List.set_cons_succ]
        have hnb : ¬ S' wr.heap.size := fun hx => by have := hsl.out _ hx; omega
        refine wpAnyH_ready (rs := [5]) (by kernel_rfl) (by simp) ?_
        refine AllReadyH.cons (o := _) (by simp only [List.getElem?_toArray, List.getElem?_cons_succ, List.getElem?_cons_zero]; rfl) (fun K hK => ?_) AllReadyH.nil
        go_simp
        refine (HD.out.add _ B S' R px pc HCB.out HOK.out.1 HOK.out.2).mono ?_
        rintro e w3 ⟨S3, rfl, h3, k3, hs3⟩
        try (go_wp2_with fail)
        refine hK.out _ _ (⟨k3.cell hnb hHeld.1, k3.cell hnb hHeld.2⟩) (fun hHeld => ?_)
        clear hK K
        try simp only [Act.put, List.setIfInBounds_toArray, List.set_cons_zero, List.set_cons_succ]
        have hb3 := k3.below HBB.out (by rw [HSB.out]; omega) HSW.out
        have hr3 := HRB.out.past k3 (fun hx => (HSD.out _ hx).1 rfl) (fun g hg hx => (HSD.out g hx).2 hg)
        have hvlt := Lib.hid (HRB.out.2.lt)
        have HR3 := Lib.hid hr3
        have HC3 := Lib.hid h3
        have k3s := k3.size
        have HSB2 := Lib.hid (HSB.out)
        clear h3 k3 hr3 hnb
        have hb3s := hb3.size
        refine wpAnyH_ready (rs := [11]) (by kernel_rfl) (by simp) ?_
        refine AllReadyH.cons (o := _) (by simp only [List.getElem?_toArray, List.getElem?_cons_succ, List.getElem?_cons_zero]; rfl) (fun K hK => ?_) AllReadyH.nil
        go_simp
        refine (rcadd_any _ w1.heap.size v R px pc HR3.out HCT.out (by omega) HOK.out.1 HOK.out.2).mono ?_
        rintro e w4 ⟨rfl, ⟨v4, hr4, hv4⟩, hg4⟩
        try (go_wp2_with fail)
        refine hK.out _ _ (⟨(World.cell?_of_block (a := ⟨wr.heap.size, 0, none⟩) (hg4.block _ (World.block_lt_of_cell? (a := ⟨wr.heap.size, 0, none⟩) _ hHeld.1) (fun e => by have e1 : wr.heap.size = w1.heap.size := Option.some.inj e; omega))).trans hHeld.1, (World.cell?_of_block (a := ⟨wr.heap.size, 1, none⟩) (hg4.block _ (World.block_lt_of_cell? (a := ⟨wr.heap.size, 1, none⟩) _ hHeld.2) (fun e => by have e1 : wr.heap.size = w1.heap.size := Option.some.inj e; omega))).trans hHeld.2⟩) (fun hHeld => ?_)
        clear hK K
        try simp only [Act.put, List.setIfInBounds_toArray, List.set_cons_zero, List.set_cons_succ]
        have h4 : Cr w4 B S3 (crRow R px pc) := HD.out.keep _ _ _ _ _ HC3.out fun x hx => hg4.block x (HD.out.lt _ _ _ _ HC3.out x hx) (fun e => by
          have e1 := Option.some.inj e
          rcases hs3 x hx with h | h
          · exact (HSD.out x h).1 e1
          · have := HSB2.out; omega)
        have hb4 := hb3.trans (grown_below hg4 z1 hb3.size)
        have hsw4 : ∀ x, S3 x → wz.heap.size ≤ x := fun x hx => by
          rcases hs3 x hx with h | h
          · exact HSW.out x h
          · have := HSB2.out; omega
        have hsd4 : ∀ x, S3 x → x ≠ w1.heap.size ∧ v4.ownBlock ≠ some x := fun x hx => by
          have hlt3 := HD.out.lt _ _ _ _ HC3.out x hx
          refine ⟨?_, fun e => ?_⟩
          · rcases hs3 x hx with h | h
            · exact (HSD.out x h).1
            · have := HSB2.out; omega
          · rcases hv4 with rfl | hv4
            · rcases hs3 x hx with h | h
              · exact (HSD.out x h).2 e
              · have := (hvlt.out x e).2; have := HSB2.out; omega
            · have := hv4 x e; omega
        have HRL : Hid ((crRow R px pc).length ≤ k + 1) := Lib.hid (Nat.le_trans (crRow_len R px pc) (by omega))
        have HCT4 := Lib.hid (HD.out.crt _ _ _ _ h4)
        have hxb : w4.cell? ⟨wr.heap.size, 0, none⟩ = some (.int .i64 px) := hHeld.1
        generalize crRow R px pc = RR at *
        obtain ⟨Av, cv, hve, hPv⟩ := hr4.2.pairs HCT4.out.ok
        have cm4 : w4.cell? ⟨w1.heap.size, 0, none⟩ = some (.slice Av RR.length cv) := by rw [cell_of_one hr4.1, hve]
        have H4 := Lib.hid h4
        have HR4 := Lib.hid hr4
        have HSW4 := Lib.hid hsw4
        have HSD4 := Lib.hid hsd4
        have HPV := Lib.hid hPv
        have HB4 := Lib.hid hb4
        clear hg4 h4 hr4 hsw4 hsd4 hv4 hs3 hb3 hPv hve hvlt HR3 HC3 HSB2 hb4
        refine wpAnyH_weaken (S' := fun w' => (w'.cell? ⟨wr.heap.size, 0, none⟩ = some (.int .i64 px) ∧ w'.cell? ⟨wr.heap.size, 1, none⟩ = some (.int .u64 pc)) ∧ w'.cell? ⟨w1.heap.size, 0, none⟩ = some (.slice Av RR.length cv) ∧ Below w4.heap.size w4 w') (fun _ h => h.1) _ _ _ _ ?_
        have hHeld2 : (w4.cell? ⟨wr.heap.size, 0, none⟩ = some (.int .i64 px) ∧ w4.cell? ⟨wr.heap.size, 1, none⟩ = some (.int .u64 pc)) ∧ w4.cell? ⟨w1.heap.size, 0, none⟩ = some (.slice Av RR.length cv) ∧ Below w4.heap.size w4 w4 := ⟨hHeld, cm4, Below.refl _ _⟩
        clear hHeld cm4
        have hHeld := hHeld2
        clear hHeld2
        refine wpAnyH_take (i := 12) (oi := _) (v := ?v11) (by simp only [List.getElem?_toArray, List.getElem?_cons_succ, List.getElem?_cons_zero]; rfl) (by kernel_rfl) (by kernel_rfl) (by kernel_rfl) (fun _ _ _ h => h) (Or.inl ⟨by rfl, ?y11⟩) hHeld ?r11
        case y11 => (intro w hSw; (try dsimp only at hSw); go_simp; try with_reducible rfl)
        try simp only [Act.put, List.setIfInBounds_toArray, List.set_cons_zero, List.set_cons_succ]
        refine wpAnyH_take (i := 13) (oi := _) (v := ?v12) (by simp only [List.getElem?_toArray, List.getElem?_cons_succ, List.getElem?_cons_zero]; rfl) (by kernel_rfl) (by kernel_rfl) (by kernel_rfl) (fun _ _ _ h => h) (Or.inl ⟨by rfl, ?y12⟩) hHeld ?r12
        case y12 => (intro w hSw; (try dsimp only at hSw); go_simp; try with_reducible rfl)
        try simp only [Act.put, List.setIfInBounds_toArray, List.set_cons_zero, List.set_cons_succ]
        refine wpAnyH_take (i := 14) (oi := _) (v := ?v13) (by simp only [List.getElem?_toArray, List.getElem?_cons_succ, List.getElem?_cons_zero]; rfl) (by kernel_rfl) (by kernel_rfl) (by kernel_rfl) (fun _ _ _ h => h) (Or.inl ⟨by rfl, ?y13⟩) hHeld ?r13
        case y13 => (intro w hSw; (try dsimp only at hSw); go_simp; try with_reducible rfl)
        try simp only [Act.put, List.setIfInBounds_toArray, List.set_cons_zero, List.set_cons_succ]
        refine wpAnyH_take (i := 16) (oi := _) (v := ?v14) (by simp only [List.getElem?_toArray, List.getElem?_cons_succ, List.getElem?_cons_zero]; rfl) (by kernel_rfl) (by kernel_rfl) (by kernel_rfl) (fun _ _ _ h => h) (Or.inl ⟨by rfl, ?y14⟩) hHeld ?r14
        case y14 => (intro w hSw; (try dsimp only at hSw); go_simp; try with_reducible rfl)
        try simp only [Act.put, List.setIfInBounds_toArray, List.set_cons_zero, List.set_cons_succ]
        refine wpAnyH_take (i := 17) (oi := _) (v := ?v15) (by simp only [List.getElem?_toArray, List.getElem?_cons_succ, List.getElem?_cons_zero]; rfl) (by kernel_rfl) (by kernel_rfl) (by kernel_rfl) (fun _ _ _ h => h) (Or.inl ⟨by rfl, ?y15⟩) hHeld ?r15
        case y15 => (intro w hSw; (try dsimp only at hSw); go_simp; try with_reducible rfl)
        try simp only [Act.put, List.setIfInBounds_toArray, List.set_cons_zero, List.set_cons_succ]
        refine wpAnyH_take (i := 18) (oi := _) (v := ?v16) (by simp only [List.getElem?_toArray, List.getElem?_cons_succ, List.getElem?_cons_zero]; rfl) (by kernel_rfl) (by kernel_rfl) (by kernel_rfl) (fun _ _ _ h => h) (Or.inl ⟨by rfl, ?y16⟩) hHeld ?r16
        case y16 => (intro w hSw; (try dsimp only at hSw); go_simp; try with_reducible rfl)
        try simp only [Act.put, List.setIfInBounds_toArray, List.set_cons_zero, List.set_cons_succ]
        refine wpAnyH_take (i := 19) (oi := _) (v := ?v17) (by simp only [List.getElem?_toArray, List.getElem?_cons_succ, List.getElem?_cons_zero]; rfl) (by kernel_rfl) (by kernel_rfl) (by kernel_rfl) (fun _ _ _ h => h) (Or.inl ⟨by rfl, ?y17⟩) hHeld ?r17
        case y17 => (intro w hSw; (try dsimp only at hSw); go_simp; try with_reducible rfl)
        try simp only [Act.put, List.setIfInBounds_toArray, List.set_cons_zero, List.set_cons_succ]
        refine wpAnyH_ready (rs := [15]) (by kernel_rfl) (by simp) ?_
        refine AllReadyH.cons (o := _) (by simp only [List.getElem?_toArray, List.getElem?_cons_succ, List.getElem?_cons_zero]; rfl) (fun K hK => ?_) AllReadyH.nil
        go_simp
        refine (HD.out.pairs _ B S3 RR (HD.out.call H4.out hHeld.2.2)).mono ?_
        rintro e w5 ⟨vp, rfl, ho5, bN⟩
        obtain ⟨A5, c5, rfl, hP5⟩ := ho5.pairs HCT4.out.ok
        try (go_wp2_with fail)
        refine hK.out _ _ (⟨⟨cell_later bN hHeld.1.1, cell_later bN hHeld.1.2⟩, cell_later bN hHeld.2.1, hHeld.2.2.trans (bN.mono hHeld.2.2.size)⟩) (fun hHeld => ?_)
        clear hK K
        try simp only [Act.put, List.setIfInBounds_toArray, List.set_cons_zero, List.set_cons_succ]
        have HP5 := Lib.hid hP5
        clear hP5 ho5 bN
        refine wpAnyH_ready (rs := [20]) (by kernel_rfl) (by simp) ?_
        refine AllReadyH.cons (o := _) (by simp only [List.getElem?_toArray, List.getElem?_cons_succ, List.getElem?_cons_zero]; rfl) (fun K hK => ?_) AllReadyH.nil
        go_simp
        refine (same_any _ A5 Av c5 cv RR RR true (decide_eq_true rfl) HP5.out (HPV.out.call hHeld.2.2) (by have := HRL.out; omega) (by have := HRL.out; omega)).mono ?_
        rintro e wN ⟨rfl, bN⟩
        try (go_wp2_with fail)
        refine hK.out _ _ (⟨⟨cell_later bN hHeld.1.1, cell_later bN hHeld.1.2⟩, cell_later bN hHeld.2.1, hHeld.2.2.trans (bN.mono hHeld.2.2.size)⟩) (fun hHeld => ?_)
        clear hK K
        try simp only [Act.put, List.setIfInBounds_toArray, List.set_cons_zero, List.set_cons_succ]
        clear bN
        refine wpAnyH_take (i := 21) (oi := _) (v := ?v18) (by simp only [List.getElem?_toArray, List.getElem?_cons_succ, List.getElem?_cons_zero]; rfl) (by kernel_rfl) (by kernel_rfl) (by kernel_rfl) (fun _ _ _ h => h) (Or.inl ⟨by rfl, ?y18⟩) hHeld ?r18
        case y18 => (intro w hSw; (try dsimp only at hSw); go_simp; try with_reducible rfl)
        try simp only [Act.put, List.setIfInBounds_toArray, List.set_cons_zero, List.set_cons_succ]
        refine wpAnyH_take (i := 22) (oi := _) (v := ?v19) (by simp only [List.getElem?_toArray, List.getElem?_cons_succ, List.getElem?_cons_zero]; rfl) (by kernel_rfl) (by kernel_rfl) (by kernel_rfl) (fun _ _ _ h => h) (Or.inl ⟨by rfl, ?y19⟩) hHeld ?r19
        case y19 => (intro w hSw; (try dsimp only at hSw); go_simp; try with_reducible rfl)
        try simp only [Act.put, List.setIfInBounds_toArray, List.set_cons_zero, List.set_cons_succ]
        refine wpAnyH_take (i := 23) (oi := _) (v := ?v20) (by simp only [List.getElem?_toArray, List.getElem?_cons_succ, List.getElem?_cons_zero]; rfl) (by kernel_rfl) (by kernel_rfl) (by kernel_rfl) (fun _ _ _ h => h) (Or.inl ⟨by rfl, ?y20⟩) hHeld ?r20
        case y20 => (intro w hSw; (try dsimp only at hSw); go_simp; try with_reducible rfl)
        try simp only [Act.put, List.setIfInBounds_toArray, List.set_cons_zero, List.set_cons_succ]
        refine wpAnyH_take (i := 24) (oi := _) (v := ?v21) (by simp only [List.getElem?_toArray, List.getElem?_cons_succ, List.getElem?_cons_zero]; rfl) (by kernel_rfl) (by kernel_rfl) (by kernel_rfl) (fun _ _ _ h => h) (Or.inl ⟨by rfl, ?y21⟩) hHeld ?r21
        case y21 => (intro w hSw; (try dsimp only at hSw); go_simp; try with_reducible rfl)
        try simp only [Act.put, List.setIfInBounds_toArray, List.set_cons_zero, List.set_cons_succ]
        refine wpAnyH_take (i := 26) (oi := _) (v := ?v22) (by simp only [List.getElem?_toArray, List.getElem?_cons_succ, List.getElem?_cons_zero]; rfl) (by kernel_rfl) (by kernel_rfl) (by kernel_rfl) (fun _ _ _ h => h) (Or.inl ⟨by rfl, ?y22⟩) hHeld ?r22
        case y22 => (intro w hSw; (try dsimp only at hSw); go_simp; try with_reducible rfl)
        try simp only [Act.put, List.setIfInBounds_toArray, List.set_cons_zero, List.set_cons_succ]
        refine wpAnyH_take (i := 27) (oi := _) (v := ?v23) (by simp only [List.getElem?_toArray, List.getElem?_cons_succ, List.getElem?_cons_zero]; rfl) (by kernel_rfl) (by kernel_rfl) (by kernel_rfl) (fun _ _ _ h => h) (Or.inl ⟨by rfl, ?y23⟩) hHeld ?r23
        case y23 => (intro w hSw; (try dsimp only at hSw); go_simp; try with_reducible rfl)
        try simp only [Act.put, List.setIfInBounds_toArray, List.set_cons_zero, List.set_cons_succ]
        refine wpAnyH_take (i := 28) (oi := _) (v := ?v24) (by simp only [List.getElem?_toArray, List.getElem?_cons_succ, List.getElem?_cons_zero]; rfl) (by kernel_rfl) (by kernel_rfl) (by kernel_rfl) (fun _ _ _ h => h) (Or.inl ⟨by rfl, ?y24⟩) hHeld ?r24
        case y24 => (intro w hSw; (try dsimp only at hSw); go_simp; try with_reducible rfl)
        try simp only [Act.put, List.setIfInBounds_toArray, List.set_cons_zero, List.set_cons_succ]
        refine wpAnyH_take (i := 29) (oi := _) (v := ?v25) (by simp only [List.getElem?_toArray, List.getElem?_cons_succ, List.getElem?_cons_zero]; rfl) (by kernel_rfl) (by kernel_rfl) (by kernel_rfl) (fun _ _ _ h => h) (Or.inl ⟨by rfl, ?y25⟩) hHeld ?r25
        case y25 => (intro w hSw; (try dsimp only at hSw); go_simp; try with_reducible rfl)
        try simp only [Act.put, List.setIfInBounds_toArray, List.set_cons_zero, List.set_cons_succ]
        refine wpAnyH_ready (rs := [25]) (by kernel_rfl) (by simp) ?_
        refine AllReadyH.cons (o := _) (by simp only [List.getElem?_toArray, List.getElem?_cons_succ, List.getElem?_cons_zero]; rfl) (fun K hK => ?_) AllReadyH.nil
        go_simp
        refine (HD.out.total _ B S3 RR (HD.out.call H4.out hHeld.2.2)).mono ?_
        rintro e wN ⟨rfl, bN⟩
        try (go_wp2_with fail)
        refine hK.out _ _ (⟨⟨cell_later bN hHeld.1.1, cell_later bN hHeld.1.2⟩, cell_later bN hHeld.2.1, hHeld.2.2.trans (bN.mono hHeld.2.2.size)⟩) (fun hHeld => ?_)
        clear hK K
        try simp only [Act.put, List.setIfInBounds_toArray, List.set_cons_zero, List.set_cons_succ]
        clear bN
        refine wpAnyH_ready (rs := [30]) (by kernel_rfl) (by simp) ?_
        refine AllReadyH.cons (o := _) (by simp only [List.getElem?_toArray, List.getElem?_cons_succ, List.getElem?_cons_zero]; rfl) (fun K hK => ?_) AllReadyH.nil
        go_simp
        refine (rtotal_any _ Av cv RR (sumP RR) (HPV.out.call hHeld.2.2) (by have := HRL.out; omega) rfl (by have := HCT4.out.sum; omega)).mono ?_
        rintro e wN ⟨rfl, bN⟩
        try (go_wp2_with fail)
        refine hK.out _ _ (⟨⟨cell_later bN hHeld.1.1, cell_later bN hHeld.1.2⟩, cell_later bN hHeld.2.1, hHeld.2.2.trans (bN.mono hHeld.2.2.size)⟩) (fun hHeld => ?_)
        clear hK K
        try simp only [Act.put, List.setIfInBounds_toArray, List.set_cons_zero, List.set_cons_succ]
        clear bN
        refine wpAnyH_take (i := 31) (oi := _) (v := ?v26) (by simp only [List.getElem?_toArray, List.getElem?_cons_succ, List.getElem?_cons_zero]; rfl) (by kernel_rfl) (by kernel_rfl) (by kernel_rfl) (fun _ _ _ h => h) (Or.inl ⟨by rfl, ?y26⟩) hHeld ?r26
        case y26 => (intro w hSw; (try dsimp only at hSw); go_simp; try with_reducible rfl)
        try simp only [Act.put, List.setIfInBounds_toArray, List.set_cons_zero, List.set_cons_succ]
        refine wpAnyH_take (i := 32) (oi := _) (v := ?v27) (by simp only [List.getElem?_toArray, List.getElem?_cons_succ, List.getElem?_cons_zero]; rfl) (by kernel_rfl) (by kernel_rfl) (by kernel_rfl) (fun _ _ _ h => h) (Or.inl ⟨by rfl, ?y27⟩) hHeld ?r27
        case y27 => (intro w hSw; (try dsimp only at hSw); go_simp; try with_reducible rfl)
        try simp only [Act.put, List.setIfInBounds_toArray, List.set_cons_zero, List.set_cons_succ]
        refine wpAnyH_take (i := 33) (oi := _) (v := ?v28) (by simp only [List.getElem?_toArray, List.getElem?_cons_succ, List.getElem?_cons_zero]; rfl) (by kernel_rfl) (by kernel_rfl) (by kernel_rfl) (fun _ _ _ h => h) (Or.inl ⟨by rfl, ?y28⟩) hHeld ?r28
        case y28 => (intro w hSw; (try dsimp only at hSw); go_simp; try with_reducible rfl)
        try simp only [Act.put, List.setIfInBounds_toArray, List.set_cons_zero, List.set_cons_succ]
        refine wpAnyH_take (i := 34) (oi := _) (v := ?v29) (by simp only [List.getElem?_toArray, List.getElem?_cons_succ, List.getElem?_cons_zero]; rfl) (by kernel_rfl) (by kernel_rfl) (by kernel_rfl) (fun _ _ _ h => h) (Or.inl ⟨by rfl, ?y29⟩) hHeld ?r29
        case y29 => (intro w hSw; (try dsimp only at hSw); go_simp; try with_reducible rfl)
        try simp only [Act.put, List.setIfInBounds_toArray, List.set_cons_zero, List.set_cons_succ]
        refine wpAnyH_take (i := 35) (oi := _) (v := ?v30) (by simp only [List.getElem?_toArray, List.getElem?_cons_succ, List.getElem?_cons_zero]; rfl) (by kernel_rfl) (by kernel_rfl) (by kernel_rfl) (fun _ _ _ h => h) (Or.inl ⟨by rfl, ?y30⟩) hHeld ?r30
        case y30 => (intro w hSw; (try dsimp only at hSw); go_simp; try with_reducible rfl)
        try simp only [Act.put, List.setIfInBounds_toArray, List.set_cons_zero, List.set_cons_succ]
        refine wpAnyH_take (i := 36) (oi := _) (v := ?v31) (by simp only [List.getElem?_toArray, List.getElem?_cons_succ, List.getElem?_cons_zero]; rfl) (by kernel_rfl) (by kernel_rfl) (by kernel_rfl) (fun _ _ _ h => h) (Or.inl ⟨by rfl, ?y31⟩) hHeld ?r31
        case y31 => (intro w hSw; (try dsimp only at hSw); go_simp; try with_reducible rfl)
        try simp only [Act.put, List.setIfInBounds_toArray, List.set_cons_zero, List.set_cons_succ]
        refine wpAnyH_take (i := 38) (oi := _) (v := ?v32) (by simp only [List.getElem?_toArray, List.getElem?_cons_succ, List.getElem?_cons_zero]; rfl) (by kernel_rfl) (by kernel_rfl) (by kernel_rfl) (fun _ _ _ h => h) (Or.inl ⟨by rfl, ?y32⟩) hHeld ?r32
        case y32 => (intro w hSw; (try dsimp only at hSw); go_simp; try with_reducible rfl)
        try simp only [Act.put, List.setIfInBounds_toArray, List.set_cons_zero, List.set_cons_succ]
        refine wpAnyH_take (i := 39) (oi := _) (v := ?v33) (by simp only [List.getElem?_toArray, List.getElem?_cons_succ, List.getElem?_cons_zero]; rfl) (by kernel_rfl) (by kernel_rfl) (by kernel_rfl) (fun _ _ _ h => h) (Or.inl ⟨by rfl, ?y33⟩) hHeld ?r33
        case y33 => (intro w hSw; (try dsimp only at hSw); go_simp; try with_reducible rfl)
        try simp only [Act.put, List.setIfInBounds_toArray, List.set_cons_zero, List.set_cons_succ]
        refine wpAnyH_take (i := 40) (oi := _) (v := ?v34) (by simp only [List.getElem?_toArray, List.getElem?_cons_succ, List.getElem?_cons_zero]; rfl) (by kernel_rfl) (by kernel_rfl) (by kernel_rfl) (fun _ _ _ h => h) (Or.inl ⟨by rfl, ?y34⟩) hHeld ?r34
        case y34 => (intro w hSw; (try dsimp only at hSw); go_simp; try with_reducible rfl)
        try simp only [Act.put, List.setIfInBounds_toArray, List.set_cons_zero, List.set_cons_succ]
        refine wpAnyH_take (i := 41) (oi := _) (v := ?v35) (by simp only [List.getElem?_toArray, List.getElem?_cons_succ, List.getElem?_cons_zero]; rfl) (by kernel_rfl) (by kernel_rfl) (by kernel_rfl) (fun _ _ _ h => h) (Or.inl ⟨by rfl, ?y35⟩) hHeld ?r35
        case y35 => (intro w hSw; (try dsimp only at hSw); go_simp; try with_reducible rfl)
        try simp only [Act.put, List.setIfInBounds_toArray, List.set_cons_zero, List.set_cons_succ]
        refine wpAnyH_take (i := 42) (oi := _) (v := ?v36) (by simp only [List.getElem?_toArray, List.getElem?_cons_succ, List.getElem?_cons_zero]; rfl) (by kernel_rfl) (by kernel_rfl) (by kernel_rfl) (fun _ _ _ h => h) (Or.inl ⟨by rfl, ?y36⟩) hHeld ?r36
        case y36 => (intro w hSw; (try dsimp only at hSw); go_simp; try with_reducible rfl)
        try simp only [Act.put, List.setIfInBounds_toArray, List.set_cons_zero, List.set_cons_succ]
        refine wpAnyH_take (i := 43) (oi := _) (v := ?v37) (by simp only [List.getElem?_toArray, List.getElem?_cons_succ, List.getElem?_cons_zero]; rfl) (by kernel_rfl) (by kernel_rfl) (by kernel_rfl) (fun _ _ _ h => h) (Or.inl ⟨by rfl, ?y37⟩) hHeld ?r37
        case y37 => (intro w hSw; (try dsimp only at hSw); go_simp; try with_reducible rfl)
        try simp only [Act.put, List.setIfInBounds_toArray, List.set_cons_zero, List.set_cons_succ]
        refine wpAnyH_ready (rs := [37]) (by kernel_rfl) (by simp) ?_
        refine AllReadyH.cons (o := _) (by simp only [List.getElem?_toArray, List.getElem?_cons_succ, List.getElem?_cons_zero]; rfl) (fun K hK => ?_) AllReadyH.nil
        go_simp
        refine (HD.out.at_ _ B S3 RR px (HD.out.call H4.out hHeld.2.2) HOK.out.1).mono ?_
        rintro e wN ⟨rfl, bN⟩
        try (go_wp2_with fail)
        refine hK.out _ _ (⟨⟨cell_later bN hHeld.1.1, cell_later bN hHeld.1.2⟩, cell_later bN hHeld.2.1, hHeld.2.2.trans (bN.mono hHeld.2.2.size)⟩) (fun hHeld => ?_)
        clear hK K
        try simp only [Act.put, List.setIfInBounds_toArray, List.set_cons_zero, List.set_cons_succ]
        clear bN
        refine wpAnyH_ready (rs := [44]) (by kernel_rfl) (by simp) ?_
        refine AllReadyH.cons (o := _) (by simp only [List.getElem?_toArray, List.getElem?_cons_succ, List.getElem?_cons_zero]; rfl) (fun K hK => ?_) AllReadyH.nil
        go_simp
        refine (rcount_any _ Av cv RR px (countP RR px) (HPV.out.call hHeld.2.2) (by have := HRL.out; omega) HOK.out.1 rfl (by have := HCT4.out.cnt px; have := HCT4.out.sum; omega)).mono ?_
        rintro e wN ⟨rfl, bN⟩
        try (go_wp2_with fail)
        refine hK.out _ _ (⟨⟨cell_later bN hHeld.1.1, cell_later bN hHeld.1.2⟩, cell_later bN hHeld.2.1, hHeld.2.2.trans (bN.mono hHeld.2.2.size)⟩) (fun hHeld => ?_)
        clear hK K
        try simp only [Act.put, List.setIfInBounds_toArray, List.set_cons_zero, List.set_cons_succ]
        clear bN
        refine wpAnyH_take (i := 45) (oi := _) (v := ?v38) (by simp only [List.getElem?_toArray, List.getElem?_cons_succ, List.getElem?_cons_zero]; rfl) (by kernel_rfl) (by kernel_rfl) (by kernel_rfl) (fun _ _ _ h => h) (Or.inl ⟨by rfl, ?y38⟩) hHeld ?r38
        case y38 => (intro w hSw; (try dsimp only at hSw); go_simp; try with_reducible rfl)
        try simp only [Act.put, List.setIfInBounds_toArray, List.set_cons_zero, List.set_cons_succ]
        refine wpAnyH_take (i := 46) (oi := _) (v := ?v39) (by simp only [List.getElem?_toArray, List.getElem?_cons_succ, List.getElem?_cons_zero]; rfl) (by kernel_rfl) (by kernel_rfl) (by kernel_rfl) (fun _ _ _ h => h) (Or.inl ⟨by rfl, ?y39⟩) hHeld ?r39
        case y39 => (intro w hSw; (try dsimp only at hSw); go_simp; try with_reducible rfl)
        try simp only [Act.put, List.setIfInBounds_toArray, List.set_cons_zero, List.set_cons_succ]
        refine wpAnyH_take (i := 47) (oi := _) (v := ?v40) (by simp only [List.getElem?_toArray, List.getElem?_cons_succ, List.getElem?_cons_zero]; rfl) (by kernel_rfl) (by kernel_rfl) (by kernel_rfl) (fun _ _ _ h => h) (Or.inl ⟨by rfl, ?y40⟩) hHeld ?r40
        case y40 => (intro w hSw; (try dsimp only at hSw); go_simp; try with_reducible rfl)
        try simp only [Act.put, List.setIfInBounds_toArray, List.set_cons_zero, List.set_cons_succ]
        refine wpAnyH_take (i := 48) (oi := _) (v := ?v41) (by simp only [List.getElem?_toArray, List.getElem?_cons_succ, List.getElem?_cons_zero]; rfl) (by kernel_rfl) (by kernel_rfl) (by kernel_rfl) (fun _ _ _ h => h) (Or.inl ⟨by rfl, ?y41⟩) hHeld ?r41
        case y41 => (intro w hSw; (try dsimp only at hSw); go_simp; try with_reducible rfl)
        try simp only [Act.put, List.setIfInBounds_toArray, List.set_cons_zero, List.set_cons_succ]
        refine wpAnyH_take (i := 49) (oi := _) (v := ?v42) (by simp only [List.getElem?_toArray, List.getElem?_cons_succ, List.getElem?_cons_zero]; rfl) (by kernel_rfl) (by kernel_rfl) (by kernel_rfl) (fun _ _ _ h => h) (Or.inl ⟨by rfl, ?y42⟩) hHeld ?r42
        case y42 => (intro w hSw; (try dsimp only at hSw); go_simp; try with_reducible rfl)
        try simp only [Act.put, List.setIfInBounds_toArray, List.set_cons_zero, List.set_cons_succ]
        refine wpAnyH_take (i := 51) (oi := _) (v := ?v43) (by simp only [List.getElem?_toArray, List.getElem?_cons_succ, List.getElem?_cons_zero]; rfl) (by kernel_rfl) (by kernel_rfl) (by kernel_rfl) (fun _ _ _ h => h) (Or.inl ⟨by rfl, ?y43⟩) hHeld ?r43
        case y43 => (intro w hSw; (try dsimp only at hSw); go_simp; try with_reducible rfl)
        try simp only [Act.put, List.setIfInBounds_toArray, List.set_cons_zero, List.set_cons_succ]
        refine wpAnyH_take (i := 52) (oi := _) (v := ?v44) (by simp only [List.getElem?_toArray, List.getElem?_cons_succ, List.getElem?_cons_zero]; rfl) (by kernel_rfl) (by kernel_rfl) (by kernel_rfl) (fun _ _ _ h => h) (Or.inl ⟨by rfl, ?y44⟩) hHeld ?r44
        case y44 => (intro w hSw; (try dsimp only at hSw); go_simp; try with_reducible rfl)
        try simp only [Act.put, List.setIfInBounds_toArray, List.set_cons_zero, List.set_cons_succ]
        refine wpAnyH_take (i := 53) (oi := _) (v := ?v45) (by simp only [List.getElem?_toArray, List.getElem?_cons_succ, List.getElem?_cons_zero]; rfl) (by kernel_rfl) (by kernel_rfl) (by kernel_rfl) (fun _ _ _ h => h) (Or.inl ⟨by rfl, ?y45⟩) hHeld ?r45
        case y45 => (intro w hSw; (try dsimp only at hSw); go_simp; try with_reducible rfl)
        try simp only [Act.put, List.setIfInBounds_toArray, List.set_cons_zero, List.set_cons_succ]
        refine wpAnyH_take (i := 54) (oi := _) (v := ?v46) (by simp only [List.getElem?_toArray, List.getElem?_cons_succ, List.getElem?_cons_zero]; rfl) (by kernel_rfl) (by kernel_rfl) (by kernel_rfl) (fun _ _ _ h => h) (Or.inl ⟨by rfl, ?y46⟩) hHeld ?r46
        case y46 => (intro w hSw; (try dsimp only at hSw); go_simp; try with_reducible rfl)
        try simp only [Act.put, List.setIfInBounds_toArray, List.set_cons_zero, List.set_cons_succ]
        refine wpAnyH_take (i := 55) (oi := _) (v := ?v47) (by simp only [List.getElem?_toArray, List.getElem?_cons_succ, List.getElem?_cons_zero]; rfl) (by kernel_rfl) (by kernel_rfl) (by kernel_rfl) (fun _ _ _ h => h) (Or.inl ⟨by rfl, ?y47⟩) hHeld ?r47
        case y47 => (intro w hSw; (try dsimp only at hSw); go_simp; try with_reducible rfl)
        try simp only [Act.put, List.setIfInBounds_toArray, List.set_cons_zero, List.set_cons_succ]
        refine wpAnyH_ready (rs := [50]) (by kernel_rfl) (by simp) ?_
        refine AllReadyH.cons (o := _) (by simp only [List.getElem?_toArray, List.getElem?_cons_succ, List.getElem?_cons_zero]; rfl) (fun K hK => ?_) AllReadyH.nil
        go_simp
        refine (HD.out.at_ _ B S3 RR i (HD.out.call H4.out hHeld.2.2) HI.out).mono ?_
        rintro e wN ⟨rfl, bN⟩
        try (go_wp2_with fail)
        refine hK.out _ _ (⟨⟨cell_later bN hHeld.1.1, cell_later bN hHeld.1.2⟩, cell_later bN hHeld.2.1, hHeld.2.2.trans (bN.mono hHeld.2.2.size)⟩) (fun hHeld => ?_)
        clear hK K
        try simp only [Act.put, List.setIfInBounds_toArray, List.set_cons_zero, List.set_cons_succ]
        clear bN
        refine wpAnyH_ready (rs := [56]) (by kernel_rfl) (by simp) ?_
        refine AllReadyH.cons (o := _) (by simp only [List.getElem?_toArray, List.getElem?_cons_succ, List.getElem?_cons_zero]; rfl) (fun K hK => ?_) AllReadyH.nil
        go_simp
        refine (rcount_any _ Av cv RR i (countP RR i) (HPV.out.call hHeld.2.2) (by have := HRL.out; omega) HI.out rfl (by have := HCT4.out.cnt i; have := HCT4.out.sum; omega)).mono ?_
        rintro e wN ⟨rfl, bN⟩
        try (go_wp2_with fail)
        refine hK.out _ _ (⟨⟨cell_later bN hHeld.1.1, cell_later bN hHeld.1.2⟩, cell_later bN hHeld.2.1, hHeld.2.2.trans (bN.mono hHeld.2.2.size)⟩) (fun hHeld => ?_)
        clear hK K
        try simp only [Act.put, List.setIfInBounds_toArray, List.set_cons_zero, List.set_cons_succ]
        clear bN
        refine wpAnyH_take (i := 57) (oi := _) (v := ?v48) (by simp only [List.getElem?_toArray, List.getElem?_cons_succ, List.getElem?_cons_zero]; rfl) (by kernel_rfl) (by kernel_rfl) (by kernel_rfl) (fun _ _ _ h => h) (Or.inl ⟨by rfl, ?y48⟩) hHeld ?r48
        case y48 => (intro w hSw; (try dsimp only at hSw); go_simp; try with_reducible rfl)
        try simp only [Act.put, List.setIfInBounds_toArray, List.set_cons_zero, List.set_cons_succ]
        refine wpAnyH_take (i := 58) (oi := _) (v := ?v49) (by simp only [List.getElem?_toArray, List.getElem?_cons_succ, List.getElem?_cons_zero]; rfl) (by kernel_rfl) (by kernel_rfl) (by kernel_rfl) (fun _ _ _ h => h) (Or.inl ⟨by rfl, ?y49⟩) hHeld ?r49
        case y49 => (intro w hSw; (try dsimp only at hSw); go_simp; try with_reducible rfl)
        try simp only [Act.put, List.setIfInBounds_toArray, List.set_cons_zero, List.set_cons_succ]
        refine wpAnyH_done (by kernel_rfl) ?_ _
        refine NoPanic.normal ?_
        have hb9 := HB4.out.trans (hHeld.2.2.mono HB4.out.size)
        have H9 := Lib.hid (HD.out.call H4.out hHeld.2.2)
        have HR9 := Lib.hid (HR4.out.call hHeld.2.2)
        have HB9 := Lib.hid hb9
        clear hHeld hb9
        go_wp2_with fail
        go_roundw
        case rel => exact ⟨k + 1, S3, v4, RR, by omega, by go_num, H9.out, HR9.out, HRL.out, HSW4.out, HSD4.out, HB9.out⟩
        case measure => simp [intOf]; omega
        -- REGION END
      · obtain rfl : k = L.length := by omega
        have kk : ¬ (L.length : Int) < L.length := by omega
        clear HCR HRF HSW HSD HCT hM
        go_wp2_with fail
        refine (HN.out.all 7 _ (by omega)).mono ?_
        rintro e wa ⟨gf, lb, U, rfl, heg, hba, hU, hseq⟩
        have hb3 := hb2.trans (hba.mono hbs)
        have hb3s := hb3.size
        have HEG := Lib.hid heg
        have HSQ := Lib.hid hseq
        have HU := Lib.hid hU
        clear heg hseq hU hba hb2
        go_wp2_with fail
        refine (wpIn_wide (n := 8)).1 ?_
        refine wpIn_rangeFunc_ownH rfl (by omega) (gf := gf) (lb := lb) rfl trivial HEG.out HSQ.out keepU_t (keepU_b (fun k hk => (HU.out k hk).2)) (Below.refl _ _) (fun _ => rfl)
          (fun pre W => Below wz.heap.size wz W) (fun _ _ _ => False) (ownFrom_below (Nat.le_refl _) (by omega)) (fun _ _ _ _ _ hs _ _ => hs) hb3
          (fun x a' W => True) (fun x a' _ X Y row hs hg hr => trivial) ?assign ?body ?done ?stop
        case assign =>
          rintro l pre x W K hB hK
          gi_wp2
          exact hK _ _ ((KeepsOthers.refl W).from _) (fun _ _ => rfl) hB trivial
        case body =>
          intro l pre x a' W hl _ _ _ hlt
          exact absurd hlt (Nat.not_lt_zero _)
        case stop =>
          rintro D c pre W hD hpre h hK
          exact h.elim
        case done =>
          rintro D ys W hD rfl hB hK
          have hBs := hB.size
          have HKD := Lib.hid hK
          clear hb3 hK
          go_wp2_with fail
          refine (HN.out.find _ 1 ⟨by decide, by decide⟩).mono ?_
          rintro e x1 ⟨rfl, k1⟩
          have B1 := hB.trans (k1.mono hBs)
          have s1 := B1.size
          have D1 := Lib.hid (k1.block D (lt_of_block HKD.out) |>.trans HKD.out)
          clear hB k1 HKD
          go_wp2_with fail
          refine (HN.out.add _ 1 1 ⟨by decide, by decide⟩ ⟨by decide, by decide⟩).mono ?_
          rintro e x2 ⟨rfl, k2⟩
          have B2 := B1.trans (k2.mono s1)
          have s2 := B2.size
          have D2 := Lib.hid (k2.block D (lt_of_block D1.out) |>.trans D1.out)
          clear B1 k2 D1
          go_wp2_with fail
          refine (HN.out.at_ _ 1 ⟨by decide, by decide⟩).mono ?_
          rintro e x3 ⟨rfl, k3⟩
          have B3 := B2.trans (k3.mono s2)
          have s3 := B3.size
          have D3 := Lib.hid (k3.block D (lt_of_block D2.out) |>.trans D2.out)
          clear B2 k3 D2
          go_wp2_with fail
          refine (HN.out.total _).mono ?_
          rintro e x4 ⟨rfl, k4⟩
          have B4 := B3.trans (k4.mono s3)
          have s4 := B4.size
          have D4 := Lib.hid (k4.block D (lt_of_block D3.out) |>.trans D3.out)
          clear B3 k4 D3
          go_wp2_with fail
          refine (HN.out.below _ 1 ⟨by decide, by decide⟩).mono ?_
          rintro e x5 ⟨rfl, k5⟩
          have B5 := B4.trans (k5.mono s4)
          have s5 := B5.size
          have D5 := Lib.hid (k5.block D (lt_of_block D4.out) |>.trans D4.out)
          clear B4 k5 D4
          go_wp2_with fail
          refine (HN.out.pairs _).mono ?_
          rintro e x6 ⟨A9, cap9, rfl, k6⟩
          have B6 := B5.trans (k6.mono s5)
          have D6 := Lib.hid (k6.block D (lt_of_block D5.out) |>.trans D5.out)
          have p6 : x6.cell? ⟨w.heap.size, 0, none⟩ = some (.bool false) := cell_later B6 HCZ.out
          have p7 : x6.frozen? ⟨w.heap.size, 0, none⟩ = false := ((bcell B6).2 _ _ (by rw [HZZ.out]; exact Nat.lt_succ_self _)).trans HFZ.out
          have BF : Hid (Below w.heap.size w x6) := Lib.hid (HBZ.out.trans (B6.mono HBZ.out.size))
          have hD2 : w.heap.size < D := by have := HZZ.out; omega
          clear B5 k6 D5 B6
          go_wp2_with fail
          have hK' := (KeepsOthers.setCell x6 ⟨w.heap.size, 0, none⟩ (.bool true)).same D _ D6.out rfl
          refine ⟨by simp, .inl ⟨_, _, rfl, run_takeDeferred hK', ?_⟩⟩
          have hc5 := cell_kept (World.cell?_setCell_same' x6 ⟨w.heap.size, 0, none⟩ (.bool true) (by rw [p6]; rfl)) (grownBy_putObj' _ D (.deferred none)) (fun r e => by cases e; exact ⟨_, hK', rfl⟩)
          refine ⟨.bool true, ?_, rfl, (BF.out.setCell (p := ⟨w.heap.size, 0, none⟩) (Nat.le_refl _) _).trans (belowK_b (w := w) (Nat.le_refl _) _ D _ _ (by omega) hK' rfl rfl)⟩
          simp [results, Try.f3, go_sem, hc5]

set_option maxRecDepth 100000 in
set_option maxHeartbeats 4000000 in
theorem cadds_many {Cr : World → Nat → (Nat → Prop) → List PairV → Prop} (D : CrateDoes Cr) (w : World) (A : Option Addr) (cap : Nat) (L : List PairV) (i : Int) (hll : ¬ L.length ≤ 100) (hl : L.length ≤ 140737488351232) :
    Calls Try.prog 3 #[.slice A L.length cap, .int .i64 i] w fun e w' => e = .returned (.bool true) ∧ Below w.heap.size w w' := by
  have q0 : (100 : Int) < L.length := by omega
  have hl63 : (L.length : Int) ≤ 140737488351232 := by omega
  have R0 : Two (w.alloc (.cells #[.bool false, .bool false] 4)) w.heap.size (.bool false) (.bool false) := Two.new w _ _ _
  have HD := Lib.hid D
  have bz : Below w.heap.size w (w.alloc (.cells #[.bool false] 4)) := (Below.refl _ _).alloc (Nat.le_refl _) _
  have cz : (w.alloc (.cells #[.bool false] 4)).cell? ⟨w.heap.size, 0, none⟩ = some (.bool false) := by go_simp
  have fz : (w.alloc (.cells #[.bool false] 4)).frozen? ⟨w.heap.size, 0, none⟩ = false := by go_simp
  have HC := Lib.hid cz
  have HF := Lib.hid fz
  clear R0 D cz fz
  go_enter Try.func3, Try.ntmps3
  go_wp2_with fail
  refine (calive_any HD.out _).mono ?_
  rintro e wA ⟨rfl, hbA⟩
  have r0 := cell_later hbA HC.out
  have r1 : wA.frozen? ⟨w.heap.size, 0, none⟩ = false := ((bcell hbA).2 _ _ (by simp)).trans HF.out
  have BA := bz.trans (hbA.mono (by simp))
  clear hbA
  go_wp2_with fail
  refine bodyPost_ret (v := .bool true) (by simp [results, Try.results3, go_sem, r0]) rfl ⟨rfl, ?_⟩
  exact BA.setCell (p := ⟨w.heap.size, 0, none⟩) (Nat.le_refl _) _
theorem cadds_walk {Cr : World → Nat → (Nat → Prop) → List PairV → Prop} (D : CrateDoes Cr) (NL : CrateNil) (w : World) (A : Option Addr) (cap : Nat) (L : List PairV) (i : Int) (h : Pairs w A L) (hl : L.length ≤ 140737488351232) (hi : I64 i) :
    Calls Try.prog 3 #[.slice A L.length cap, .int .i64 i] w fun e w' => e = .returned (.bool true) ∧ Below w.heap.size w w' := by
  by_cases hll : L.length ≤ 100
  · exact (callsIn_wide (n := 8)).1 (cadds_in D NL w A cap L i h hll hi)
  · exact cadds_many D w A cap L i hll hl
end Go.Proofs.Ytggdmlldolaojaa
