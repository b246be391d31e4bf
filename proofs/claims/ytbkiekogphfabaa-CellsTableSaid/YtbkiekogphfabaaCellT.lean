/-
  Walk: the law CellsTable.
-/
import Derived.Test.YtbkiekogphfabaaCellA
import Derived.Test.YtbkiekogphfabaaRef11
namespace Go.Proofs.Ytbkiekogphfabaa
set_option linter.unusedVariables false
set_option linter.unusedSimpArgs false
open Go.RowKit

theorem OwnW.get {w : World} {base g n cap i : Nat} {L : List Int} {x : Int} (h : OwnW w base (.slice (some ⟨g, 0, none⟩) n cap) L) (hi : L[i]? = some x) : w.cell? ⟨g, i, none⟩ = some (.int .u64 x) := by
  obtain ⟨g', e, _, hc⟩ := h.at_ hi
  have : g = g' := by have := Option.some.inj e; exact (Addr.mk.inj this).1
  subst this; exact hc
theorem ratio_same (u v : Int) (w : World) : (binOp .neq 24 (.agg #[.int .u64 u, .int .u64 v]) (.agg #[.int .u64 u, .int .u64 v])).run Try.prog w = .ok (.bool false) w := by
  simp [go_sem]
/-- What the law's loop carries. -/
structure Both (w0 w : World) (B : Nat) (S : Nat → Prop) (u v : Int) (n g c g' c' : Nat) : Prop where
  t : TabX w B S u v n
  a : OwnW w (w0.heap.size + 1) (.slice (some ⟨g, 0, none⟩) n c) (lowsC u v n)
  b : OwnW w (w0.heap.size + 1) (.slice (some ⟨g', 0, none⟩) n c') (repsC u v n)
theorem Both.call {w0 w w' : World} {B : Nat} {S : Nat → Prop} {u v : Int} {n g c g' c' : Nat} (h : Both w0 w B S u v n g c g' c') (hb : Below w.heap.size w w') : Both w0 w' B S u v n g c g' c' :=
  ⟨tabx_call h.t hb, h.a.call hb, h.b.call hb⟩

set_option maxRecDepth 100000 in
set_option maxHeartbeats 4000000 in
theorem cells_table_walk (u v : Int) (wu : Word u) (wv : Word v) (w : World) :
    Calls Try.prog 3 #[.agg #[.int .u64 u, .int .u64 v]] w fun e w' => e = .returned (.bool true) ∧ Below w.heap.size w w' := by
  have HRG := Lib.hid (fun W => rcgood_any u v wu wv W)
  have HCG := Lib.hid (fun W => cgood_any u v wu wv W)
  by_cases hg : goodC u v = true
  · have g := goodC_iff.1 hg
    have HG := Lib.hid g
    have HN := Lib.hid (fun W => cnew_good u v g W)
    have HC := Lib.hid (fun W => rcells_any u v g W)
    rw [hg] at HRG HCG
    clear hg g
    go_enter Try.func3, Try.ntmps3
    go_wp2_with fail
    refine (alive11_any _).mono ?_
    rintro e w2 ⟨rfl, hb2⟩
    have B2 := ((Below.refl _ _).alloc (Nat.le_refl _) _).trans (hb2.mono (by simp))
    have p2 : w2.cell? ⟨w.heap.size, 0, none⟩ = some (.int .u64 u) := cell_later hb2 (by go_simp)
    have q2 : w2.cell? ⟨w.heap.size, 1, none⟩ = some (.int .u64 v) := cell_later hb2 (by go_simp)
    clear hb2
    go_wp2_with fail
    refine (HN.out _).mono ?_
    rintro e w3 (⟨B, S, n, rfl, ht, _, hb3⟩ | ⟨rfl, hfull, hb3⟩)
    · have HT := Lib.hid ht
      have B3 := B2.trans (hb3.mono B2.size)
      have p3 := cell_later hb3 p2
      have q3 := cell_later hb3 q2
      clear ht p2 q2 hb3 B2 HN
      go_wp2_with fail
      refine wp_region_noPanic ?_
      refine wp_region_held_drew (S := fun w' => w'.cell? ⟨w.heap.size, 0, none⟩ = some (.int .u64 u) ∧ w'.cell? ⟨w.heap.size, 1, none⟩ = some (.int .u64 v) ∧ Below w3.heap.size w3 w') (by kernel_rfl) (⟨p3, q3, (Below.refl _ _).drew⟩) (fun hHeld => ?_)
      refine wpAnyH_take (i := 0) (oi := _) (v := ?v1) (by simp only [List.getElem?_toArray, List.getElem?_cons_succ, List.getElem?_cons_zero]; rfl) (by kernel_rfl) (by kernel_rfl) (by kernel_rfl) (fun _ _ _ h => h) (Or.inl ⟨by rfl, ?y1⟩) hHeld ?r1
      case y1 => (intro w hSw; (try dsimp only at hSw); go_simp; try with_reducible rfl)
      try simp only [Act.put, List.setIfInBounds_toArray, List.set_cons_zero, List.set_cons_succ]
      refine wpAnyH_take (i := 2) (oi := _) (v := ?v2) (by simp only [List.getElem?_toArray, List.getElem?_cons_succ, List.getElem?_cons_zero]; rfl) (by kernel_rfl) (by kernel_rfl) (by kernel_rfl) (fun _ _ _ h => h) (Or.inl ⟨by rfl, ?y2⟩) hHeld ?r2
      case y2 => (intro w hSw; (try dsimp only at hSw); go_simp; try with_reducible rfl)
      try simp only [Act.put, List.setIfInBounds_toArray, List.set_cons_zero, List.set_cons_succ]
      refine wpAnyH_ready (rs := [1]) (by kernel_rfl) (by simp) ?_
      refine AllReadyH.cons (o := _) (by simp only [List.getElem?_toArray, List.getElem?_cons_succ, List.getElem?_cons_zero]; rfl) (fun K hK => ?_) AllReadyH.nil
      go_simp
      refine (HCG.out _).mono ?_
      rintro e wN ⟨rfl, bN⟩
      try (go_wp2_with fail)
      refine hK.out _ _ (keep2 hHeld bN) (fun hHeld => ?_)
      clear hK K
      try simp only [Act.put, List.setIfInBounds_toArray, List.set_cons_zero, List.set_cons_succ]
      clear bN
      refine wpAnyH_ready (rs := [3]) (by kernel_rfl) (by simp) ?_
      refine AllReadyH.cons (o := _) (by simp only [List.getElem?_toArray, List.getElem?_cons_succ, List.getElem?_cons_zero]; rfl) (fun K hK => ?_) AllReadyH.nil
      go_simp
      refine (HRG.out _).mono ?_
      rintro e wN ⟨rfl, bN⟩
      try (go_wp2_with fail)
      refine hK.out _ _ (keep2 hHeld bN) (fun hHeld => ?_)
      clear hK K
      try simp only [Act.put, List.setIfInBounds_toArray, List.set_cons_zero, List.set_cons_succ]
      clear bN
      refine wpAnyH_take (i := 4) (oi := _) (v := ?v3) (by simp only [List.getElem?_toArray, List.getElem?_cons_succ, List.getElem?_cons_zero]; rfl) (by kernel_rfl) (by kernel_rfl) (by kernel_rfl) (fun _ _ _ h => h) (Or.inl ⟨by rfl, ?y3⟩) hHeld ?r3
      case y3 => (intro w hSw; (try dsimp only at hSw); go_simp; try with_reducible rfl)
      try simp only [Act.put, List.setIfInBounds_toArray, List.set_cons_zero, List.set_cons_succ]
      refine wpAnyH_take (i := 5) (oi := _) (v := ?v4) (by simp only [List.getElem?_toArray, List.getElem?_cons_succ, List.getElem?_cons_zero]; rfl) (by kernel_rfl) (by kernel_rfl) (by kernel_rfl) (fun _ _ _ h => h) (Or.inl ⟨by rfl, ?y4⟩) hHeld ?r4
      case y4 => (intro w hSw; (try dsimp only at hSw); go_simp; try with_reducible rfl)
      try simp only [Act.put, List.setIfInBounds_toArray, List.set_cons_zero, List.set_cons_succ]
      refine wpAnyH_take (i := 6) (oi := _) (v := ?v5) (by simp only [List.getElem?_toArray, List.getElem?_cons_succ, List.getElem?_cons_zero]; rfl) (by kernel_rfl) (by kernel_rfl) (by kernel_rfl) (fun _ _ _ h => h) (Or.inl ⟨by rfl, ?y5⟩) hHeld ?r5
      case y5 => (intro w hSw; (try dsimp only at hSw); go_simp; try with_reducible rfl)
      try simp only [Act.put, List.setIfInBounds_toArray, List.set_cons_zero, List.set_cons_succ]
      refine wpAnyH_ready (rs := [7]) (by kernel_rfl) (by simp) ?_
      refine AllReadyH.cons (o := _) (by simp only [List.getElem?_toArray, List.getElem?_cons_succ, List.getElem?_cons_zero]; rfl) (fun K hK => ?_) AllReadyH.nil
      go_simp
      refine (HRG.out _).mono ?_
      rintro e wN ⟨rfl, bN⟩
      try (go_wp2_with fail)
      refine hK.out _ _ (keep2 hHeld bN) (fun hHeld => ?_)
      clear hK K
      try simp only [Act.put, List.setIfInBounds_toArray, List.set_cons_zero, List.set_cons_succ]
      clear bN
      refine wpAnyH_take (i := 8) (oi := _) (v := ?v6) (by simp only [List.getElem?_toArray, List.getElem?_cons_succ, List.getElem?_cons_zero]; rfl) (by kernel_rfl) (by kernel_rfl) (by kernel_rfl) (fun _ _ _ h => h) (Or.inl ⟨by rfl, ?y6⟩) hHeld ?r6
      case y6 => (intro w hSw; (try dsimp only at hSw); go_simp; try with_reducible rfl)
      try simp only [Act.put, List.setIfInBounds_toArray, List.set_cons_zero, List.set_cons_succ]
      refine wpAnyH_take (i := 9) (oi := _) (v := ?v7) (by simp only [List.getElem?_toArray, List.getElem?_cons_succ, List.getElem?_cons_zero]; rfl) (by kernel_rfl) (by kernel_rfl) (by kernel_rfl) (fun _ _ _ h => h) (Or.inl ⟨by rfl, ?y7⟩) hHeld ?r7
      case y7 => (intro w hSw; (try dsimp only at hSw); go_simp; try with_reducible rfl)
      try simp only [Act.put, List.setIfInBounds_toArray, List.set_cons_zero, List.set_cons_succ]
      refine wpAnyH_take (i := 10) (oi := _) (v := _) (by simp only [List.getElem?_toArray, List.getElem?_cons_succ, List.getElem?_cons_zero]; rfl) (by kernel_rfl) (by kernel_rfl) (by kernel_rfl) (fun _ _ _ h => h) (Or.inr ⟨by rfl, rfl⟩) hHeld ?_
      try simp only [Act.put, List.setIfInBounds_toArray, List.set_cons_zero, List.set_cons_succ]
      refine wpAnyH_take (i := 11) (oi := _) (v := _) (by simp only [List.getElem?_toArray, List.getElem?_cons_succ, List.getElem?_cons_zero]; rfl) (by kernel_rfl) (by kernel_rfl) (by kernel_rfl) (fun _ _ _ h => h) (Or.inr ⟨by rfl, rfl⟩) hHeld ?_
      try simp only [Act.put, List.setIfInBounds_toArray, List.set_cons_zero, List.set_cons_succ]
      refine wpAnyH_take (i := 12) (oi := _) (v := _) (by simp only [List.getElem?_toArray, List.getElem?_cons_succ, List.getElem?_cons_zero]; rfl) (by kernel_rfl) (by kernel_rfl) (by kernel_rfl) (fun _ _ _ h => h) (Or.inr ⟨by rfl, rfl⟩) hHeld ?_
      try simp only [Act.put, List.setIfInBounds_toArray, List.set_cons_zero, List.set_cons_succ]
      refine wpAnyH_take (i := 13) (oi := _) (v := _) (by simp only [List.getElem?_toArray, List.getElem?_cons_succ, List.getElem?_cons_zero]; rfl) (by kernel_rfl) (by kernel_rfl) (by kernel_rfl) (fun _ _ _ h => h) (Or.inr ⟨by rfl, rfl⟩) hHeld ?_
      try simp only [Act.put, List.setIfInBounds_toArray, List.set_cons_zero, List.set_cons_succ]
      refine wpAnyH_take (i := 14) (oi := _) (v := _) (by simp only [List.getElem?_toArray, List.getElem?_cons_succ, List.getElem?_cons_zero]; rfl) (by kernel_rfl) (by kernel_rfl) (by kernel_rfl) (fun _ _ _ h => h) (Or.inr ⟨by rfl, rfl⟩) hHeld ?_
      try simp only [Act.put, List.setIfInBounds_toArray, List.set_cons_zero, List.set_cons_succ]
      refine wpAnyH_take (i := 15) (oi := _) (v := _) (by simp only [List.getElem?_toArray, List.getElem?_cons_succ, List.getElem?_cons_zero]; rfl) (by kernel_rfl) (by kernel_rfl) (by kernel_rfl) (fun _ _ _ h => h) (Or.inr ⟨by rfl, rfl⟩) hHeld ?_
      try simp only [Act.put, List.setIfInBounds_toArray, List.set_cons_zero, List.set_cons_succ]
      refine wpAnyH_take (i := 16) (oi := _) (v := ?v8) (by simp only [List.getElem?_toArray, List.getElem?_cons_succ, List.getElem?_cons_zero]; rfl) (by kernel_rfl) (by kernel_rfl) (by kernel_rfl) (fun _ _ _ h => h) (Or.inl ⟨by rfl, ?y8⟩) hHeld ?r8
      case y8 => (intro w hSw; (try dsimp only at hSw); go_simp; try with_reducible rfl)
      try simp only [Act.put, List.setIfInBounds_toArray, List.set_cons_zero, List.set_cons_succ]
      refine wpAnyH_take (i := 17) (oi := _) (v := ?v9) (by simp only [List.getElem?_toArray, List.getElem?_cons_succ, List.getElem?_cons_zero]; rfl) (by kernel_rfl) (by kernel_rfl) (by kernel_rfl) (fun _ _ _ h => h) (Or.inl ⟨by rfl, ?y9⟩) hHeld ?r9
      case y9 => (intro w hSw; (try dsimp only at hSw); go_simp; try with_reducible rfl)
      try simp only [Act.put, List.setIfInBounds_toArray, List.set_cons_zero, List.set_cons_succ]
      refine wpAnyH_done (by kernel_rfl) ?_ _
      refine NoPanic.normal ?_
      rename_i wN
      have B4 := B3.trans (hHeld.2.2.mono B3.size)
      have HT4 := Lib.hid (tabx_call HT.out hHeld.2.2)
      obtain ⟨p4, q4, _⟩ := id hHeld
      clear hHeld B3 HT p3 q3
      go_wp2_with fail
      refine (HRG.out _).mono ?_
      rintro e w5 ⟨rfl, hb5⟩
      have B5 := B4.trans (hb5.mono B4.size)
      have p5 := cell_later hb5 p4
      have q5 := cell_later hb5 q4
      have HT5 := Lib.hid (tabx_call HT4.out hb5)
      clear p4 q4 hb5 B4 HT4
      by_cases hd : 1000 < v
      · go_wp2_with fail
        go_ret
        exact ⟨rfl, B5⟩
      · have hdf : decide (1000 < v) = false := decide_eq_false hd
        clear hd
        go_wp2_with fail
        refine (HC.out _).mono ?_
        rintro e w6 (⟨n', A, c, A', c', htn, hn1, hn2, rfl, hoa, hob, hb6⟩ | ⟨rfl, hfull, hb6⟩)
        · obtain rfl := tab_one HG.out HT5.out.2.1 htn
          have B6 := B5.trans (hb6.mono B5.size)
          have p6 := cell_later hb6 p5
          have q6 := cell_later hb6 q5
          obtain ⟨ga, rfl, _, _⟩ := hoa.at_ (lowsC_at u v (show 0 < n by omega))
          obtain ⟨gb, rfl, _, _⟩ := hob.at_ (repsC_at u v (show 0 < n by omega))
          have HB6 : Hid (Both w5 w6 B S u v n ga c gb c') := Lib.hid ⟨tabx_call HT5.out hb6, hoa, hob⟩
          have sz6 : w.heap.size < w6.heap.size := World.block_lt_of_cell? (a := ⟨w.heap.size, 0, none⟩) w6 p6
          clear hoa hob hb6 p5 q5 B5 HT5 htn HC
          have HRS := ratio_same u v
          go_wp2_with fail
          have BB : Below w6.heap.size w6 w6.drew := (Below.refl _ _).drew
          go_region_held3 (fun w' => w'.cell? ⟨w.heap.size, 0, none⟩ = some (.int .u64 u) ∧ w'.cell? ⟨w.heap.size, 1, none⟩ = some (.int .u64 v) ∧ Below w6.heap.size w6 w')
            ((first | exact ⟨p6, q6, BB⟩ | exact keep2 (by assumption) hbA | assumption))
            (first
              | (go_at_call 13; refine (tlen_any _ B S u v n (tabx_call HB6.out.t (keep2_bel (by assumption)))).mono ?_; rintro e wA ⟨rfl, rfl⟩)
              | (go_at_call 14; refine (tpart_any _ B S u v n (tabx_call HB6.out.t (keep2_bel (by assumption)))).mono ?_; rintro e wA ⟨rfl, hbA⟩))
          rename_i wA hh
          have HB7 := Lib.hid (HB6.out.call (keep2_bel hh))
          have B7 := B6.trans ((keep2_bel hh).mono B6.size)
          generalize wA = w7 at *
          clear hh BB p6 q6 HB6 sz6 B6 HRS
          have hnn : n ≤ 4096 := HB7.out.t.2.2.1
          go_wp2_with fail
          go_loopw [78] (fun j wr => ∃ k : Nat, k ≤ n ∧ j = .int .i64 k ∧ Both w5 wr B S u v n ga c gb c' ∧ Below w.heap.size w wr) (fun j _ => n - (intOf j).toNat)
          case atStart => exact ⟨0, Nat.zero_le _, rfl, HB7.out, B7⟩
          case round =>
            obtain ⟨k, hk, rfl, hbo, hbw⟩ := hrel
            have HBO := Lib.hid hbo
            clear hbo HB7 B7
            by_cases hlt : k < n
            · have kk : (k : Int) < n := by omega
              obtain ⟨lo, hlo⟩ : ∃ x, lowC u v k = x := ⟨_, rfl⟩
              obtain ⟨E, hE⟩ : ∃ x, endC u v (lowC u v k) = x := ⟨_, rfl⟩
              obtain ⟨r, hr⟩ : ∃ x, repC u v (lowC u v k) = x := ⟨_, rfl⟩
              have HL := Lib.hid hlo
              have HE := Lib.hid hE
              have HR := Lib.hid hr
              have ca := HBO.out.a.get (lowsC_at u v hlt)
              have cb := HBO.out.b.get (repsC_at u v hlt)
              rw [hlo] at ca
              rw [hr] at cb
              have e1 : (!lo == lo) = false := by simp
              have e2 : (!E == E) = false := by simp
              have e3 : (!r == r) = false := by simp
              clear hlo hE hr
              go_wp2_with fail
              refine (trange_any _ B S u v n k lo E HBO.out.t hlt HL.out HE.out).mono ?_
              rintro e w8 ⟨rfl, nq, rfl⟩
              have hb8 : Below wr.heap.size wr (wr.drewN nq) := below_drewN (Below.refl _ _) nq
              have HB8 := Lib.hid (HBO.out.call hb8)
              have B8 := hbw.trans (hb8.mono hbw.size)
              have ca8 := cell_later hb8 ca
              have cb8 := cell_later hb8 cb
              clear hb8 ca cb HBO hbw
              generalize wr.drewN nq = w8 at *
              have HRP : Hid (∀ q, Calls Try.prog 16 #[.pointer (some ⟨B, 0, none⟩), .int .i64 k] (w8.drewN q) fun e w' => e = .returned (.int .u64 r) ∧ w' = w8.drewN q) := Lib.hid fun q => (trep_any _ B S u v n k r (tabx_call HB8.out.t (below_drewN (Below.refl _ _) q)) hlt HR.out).mono fun e w' ⟨h1, h2⟩ => ⟨h1, h2.symm⟩
              have HEND : Hid (∀ q, Both w5 (w8.drewN q) B S u v n ga c gb c' ∧ Below w.heap.size w (w8.drewN q)) := Lib.hid fun q => ⟨HB8.out.call (below_drewN (Below.refl _ _) q), below_drewN B8 q⟩
              by_cases hl : k + 1 < n
              · have kl : (k : Int) < (n : Int) - 1 := by omega
                have cn := HB8.out.a.get (lowsC_at u v hl)
                rw [low_succ, HE.out] at cn
                have hE0 := end_le u v (lowC u v k)
                rw [HE.out] at hE0
                have hE1 := tab_end HG.out HB8.out.t.2.1 hlt
                rw [HE.out, HL.out] at hE1
                have hE2 := low_pos HG.out k
                rw [HL.out] at hE2
                have kn : (k : Int) + 1 < n := by omega
                clear hl
                go_wp2_with fail
                go_quiet ((go_at_call 16; exact Calls.quiet_of_same (HRP.out _)))
                go_wp2_with fail
                go_roundw
                case rel => exact ⟨k + 1, by omega, by go_num, (HEND.out _).1, (HEND.out _).2⟩
                case measure => simp [intOf]; omega
              · have kl : ¬ (k : Int) < (n : Int) - 1 := by omega
                have hkn : k + 1 = n := by omega
                have hE9 : E = 9223372036854775808 := by
                  rw [← HE.out]; exact tab_last (by rw [hkn]; exact HB8.out.t.2.1)
                subst hE9
                clear hl hkn
                go_wp2_with fail
                go_quiet ((go_at_call 16; exact Calls.quiet_of_same (HRP.out _)))
                go_wp2_with fail
                go_roundw
                case rel => exact ⟨k + 1, by omega, by go_num, (HEND.out _).1, (HEND.out _).2⟩
                case measure => simp [intOf]; omega
            · obtain rfl : k = n := by omega
              have HT9 := Lib.hid HBO.out.t
              have kk : ¬ (k : Int) < k := by omega
              clear HBO hlt
              go_wp2_with fail
              refine (trange_out _ B S u v k k HT9.out (by unfold I64; omega) (Or.inr (Int.le_refl _))).mono ?_
              rintro e w8 ⟨rfl, rfl⟩
              go_wp2_with fail
              refine (trep_out _ B S u v k k HT9.out (by unfold I64; omega) (Or.inr (Int.le_refl _))).mono ?_
              rintro e w8 ⟨rfl, rfl⟩
              go_wp2_with fail
              refine (trep_out _ B S u v k (-1) HT9.out (by unfold I64; omega) (Or.inl (by omega))).mono ?_
              rintro e w8 ⟨rfl, rfl⟩
              go_wp2_with fail
              go_ret
              exact ⟨rfl, hbw⟩
        · have h := low_mono HG.out HT5.out.2.2.1
          rw [HT5.out.2.1.2] at h
          exact absurd hfull (by omega)
    · have B3 := B2.trans (hb3.mono B2.size)
      have p3 := cell_later hb3 p2
      have q3 := cell_later hb3 q2
      have HF := Lib.hid hfull
      clear hfull p2 q2 hb3 B2 HN
      go_wp2_with fail
      refine wp_region_noPanic ?_
      refine wp_region_held_drew (S := fun w' => w'.cell? ⟨w.heap.size, 0, none⟩ = some (.int .u64 u) ∧ w'.cell? ⟨w.heap.size, 1, none⟩ = some (.int .u64 v) ∧ Below w3.heap.size w3 w') (by kernel_rfl) (⟨p3, q3, (Below.refl _ _).drew⟩) (fun hHeld => ?_)
      refine wpAnyH_take (i := 0) (oi := _) (v := ?v10) (by simp only [List.getElem?_toArray, List.getElem?_cons_succ, List.getElem?_cons_zero]; rfl) (by kernel_rfl) (by kernel_rfl) (by kernel_rfl) (fun _ _ _ h => h) (Or.inl ⟨by rfl, ?y10⟩) hHeld ?r10
      case y10 => (intro w hSw; (try dsimp only at hSw); go_simp; try with_reducible rfl)
      try simp only [Act.put, List.setIfInBounds_toArray, List.set_cons_zero, List.set_cons_succ]
      refine wpAnyH_take (i := 2) (oi := _) (v := ?v11) (by simp only [List.getElem?_toArray, List.getElem?_cons_succ, List.getElem?_cons_zero]; rfl) (by kernel_rfl) (by kernel_rfl) (by kernel_rfl) (fun _ _ _ h => h) (Or.inl ⟨by rfl, ?y11⟩) hHeld ?r11
      case y11 => (intro w hSw; (try dsimp only at hSw); go_simp; try with_reducible rfl)
      try simp only [Act.put, List.setIfInBounds_toArray, List.set_cons_zero, List.set_cons_succ]
      refine wpAnyH_ready (rs := [1]) (by kernel_rfl) (by simp) ?_
      refine AllReadyH.cons (o := _) (by simp only [List.getElem?_toArray, List.getElem?_cons_succ, List.getElem?_cons_zero]; rfl) (fun K hK => ?_) AllReadyH.nil
      go_simp
      refine (HCG.out _).mono ?_
      rintro e wN ⟨rfl, bN⟩
      try (go_wp2_with fail)
      refine hK.out _ _ (keep2 hHeld bN) (fun hHeld => ?_)
      clear hK K
      try simp only [Act.put, List.setIfInBounds_toArray, List.set_cons_zero, List.set_cons_succ]
      clear bN
      refine wpAnyH_ready (rs := [3]) (by kernel_rfl) (by simp) ?_
      refine AllReadyH.cons (o := _) (by simp only [List.getElem?_toArray, List.getElem?_cons_succ, List.getElem?_cons_zero]; rfl) (fun K hK => ?_) AllReadyH.nil
      go_simp
      refine (HRG.out _).mono ?_
      rintro e wN ⟨rfl, bN⟩
      try (go_wp2_with fail)
      refine hK.out _ _ (keep2 hHeld bN) (fun hHeld => ?_)
      clear hK K
      try simp only [Act.put, List.setIfInBounds_toArray, List.set_cons_zero, List.set_cons_succ]
      clear bN
      refine wpAnyH_take (i := 4) (oi := _) (v := ?v12) (by simp only [List.getElem?_toArray, List.getElem?_cons_succ, List.getElem?_cons_zero]; rfl) (by kernel_rfl) (by kernel_rfl) (by kernel_rfl) (fun _ _ _ h => h) (Or.inl ⟨by rfl, ?y12⟩) hHeld ?r12
      case y12 => (intro w hSw; (try dsimp only at hSw); go_simp; try with_reducible rfl)
      try simp only [Act.put, List.setIfInBounds_toArray, List.set_cons_zero, List.set_cons_succ]
      refine wpAnyH_take (i := 5) (oi := _) (v := ?v13) (by simp only [List.getElem?_toArray, List.getElem?_cons_succ, List.getElem?_cons_zero]; rfl) (by kernel_rfl) (by kernel_rfl) (by kernel_rfl) (fun _ _ _ h => h) (Or.inl ⟨by rfl, ?y13⟩) hHeld ?r13
      case y13 => (intro w hSw; (try dsimp only at hSw); go_simp; try with_reducible rfl)
      try simp only [Act.put, List.setIfInBounds_toArray, List.set_cons_zero, List.set_cons_succ]
      refine wpAnyH_take (i := 6) (oi := _) (v := ?v14) (by simp only [List.getElem?_toArray, List.getElem?_cons_succ, List.getElem?_cons_zero]; rfl) (by kernel_rfl) (by kernel_rfl) (by kernel_rfl) (fun _ _ _ h => h) (Or.inl ⟨by rfl, ?y14⟩) hHeld ?r14
      case y14 => (intro w hSw; (try dsimp only at hSw); go_simp; try with_reducible rfl)
      try simp only [Act.put, List.setIfInBounds_toArray, List.set_cons_zero, List.set_cons_succ]
      refine wpAnyH_ready (rs := [7]) (by kernel_rfl) (by simp) ?_
      refine AllReadyH.cons (o := _) (by simp only [List.getElem?_toArray, List.getElem?_cons_succ, List.getElem?_cons_zero]; rfl) (fun K hK => ?_) AllReadyH.nil
      go_simp
      refine (HRG.out _).mono ?_
      rintro e wN ⟨rfl, bN⟩
      try (go_wp2_with fail)
      refine hK.out _ _ (keep2 hHeld bN) (fun hHeld => ?_)
      clear hK K
      try simp only [Act.put, List.setIfInBounds_toArray, List.set_cons_zero, List.set_cons_succ]
      clear bN
      refine wpAnyH_take (i := 8) (oi := _) (v := ?v15) (by simp only [List.getElem?_toArray, List.getElem?_cons_succ, List.getElem?_cons_zero]; rfl) (by kernel_rfl) (by kernel_rfl) (by kernel_rfl) (fun _ _ _ h => h) (Or.inl ⟨by rfl, ?y15⟩) hHeld ?r15
      case y15 => (intro w hSw; (try dsimp only at hSw); go_simp; try with_reducible rfl)
      try simp only [Act.put, List.setIfInBounds_toArray, List.set_cons_zero, List.set_cons_succ]
      refine wpAnyH_take (i := 9) (oi := _) (v := ?v16) (by simp only [List.getElem?_toArray, List.getElem?_cons_succ, List.getElem?_cons_zero]; rfl) (by kernel_rfl) (by kernel_rfl) (by kernel_rfl) (fun _ _ _ h => h) (Or.inl ⟨by rfl, ?y16⟩) hHeld ?r16
      case y16 => (intro w hSw; (try dsimp only at hSw); go_simp; try with_reducible rfl)
      try simp only [Act.put, List.setIfInBounds_toArray, List.set_cons_zero, List.set_cons_succ]
      refine wpAnyH_take (i := 10) (oi := _) (v := _) (by simp only [List.getElem?_toArray, List.getElem?_cons_succ, List.getElem?_cons_zero]; rfl) (by kernel_rfl) (by kernel_rfl) (by kernel_rfl) (fun _ _ _ h => h) (Or.inr ⟨by rfl, rfl⟩) hHeld ?_
      try simp only [Act.put, List.setIfInBounds_toArray, List.set_cons_zero, List.set_cons_succ]
      refine wpAnyH_take (i := 11) (oi := _) (v := _) (by simp only [List.getElem?_toArray, List.getElem?_cons_succ, List.getElem?_cons_zero]; rfl) (by kernel_rfl) (by kernel_rfl) (by kernel_rfl) (fun _ _ _ h => h) (Or.inr ⟨by rfl, rfl⟩) hHeld ?_
      try simp only [Act.put, List.setIfInBounds_toArray, List.set_cons_zero, List.set_cons_succ]
      refine wpAnyH_take (i := 12) (oi := _) (v := _) (by simp only [List.getElem?_toArray, List.getElem?_cons_succ, List.getElem?_cons_zero]; rfl) (by kernel_rfl) (by kernel_rfl) (by kernel_rfl) (fun _ _ _ h => h) (Or.inr ⟨by rfl, rfl⟩) hHeld ?_
      try simp only [Act.put, List.setIfInBounds_toArray, List.set_cons_zero, List.set_cons_succ]
      refine wpAnyH_take (i := 13) (oi := _) (v := _) (by simp only [List.getElem?_toArray, List.getElem?_cons_succ, List.getElem?_cons_zero]; rfl) (by kernel_rfl) (by kernel_rfl) (by kernel_rfl) (fun _ _ _ h => h) (Or.inr ⟨by rfl, rfl⟩) hHeld ?_
      try simp only [Act.put, List.setIfInBounds_toArray, List.set_cons_zero, List.set_cons_succ]
      refine wpAnyH_take (i := 14) (oi := _) (v := _) (by simp only [List.getElem?_toArray, List.getElem?_cons_succ, List.getElem?_cons_zero]; rfl) (by kernel_rfl) (by kernel_rfl) (by kernel_rfl) (fun _ _ _ h => h) (Or.inr ⟨by rfl, rfl⟩) hHeld ?_
      try simp only [Act.put, List.setIfInBounds_toArray, List.set_cons_zero, List.set_cons_succ]
      refine wpAnyH_take (i := 15) (oi := _) (v := _) (by simp only [List.getElem?_toArray, List.getElem?_cons_succ, List.getElem?_cons_zero]; rfl) (by kernel_rfl) (by kernel_rfl) (by kernel_rfl) (fun _ _ _ h => h) (Or.inr ⟨by rfl, rfl⟩) hHeld ?_
      try simp only [Act.put, List.setIfInBounds_toArray, List.set_cons_zero, List.set_cons_succ]
      refine wpAnyH_take (i := 16) (oi := _) (v := ?v17) (by simp only [List.getElem?_toArray, List.getElem?_cons_succ, List.getElem?_cons_zero]; rfl) (by kernel_rfl) (by kernel_rfl) (by kernel_rfl) (fun _ _ _ h => h) (Or.inl ⟨by rfl, ?y17⟩) hHeld ?r17
      case y17 => (intro w hSw; (try dsimp only at hSw); go_simp; try with_reducible rfl)
      try simp only [Act.put, List.setIfInBounds_toArray, List.set_cons_zero, List.set_cons_succ]
      refine wpAnyH_take (i := 17) (oi := _) (v := ?v18) (by simp only [List.getElem?_toArray, List.getElem?_cons_succ, List.getElem?_cons_zero]; rfl) (by kernel_rfl) (by kernel_rfl) (by kernel_rfl) (fun _ _ _ h => h) (Or.inl ⟨by rfl, ?y18⟩) hHeld ?r18
      case y18 => (intro w hSw; (try dsimp only at hSw); go_simp; try with_reducible rfl)
      try simp only [Act.put, List.setIfInBounds_toArray, List.set_cons_zero, List.set_cons_succ]
      refine wpAnyH_done (by kernel_rfl) ?_ _
      refine NoPanic.normal ?_
      rename_i wN
      have B4 := B3.trans (hHeld.2.2.mono B3.size)
      obtain ⟨p4, q4, _⟩ := id hHeld
      clear hHeld B3 p3 q3
      go_wp2_with fail
      refine (HRG.out _).mono ?_
      rintro e w5 ⟨rfl, hb5⟩
      have B5 := B4.trans (hb5.mono B4.size)
      have p5 := cell_later hb5 p4
      have q5 := cell_later hb5 q4
      clear p4 q4 hb5 B4
      by_cases hd : 1000 < v
      · go_wp2_with fail
        go_ret
        exact ⟨rfl, B5⟩
      · have hdf : decide (1000 < v) = false := decide_eq_false hd
        clear hd
        go_wp2_with fail
        refine (HC.out _).mono ?_
        rintro e w6 (⟨n', A, c, A', c', htn, hn1, hn2, rfl, _, _, hb6⟩ | ⟨rfl, _, hb6⟩)
        · have h := low_mono HG.out hn2
          rw [htn.2] at h
          exact absurd HF.out (by omega)
        · go_wp2_with fail
          go_ret
          exact ⟨rfl, B5.trans (hb6.mono B5.size)⟩
  · have hf : goodC u v = false := by simpa using hg
    have HN := Lib.hid (fun W => cnew_bad u v wu wv hf W)
    rw [hf] at HRG HCG
    clear hg hf
    go_enter Try.func3, Try.ntmps3
    go_wp2_with fail
    refine (alive11_any _).mono ?_
    rintro e w2 ⟨rfl, hb2⟩
    have B2 := ((Below.refl _ _).alloc (Nat.le_refl _) _).trans (hb2.mono (by simp))
    have p2 : w2.cell? ⟨w.heap.size, 0, none⟩ = some (.int .u64 u) := cell_later hb2 (by go_simp)
    have q2 : w2.cell? ⟨w.heap.size, 1, none⟩ = some (.int .u64 v) := cell_later hb2 (by go_simp)
    clear hb2
    go_wp2_with fail
    refine (HN.out _).mono ?_
    rintro e w3 ⟨rfl, hb3⟩
    have B3 := B2.trans (hb3.mono B2.size)
    have p3 := cell_later hb3 p2
    have q3 := cell_later hb3 q2
    clear p2 q2 hb3 B2 HN
    go_wp2_with fail
    have BB : Below w3.heap.size w3 w3.drew := (Below.refl _ _).drew
    go_region_held3 (fun w' => w'.cell? ⟨w.heap.size, 0, none⟩ = some (.int .u64 u) ∧ w'.cell? ⟨w.heap.size, 1, none⟩ = some (.int .u64 v) ∧ Below w3.heap.size w3 w')
      ((first | exact ⟨p3, q3, BB⟩ | exact keep2 (by assumption) hbA | assumption))
      (first
        | (go_at_call 10; refine (HCG.out _).mono ?_; rintro e wA ⟨rfl, hbA⟩)
        | (go_at_call 11; refine (HRG.out _).mono ?_; rintro e wA ⟨rfl, hbA⟩))
    have B4 := B3.trans ((keep2_bel (by assumption)).mono B3.size)
    rename_i hh
    obtain ⟨p4, q4, _⟩ := id hh
    clear hh p3 q3 B3 BB
    go_wp2_with fail
    refine (HRG.out _).mono ?_
    rintro e w5 ⟨rfl, hb5⟩
    go_wp2_with fail
    go_ret
    exact ⟨rfl, B4.trans (hb5.mono B4.size)⟩
end Go.Proofs.Ytbkiekogphfabaa
