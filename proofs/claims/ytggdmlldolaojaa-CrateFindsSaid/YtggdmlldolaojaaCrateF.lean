/-
  The law CrateFinds, walked.
-/
import Derived.Test.YtggdmlldolaojaaCrateC
namespace Go.Proofs.Ytggdmlldolaojaa
set_option linter.unusedVariables false
set_option linter.unusedSimpArgs false
open Go.RowKit

theorem seek_mem (t : Int) : ∀ (L : List PairV) (s x : Int), seekP t s L = some x → ∃ p, p ∈ L ∧ p.1 = x := by
  intro L
  induction L with
  | nil => intro s x h; cases h
  | cons p r ih =>
    intro s x h
    unfold seekP at h
    split at h
    · exact ⟨p, by simp, Option.some.inj h⟩
    · obtain ⟨q, hq, e⟩ := ih _ x h
      exact ⟨q, List.mem_cons_of_mem _ hq, e⟩
theorem below_none {L : List PairV} {x : Int} (h : ∀ q, q ∈ L → x < q.1) : belowP L x = 0 := by
  unfold belowP
  rw [List.filter_eq_nil_iff.2 (fun q hq => by have := h q hq; simp; omega)]; rfl
theorem below_cons (p : PairV) (r : List PairV) (x : Int) : belowP (p :: r) x = (if p.1 ≤ x then p.2 else 0) + belowP r x := by
  have e := below_app [p] r x
  rw [below_one] at e
  exact e
theorem seek_close (t : Int) : ∀ (L : List PairV) (s x : Int), GoodP L → s < t → seekP t s L = some x → t ≤ s + belowP L x ∧ s + belowP L x - countP L x < t := by
  intro L
  induction L with
  | nil => intro s x _ _ h; cases h
  | cons p r ih =>
    intro s x hg hs h
    have hr := (List.pairwise_cons.1 hg.2).1
    unfold seekP at h
    split at h
    · have e := Option.some.inj h
      subst e
      rw [below_cons, if_pos (Int.le_refl _), below_none hr, count_cons, if_pos rfl, count_above hr]
      omega
    · obtain ⟨q, hq, e⟩ := seek_mem t r _ x h
      have h1 := hr q hq
      obtain ⟨h2, h3⟩ := ih _ x (good_drop 1 hg) (by omega) h
      rw [below_cons, if_pos (by omega), count_cons, if_neg (by omega)]
      omega
theorem find_close {L : List PairV} {t x : Int} (hg : GoodP L) (h : findP L t = some x) : t ≤ belowP L x ∧ belowP L x - countP L x < t := by
  unfold findP at h
  split at h
  · have := seek_close t L 0 x hg (by omega) h
    omega
  · cases h
theorem find_i64 {L : List PairV} (h : ∀ p, p ∈ L → okP p) (t : Int) : I64 ((findP L t).getD 0) := by
  unfold findP
  split
  · cases hf : seekP t 0 L with
    | none => exact ⟨by decide, by decide⟩
    | some x =>
      obtain ⟨p, hp, e⟩ := seek_mem t L 0 x hf
      subst e
      exact (h p hp).1
  · exact ⟨by decide, by decide⟩

set_option maxRecDepth 100000 in
set_option maxHeartbeats 4000000 in
theorem cfinds_walk {Cr : World → Nat → (Nat → Prop) → List PairV → Prop} (D : CrateDoes Cr) (w : World) (A : Option Addr) (cap : Nat) (L : List PairV) (t i : Int) (h : Pairs w A L) (hl : L.length ≤ 140737488351232) (ht : Word t) (hi : I64 i) :
    Calls Try.prog 4 #[.slice A L.length cap, .int .u64 t, .int .i64 i] w fun e w' => e = .returned (.bool true) ∧ Below w.heap.size w w' := by
  have HD := Lib.hid D
  have HP := Lib.hid h
  have HT := Lib.hid ht
  have HI := Lib.hid hi
  obtain ⟨t0, t1⟩ := ht
  obtain ⟨i0, i1⟩ := hi
  clear D h
  by_cases hll : L.length ≤ 100
  · have q0 : ¬ (100 : Int) < L.length := by omega
    go_enter Try.func4, Try.ntmps4
    go_wp2_with fail
    refine (calive_any HD.out _).mono ?_
    rintro e w0 ⟨rfl, b0⟩
    have z0 := b0.size
    go_wp2_with fail
    refine (HD.out.new _).mono ?_
    rintro e w1 ⟨B, S, rfl, h1, hs1, b1⟩
    have hb1 := b0.trans (b1.mono z0)
    have z1 := hb1.size
    have hs1' : ∀ k, S k → w.heap.size ≤ k := fun k hk => Nat.le_trans z0 (hs1 k hk)
    have hr0 := RefC.new w1
    have h2 := HD.out.call h1 ((Below.refl _ _).alloc (Nat.le_refl _) (.cells #[.slice none 0 0] 28))
    have hap : ∀ k, S k → k < w1.heap.size := HD.out.lt _ _ _ _ h1
    have HR0 := Lib.hid hr0
    have HC0 := Lib.hid h2
    have HAP := Lib.hid hap
    have HS1 := Lib.hid hs1'
    have hb2 := hb1.alloc z1 (.cells #[.slice none 0 0] 28)
    clear b1 hs1 hr0 h1 h2 hap hs1' hb1
    go_wp2_with fail
    go_loopw [26] (fun j wr => ∃ (k : Nat) (S' : Nat → Prop) (v : Value) (R : List PairV), k ≤ L.length ∧ j = .int .i64 k ∧ Cr wr B S' R ∧ RefC wr w1.heap.size v R ∧ R.length ≤ k ∧ (∀ x, S' x → w.heap.size ≤ x) ∧ (∀ x, S' x → x ≠ w1.heap.size ∧ v.ownBlock ≠ some x) ∧ Below w.heap.size w wr) (fun j _ => L.length - (intOf j).toNat)
    case atStart => exact ⟨0, S, _, [], Nat.zero_le _, rfl, HC0.out, HR0.out, Nat.le_refl _, HS1.out, fun x hx => ⟨fun e => by have := HAP.out x hx; omega, fun e => by simp [Value.ownBlock] at e⟩, hb2⟩
    case round =>
      clear hb2
      obtain ⟨k, S', v, R, hk, rfl, hcr, hrf, hRl, hsw, hsd, hb2⟩ := hrel
      have hbs := hb2.size
      have HCR := Lib.hid hcr
      have HRF := Lib.hid hrf
      have HSW := Lib.hid hsw
      have HSD := Lib.hid hsd
      have HCT := Lib.hid (HD.out.crt _ _ _ _ hcr)
      have hM := hrf.lt
      clear hcr hrf hsw hsd HR0 HC0 HAP HS1
      by_cases hlt : k < L.length
      · have kk : (k : Int) < L.length := by omega
        have hxk : L[k]? = some L[k] := List.getElem?_eq_getElem hlt
        generalize hit : L[k] = p at *
        obtain ⟨px, pc⟩ := p
        obtain ⟨b1, off, rfl, hbl, c0, c1⟩ := (HP.out.call hb2).at_ k _ hxk
        simp only at c0 c1
        have hok := HP.out.ok _ (List.mem_of_getElem? hxk)
        have HOK := Lib.hid hok
        obtain ⟨⟨o1, o2⟩, o3, o4⟩ := hok
        simp only at o1 o2 o3 o4
        clear hxk hit
        have HC1 := Lib.hid (HD.out.call HCR.out ((Below.refl _ _).alloc (Nat.le_refl _) (.cells #[.int .i64 px, .int .u64 pc] 31)))
        have HR1 := Lib.hid (HRF.out.call ((Below.refl _ _).alloc (Nat.le_refl _) (.cells #[.int .i64 px, .int .u64 pc] 31)))
        have hsl := Lib.hid (HD.out.lt _ _ _ _ HCR.out)
        go_wp2_with fail
        refine (HD.out.add _ B S' R px pc HC1.out HOK.out.1 HOK.out.2).mono ?_
        rintro e w3 ⟨S3, rfl, h3, k3, hs3⟩
        have hb3 := k3.below (hb2.alloc hbs _) (by simp; omega) HSW.out
        have hnb : ¬ S' wr.heap.size := fun hx => by have := hsl.out _ hx; omega
        have g0 : w3.cell? ⟨wr.heap.size, 0, none⟩ = some (.int .i64 px) := k3.cell hnb (by go_simp)
        have g1 : w3.cell? ⟨wr.heap.size, 1, none⟩ = some (.int .u64 pc) := k3.cell hnb (by go_simp)
        have hr3 := HR1.out.past k3 (fun hx => (HSD.out _ hx).1 rfl) (fun g hg hx => (HSD.out g hx).2 hg)
        have hvlt := Lib.hid (HR1.out.2.lt)
        have HR3 := Lib.hid hr3
        have HC3 := Lib.hid h3
        have k3s := k3.size
        clear h3 k3 hr3 hnb
        go_wp2_with fail
        refine (rcadd_any _ w1.heap.size v R px pc HR3.out HCT.out (by omega) HOK.out.1 HOK.out.2).mono ?_
        rintro e w4 ⟨rfl, ⟨v4, hr4, hv4⟩, hg4⟩
        have h4 : Cr w4 B S3 (crRow R px pc) := HD.out.keep _ _ _ _ _ HC3.out fun x hx => hg4.block x (HD.out.lt _ _ _ _ HC3.out x hx) (fun e => by
          have e1 := Option.some.inj e
          rcases hs3 x hx with h | h
          · exact (HSD.out x h).1 e1
          · simp at h; omega)
        have hb4 := hb3.trans (grown_below hg4 z1 hb3.size)
        have hsw4 : ∀ x, S3 x → w.heap.size ≤ x := fun x hx => by
          rcases hs3 x hx with h | h
          · exact HSW.out x h
          · simp at h; omega
        have hsd4 : ∀ x, S3 x → x ≠ w1.heap.size ∧ v4.ownBlock ≠ some x := fun x hx => by
          have hlt3 := HD.out.lt _ _ _ _ HC3.out x hx
          refine ⟨?_, fun e => ?_⟩
          · rcases hs3 x hx with h | h
            · exact (HSD.out x h).1
            · simp at h; omega
          · rcases hv4 with rfl | hv4
            · rcases hs3 x hx with h | h
              · exact (HSD.out x h).2 e
              · have := (hvlt.out x e).2; omega
            · have := hv4 x e; omega
        have HRL : Hid ((crRow R px pc).length ≤ k + 1) := Lib.hid (Nat.le_trans (crRow_len R px pc) (by omega))
        have H4 := Lib.hid h4
        have HR4 := Lib.hid hr4
        have HSW4 := Lib.hid hsw4
        have HSD4 := Lib.hid hsd4
        clear hg4 h4 hr4 hsw4 hsd4 hv4 hs3 hb3 g0 g1
        go_wp2_with fail
        go_roundw
        case rel => exact ⟨k + 1, S3, v4, _, by omega, by go_num, H4.out, HR4.out, HRL.out, HSW4.out, HSD4.out, hb4⟩
        case measure => simp [intOf]; omega
      · obtain rfl : k = L.length := by omega
        have kk : ¬ (L.length : Int) < L.length := by omega
        obtain ⟨x, hx⟩ : ∃ x, (findP R t).getD 0 = x := ⟨_, rfl⟩
        obtain ⟨fb, hfb⟩ : ∃ b, (findP R t).isSome = b := ⟨_, rfl⟩
        obtain ⟨n1, hn1⟩ : ∃ n, belowP R i = n := ⟨_, rfl⟩
        obtain ⟨n2, hn2⟩ : ∃ n, belowP R x = n := ⟨_, rfl⟩
        obtain ⟨n3, hn3⟩ : ∃ n, countP R x = n := ⟨_, rfl⟩
        have hix : I64 x := hx ▸ find_i64 HCT.out.ok t
        have hcl : fb = true → t ≤ n2 ∧ n2 - n3 < t := fun h => by
          rw [← hfb] at h
          obtain ⟨y, hy⟩ := Option.isSome_iff_exists.1 h
          have e : x = y := by rw [← hx, hy]; rfl
          subst e
          have := find_close HCT.out.good hy
          rw [hn2, hn3] at this
          exact this
        have hb1 := below_le (L := R) i (ok_pos HCT.out.ok)
        have hb3 := below_le (L := R) x (ok_pos HCT.out.ok)
        have hb4 := below_take (L := R) R.length x (ok_pos HCT.out.ok)
        rw [List.take_length] at hb4
        have hct := HCT.out.cnt x
        have hsm := HCT.out.sum
        have hn3' : 0 ≤ n3 ∧ n3 ≤ n2 := by
          have h1 := sum_part R x
          rw [← hn2, ← hn3]
          refine ⟨hct.1, ?_⟩
          have hm := good_part x HCT.out.good
          have key : ∀ (Q : List PairV), (∀ p, p ∈ Q → 0 ≤ p.2) → countP Q x ≤ belowP Q x := by
            intro Q
            induction Q with
            | nil => intro _; exact Int.le_refl _
            | cons p r ih =>
              intro hq
              have h2 := ih fun z hz => hq z (List.mem_cons_of_mem _ hz)
              have h3 := hq p (by simp)
              rw [count_cons, below_cons]
              by_cases e : p.1 = x
              · rw [if_pos e, if_pos (by omega)]; omega
              · rw [if_neg e]; split <;> omega
          exact key R (ok_pos HCT.out.ok)
        have HCL := Lib.hid hcl
        have HX := Lib.hid hx
        have HFB := Lib.hid hfb
        have HN1 := Lib.hid hn1
        have HN2 := Lib.hid hn2
        have HN3 := Lib.hid hn3
        have HIX := Lib.hid hix
        have hn1l : n1 < 18446744073709551616 := by omega
        have hn2l : n2 ≤ 9223372036854775807 := by omega
        have HSL : Hid (sumP R < 18446744073709551616) := Lib.hid (by omega)
        have hRL : R.length ≤ 1000 := by omega
        obtain ⟨Av, cv, rfl, hPv⟩ := HRF.out.2.pairs HCT.out.ok
        have HPV := Lib.hid hPv
        have c5 := cell_of_one HRF.out.1
        obtain ⟨f0, f1⟩ := hix
        clear hcl hx hfb hn1 hn2 hn3 hb1 hb3 hb4 hct hsm hPv
        cases fb
        all_goals
          go_wp2_with fail
          refine (HD.out.find _ B S' R t HCR.out HT.out).mono ?_
          rintro e w5 ⟨rfl, b5⟩
          rw [HX.out, HFB.out]
          have hc5 := HD.out.call HCR.out b5
          have hp5 := HPV.out.call b5
          have d5 := cell_later b5 c5
          have hb6 := hb2.trans (b5.mono hbs)
          have hbs6 := hb6.size
          clear b5
          go_wp2_with fail
          refine (rfind_any _ Av cv R t x _ hp5 hRL HT.out HSL.out HX.out HFB.out).mono ?_
          rintro e w6 ⟨rfl, b6⟩
          have hc6 := HD.out.call hc5 b6
          have hp6 := hp5.call b6
          have d6 := cell_later b6 d5
          have hb7 := hb6.trans (b6.mono hbs6)
          have hbs7 := hb7.size
          clear b6 hc5 hp5 d5
          go_wp2_with fail
          refine (HD.out.below _ B S' R i hc6 HI.out).mono ?_
          rintro e w7 ⟨rfl, b7⟩
          rw [HN1.out]
          have hc7 := HD.out.call hc6 b7
          have hp7 := hp6.call b7
          have d7 := cell_later b7 d6
          have hb8 := hb7.trans (b7.mono hbs7)
          have hbs8 := hb8.size
          clear b7 hc6 hp6 d6
          go_wp2_with fail
          refine (rbelow_any _ Av cv R i n1 hp7 hRL HI.out HN1.out hn1l).mono ?_
          rintro e w8 ⟨rfl, b8⟩
          have hc8 := HD.out.call hc7 b8
          have hb9 := hb8.trans (b8.mono hbs8)
          have hbs9 := hb9.size
          clear b8 hc7 hp7 d7
        · go_wp2_with fail
          go_ret
          exact ⟨rfl, hb9⟩
        · obtain ⟨l1, l2⟩ := HCL.out (by first | trivial | rfl)
          go_wp2_with fail
          refine (HD.out.below _ B S' R x hc8 HIX.out).mono ?_
          rintro e w9 ⟨rfl, b9⟩
          rw [HN2.out]
          have hc9 := HD.out.call hc8 b9
          have hb10 := hb9.trans (b9.mono hbs9)
          have hbs10 := hb10.size
          clear b9 hc8
          go_wp2_with fail
          refine (HD.out.below _ B S' R x hc9 HIX.out).mono ?_
          rintro e w10 ⟨rfl, b10⟩
          rw [HN2.out]
          have hc10 := HD.out.call hc9 b10
          have hb11 := hb10.trans (b10.mono hbs10)
          have hbs11 := hb11.size
          clear b10 hc9
          go_wp2_with fail
          refine (HD.out.at_ _ B S' R x hc10 HIX.out).mono ?_
          rintro e w11 ⟨rfl, b11⟩
          rw [HN3.out]
          have hb12 := hb11.trans (b11.mono hbs11)
          clear b11 hc10
          go_wp2_with fail
          go_ret
          exact ⟨rfl, hb12⟩
  · have q0 : (100 : Int) < L.length := by omega
    go_enter Try.func4, Try.ntmps4
    go_wp2_with fail
    refine (calive_any HD.out _).mono ?_
    rintro e w0 ⟨rfl, b0⟩
    go_wp2_with fail
    go_ret
    exact ⟨rfl, b0⟩
end Go.Proofs.Ytggdmlldolaojaa
