/-
  The law StripEnds, walked.
-/
import Derived.Test.YtnhhehinbobknaaStripC
import Derived.Test.YtnhhehinbobknaaCallO
namespace Go.Proofs.Ytnhhehinbobknaa
set_option linter.unusedVariables false
set_option linter.unusedSimpArgs false
open Go.RowKit

theorem fst_cons (p : PairV) (r : List PairV) : firP (p :: r) = p := rfl
theorem las_snoc (r : List PairV) (p : PairV) : lasP (r ++ [p]) = p := by unfold lasP; rw [List.getLast?_concat]; rfl
/-- What leaves at both ends, and what is left. -/
theorem ends_split {m : Int} {R : List PairV} (h : Stp m R) (hne : R ≠ []) : ∃ (px pc qx qc hz : Int) (fb : Bool) (M : List PairV), firP R = (px, pc) ∧ (lasP R).1 = hz ∧ R.isEmpty = false ∧ lasP R.tail = (qx, qc) ∧ (!R.tail.isEmpty) = fb ∧ R.tail.dropLast = M ∧
    ((fb = true ∧ qx = hz) ∨ (fb = false ∧ px = hz)) ∧ sumP M + pc + qc = sumP R ∧ (∀ x, x ∈ M → px < x.1 ∧ x.1 < hz) ∧ 0 ≤ pc ∧ 0 ≤ qc ∧ 0 ≤ sumP M ∧ I64 px ∧ I64 qx ∧ I64 hz := by
  cases R with
  | nil => exact absurd rfl hne
  | cons p r =>
    have hp := h.ok p (by simp)
    cases hl : r.getLast? with
    | none =>
      rw [List.getLast?_eq_none_iff] at hl
      subst hl
      exact ⟨p.1, p.2, 0, 0, p.1, false, [], rfl, rfl, rfl, rfl, rfl, rfl, Or.inr ⟨rfl, rfl⟩, by rw [sumP_one, sumP_nil]; omega, fun x hx => (by cases hx), hp.2.1, Int.le_refl _, Int.le_refl _, hp.1, ⟨by decide, by decide⟩, hp.1⟩
    | some z =>
      obtain ⟨M, rfl⟩ := List.getLast?_eq_some_iff.1 hl
      have hz := h.ok z (by simp)
      have hM : ∀ x, x ∈ M → 0 ≤ x.2 := fun x hx => ok_pos h.ok x (by simp [hx])
      have e : p :: (M ++ [z]) = (p :: M) ++ [z] := rfl
      have hg := h.good
      have hg1 : GoodP ((p :: M) ++ [z]) := hg
      have h1 := (List.pairwise_cons.1 hg.2).1
      have h2 := (good_app hg1).2.2
      refine ⟨p.1, p.2, z.1, z.2, z.1, true, M, rfl, by rw [e, las_snoc], rfl, ?_, ?_, ?_, Or.inl ⟨rfl, rfl⟩, ?_, fun x hx => ⟨h1 x (by simp [hx]), h2 x (by simp [hx]) z (by simp)⟩, hp.2.1, hz.2.1, sumP_pos hM, hp.1, hz.1, hz.1⟩
      · show lasP (M ++ [z]) = _; rw [las_snoc]
      · show (!(M ++ [z]).isEmpty) = true; cases M <;> rfl
      · show (M ++ [z]).dropLast = M; simp
      · rw [sumP_cons, sumP_app, sumP_one]; omega

set_option maxRecDepth 100000 in
set_option maxHeartbeats 4000000 in
theorem sends_walk {St : World → Nat → (Nat → Prop) → Int → List PairV → Prop} (D : StripDoes St) (w : World) (m : Int) (A : Option Addr) (cap : Nat) (L : List CallV) (hm : I64 m) (h : Scr w A L) (hl : L.length ≤ 140737488351232) :
    Calls Try.prog 7 #[.int .i64 m, .slice A L.length cap] w fun e w' => e = .returned (.bool true) ∧ Below w.heap.size w w' := by
  have HD := Lib.hid D
  have HP := Lib.hid h
  obtain ⟨m0, m1⟩ := hm
  clear D h
  by_cases hll : L.length ≤ 100
  · have q0 : ¬ (100 : Int) < L.length := by omega
    by_cases hmm : 1 ≤ m
    · by_cases hmx : m ≤ 4096
      · have q1 : ¬ m < 1 := by omega
        have q2 : ¬ 4096 < m := by omega
        go_enter Try.func7, Try.ntmps7
        go_wp2_with fail
        refine (salive_any HD.out _).mono ?_
        rintro e w0 ⟨rfl, b0⟩
        have z0 := b0.size
        go_wp2_with fail
        refine (HD.out.new _ m hmm hmx).mono ?_
        rintro e w1 ⟨B, S, rfl, h1, hs1, b1⟩
        have hb1 := b0.trans (b1.mono z0)
        have z1 := hb1.size
        have HC0 := Lib.hid h1
        have HS1 : Hid (∀ k, S k → w.heap.size ≤ k) := Lib.hid fun k hk => Nat.le_trans z0 (hs1 k hk)
        clear b1 hs1 h1
        go_wp2_with fail
        go_loopw [39] (fun j wr => ∃ (k : Nat) (S' : Nat → Prop) (R : List PairV), k ≤ L.length ∧ j = .int .i64 k ∧ St wr B S' m R ∧ R.length ≤ k ∧ (∀ x, S' x → w.heap.size ≤ x) ∧ Below w.heap.size w wr) (fun j _ => L.length - (intOf j).toNat)
        case atStart => exact ⟨0, S, [], Nat.zero_le _, rfl, HC0.out, Nat.le_refl _, HS1.out, hb1⟩
        case round =>
          clear hb1
          obtain ⟨k, S', R, hk, rfl, hcr, hRl, hsw, hb2⟩ := hrel
          have hbs := hb2.size
          have HCR := Lib.hid hcr
          have HSW := Lib.hid hsw
          have HCT := Lib.hid (HD.out.stp _ _ _ _ _ hcr)
          have hR9 : R.length ≤ 900 := by omega
          clear hcr hsw HC0 HS1
          by_cases hlt : k < L.length
          · have kk : (k : Int) < L.length := by omega
            have hxk : L[k]? = some L[k] := List.getElem?_eq_getElem hlt
            generalize hit : L[k] = x at *
            obtain ⟨xk, xi, xc⟩ := x
            obtain ⟨b1, off, rfl, hbl, c0, c1, c2⟩ := (HP.out.call hb2).at_ k _ hxk
            simp only at c0 c1 c2
            have hok := HP.out.ok _ (List.mem_of_getElem? hxk)
            have HOK := Lib.hid hok
            obtain ⟨⟨o1, o2⟩, ⟨o3, o4⟩, o5, o6⟩ := hok
            simp only at o1 o2 o3 o4 o5 o6
            clear hxk hit
            have HC1 := Lib.hid (HD.out.call HCR.out ((Below.refl _ _).alloc (Nat.le_refl _) (.cells #[.int .i64 xk, .int .i64 xi, .int .u64 xc] 47)))
            go_wp2_with fail
            refine (HD.out.add _ B S' m R xi xc HC1.out hR9 HOK.out.2.1 HOK.out.2.2).mono ?_
            rintro e w3 ⟨S3, rfl, h3, k3, hs3⟩
            have hb3 := k3.below (hb2.alloc hbs _) (by simp; omega) HSW.out
            have HS3 : Hid (∀ x, S3 x → w.heap.size ≤ x) := Lib.hid fun x hx => by
              rcases hs3 x hx with h | h
              · exact HSW.out x h
              · simp at h; omega
            have HRL : Hid ((stRow m R xi xc).length ≤ k + 1) := Lib.hid (Nat.le_trans (stRow_len m R xi xc) (by omega))
            have HC3 := Lib.hid h3
            clear h3 k3 hs3
            go_wp2_with fail
            go_roundw
            case rel => exact ⟨k + 1, S3, _, by omega, by go_num, HC3.out, HRL.out, HS3.out, hb3⟩
            case measure => simp [intOf]; omega
          · obtain rfl : k = L.length := by omega
            have kk : ¬ (L.length : Int) < L.length := by omega
            by_cases hne : R = []
            · subst hne
              go_wp2_with fail
              refine (HD.out.ends _ B S' m [] HCR.out (by simp)).mono ?_
              rintro e w4 ⟨rfl, b4⟩
              have hc4 := HD.out.call HCR.out b4
              have hb5 := hb2.trans (b4.mono hbs)
              have hbs5 := hb5.size
              have hf0 : firP [] = (0, 0) := rfl
              have hl0 : lasP [] = (0, 0) := rfl
              have hs0 : sumP [] = 0 := rfl
              have he0 : (!([] : List PairV).isEmpty) = false := rfl
              have HF := Lib.hid hf0
              have HL := Lib.hid hl0
              have HE := Lib.hid he0
              rw [hf0, hl0, he0]
              clear b4 hf0 hl0 he0
              go_wp2_with fail
              refine (HD.out.total _ B S' m [] hc4 (by simp)).mono ?_
              rintro e w5 ⟨rfl, b5⟩
              have hc5 := HD.out.call hc4 b5
              have hb6 := hb5.trans (b5.mono hbs5)
              have hbs6 := hb6.size
              rw [hs0]
              clear b5 hs0
              go_wp2_with fail
              refine (HD.out.first _ B S' m [] hc5 (by simp)).mono ?_
              rintro e w6 ⟨S4, rfl, h6, k6, hs6⟩
              have hb7 := k6.below hb6 hbs6 HSW.out
              have hbs7 := hb7.size
              have hb8 := hb7.alloc hbs7 (.cells #[.int .i64 0, .int .u64 0] 30)
              have hbs8 := hb8.size
              have HC7 := Lib.hid (HD.out.call (show St w6 B S4 m [] from h6) ((Below.refl _ _).alloc (Nat.le_refl _) (.cells #[.int .i64 0, .int .u64 0] 30)))
              have HSW4 : Hid (∀ x, S4 x → w.heap.size ≤ x) := Lib.hid fun x hx => by
                rcases hs6 x hx with h | h
                · exact HSW.out x h
                · omega
              rw [HF.out, HE.out]
              clear h6 k6 hs6 hc5 hc4
              go_wp2_with fail
              refine (HD.out.last _ B S4 m [] HC7.out (by simp)).mono ?_
              rintro e w9 ⟨S5, rfl, h9, k9, hs9⟩
              have hb9 := k9.below hb8 hbs8 HSW4.out
              have hb10 := hb9.alloc hb9.size (.cells #[.int .i64 0, .int .u64 0] 30)
              rw [HL.out, HE.out]
              clear h9 k9 hs9
              go_wp2_with fail
              go_ret
              exact ⟨rfl, hb10⟩
            · obtain ⟨px, pc, qx, qc, hz, fb, M, e1, e2, e3, e4, e5, e6, hcase, hsum, hbt, p0, p1, p2, ⟨x0, x1⟩, ⟨x2, x3⟩, x4, x5⟩ := ends_split HCT.out hne
              obtain ⟨n, hn⟩ : ∃ n, sumP R = n := ⟨_, rfl⟩
              obtain ⟨s, hs⟩ : ∃ s, sumP M = s := ⟨_, rfl⟩
              have hn1 := HCT.out.sum
              rw [hn] at hn1 hsum
              rw [hs] at hsum p2
              have E1 := Lib.hid e1
              have E2 := Lib.hid e2
              have E3 : Hid ((!R.isEmpty) = true) := Lib.hid (by rw [e3]; rfl)
              have E4 := Lib.hid e4
              have E5 := Lib.hid e5
              have E6 := Lib.hid e6
              have HB := Lib.hid hbt
              have HN := Lib.hid hn
              have HS := Lib.hid hs
              have hT9 : Hid (R.tail.length ≤ 900) := Lib.hid (by rw [List.length_tail]; omega)
              have hM9 : Hid (M.length ≤ 900) := Lib.hid (by rw [← e6, List.length_dropLast, List.length_tail]; omega)
              have hok : ∀ p, p ∈ M → okP p := by rw [← e6]; exact (stp_front (stp_tail HCT.out)).ok
              have HOK := Lib.hid hok
              have HW : Hid (IntKind.u64.wrap (n - pc) = n - pc ∧ IntKind.u64.wrap (n - pc - qc) = s) := Lib.hid (by simp only [IntKind.wrap_u64]; omega)
              have ww1 : IntKind.u64.wrap (n - pc) = n - pc := HW.out.1
              have ww2 : IntKind.u64.wrap (n - pc - qc) = s := HW.out.2
              have WW1 := Lib.hid ww1
              have WW2 := Lib.hid ww2
              clear e1 e2 e3 e4 e5 e6 hbt hn hs hok hn1 hne hsum ww1 ww2
              rcases hcase with ⟨rfl, rfl⟩ | ⟨rfl, rfl⟩
              all_goals
                go_wp2_with fail
                refine (HD.out.ends _ B S' m R HCR.out hR9).mono ?_
                rintro e w4 ⟨rfl, b4⟩
                have hc4 := HD.out.call HCR.out b4
                have hb5 := hb2.trans (b4.mono hbs)
                have hbs5 := hb5.size
                rw [E1.out, E2.out, E3.out]
                clear b4
                go_wp2_with fail
                refine (HD.out.total _ B S' m R hc4 hR9).mono ?_
                rintro e w5 ⟨rfl, b5⟩
                have hc5 := HD.out.call hc4 b5
                have hb6 := hb5.trans (b5.mono hbs5)
                have hbs6 := hb6.size
                rw [HN.out]
                clear b5 hc4
                go_wp2_with fail
                refine (HD.out.first _ B S' m R hc5 hR9).mono ?_
                rintro e w6 ⟨S4, rfl, h6, k6, hs6⟩
                have hb7 := k6.below hb6 hbs6 HSW.out
                have hbs7 := hb7.size
                have hb8 := hb7.alloc hbs7 (.cells #[.int .i64 px, .int .u64 pc] 30)
                have hbs8 := hb8.size
                have hl6 := HD.out.lt _ _ _ _ _ h6
                have HC7 := Lib.hid (HD.out.call h6 ((Below.refl _ _).alloc (Nat.le_refl _) (.cells #[.int .i64 px, .int .u64 pc] 30)))
                have HSW4 : Hid (∀ x, S4 x → w.heap.size ≤ x) := Lib.hid fun x hx => by
                  rcases hs6 x hx with h | h
                  · exact HSW.out x h
                  · omega
                have hnp : ¬ S4 w6.heap.size := fun hx => by have := hl6 _ hx; omega
                rw [E1.out, E3.out]
                clear h6 k6 hs6 hc5 hl6
                go_wp2_with fail
                refine (HD.out.last _ B S4 m _ HC7.out hT9.out).mono ?_
                rintro e w9 ⟨S5, rfl, h9, k9, hs9⟩
                have hb9 := k9.below hb8 hbs8 HSW4.out
                have hbs9 := hb9.size
                have g0 : w9.cell? ⟨w6.heap.size, 0, none⟩ = some (.int .i64 px) := k9.cell hnp (by go_simp)
                have g1 : w9.cell? ⟨w6.heap.size, 1, none⟩ = some (.int .u64 pc) := k9.cell hnp (by go_simp)
                rw [E4.out, E5.out]
                rw [E6.out] at h9
                have hb10 := hb9.alloc hbs9 (.cells #[.int .i64 qx, .int .u64 qc] 30)
                have HC9 := Lib.hid (HD.out.call h9 ((Below.refl _ _).alloc (Nat.le_refl _) (.cells #[.int .i64 qx, .int .u64 qc] 30)))
                have bq := (Below.refl w9.heap.size w9).alloc (Nat.le_refl _) (.cells #[.int .i64 qx, .int .u64 qc] 30)
                have d0 := cell_later bq g0
                have d1 := cell_later bq g1
                have d2 : (w9.alloc (.cells #[.int .i64 qx, .int .u64 qc] 30)).cell? ⟨w9.heap.size, 0, none⟩ = some (.int .i64 qx) := by go_simp
                have d3 : (w9.alloc (.cells #[.int .i64 qx, .int .u64 qc] 30)).cell? ⟨w9.heap.size, 1, none⟩ = some (.int .u64 qc) := by go_simp
                have HD1 := Lib.hid d1
                have HD3 := Lib.hid d3
                clear h9 k9 hs9 hnp g0 g1 bq
                go_wp2_with fail
                refine (HD.out.pairs _ B S5 m M HC9.out hM9.out).mono ?_
                rintro e wq ⟨v, rfl, hoq, bq⟩
                obtain ⟨Av, cv, rfl, hpq⟩ := hoq.pairs HOK.out
                have HC10 := Lib.hid (HD.out.call HC9.out bq)
                have HPQ := Lib.hid hpq
                have HP1 := Lib.hid (cell_later bq HD1.out)
                have HQ1 := Lib.hid (cell_later bq HD3.out)
                have hb11 := hb10.trans (bq.mono hb10.size)
                have hbs11 := hb11.size
                clear hoq hpq bq d0 d1 d2 d3
                go_wp2_with fail
                go_loopw [109] (fun j wr => ∃ (k : Nat), k ≤ M.length ∧ j = .int .i64 k ∧ Below wq.heap.size wq wr) (fun j _ => M.length - (intOf j).toNat)
                case atStart => exact ⟨0, Nat.zero_le _, rfl, Below.refl _ _⟩
                case round =>
                  obtain ⟨k, hk, rfl, hb3⟩ := hrel
                  have hm9 := hM9.out
                  have hbs3 := hb3.size
                  by_cases hlt : k < M.length
                  · have kk : (k : Int) < M.length := by omega
                    have hxk : M[k]? = some M[k] := List.getElem?_eq_getElem hlt
                    generalize hit : M[k] = p at *
                    obtain ⟨rx, rc⟩ := p
                    obtain ⟨b1, off, rfl, hbl, c0, c1⟩ := (HPQ.out.call hb3).at_ k _ hxk
                    simp only at c0 c1
                    obtain ⟨y0, y1⟩ := HB.out _ (List.mem_of_getElem? hxk)
                    have hok := HOK.out _ (List.mem_of_getElem? hxk)
                    obtain ⟨⟨o1, o2⟩, o3, o4⟩ := hok
                    simp only at y0 y1 o1 o2 o3 o4
                    clear hxk hit
                    first
                      | (exfalso; omega)
                      | (go_wp2_with fail
                         go_roundw
                         case rel => exact ⟨k + 1, by omega, by go_num, hb3.alloc hbs3 _⟩
                         case measure => simp [intOf]; omega)
                  · obtain rfl : k = M.length := by omega
                    have kk : ¬ (M.length : Int) < M.length := by omega
                    have f1 := cell_later hb3 HP1.out
                    have f2 := cell_later hb3 HQ1.out
                    have hb12 := hb11.trans (hb3.mono hbs11)
                    have hbs12 := hb12.size
                    have HC12 := Lib.hid (HD.out.call HC10.out hb3)
                    have ww1 := WW1.out
                    have ww2 := WW2.out
                    have hB := Below.refl wr.heap.size wr
                    have HT := Lib.hid fun w1 (hb1 : Below wr.heap.size wr w1) => HD.out.total w1 B S5 m M (HD.out.call HC12.out hb1) hM9.out
                    rw [HS.out] at HT
                    go_wp2_with fail
                    go_region_held3 (fun w' => w'.cell? ⟨w6.heap.size, 1, none⟩ = some (.int .u64 pc) ∧ w'.cell? ⟨w9.heap.size, 1, none⟩ = some (.int .u64 qc) ∧ Below wr.heap.size wr w')
                      (first | exact ⟨f1, f2, hB.drew⟩ | exact ⟨cell_later hbC f1, cell_later hbC f2, hB.drew.trans hbC⟩)
                      ((go_at_call 16; refine (HT.out _ hB.drew).mono ?_; rintro e wC ⟨rfl, hbC⟩))
                    have hbF := hb12.trans ((hB.drew.trans hbC).mono hbs12)
                    go_wp2_with fail
                    go_ret
                    exact ⟨rfl, hbF⟩
      · have q1 : ¬ m < 1 := by omega
        have q2 : 4096 < m := by omega
        go_enter Try.func7, Try.ntmps7
        go_wp2_with fail
        refine (salive_any HD.out _).mono ?_
        rintro e w0 ⟨rfl, b0⟩
        go_wp2_with fail
        go_ret
        exact ⟨rfl, b0⟩
    · have q1 : m < 1 := by omega
      go_enter Try.func7, Try.ntmps7
      go_wp2_with fail
      refine (salive_any HD.out _).mono ?_
      rintro e w0 ⟨rfl, b0⟩
      go_wp2_with fail
      go_ret
      exact ⟨rfl, b0⟩
  · have q0 : (100 : Int) < L.length := by omega
    go_enter Try.func7, Try.ntmps7
    go_wp2_with fail
    refine (salive_any HD.out _).mono ?_
    rintro e w0 ⟨rfl, b0⟩
    go_wp2_with fail
    go_ret
    exact ⟨rfl, b0⟩
end Go.Proofs.Ytnhhehinbobknaa
