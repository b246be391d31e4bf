/-
  The law CrateTurned, walked.
-/
import Derived.Test.YtggdmlldolaojaaCrateC
import Derived.Test.YtggdmlldolaojaaTurnM
namespace Go.Proofs.Ytggdmlldolaojaa
set_option linter.unusedVariables false
set_option linter.unusedSimpArgs false
open Go.RowKit

/-- The next addition has room, if all have together. -/
theorem room_next {Q M R S : List PairV} (h : Come Q R) (k : Come M S) (hR : Crt R) (hQ : ∀ q, q ∈ Q → okP q ∧ 0 < q.2) (hM : ∀ q, q ∈ M → okP q ∧ 0 < q.2) {p : PairV} (hp : okP p) (h0 : 0 < p.2)
    (hs : sumP M + p.2 ≤ sumP Q) (hsub : ∀ q, q ∈ M → ∃ z, z ∈ Q ∧ z.1 = q.1) (hpq : ∃ z, z ∈ Q ∧ z.1 = p.1) : crErr S p.1 p.2 = 0 ∧ crRow S p.1 p.2 = addP S p.1 p.2 ∧ Come (M ++ [p]) (addP S p.1 p.2) := by
  have hQs := h.sum
  have hRs := hR.sum
  have hc := k.add hp h0 (fun q hq => by have := (hM q hq).2; omega) (by omega)
  have hne : addP S p.1 p.2 ≠ [] := fun e => by
    have h1 := hc.sum
    rw [e, sumP_app, sumP_one, sumP_nil] at h1
    have h2 := sumP_pos (L := M) fun q hq => by have := (hM q hq).2; omega
    omega
  have hsp := spread_less h hc (fun q hq => (hQ q hq).2) (fun q hq => by
    rcases List.mem_append.1 hq with hq | hq
    · exact hsub q hq
    · simp at hq; subst hq; exact hpq) hne
  have hf := hR.far
  have e : crErr S p.1 p.2 = 0 := by
    unfold crErr
    rw [if_neg (by omega), if_neg (by rw [k.sum]; omega), if_neg (by omega)]
  exact ⟨e, by unfold crRow; rw [if_pos e], hc⟩

set_option maxRecDepth 100000 in
set_option maxHeartbeats 4000000 in
theorem cturned_walk {Cr : World → Nat → (Nat → Prop) → List PairV → Prop} (D : CrateDoes Cr) (w : World) (A : Option Addr) (cap : Nat) (L : List PairV) (at_ : Int) (h : Pairs w A L) (hl : L.length ≤ 140737488351232) (hi : I64 at_) :
    Calls Try.prog 5 #[.slice A L.length cap, .int .i64 at_] w fun e w' => e = .returned (.bool true) ∧ Below w.heap.size w w' := by
  have HD := Lib.hid D
  have HP := Lib.hid h
  obtain ⟨i0, i1⟩ := hi
  clear D h
  by_cases hall : L.length ≤ 100 ∧ 0 ≤ at_ ∧ at_ ≤ L.length
  · obtain ⟨hll, ha0, ha1⟩ := hall
    have q0 : ¬ (100 : Int) < L.length := by omega
    have q1 : ¬ at_ < 0 := by omega
    have q2 : ¬ (L.length : Int) < at_ := by omega
    obtain ⟨a, rfl⟩ := Int.eq_ofNat_of_zero_le ha0
    have ha : a ≤ L.length := by omega
    go_enter Try.func5, Try.ntmps5
    go_wp2_with fail
    refine (calive_any HD.out _).mono ?_
    rintro e w0 ⟨rfl, b0⟩
    have z0 := b0.size
    go_wp2_with fail
    refine (HD.out.new _).mono ?_
    rintro e w1 ⟨B, S, rfl, h1, hs1, b1⟩
    have hb1 := b0.trans (b1.mono z0)
    have z1 := hb1.size
    go_wp2_with fail
    refine (HD.out.new _).mono ?_
    rintro e w2 ⟨B2, T, rfl, h2, hs2, b2⟩
    have hb2 := hb1.trans (b2.mono z1)
    have z2 := hb2.size
    have HC1 := Lib.hid (HD.out.call h1 b2)
    have HC2 := Lib.hid h2
    have HSW : Hid (∀ x, S x → w.heap.size ≤ x) := Lib.hid fun x hx => Nat.le_trans z0 (hs1 x hx)
    have HTW : Hid (∀ x, T x → w.heap.size ≤ x) := Lib.hid fun x hx => Nat.le_trans z1 (hs2 x hx)
    have HST : Hid (∀ x, S x → ¬ T x) := Lib.hid fun x hx hy => by
      have h3 := HD.out.lt _ _ _ _ h1 x hx
      have h4 := hs2 x hy
      omega
    clear h1 hs1 b1 h2 hs2 b2 hb1 b0
    go_wp2_with fail
    go_loopw [30] (fun j wr => ∃ (k : Nat) (S' : Nat → Prop) (R : List PairV), k ≤ L.length ∧ j = .int .i64 k ∧ Cr wr B S' R ∧ Cr wr B2 T [] ∧ Come (posP (L.take k)) R ∧ (∀ x, S' x → w.heap.size ≤ x) ∧ (∀ x, S' x → ¬ T x) ∧ Below w.heap.size w wr) (fun j _ => L.length - (intOf j).toNat)
    case atStart => exact ⟨0, S, [], Nat.zero_le _, rfl, HC1.out, HC2.out, Come.nil, HSW.out, HST.out, hb2⟩
    case round =>
      clear hb2 HC1 HC2 HSW HST
      obtain ⟨k, S', R, hk, rfl, hcr, hct, hcome, hsw, hst, hb2⟩ := hrel
      have hbs := hb2.size
      have HCR := Lib.hid hcr
      have HCT := Lib.hid hct
      have HCM := Lib.hid hcome
      have HSW := Lib.hid hsw
      have HST := Lib.hid hst
      have HRT := Lib.hid (HD.out.crt _ _ _ _ hcr)
      clear hcr hct hcome hsw hst
      by_cases hlt : k < L.length
      · have kk : (k : Int) < L.length := by omega
        have hxk : L[k]? = some L[k] := List.getElem?_eq_getElem hlt
        generalize hit : L[k] = p at *
        obtain ⟨px, pc⟩ := p
        obtain ⟨b1, off, rfl, hbl, c0, c1⟩ := (HP.out.call hb2).at_ k _ hxk
        simp only at c0 c1
        have hok := HP.out.ok _ (List.mem_of_getElem? hxk)
        have HOK := Lib.hid hok
        have HPS := Lib.hid (posP_step hxk)
        obtain ⟨⟨o1, o2⟩, o3, o4⟩ := hok
        simp only at o1 o2 o3 o4 HPS
        clear hxk hit
        have HC1 := Lib.hid (HD.out.call HCR.out ((Below.refl _ _).alloc (Nat.le_refl _) (.cells #[.int .i64 px, .int .u64 pc] 31)))
        have HC2 := Lib.hid (HD.out.call HCT.out ((Below.refl _ _).alloc (Nat.le_refl _) (.cells #[.int .i64 px, .int .u64 pc] 31)))
        by_cases hpos : 0 < pc
        · rw [if_pos hpos] at HPS
          obtain ⟨er, her⟩ : ∃ er, crErr R px pc = er := ⟨_, rfl⟩
          have HER := Lib.hid her
          clear her
          by_cases h0 : er = 0
          · subst h0
            go_wp2_with fail
            refine (HD.out.add _ B S' R px pc HC1.out HOK.out.1 HOK.out.2).mono ?_
            rintro e w3 ⟨S3, rfl, h3, k3, hs3⟩
            rw [HER.out]
            have hb3 := k3.below (hb2.alloc hbs _) (by simp; omega) HSW.out
            have hRow : crRow R px pc = addP R px pc := by unfold crRow; rw [if_pos HER.out]
            rw [hRow] at h3
            have hcm : Come (posP (L.take (k + 1))) (addP R px pc) := by
              rw [HPS.out]
              have h5 := crErr_cases (L := R) (i := px) (c := pc) HOK.out.2
              have h6 := HER.out
              exact HCM.out.add HOK.out hpos (fun q hq => by have := (posP_mem.1 hq).2; omega) (by
                rw [← HCM.out.sum]
                rcases h5 with ⟨_, e⟩ | ⟨_, _, e⟩ | ⟨_, _, _, e⟩ | ⟨_, e, _, _⟩ <;> omega)
            have h4 := HD.out.past HC2.out k3 (fun x hx hy => HST.out x hy hx)
            have hst3 : ∀ x, S3 x → ¬ T x := fun x hx hy => by
              rcases hs3 x hx with h | h
              · exact HST.out x h hy
              · have := HD.out.lt _ _ _ _ HC2.out x hy; omega
            have hsw3 : ∀ x, S3 x → w.heap.size ≤ x := fun x hx => by
              rcases hs3 x hx with h | h
              · exact HSW.out x h
              · simp at h; omega
            have H3 := Lib.hid h3
            have H4 := Lib.hid h4
            have HCM3 := Lib.hid hcm
            have HST3 := Lib.hid hst3
            have HSW3 := Lib.hid hsw3
            clear h3 k3 hs3 hRow hcm h4 hst3 hsw3
            go_wp2_with fail
            go_roundw
            case rel => exact ⟨k + 1, S3, _, by omega, by go_num, H3.out, H4.out, HCM3.out, HSW3.out, HST3.out, hb3⟩
            case measure => simp [intOf]; omega
          · have e1 : (er == 0) = false := by simpa using h0
            have e2 : (!er == 0) = true := by rw [e1]; rfl
            go_wp2_with fail
            refine (HD.out.add _ B S' R px pc HC1.out HOK.out.1 HOK.out.2).mono ?_
            rintro e w3 ⟨S3, rfl, h3, k3, hs3⟩
            rw [HER.out]
            have hb3 := k3.below (hb2.alloc hbs _) (by simp; omega) HSW.out
            clear h3 k3 hs3
            go_wp2_with fail
            go_ret
            exact ⟨rfl, hb3⟩
        · rw [if_neg hpos, List.append_nil] at HPS
          have HCM3 : Hid (Come (posP (L.take (k + 1))) R) := Lib.hid (by rw [HPS.out]; exact HCM.out)
          go_wp2_with fail
          go_roundw
          case rel => exact ⟨k + 1, S', R, by omega, by go_num, HC1.out, HC2.out, HCM3.out, HSW.out, HST.out, hb2.alloc hbs _⟩
          case measure => simp [intOf]; omega
      · obtain rfl : k = L.length := by omega
        rw [List.take_length] at HCM
        have kk : ¬ (L.length : Int) < L.length := by omega
        go_wp2_with fail
        go_loopw [49] (fun j wr => ∃ (k : Nat) (T' : Nat → Prop) (R2 : List PairV), k ≤ L.length ∧ j = .int .i64 k ∧ Cr wr B S' R ∧ Cr wr B2 T' R2 ∧ Come (posP ((turnP L a).take k)) R2 ∧ (∀ x, T' x → w.heap.size ≤ x) ∧ (∀ x, T' x → ¬ S' x) ∧ Below w.heap.size w wr) (fun j _ => L.length - (intOf j).toNat)
        case atStart => exact ⟨0, T, [], Nat.zero_le _, rfl, HCR.out, HCT.out, Come.nil, HTW.out, fun x hx hy => HST.out x hy hx, hb2⟩
        case round =>
          clear hb2 hbs HCR HCT
          obtain ⟨k, T', R2, hk, rfl, hcr, hct, hcome, htw, hts, hb2⟩ := hrel
          have hbs := hb2.size
          have HCR := Lib.hid hcr
          have HCT := Lib.hid hct
          have HCM2 := Lib.hid hcome
          have HTW2 := Lib.hid htw
          have HTS := Lib.hid hts
          clear hcr hct hcome htw hts
          by_cases hlt : k < L.length
          · have kq : (k : Int) < L.length := by omega
            obtain ⟨u, hu⟩ : ∃ u, (L.length - 1 - k + a) % L.length = u := ⟨_, rfl⟩
            have hul : u < L.length := by rw [← hu]; exact Nat.mod_lt _ (by omega)
            have hxk : L[u]? = some L[u] := List.getElem?_eq_getElem hul
            generalize hit : L[u] = p at *
            have hxt : (turnP L a)[k]? = some p := by rw [turn_at L a k ha hlt, hu]; exact hxk
            obtain ⟨px, pc⟩ := p
            obtain ⟨b1, off, rfl, hbl, c0, c1⟩ := (HP.out.call hb2).at_ u _ hxk
            simp only at c0 c1
            have hok := HP.out.ok _ (List.mem_of_getElem? hxk)
            have hmem := List.mem_of_getElem? hxk
            have HOK := Lib.hid hok
            have HMEM := Lib.hid hmem
            have HPS := Lib.hid (posP_step hxt)
            obtain ⟨⟨o1, o2⟩, o3, o4⟩ := hok
            simp only at o1 o2 o3 o4 HPS
            have u1 : (L.length : Int) - 1 - (k : Int) + (a : Int) = ((L.length - 1 - k + a : Nat) : Int) := by omega
            have u2 : ((L.length : Int) - 1 - (k : Int) + (a : Int)).tmod (L.length : Int) = (u : Int) := by
              rw [u1, Int.tmod_eq_emod_of_nonneg (by omega), ← hu]; exact (Int.natCast_emod _ _).symm
            have u3 : ((L.length : Int) - 1 - (k : Int) + (a : Int)) % (L.length : Int) = (u : Int) := by
              rw [u1, ← hu]; exact (Int.natCast_emod _ _).symm
            have u4 : (u : Int) < L.length := by omega
            have u5 : (0 : Int) < L.length := by omega
            have u6 : ((L.length : Int) == 0) = false := by rw [beq_eq_false_iff_ne]; omega
            clear hxk hit hmem hxt u1 hu
            have HC1 := Lib.hid (HD.out.call HCR.out ((Below.refl _ _).alloc (Nat.le_refl _) (.cells #[.int .i64 px, .int .u64 pc] 31)))
            have HC2 := Lib.hid (HD.out.call HCT.out ((Below.refl _ _).alloc (Nat.le_refl _) (.cells #[.int .i64 px, .int .u64 pc] 31)))
            by_cases hpos : 0 < pc
            · rw [if_pos hpos] at HPS
              have hrn := room_next (p := (px, pc)) HCM.out HCM2.out HRT.out (fun q hq => ⟨HP.out.ok q (posP_mem.1 hq).1, (posP_mem.1 hq).2⟩)
                (fun q hq => by
                  have h5 := posP_mem.1 hq
                  exact ⟨HP.out.ok q (turn_mem.1 (List.mem_of_mem_take h5.1)), h5.2⟩) HOK.out hpos
                (by
                  have h5 := (posP_sum_take (turnP L a) (k + 1)).2
                  rw [HPS.out, sumP_app, sumP_one, pos_turn_sum] at h5
                  exact h5)
                (fun q hq => by
                  have h5 := posP_mem.1 hq
                  exact ⟨q, posP_mem.2 ⟨turn_mem.1 (List.mem_of_mem_take h5.1), h5.2⟩, rfl⟩)
                ⟨(px, pc), posP_mem.2 ⟨HMEM.out, hpos⟩, rfl⟩
              rw [← HPS.out] at hrn
              obtain ⟨n1, n2, n3⟩ := hrn
              have N1 := Lib.hid n1
              have N2 := Lib.hid n2
              have N3 := Lib.hid n3
              clear n1 n2 n3
              go_wp2_with fail
              refine (HD.out.add _ B2 T' R2 px pc HC2.out HOK.out.1 HOK.out.2).mono ?_
              rintro e w3 ⟨S3, rfl, h3, k3, hs3⟩
              have n1 := N1.out
              have n2 := N2.out
              rw [n1]
              rw [n2] at h3
              have hb3 := k3.below (hb2.alloc hbs _) (by simp; omega) HTW2.out
              have h4 := HD.out.past HC1.out k3 (fun x hx hy => HTS.out x hy hx)
              have hst3 : ∀ x, S3 x → ¬ S' x := fun x hx hy => by
                rcases hs3 x hx with h | h
                · exact HTS.out x h hy
                · have := HD.out.lt _ _ _ _ HC1.out x hy; omega
              have hsw3 : ∀ x, S3 x → w.heap.size ≤ x := fun x hx => by
                rcases hs3 x hx with h | h
                · exact HTW2.out x h
                · simp at h; omega
              have H3 := Lib.hid h3
              have H4 := Lib.hid h4
              have HST3 := Lib.hid hst3
              have HSW3 := Lib.hid hsw3
              clear h3 k3 hs3 h4 hst3 hsw3 n1 n2
              go_wp2_with fail
              go_roundw
              case rel => exact ⟨k + 1, S3, _, by omega, by go_num, H4.out, H3.out, N3.out, HSW3.out, HST3.out, hb3⟩
              case measure => simp [intOf]; omega
            · rw [if_neg hpos, List.append_nil] at HPS
              have HCM3 : Hid (Come (posP ((turnP L a).take (k + 1))) R2) := Lib.hid (by rw [HPS.out]; exact HCM2.out)
              go_wp2_with fail
              go_roundw
              case rel => exact ⟨k + 1, T', R2, by omega, by go_num, HC1.out, HC2.out, HCM3.out, HTW2.out, HTS.out, hb2.alloc hbs _⟩
              case measure => simp [intOf]; omega
          · obtain rfl : k = L.length := by omega
            have kq : ¬ (L.length : Int) < L.length := by omega
            have hcm2 := HCM2.out
            rw [← turn_len L a, List.take_length] at hcm2
            have hRR : R = R2 := HCM.out.same hcm2 (fun j => (pos_turn_count L a j).symm)
            subst hRR
            clear hcm2
            obtain ⟨n, hn⟩ : ∃ n, sumP R = n := ⟨_, rfl⟩
            have HN := Lib.hid hn
            have hRl : R.length ≤ 1000 := by
              have h1 := HCM.out.len
              have h2 : (posP L).length ≤ L.length := by unfold posP; exact List.length_filter_le _ _
              omega
            clear hn
            go_wp2_with fail
            refine (HD.out.pairs _ B S' R HCR.out).mono ?_
            rintro e w5 ⟨va, rfl, hva, b5⟩
            have hb5 := hb2.trans (b5.mono hbs)
            have hbs5 := hb5.size
            have HCR5 := Lib.hid (HD.out.call HCR.out b5)
            have HCT5 := Lib.hid (HD.out.call HCT.out b5)
            have HVA := Lib.hid hva
            clear hva b5
            obtain ⟨A1, c1, ev1⟩ := HVA.out.form
            subst ev1
            go_wp2_with fail
            refine (HD.out.pairs _ B2 T' R HCT5.out).mono ?_
            rintro e w6 ⟨vb, rfl, hvb, b6⟩
            have hb6 := hb5.trans (b6.mono hbs5)
            have hbs6 := hb6.size
            have HCR6 := Lib.hid (HD.out.call HCR5.out b6)
            have HCT6 := Lib.hid (HD.out.call HCT5.out b6)
            have HVA6 := Lib.hid (HVA.out.call b6)
            obtain ⟨A1', c1', ev1, hP1⟩ := HVA6.out.pairs HRT.out.ok
            injection ev1 with e1 e2 e3
            subst e1 e3
            obtain ⟨A2, c2, rfl, hP2⟩ := hvb.pairs HRT.out.ok
            have HP1 := Lib.hid hP1
            have HP2 := Lib.hid hP2
            clear hvb b6 hP1 hP2 e2
            go_wp2_with fail
            refine (same_any _ _ A2 _ c2 R R true (decide_eq_true rfl) HP1.out HP2.out hRl hRl).mono ?_
            rintro e w7 ⟨rfl, b7⟩
            have hb7 := hb6.trans (b7.mono hbs6)
            have hbs7 := hb7.size
            have HCR7 := Lib.hid (HD.out.call HCR6.out b7)
            have HCT7 := Lib.hid (HD.out.call HCT6.out b7)
            clear b7
            go_wp2_with fail
            refine (HD.out.total _ B S' R HCR7.out).mono ?_
            rintro e w8 ⟨rfl, b8⟩
            rw [HN.out]
            have hb8 := hb7.trans (b8.mono hbs7)
            have hbs8 := hb8.size
            have HCT8 := Lib.hid (HD.out.call HCT7.out b8)
            clear b8
            go_wp2_with fail
            refine (HD.out.total _ B2 T' R HCT8.out).mono ?_
            rintro e w9 ⟨rfl, b9⟩
            rw [HN.out]
            have hb9 := hb8.trans (b9.mono hbs8)
            clear b9
            go_wp2_with fail
            go_ret
            exact ⟨rfl, hb9⟩
  · have hc : 100 < L.length ∨ (L.length ≤ 100 ∧ at_ < 0) ∨ (L.length ≤ 100 ∧ ¬ at_ < 0 ∧ (L.length : Int) < at_) := by
      by_cases h1 : L.length ≤ 100
      · by_cases h2 : at_ < 0
        · exact Or.inr (Or.inl ⟨h1, h2⟩)
        · exact Or.inr (Or.inr ⟨h1, h2, by omega⟩)
      · exact Or.inl (by omega)
    clear hall
    rcases hc with h1 | ⟨h1, h2⟩ | ⟨h1, h2, h3⟩
    · have q0 : (100 : Int) < L.length := by omega
      go_enter Try.func5, Try.ntmps5
      go_wp2_with fail
      refine (calive_any HD.out _).mono ?_
      rintro e w0 ⟨rfl, b0⟩
      go_wp2_with fail
      go_ret
      exact ⟨rfl, b0⟩
    all_goals
      have q0 : ¬ (100 : Int) < L.length := by omega
      go_enter Try.func5, Try.ntmps5
      go_wp2_with fail
      refine (calive_any HD.out _).mono ?_
      rintro e w0 ⟨rfl, b0⟩
      go_wp2_with fail
      go_ret
      exact ⟨rfl, b0⟩
end Go.Proofs.Ytggdmlldolaojaa
