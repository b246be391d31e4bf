/-
  The law RunsAdds, walked.
-/
import Derived.Test.YtllnbbfeplgjjaaPairC
import Derived.Deep.Onto
namespace Go.Proofs.Ytllnbbfeplgjjaa
set_option linter.unusedVariables false
set_option linter.unusedSimpArgs false
open Go.RowKit

theorem is_step {L : List PairV} {k : Nat} {p : PairV} (h : L[k]? = some p) (i : Int) : isP (L.take (k + 1)) i = (isP (L.take k) i || (p.1 == i)) := by
  rw [take_snocP h]; unfold isP; rw [List.any_append]; simp
theorem OwnP.mono {w : World} {base base' : Nat} {v : Value} {L : List PairV} (h : OwnP w base v L) (hb : base' ≤ base) : OwnP w base' v L := World.ownsRow.mono h hb
/-- Two rows do not share their memory. -/
def Apart (u v : Value) : Prop := ∀ g, u.ownBlock = some g → v.ownBlock ≠ some g
theorem Apart.own {u v : Value} (h : Apart u v) : v.ownBlock = none ∨ v.ownBlock ≠ u.ownBlock := by
  cases hv : v.ownBlock with
  | none => exact Or.inl rfl
  | some g => exact Or.inr fun e => h g e.symm hv

set_option maxRecDepth 100000 in
set_option maxHeartbeats 2000000 in
theorem radds_walk (CP : PutDoes) (CG : GoodDoes) (CA : AddDoes) (CF : FindDoes) (w : World) (A : Option Addr) (cap : Nat) (L : List PairV) (other : Int) (h : Pairs w A L) (hl : L.length ≤ 140737488351232) (hm : I64 other) :
    Calls Try.prog 4 #[.slice A L.length cap, .int .i64 other] w fun e w' => e = .returned (.bool true) ∧ Below w.heap.size w w' := by
  have HI := Lib.hid h
  have HP := Lib.hid CP
  have HG := Lib.hid CG
  have HA := Lib.hid CA
  have HF := Lib.hid CF
  have HM := Lib.hid hm
  obtain ⟨m0, m1⟩ := hm
  clear CP CG CA CF h
  by_cases hll : L.length ≤ 60
  · have q0 : ¬ (60 : Int) < L.length := by omega
    go_enter Try.func4, Try.ntmps4
    go_wp2_with fail
    refine (ralive_any HP.out HG.out _).mono ?_
    rintro e w0 ⟨rfl, b0⟩
    go_wp2_with fail
    go_loopw [5, 6, 22] (fun u v j wr => ∃ (k : Nat), k ≤ L.length ∧ j = .int .i64 k ∧ OwnP wr w.heap.size u (foldP (L.take k)) ∧ OwnP wr w.heap.size v (foldP (L.take k)) ∧ Apart u v ∧ Sums (foldP (L.take k)) k ∧ Below w.heap.size w wr) (fun _ _ j _ => L.length - (intOf j).toNat)
    case atStart => exact ⟨0, Nat.zero_le _, rfl, OwnP.nil _ _, OwnP.nil _ _, fun g h => by simp [Value.ownBlock] at h, Sums.nil, b0⟩
    case round =>
      clear b0
      obtain ⟨k, hk, rfl, hu, hv, hap, hsum, hb2⟩ := hrel
      have hbs := hb2.size
      have HSUM := Lib.hid hsum
      have HU := Lib.hid hu
      have HV := Lib.hid hv
      have HAP := Lib.hid hap
      obtain ⟨R, hR⟩ : ∃ R, foldP (L.take k) = R := ⟨_, rfl⟩
      rw [hR] at HU HV HSUM
      have HRR := Lib.hid hR
      clear hu hv hap hsum hR
      by_cases hlt : k < L.length
      · have kk : (k : Int) < L.length := by omega
        have hxk : L[k]? = some L[k] := List.getElem?_eq_getElem hlt
        generalize hit : L[k] = p at *
        obtain ⟨px, pc⟩ := p
        obtain ⟨b1, off, rfl, hbl, c0, c1⟩ := (HI.out.call hb2).at_ k _ hxk
        simp only at c0 c1
        have hok := HI.out.ok _ (List.mem_of_getElem? hxk)
        have HOK := Lib.hid hok
        obtain ⟨⟨o1, o2⟩, o3, o4⟩ := hok
        simp only at o1 o2 o3 o4
        have HFS : Hid (foldP (L.take (k + 1)) = addP R px pc) := Lib.hid (by rw [take_snocP hxk, fold_snoc, HRR.out])
        clear hxk hit
        by_cases hbig : 1099511627776 < pc
        · go_wp2_with fail
          go_ret
          exact ⟨rfl, hb2.alloc hbs _⟩
        · have HS2 := Lib.hid (HSUM.out.add HOK.out (by omega) (by omega))
          have HCN : Hid (0 ≤ countP R px ∧ countP R px + pc ≤ 9223372036854775807) := Lib.hid (by have := HSUM.out.cnt px; omega)
          obtain ⟨n, hn⟩ : ∃ n, countP R px + pc = n := ⟨_, rfl⟩
          have HN := Lib.hid hn
          have hnl : n < 18446744073709551616 := by have := HCN.out; omega
          have HNL := Lib.hid hnl
          have hRl : R.length ≤ 1000 := by have := HSUM.out.len; omega
          obtain ⟨R2, hR2⟩ : ∃ R2, addP R px pc = R2 := ⟨_, rfl⟩
          have HR2 := Lib.hid hR2
          rw [hR2] at HFS HS2
          have hR2l : R2.length ≤ 1000 := by have := HS2.out.len; omega
          clear hn hnl hR2
          go_wp2_with fail
          refine (HA.out _ w.heap.size u5 R px pc (HU.out.alloc _) (by simp; omega) HSUM.out.ok HSUM.out.good hRl HOK.out.1 HOK.out.2 HCN.out.2).mono ?_
          rintro e w1 ⟨v1, rfl, ho1, hg1, hb1⟩
          rw [HR2.out] at ho1
          have HV1 := OwnP.other (HV.out.alloc _) hg1 (HAP.out.own)
          have hb3 := OwnP.below (HU.out.alloc _) (hb2.alloc hbs (.cells #[.int .i64 px, .int .u64 pc] 26)) hg1 (by simp; omega)
          have hbs3 := hb3.size
          have hne : ¬ some wr.heap.size = u5.ownBlock := fun e => by have := (HU.out.lt _ e.symm).2; omega
          have g0 : w1.cell? ⟨wr.heap.size, 0, none⟩ = some (.int .i64 px) := (World.cell?_of_block (a := ⟨wr.heap.size, 0, none⟩) (hg1.block _ (by simp) hne)).trans (by go_simp)
          have g1 : w1.cell? ⟨wr.heap.size, 1, none⟩ = some (.int .u64 pc) := (World.cell?_of_block (a := ⟨wr.heap.size, 1, none⟩) (hg1.block _ (by simp) hne)).trans (by go_simp)
          have hap1 : Apart v1 u6 := by
            intro g e1 e2
            rcases hb1 with hb1 | hb1
            · exact HAP.out g (hb1 ▸ e1) e2
            · have h1 := hb1 g e1
              have h2 := (HV.out.lt g e2).2
              simp at h1; omega
          have HO1 := Lib.hid ho1
          obtain ⟨A6, c6, rfl, hP6⟩ := HV1.pairs HSUM.out.ok
          have HP6 := Lib.hid hP6
          clear ho1 hg1 hb1 hne HV1 hP6
          go_wp2_with fail
          refine (radd_any _ A6 c6 R px pc n HP6.out hRl HOK.out.1 HOK.out.2 HN.out HNL.out).mono ?_
          rintro e w2 ⟨v2, rfl, ho2, hb4⟩
          rw [HR2.out] at ho2
          have HO2 := Lib.hid (ho2.mono hbs3)
          have HO3 := Lib.hid (HO1.out.call hb4)
          have hap2 : Apart v1 v2 := by
            intro g e1 e2
            have h1 := (HO1.out.lt g e1).2
            have h2 := (ho2.lt g e2).1
            omega
          have HAP2 := Lib.hid hap2
          have hb5 := hb3.trans (hb4.mono hbs3)
          have hbs5 := hb5.size
          obtain ⟨A1, c1', rfl, hP1⟩ := HO3.out.pairs HS2.out.ok
          obtain ⟨A2, c2', rfl, hP2⟩ := HO2.out.pairs HS2.out.ok
          have HP1 := Lib.hid hP1
          have HP2 := Lib.hid hP2
          clear ho2 hb4 hap1 hap2 g0 g1 hP1 hP2
          go_wp2_with fail
          refine (same_any _ A1 A2 c1' c2' R2 R2 true (decide_eq_true rfl) HP1.out HP2.out hR2l hR2l).mono ?_
          rintro e w3 ⟨rfl, hb6⟩
          have hb7 := hb5.trans (hb6.mono hbs5)
          have HO4 := Lib.hid (HO3.out.call hb6)
          have HO5 := Lib.hid (HO2.out.call hb6)
          clear hb6
          go_wp2_with fail
          go_roundw
          case rel => exact ⟨k + 1, by omega, by go_num, by rw [HFS.out]; exact HO4.out, by rw [HFS.out]; exact HO5.out, HAP2.out, by rw [HFS.out]; exact HS2.out, hb7⟩
          case measure => simp [intOf]; omega
      · obtain rfl : k = L.length := by omega
        have kk : ¬ (L.length : Int) < L.length := by omega
        have hRl : R.length ≤ 1000 := by have := HSUM.out.len; omega
        obtain ⟨n0, hn0⟩ : ∃ n, (lowP R other).length = n := ⟨_, rfl⟩
        obtain ⟨i0, hi0⟩ : ∃ i, isP R other = i := ⟨_, rfl⟩
        have HN0 := Lib.hid hn0
        have HI0 := Lib.hid hi0
        obtain ⟨A5, c5, rfl, hP5⟩ := HU.out.pairs HSUM.out.ok
        obtain ⟨A6, c6, rfl, hP6⟩ := HV.out.pairs HSUM.out.ok
        have HP5 := Lib.hid hP5
        have HP6 := Lib.hid hP6
        have HGR := Lib.hid HSUM.out.good
        clear hn0 hi0 hP5 hP6
        go_wp2_with fail
        refine (HF.out _ A5 c5 R other n0 i0 HP5.out hRl HGR.out HM.out HN0.out HI0.out).mono ?_
        rintro e w1 ⟨rfl, hb3'⟩
        have hb3 := hb2.trans (hb3'.mono hbs)
        have HP7 := Lib.hid (HP6.out.call hb3')
        clear hb3'
        go_wp2_with fail
        go_loopw [11, 12, 54] (fun a f j wq => ∃ (k : Nat), k ≤ R.length ∧ j = .int .i64 k ∧ a = .int .i64 ((lowP (R.take k) other).length : Nat) ∧ f = .bool (isP (R.take k) other) ∧ Below w1.heap.size w1 wq) (fun _ _ j _ => R.length - (intOf j).toNat)
        case atStart => exact ⟨0, Nat.zero_le _, rfl, rfl, rfl, Below.refl _ _⟩
        case round =>
          obtain ⟨q, hq, rfl, rfl, rfl, hbq⟩ := hrel
          have hbqs := hbq.size
          obtain ⟨nq, hnq⟩ : ∃ n, (lowP (R.take q) other).length = n := ⟨_, rfl⟩
          obtain ⟨iq, hiq⟩ : ∃ i, isP (R.take q) other = i := ⟨_, rfl⟩
          have hnl : nq ≤ 1000 := by have := low_len R other q; omega
          rw [hnq, hiq]
          have HNQ := Lib.hid hnq
          have HIQ := Lib.hid hiq
          clear hnq hiq
          by_cases hlt2 : q < R.length
          · have kq : (q : Int) < R.length := by omega
            have hxk : R[q]? = some R[q] := List.getElem?_eq_getElem hlt2
            generalize hit : R[q] = p at *
            obtain ⟨px, pc⟩ := p
            obtain ⟨b1, off, rfl, hbl, c0, c1⟩ := (HP7.out.call hbq).at_ q _ hxk
            simp only at c0 c1
            have HLS := Lib.hid (low_step hxk other)
            have HIS := Lib.hid (is_step hxk other)
            simp only at HLS HIS
            clear hxk hit
            rcases Int.lt_trichotomy px other with hc | hc | hc
            · have e1 : (px == other) = false := by simp; omega
              rw [if_pos hc] at HLS
              rw [e1, Bool.or_false] at HIS
              have HL1 : Hid ((lowP (R.take (q + 1)) other).length = nq + 1) := Lib.hid (by rw [HLS.out, List.length_append, HNQ.out]; rfl)
              cases iq
              all_goals
                go_wp2_with fail
                go_roundw
                case rel => exact ⟨q + 1, by omega, by go_num, by rw [HL1.out]; go_num, by rw [HIS.out, HIQ.out], hbq.alloc hbqs _⟩
                case measure => simp [intOf]; omega
            · subst hc
              have e1 : (px == px) = true := by simp
              have e2 : ¬ px < px := by omega
              rw [if_neg e2, List.append_nil] at HLS
              rw [e1, Bool.or_true] at HIS
              have HL1 : Hid ((lowP (R.take (q + 1)) px).length = nq) := Lib.hid (by rw [HLS.out, HNQ.out])
              cases iq
              all_goals
                go_wp2_with fail
                go_roundw
                case rel => exact ⟨q + 1, by omega, by go_num, by rw [HL1.out], by rw [HIS.out], hbq.alloc hbqs _⟩
                case measure => simp [intOf]; omega
            · have e1 : (px == other) = false := by simp; omega
              have e2 : ¬ px < other := by omega
              rw [if_neg e2, List.append_nil] at HLS
              rw [e1, Bool.or_false] at HIS
              have HL1 : Hid ((lowP (R.take (q + 1)) other).length = nq) := Lib.hid (by rw [HLS.out, HNQ.out])
              cases iq
              all_goals
                go_wp2_with fail
                go_roundw
                case rel => exact ⟨q + 1, by omega, by go_num, by rw [HL1.out], by rw [HIS.out, HIQ.out], hbq.alloc hbqs _⟩
                case measure => simp [intOf]; omega
          · obtain rfl : q = R.length := by omega
            rw [List.take_length] at HNQ HIQ
            have E1 : nq = n0 := by rw [← HNQ.out, HN0.out]
            have E2 : iq = i0 := by rw [← HIQ.out, HI0.out]
            subst E1 E2
            have kq : ¬ (R.length : Int) < R.length := by omega
            have hb9 := hb3.trans (hbq.mono hb3.size)
            cases iq
            all_goals
              go_wp2_with fail
              go_ret
              exact ⟨rfl, hb9⟩
  · have q0 : (60 : Int) < L.length := by omega
    go_enter Try.func4, Try.ntmps4
    go_wp2_with fail
    refine (ralive_any HP.out HG.out _).mono ?_
    rintro e w0 ⟨rfl, b0⟩
    go_wp2_with fail
    go_ret
    exact ⟨rfl, b0⟩
end Go.Proofs.Ytllnbbfeplgjjaa
