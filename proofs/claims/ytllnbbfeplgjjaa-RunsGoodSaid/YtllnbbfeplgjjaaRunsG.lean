/-
  The law RunsGood, walked.
-/
import Derived.Test.YtllnbbfeplgjjaaPairC
namespace Go.Proofs.Ytllnbbfeplgjjaa
set_option linter.unusedVariables false
set_option linter.unusedSimpArgs false
open Go.RowKit

theorem sum_step {L : List PairV} {k : Nat} {p : PairV} (h : L[k]? = some p) : sumP (L.take (k + 1)) = sumP (L.take k) + p.2 := by rw [take_snocP h, sumP_app, sumP_one]

set_option maxRecDepth 100000 in
set_option maxHeartbeats 2000000 in
theorem rgood_walk (CP : PutDoes) (CG : GoodDoes) (CT : TotalDoes) (w : World) (A : Option Addr) (cap : Nat) (L : List PairV) (most : Int) (h : Pairs w A L) (hl : L.length ≤ 140737488351232) (hm : I64 most) :
    Calls Try.prog 3 #[.slice A L.length cap, .int .i64 most] w fun e w' => e = .returned (.bool true) ∧ Below w.heap.size w w' := by
  have HI := Lib.hid h
  have HP := Lib.hid CP
  have HG := Lib.hid CG
  have HT := Lib.hid CT
  have HM := Lib.hid hm
  obtain ⟨m0, m1⟩ := hm
  clear CP CG CT h
  by_cases hll : L.length ≤ 100
  · have q0 : ¬ (100 : Int) < L.length := by omega
    have hl1 : L.length ≤ 1000 := by omega
    go_enter Try.func3, Try.ntmps3
    go_wp2_with fail
    refine (ralive_any HP.out HG.out _).mono ?_
    rintro e w0 ⟨rfl, b0⟩
    go_wp2_with fail
    go_loopw [5, 6, 18] (fun s f j wr => ∃ (k : Nat) (m : Int) (ft : Bool), k ≤ L.length ∧ j = .int .i64 k ∧ s = .int .u64 m ∧ f = .bool ft ∧ 0 ≤ m ∧ m ≤ 9223372036854775807 ∧ (ft = true → sumP (L.take k) = m) ∧ (ft = false → 9223372036854775807 < sumP (L.take k)) ∧ Below w.heap.size w wr) (fun _ _ j _ => L.length - (intOf j).toNat)
    case atStart => exact ⟨0, 0, true, Nat.zero_le _, rfl, rfl, rfl, by decide, by decide, fun _ => rfl, fun h => (by cases h), b0⟩
    case round =>
      clear b0
      obtain ⟨k, m, ft, hk, rfl, rfl, rfl, n0, n1, hft, hff, hb2⟩ := hrel
      have hbs := hb2.size
      have HFT := Lib.hid hft
      have HFF := Lib.hid hff
      clear hft hff
      by_cases hlt : k < L.length
      · have kk : (k : Int) < L.length := by omega
        have hxk : L[k]? = some L[k] := List.getElem?_eq_getElem hlt
        generalize hit : L[k] = p at *
        obtain ⟨px, pc⟩ := p
        obtain ⟨b1, off, rfl, hbl, c0, c1⟩ := (HI.out.call hb2).at_ k _ hxk
        simp only at c0 c1
        have HS := Lib.hid (sum_step hxk)
        have hok := HI.out.ok _ (List.mem_of_getElem? hxk)
        obtain ⟨⟨o1, o2⟩, o3, o4⟩ := hok
        simp only at HS o1 o2 o3 o4
        clear hxk hit
        cases ft
        · go_wp2_with fail
          go_roundw
          case rel => exact ⟨k + 1, m, false, by omega, by go_num, rfl, rfl, n0, n1, fun h => (by cases h), fun _ => by rw [HS.out]; have := HFF.out rfl; omega, hb2.alloc hbs _⟩
          case measure => simp [intOf]; omega
        · by_cases hc : pc < 9223372036854775808
          · by_cases hs : m + pc < 9223372036854775808
            · go_wp2_with fail
              go_roundw
              case rel => exact ⟨k + 1, m + pc, true, by omega, by go_num, rfl, rfl, by omega, by omega, fun _ => by rw [HS.out, HFT.out rfl], fun h => (by cases h), hb2.alloc hbs _⟩
              case measure => simp [intOf]; omega
            · go_wp2_with fail
              go_roundw
              case rel => exact ⟨k + 1, m, false, by omega, by go_num, rfl, rfl, n0, n1, fun h => (by cases h), fun _ => by rw [HS.out, HFT.out rfl]; omega, hb2.alloc hbs _⟩
              case measure => simp [intOf]; omega
          · go_wp2_with fail
            go_roundw
            case rel => exact ⟨k + 1, m, false, by omega, by go_num, rfl, rfl, n0, n1, fun h => (by cases h), fun _ => by rw [HS.out, HFT.out rfl]; omega, hb2.alloc hbs _⟩
            case measure => simp [intOf]; omega
      · obtain rfl : k = L.length := by omega
        rw [List.take_length] at HFT HFF
        have kk : ¬ (L.length : Int) < L.length := by omega
        have HPR := Lib.hid (HI.out.call hb2)
        obtain ⟨g, hg⟩ : ∃ g, goodB L = g := ⟨_, rfl⟩
        obtain ⟨q, hq⟩ : ∃ q, decide ((L.length : Int) ≤ most) = q := ⟨_, rfl⟩
        have HGG := Lib.hid hg
        have HQQ := Lib.hid (show (goodB L && decide ((L.length : Int) ≤ most)) = (g && q) by rw [hg, hq])
        have HTT : Hid (totalP L = (if ft = true then m else 0) ∧ fitsB L = ft) := Lib.hid (by
          cases ft
          · have h1 := HFF.out rfl
            have h2 : fitsB L = false := by unfold fitsB; exact decide_eq_false (by omega)
            exact ⟨by unfold totalP; rw [h2]; rfl, h2⟩
          · have h1 := HFT.out rfl
            have h2 : fitsB L = true := by unfold fitsB; exact decide_eq_true (by omega)
            exact ⟨by unfold totalP; rw [h2]; exact h1, h2⟩)
        clear hg HFT HFF
        cases ft <;> cases g <;> cases q
        all_goals
          simp only [Bool.and_true, Bool.and_false, if_true, Bool.false_eq_true, if_false] at HQQ HTT
          go_wp2_with fail
          refine (HT.out _ A cap L _ _ HPR.out hl1 HTT.out.1 HTT.out.2).mono ?_
          rintro e w1 ⟨rfl, b1⟩
          have hb3 := hb2.trans (b1.mono hbs)
          have hbs3 := hb3.size
          have HP1 := Lib.hid (HPR.out.call b1)
          clear b1
          go_wp2_with fail
          refine (HG.out _ A cap L most _ HP1.out hl1 HM.out HQQ.out).mono ?_
          rintro e w2 ⟨rfl, b2⟩
          have hb4 := hb3.trans (b2.mono hbs3)
          have hbs4 := hb4.size
          have HP2 := Lib.hid (HP1.out.call b2)
          clear b2
          go_wp2_with fail
          refine (rgood_row _ A cap L _ HGG.out HP2.out hl).mono ?_
          rintro e w3 ⟨rfl, b3⟩
          have hb5 := hb4.trans (b3.mono hbs4)
          clear b3
          go_wp2_with fail
          go_ret
          exact ⟨rfl, hb5⟩
  · have q0 : (100 : Int) < L.length := by omega
    go_enter Try.func3, Try.ntmps3
    go_wp2_with fail
    refine (ralive_any HP.out HG.out _).mono ?_
    rintro e w0 ⟨rfl, b0⟩
    go_wp2_with fail
    go_ret
    exact ⟨rfl, b0⟩
end Go.Proofs.Ytllnbbfeplgjjaa
