/-
  The law TuplesGood, from the contracts.
-/
import Derived.Test.YtjmkkglmckiknaaTupZ
import Derived.Test.YtjmkkglmckiknaaROver
import Derived.Test.YtjmkkglmckiknaaWideD
namespace Go.Proofs.Ytjmkkglmckiknaa
set_option linter.unusedVariables false
set_option linter.unusedSimpArgs false
open Go.RowKit

/-- Whether the steps so far fit, and what they come to. -/
def FitW (L : List TupV) (k : Nat) (f : Bool) (s : Int) : Prop := (f = true ∧ sumT (L.take k) = s ∧ s ≤ 9223372036854775807) ∨ (f = false ∧ 9223372036854775807 < sumT (L.take k))
theorem FitW.zero (L : List TupV) : FitW L 0 true 0 := Or.inl ⟨rfl, rfl, by decide⟩
theorem FitW.yes {L : List TupV} {k : Nat} {s : Int} {p : TupV} (h : sumT (L.take k) = s) (hp : L[k]? = some p) (hlt : s + p.st < 9223372036854775808) : FitW L (k + 1) true (s + p.st) := Or.inl ⟨rfl, by rw [sumT_step hp, h], by omega⟩
theorem FitW.no {L : List TupV} {k : Nat} {s s' : Int} {p : TupV} (h : sumT (L.take k) = s) (hp : L[k]? = some p) (hlt : ¬ s + p.st < 9223372036854775808) : FitW L (k + 1) false s' := Or.inr ⟨rfl, by rw [sumT_step hp, h]; omega⟩
theorem FitW.still {L : List TupV} {k : Nat} {s' : Int} {p : TupV} (h : 9223372036854775807 < sumT (L.take k)) (hp : L[k]? = some p) (h0 : 0 ≤ p.st) : FitW L (k + 1) false s' := Or.inr ⟨rfl, by rw [sumT_step hp]; omega⟩

set_option maxRecDepth 100000 in
set_option maxHeartbeats 16000000 in
theorem good18_walk (D : TupDoes) (w : World) (A : Option Addr) (cap : Nat) (L : List TupV) (an ad n : Int) (h : Tups w A L) (hl : L.length ≤ 140737488351232) (han : Word an) (had : Word ad) (hn : Word n) :
    Calls Try.prog 7 #[.slice A L.length cap, .agg #[.int .u64 an, .int .u64 ad], .int .u64 n] w fun e w' => e = .returned (.bool true) ∧ Below w.heap.size w w' := by
  have HD := Lib.hid D
  obtain ⟨N, hN⟩ : ∃ N, L.length = N := ⟨_, rfl⟩
  have HN := Lib.hid hN
  obtain ⟨w0, hw0⟩ : ∃ w0, w.alloc (.cells #[.int .u64 an, .int .u64 ad] 57) = w0 := ⟨_, rfl⟩
  have hb0 : Below w.heap.size w w0 := by rw [← hw0]; exact (Below.refl _ _).alloc (Nat.le_refl _) _
  have htw : Two w0 w.heap.size (.int .u64 an) (.int .u64 ad) := by rw [← hw0]; exact Two.new w _ _ _
  have HB0 := Lib.hid hb0
  have HTW := Lib.hid htw
  have HI := Lib.hid h
  have CA := Lib.hid (fun W => alive18_any D W)
  clear D h hb0 htw
  rw [hN]
  have hl2 : N ≤ 140737488351232 := by omega
  obtain ⟨n0, n1⟩ := hn
  obtain ⟨a0, a1⟩ := han
  obtain ⟨e0, e1⟩ := had
  by_cases h60 : (60 : Int) < (N : Int)
  · have f1 : decide ((60 : Int) < (N : Int)) = true := decide_eq_true h60
    have f2 : decide (60 < N) = true := decide_eq_true (by omega)
    clear hl hN
    go_enter Try.func7, Try.ntmps7
    go_wp2_with fail
    refine (CA.out _).mono ?_
    rintro e w1 ⟨rfl, b1⟩
    have HB1 := Lib.hid (HB0.out.trans (b1.mono HB0.out.size))
    clear b1
    go_wp2_with fail
    go_ret
    exact ⟨rfl, HB1.out⟩
  · have f1 : decide ((60 : Int) < (N : Int)) = false := decide_eq_false h60
    have f2 : decide (60 < N) = false := decide_eq_false (by omega)
    by_cases h31 : 2147483648 < an
    · have f3 : decide (2147483648 < an) = true := decide_eq_true h31
      clear hl hN
      go_enter Try.func7, Try.ntmps7
      go_wp2_with fail
      refine (CA.out _).mono ?_
      rintro e w1 ⟨rfl, b1⟩
      have HB1 := Lib.hid (HB0.out.trans (b1.mono HB0.out.size))
      have c0 := (HTW.out.call b1).c0
      clear b1
      go_wp2_with fail
      go_ret
      exact ⟨rfl, HB1.out⟩
    · have f3 : decide (2147483648 < an) = false := decide_eq_false h31
      have hN60 : N ≤ 60 := by omega
      have a31 : an ≤ 2147483648 := by omega
      have hok : ∀ p, p ∈ L → okTu p := HI.out.ok
      have HOK := Lib.hid hok
      have HSN := Lib.hid (sumT_take (L := L) fun p hp => (hok p hp).2.1.1)
      have hsl : ∀ p, p ∈ L → 0 ≤ p.sl := fun p hp => (hok p hp).2.2.1
      have HGC := Lib.hid (good_can hsl)
      have CT := Lib.hid (fun (W : World) (hW : Tups W A L) (m : Int) (b : Bool) (hm : sumT L ≤ 9223372036854775807 ∧ m = sumT L ∧ b = true ∨ 9223372036854775807 < sumT L ∧ m = 0 ∧ b = false) => HD.out.total W A cap L m b hW hl hm)
      rw [hN] at CT
      have CG := Lib.hid (fun (W : World) (hW : Tups W A L) (b : Bool) (hb : b = true ↔ GoodT L) => HD.out.good W A cap L b hW (by omega) hb)
      rw [hN] at CG
      obtain ⟨q, hq⟩ : ∃ q, ovQ (2 * an * n) ad = q := ⟨_, rfl⟩
      obtain ⟨rr, hrr⟩ : ∃ q, ovR (2 * an * n) ad = q := ⟨_, rfl⟩
      obtain ⟨is, his⟩ : ∃ b, ovB (2 * an * n) ad = b := ⟨_, rfl⟩
      obtain ⟨lm, hlm⟩ : ∃ m, limT an ad n = m := ⟨_, rfl⟩
      have hlm2 : lm = if is = true then max q 1 else n := by rw [← hlm, ← his, ← hq]; rfl
      have hmul : 0 ≤ 2 * an * n ∧ 2 * an * n < 340282366920938463463374607431768211456 := mul_bd (by unfold Word; omega) ⟨n0, n1⟩
      have hqw : Word q := by rw [← hq]; exact (ov_word hmul.1 ⟨e0, e1⟩).1
      have CL := Lib.hid (fun W => HD.out.limit W an ad n lm a0 a31 ⟨e0, e1⟩ ⟨n0, n1⟩ hlm)
      obtain ⟨ph, hph⟩ : ∃ v, hiW (2 * an * n) = v := ⟨_, rfl⟩
      obtain ⟨pl', hpl'⟩ : ∃ v, loW (2 * an * n) = v := ⟨_, rfl⟩
      have CM := Lib.hid (fun W => rtimes_any (2 * an) n (by unfold Word; omega) ⟨n0, n1⟩ W)
      have CO := Lib.hid (fun W => rover_num (2 * an * n) ad hmul.1 hmul.2 ⟨e0, e1⟩ W)
      rw [hph, hpl'] at CM CO
      rw [hq, hrr, his] at CO
      have u2 : IntKind.u64.wrap (2 * an) = 2 * an := by rw [IntKind.wrap_u64]; omega
      obtain ⟨q0, q1⟩ := hqw
      have HLM := Lib.hid hlm2
      clear hl hN hok hsl hq hrr his hlm hlm2 hmul hph hpl'
      go_enter Try.func7, Try.ntmps7
      go_wp2_with fail
      refine (CA.out _).mono ?_
      rintro e w1 ⟨rfl, b1⟩
      have HB1 := Lib.hid (HB0.out.trans (b1.mono HB0.out.size))
      have HT1 := Lib.hid (HTW.out.call b1)
      have c0 := (HTW.out.call b1).c0
      clear b1
      go_wp2_with fail
      clear c0 f3
      go_loopw [7, 8, 33] (fun sv fv jv wr => ∃ (k : Nat) (s : Int) (f : Bool), k ≤ N ∧ jv = .int .i64 k ∧ sv = .int .u64 s ∧ fv = .bool f ∧ FitW L k f s ∧ Below w1.heap.size w1 wr) (fun _ _ jv _ => N - (intOf jv).toNat)
      case atStart => exact ⟨0, 0, true, Nat.zero_le _, rfl, rfl, rfl, FitW.zero L, Below.refl _ _⟩
      case round =>
        obtain ⟨k, s, f, hk, rfl, rfl, rfl, hf, hb2⟩ := hrel
        have HF := Lib.hid hf
        have HB2 := Lib.hid hb2
        have hbs := hb2.size
        clear hf hb2
        by_cases hlt : k < N
        · have kk : (k : Int) < N := by omega
          have hxk := List.getElem?_eq_getElem (l := L) (i := k) (by rw [HN.out]; exact hlt)
          generalize L[k]'(by rw [HN.out]; exact hlt) = p at hxk
          have hko := HOK.out _ (List.mem_of_getElem? hxk)
          obtain ⟨px, ps, pl⟩ := p
          obtain ⟨b0, off, rfl, hbl, c0, c1, c2⟩ := (HI.out.call (HB1.out.trans (HB2.out.mono HB1.out.size))).at_ k _ hxk
          obtain ⟨⟨x0, x1⟩, ⟨s0, s1⟩, sl0, sl1⟩ := hko
          simp only at c0 c1 c2 x0 x1 s0 s1 sl0 sl1
          have HX := Lib.hid hxk
          have hs0 := (HSN.out k).1
          have HBN : Hid (Below w1.heap.size w1 (wr.alloc (.cells #[.int .i64 px, .int .u64 ps, .int .u64 pl] 52))) := Lib.hid (HB2.out.alloc hbs _)
          clear hxk
          rcases HF.out with ⟨rfl, hs, hm⟩ | ⟨rfl, hm⟩
          · rw [hs] at hs0
            have HS := Lib.hid hs
            clear hs
            by_cases g1 : ps < 9223372036854775808
            · have f5 : decide (ps < 9223372036854775808) = true := decide_eq_true g1
              have u1 : IntKind.u64.wrap (s + ps) = s + ps := by rw [IntKind.wrap_u64]; omega
              by_cases g2 : s + ps < 9223372036854775808
              · have f6 : decide (s + ps < 9223372036854775808) = true := decide_eq_true g2
                have HFN := Lib.hid (FitW.yes HS.out HX.out g2)
                go_wp2_with fail
                go_roundw
                case rel => exact ⟨k + 1, _, true, by omega, by go_num, rfl, rfl, HFN.out, HBN.out⟩
                case measure => simp [intOf]; omega
              · have f6 : decide (s + ps < 9223372036854775808) = false := decide_eq_false g2
                have HFN : Hid (FitW L (k + 1) false s) := Lib.hid (FitW.no HS.out HX.out g2)
                go_wp2_with fail
                go_roundw
                case rel => exact ⟨k + 1, s, false, by omega, by go_num, rfl, rfl, HFN.out, HBN.out⟩
                case measure => simp [intOf]; omega
            · have f5 : decide (ps < 9223372036854775808) = false := decide_eq_false g1
              have HFN : Hid (FitW L (k + 1) false s) := Lib.hid (FitW.no HS.out HX.out (by simp only; omega))
              go_wp2_with fail
              go_roundw
              case rel => exact ⟨k + 1, s, false, by omega, by go_num, rfl, rfl, HFN.out, HBN.out⟩
              case measure => simp [intOf]; omega
          · have HFN : Hid (FitW L (k + 1) false s) := Lib.hid (FitW.still hm HX.out s0)
            go_wp2_with fail
            go_roundw
            case rel => exact ⟨k + 1, s, false, by omega, by go_num, rfl, rfl, HFN.out, HBN.out⟩
            case measure => simp [intOf]; omega
        · obtain rfl : k = N := by omega
          have kk : ¬ (k : Int) < k := by omega
          have hall : L.take k = L := List.take_of_length_le (by rw [HN.out]; exact Nat.le_refl _)
          have HB3 := Lib.hid (HB1.out.trans (HB2.out.mono HB1.out.size))
          have HT3 := Lib.hid (HT1.out.call HB2.out)
          have hff := HF.out
          unfold FitW at hff
          rw [hall] at hff
          have HALL := Lib.hid hall
          clear hall hlt
          rcases hff with ⟨rfl, hs, hm⟩ | ⟨rfl, hm⟩
          · have HSS : Hid (s = sumT L) := Lib.hid hs.symm
            have HMX : Hid (sumT L ≤ 9223372036854775807) := Lib.hid (by rw [hs]; exact hm)
            clear hs
            go_wp2_with fail
            go_loopw [11, 12, 59] (fun cv mv jv w4 => ∃ (k2 : Nat) (c : Bool) (m : Int), k2 ≤ k ∧ jv = .int .i64 k2 ∧ mv = .int .u64 m ∧ cv = .bool c ∧ sumT (L.take k2) = m ∧ (c = true ↔ CanT s 0 none (L.take k2)) ∧ Below w1.heap.size w1 w4) (fun _ _ jv _ => k - (intOf jv).toNat)
            case atStart => exact ⟨0, true, 0, Nat.zero_le _, rfl, rfl, rfl, rfl, ⟨fun _ => trivial, fun _ => rfl⟩, HB2.out⟩
            case round =>
              obtain ⟨k2, c, m, hk2, rfl, rfl, rfl, hm2, hc2, hb4⟩ := hrel
              have HB4 := Lib.hid hb4
              have hbs4 := hb4.size
              have HM2 := Lib.hid hm2
              have HC2 := Lib.hid hc2
              clear hm2 hc2
              clear hb4
              by_cases hlt2 : k2 < k
              · have kk2 : (k2 : Int) < k := by omega
                have hxk := List.getElem?_eq_getElem (l := L) (i := k2) (by rw [HN.out]; exact hlt2)
                generalize L[k2]'(by rw [HN.out]; exact hlt2) = p at hxk
                have hko := HOK.out _ (List.mem_of_getElem? hxk)
                have hst := sumT_step hxk
                have hcs := can_step (n := s) hxk
                obtain ⟨px, ps, pl⟩ := p
                obtain ⟨b0, off, rfl, hbl, c0, c1, c2⟩ := (HI.out.call (HB1.out.trans (HB4.out.mono HB1.out.size))).at_ k2 _ hxk
                obtain ⟨⟨x0, x1⟩, ⟨s0, s1⟩, sl0, sl1⟩ := hko
                simp only at c0 c1 c2 x0 x1 s0 s1 sl0 sl1 hst hcs
                have HBN : Hid (Below w1.heap.size w1 (wr.alloc (.cells #[.int .i64 px, .int .u64 ps, .int .u64 pl] 52))) := Lib.hid (HB4.out.alloc hbs4 _)
                rw [HM2.out] at hst hcs
                have m0 := (HSN.out k2).1
                have m1 := (HSN.out (k2 + 1)).2
                rw [hst, ← HSS.out] at m1
                rw [HM2.out] at m0
                have HST2 := Lib.hid hst
                have HCS := Lib.hid hcs
                have u1 : IntKind.u64.wrap (m + ps) = m + ps := by rw [IntKind.wrap_u64]; omega
                have u3 : IntKind.u64.wrap (s - (m + ps)) = s - (m + ps) := by rw [IntKind.wrap_u64]; omega
                clear hst hcs
                cases c with
                | false =>
                  clear hxk
                  have HCN : Hid (¬ CanT s 0 none (L.take (k2 + 1))) := Lib.hid fun hc => (absurd (HC2.out.2 (HCS.out.1 hc).1) (by decide) : False)
                  go_wp2_with fail
                  go_quiet (fail)
                  go_wp2_with fail
                  go_roundw
                  case rel => exact ⟨k2 + 1, false, _, by omega, by go_num, rfl, rfl, HST2.out, ⟨fun e => (by cases e), fun hc => absurd hc HCN.out⟩, below_drewT HBN.out _⟩
                  case measure => simp [intOf]; omega
                | true =>
                  have HC3 : Hid (CanT s 0 none (L.take k2)) := Lib.hid (HC2.out.1 rfl)
                  by_cases g1 : 0 < ps
                  · have f4 : decide (0 < ps) = true := decide_eq_true g1
                    by_cases g2 : pl ≤ s - (m + ps)
                    · have f5 : decide (pl ≤ s - (m + ps)) = true := decide_eq_true g2
                      by_cases g3 : k2 = 0
                      · have i1 : ((k2 : Int) == 0) = true := by simp [g3]
                        have i2 : decide ((0 : Int) < (k2 : Int)) = false := decide_eq_false (by omega)
                        have i3 : decide (0 < k2) = false := decide_eq_false (by omega)
                        have i4 : ¬ 0 < k2 := by omega
                        have HK0 := Lib.hid g3
                        clear g3 hxk
                        by_cases g4 : ps = 1
                        · have f6 : (ps == 1) = true := by simp [g4]
                          by_cases g5 : pl = 0
                          · have f7 : (pl == 0) = true := by simp [g5]
                            have HG4 := Lib.hid g4
                            have HG5 := Lib.hid g5
                            have HCN : Hid (CanT s 0 none (L.take (k2 + 1))) := Lib.hid (HCS.out.2 ⟨HC3.out, g1, g2, fun _ => ⟨g4, g5⟩, fun y hy => absurd hy i4⟩)
                            clear g4 g5
                            go_wp2_with fail
                            go_quiet (fail)
                            go_wp2_with fail
                            go_roundw
                            case rel => exact ⟨k2 + 1, true, _, by omega, by go_num, rfl, rfl, HST2.out, ⟨fun _ => HCN.out, fun _ => rfl⟩, below_drewT HBN.out _⟩
                            case measure => simp [intOf]; omega
                          · have f7 : (pl == 0) = false := by simp [g5]
                            have HCN : Hid (¬ CanT s 0 none (L.take (k2 + 1))) := Lib.hid fun hc => absurd ((HCS.out.1 hc).2.2.2.1 HK0.out).2 g5
                            clear g4 g5
                            go_wp2_with fail
                            go_quiet (fail)
                            go_wp2_with fail
                            go_roundw
                            case rel => exact ⟨k2 + 1, false, _, by omega, by go_num, rfl, rfl, HST2.out, ⟨fun e => (by cases e), fun hc => absurd hc HCN.out⟩, below_drewT HBN.out _⟩
                            case measure => simp [intOf]; omega
                        · have f6 : (ps == 1) = false := by simp [g4]
                          have HCN : Hid (¬ CanT s 0 none (L.take (k2 + 1))) := Lib.hid fun hc => absurd ((HCS.out.1 hc).2.2.2.1 HK0.out).1 g4
                          clear g4
                          go_wp2_with fail
                          go_quiet (fail)
                          go_wp2_with fail
                          go_roundw
                          case rel => exact ⟨k2 + 1, false, _, by omega, by go_num, rfl, rfl, HST2.out, ⟨fun e => (by cases e), fun hc => absurd hc HCN.out⟩, below_drewT HBN.out _⟩
                          case measure => simp [intOf]; omega
                      · have i1 : ((k2 : Int) == 0) = false := by rw [beq_eq_false_iff_ne]; omega
                        have i2 : decide ((0 : Int) < (k2 : Int)) = true := decide_eq_true (by omega)
                        have i3 : decide (0 < k2) = true := decide_eq_true (by omega)
                        have i4 : 0 < k2 := by omega
                        have i5 : (0 : Int) < (k2 : Int) := by omega
                        obtain ⟨j, hj⟩ : ∃ j, k2 = j + 1 := ⟨k2 - 1, by omega⟩
                        have hxj := List.getElem?_eq_getElem (l := L) (i := j) (by rw [HN.out]; omega)
                        generalize L[j]'(by rw [HN.out]; omega) = qq at hxj
                        have hqo := HOK.out _ (List.mem_of_getElem? hxj)
                        obtain ⟨qx, qs, ql⟩ := qq
                        obtain ⟨b0', off', e, hbl', d0, _, _⟩ := (HI.out.call (HB1.out.trans (HB4.out.mono HB1.out.size))).at_ j _ hxj
                        obtain ⟨rfl, rfl, _⟩ := Addr.mk.inj (Option.some.inj e)
                        obtain ⟨⟨y0, y1⟩, _⟩ := hqo
                        simp only at d0 y0 y1
                        have hw : IntKind.i64.wrap ((k2 : Int) - 1) = (j : Int) := by rw [IntKind.wrap_i64]; omega
                        have kj : (j : Int) < k := by omega
                        have hmap : (L[k2 - 1]?).map TupV.x = some qx := by rw [show k2 - 1 = j by omega, hxj]; rfl
                        have HMP := Lib.hid hmap
                        have HK0 : Hid (¬ k2 = 0) := Lib.hid g3
                        clear hmap hxj hxk hj g3 e
                        by_cases g4 : qx ≤ px
                        · have f6 : decide (qx ≤ px) = true := decide_eq_true g4
                          have HCN : Hid (CanT s 0 none (L.take (k2 + 1))) := Lib.hid (HCS.out.2 ⟨HC3.out, g1, g2, fun e => absurd e HK0.out, fun y hy ey => by rw [HMP.out] at ey; rw [← Option.some.inj ey]; exact g4⟩)
                          go_wp2_with fail
                          go_quiet (fail)
                          go_wp2_with fail
                          go_roundw
                          case rel => exact ⟨k2 + 1, true, _, by omega, by go_num, rfl, rfl, HST2.out, ⟨fun _ => HCN.out, fun _ => rfl⟩, below_drewT HBN.out _⟩
                          case measure => simp [intOf]; omega
                        · have f6 : decide (qx ≤ px) = false := decide_eq_false g4
                          have HCN : Hid (¬ CanT s 0 none (L.take (k2 + 1))) := Lib.hid fun hc => (absurd ((HCS.out.1 hc).2.2.2.2 qx i4 HMP.out) g4 : False)
                          go_wp2_with fail
                          go_quiet (fail)
                          go_wp2_with fail
                          go_roundw
                          case rel => exact ⟨k2 + 1, false, _, by omega, by go_num, rfl, rfl, HST2.out, ⟨fun e => (by cases e), fun hc => absurd hc HCN.out⟩, below_drewT HBN.out _⟩
                          case measure => simp [intOf]; omega
                    · have f5 : decide (pl ≤ s - (m + ps)) = false := decide_eq_false g2
                      clear hxk
                      have HCN : Hid (¬ CanT s 0 none (L.take (k2 + 1))) := Lib.hid fun hc => (absurd (HCS.out.1 hc).2.2.1 g2 : False)
                      go_wp2_with fail
                      go_quiet (fail)
                      go_wp2_with fail
                      go_roundw
                      case rel => exact ⟨k2 + 1, false, _, by omega, by go_num, rfl, rfl, HST2.out, ⟨fun e => (by cases e), fun hc => absurd hc HCN.out⟩, below_drewT HBN.out _⟩
                      case measure => simp [intOf]; omega
                  · have f4 : decide (0 < ps) = false := decide_eq_false g1
                    clear hxk
                    have HCN : Hid (¬ CanT s 0 none (L.take (k2 + 1))) := Lib.hid fun hc => (absurd (HCS.out.1 hc).2.1 g1 : False)
                    go_wp2_with fail
                    go_quiet (fail)
                    go_wp2_with fail
                    go_roundw
                    case rel => exact ⟨k2 + 1, false, _, by omega, by go_num, rfl, rfl, HST2.out, ⟨fun e => (by cases e), fun hc => absurd hc HCN.out⟩, below_drewT HBN.out _⟩
                    case measure => simp [intOf]; omega
              · obtain rfl : k2 = k := by omega
                have kk2 : ¬ (k2 : Int) < k2 := by omega
                have HB5 := Lib.hid (HB1.out.trans (HB4.out.mono HB1.out.size))
                have HT5 := Lib.hid (HT1.out.call HB4.out)
                have HCG : Hid (c = true ↔ GoodT L) := Lib.hid (by rw [HC2.out, HGC.out, HALL.out, ← HSS.out]; exact ⟨fun h => ⟨by rw [HSS.out]; exact HMX.out, h⟩, fun h => h.2⟩)
                go_wp2_with fail
                refine (CT.out _ (HI.out.call HB5.out) s true (Or.inl ⟨HMX.out, HSS.out, rfl⟩)).mono ?_
                rintro e w6 ⟨rfl, b6⟩
                have HB6 := Lib.hid (HB5.out.trans (b6.mono HB5.out.size))
                have HT6 := Lib.hid (HT5.out.call b6)
                have HS0 : Hid (w6.drew.cell? ⟨w.heap.size, 0, none⟩ = some (.int .u64 an) ∧ w6.drew.cell? ⟨w.heap.size, 1, none⟩ = some (.int .u64 ad) ∧ Below w6.heap.size w6 w6.drew) := Lib.hid ⟨HT6.out.c0, HT6.out.c1, (Below.refl _ _).drew⟩
                have HST := Lib.hid (fun (W W' : World) (h : W.cell? ⟨w.heap.size, 0, none⟩ = some (.int .u64 an) ∧ W.cell? ⟨w.heap.size, 1, none⟩ = some (.int .u64 ad) ∧ Below w6.heap.size w6 W) (hb : Below W.heap.size W W') => (⟨cell_later hb h.1, cell_later hb h.2.1, h.2.2.trans (hb.mono h.2.2.size)⟩ : W'.cell? ⟨w.heap.size, 0, none⟩ = some (.int .u64 an) ∧ W'.cell? ⟨w.heap.size, 1, none⟩ = some (.int .u64 ad) ∧ Below w6.heap.size w6 W'))
                clear b6
                go_wp2_with fail
                go_region_held3 (fun w' => w'.cell? ⟨w.heap.size, 0, none⟩ = some (.int .u64 an) ∧ w'.cell? ⟨w.heap.size, 1, none⟩ = some (.int .u64 ad) ∧ Below w6.heap.size w6 w')
                  (first | exact HS0.out | exact HST.out _ _ (by assumption) hbA | exact HST.out _ _ (by assumption) hbB | assumption)
                  ((first
                    | (go_at_call 26; with_reducible refine (CM.out _).mono ?_; rintro e wA ⟨rfl, hbA⟩)
                    | (go_at_call 25; with_reducible refine (CO.out _).mono ?_; rintro e wB ⟨rfl, hbB⟩)))
                all_goals
                  rename_i hHeld
                  have HT7 := Lib.hid hHeld
                  have HB7 := Lib.hid (HB6.out.trans (hHeld.2.2.mono HB6.out.size))
                  clear hHeld HS0 HST
                  cases is with
                  | true =>
                    have hw : max q 1 = lm := by rw [HLM.out]; rfl
                    have y1 : (s == s) = true := by simp
                    have y2 : (lm == lm) = true := by simp
                    have y3 : (c == c) = true := by simp
                    go_wp2_with fail
                    refine (CG.out _ (HI.out.call HB7.out) c HCG.out).mono ?_
                    rintro e w8 ⟨rfl, b8⟩
                    have HB8 := Lib.hid (HB7.out.trans (b8.mono HB7.out.size))
                    have z0 := cell_later b8 HT7.out.1
                    have z1 := cell_later b8 HT7.out.2.1
                    clear b8
                    go_wp2_with fail
                    refine (CL.out _).mono ?_
                    rintro e w9 ⟨rfl, b9⟩
                    have HB9 := Lib.hid (HB8.out.trans (b9.mono HB8.out.size))
                    clear b9
                    go_wp2_with fail
                    go_ret
                    exact ⟨rfl, HB9.out⟩
                  | false =>
                    have hw : n = lm := by rw [HLM.out]; rfl
                    obtain rfl := hw
                    have y1 : (s == s) = true := by simp
                    have y2 : (n == n) = true := by simp
                    have y3 : (c == c) = true := by simp
                    go_wp2_with fail
                    refine (CG.out _ (HI.out.call HB7.out) c HCG.out).mono ?_
                    rintro e w8 ⟨rfl, b8⟩
                    have HB8 := Lib.hid (HB7.out.trans (b8.mono HB7.out.size))
                    have z0 := cell_later b8 HT7.out.1
                    have z1 := cell_later b8 HT7.out.2.1
                    clear b8
                    go_wp2_with fail
                    refine (CL.out _).mono ?_
                    rintro e w9 ⟨rfl, b9⟩
                    have HB9 := Lib.hid (HB8.out.trans (b9.mono HB8.out.size))
                    clear b9
                    go_wp2_with fail
                    go_ret
                    exact ⟨rfl, HB9.out⟩
          · have HMX : Hid (9223372036854775807 < sumT L) := Lib.hid hm
            clear hm
            go_wp2_with fail
            go_loopw [11, 12, 59] (fun cv mv jv w4 => ∃ (k2 : Nat) (m : Int), k2 ≤ k ∧ jv = .int .i64 k2 ∧ mv = .int .u64 m ∧ cv = .bool false ∧ Below w1.heap.size w1 w4) (fun _ _ jv _ => k - (intOf jv).toNat)
            case atStart => exact ⟨0, 0, Nat.zero_le _, rfl, rfl, rfl, HB2.out⟩
            case round =>
              obtain ⟨k2, m, hk2, rfl, rfl, rfl, hb4⟩ := hrel
              have HB4 := Lib.hid hb4
              have hbs4 := hb4.size
              clear hb4
              by_cases hlt2 : k2 < k
              · have kk2 : (k2 : Int) < k := by omega
                have hxk := List.getElem?_eq_getElem (l := L) (i := k2) (by rw [HN.out]; exact hlt2)
                generalize L[k2]'(by rw [HN.out]; exact hlt2) = p at hxk
                have hko := HOK.out _ (List.mem_of_getElem? hxk)
                obtain ⟨px, ps, pl⟩ := p
                obtain ⟨b0, off, rfl, hbl, c0, c1, c2⟩ := (HI.out.call (HB1.out.trans (HB4.out.mono HB1.out.size))).at_ k2 _ hxk
                obtain ⟨⟨x0, x1⟩, ⟨s0, s1⟩, sl0, sl1⟩ := hko
                simp only at c0 c1 c2 x0 x1 s0 s1 sl0 sl1
                have HBN : Hid (Below w1.heap.size w1 (wr.alloc (.cells #[.int .i64 px, .int .u64 ps, .int .u64 pl] 52))) := Lib.hid (HB4.out.alloc hbs4 _)
                clear hxk
                go_wp2_with fail
                go_quiet (fail)
                go_wp2_with fail
                go_roundw
                case rel => exact ⟨k2 + 1, _, by omega, by go_num, rfl, rfl, below_drewT HBN.out _⟩
                case measure => simp [intOf]; omega
              · obtain rfl : k2 = k := by omega
                have kk2 : ¬ (k2 : Int) < k2 := by omega
                have HB5 := Lib.hid (HB1.out.trans (HB4.out.mono HB1.out.size))
                have HT5 := Lib.hid (HT1.out.call HB4.out)
                have HCG : Hid ((false = true) ↔ GoodT L) := Lib.hid ⟨fun e => (by cases e), fun hg => absurd hg.max (by have := HMX.out; omega)⟩
                go_wp2_with fail
                refine (CT.out _ (HI.out.call HB5.out) 0 false (Or.inr ⟨HMX.out, rfl, rfl⟩)).mono ?_
                rintro e w6 ⟨rfl, b6⟩
                have HB6 := Lib.hid (HB5.out.trans (b6.mono HB5.out.size))
                have HT6 := Lib.hid (HT5.out.call b6)
                have HS0 : Hid (w6.drew.cell? ⟨w.heap.size, 0, none⟩ = some (.int .u64 an) ∧ w6.drew.cell? ⟨w.heap.size, 1, none⟩ = some (.int .u64 ad) ∧ Below w6.heap.size w6 w6.drew) := Lib.hid ⟨HT6.out.c0, HT6.out.c1, (Below.refl _ _).drew⟩
                have HST := Lib.hid (fun (W W' : World) (h : W.cell? ⟨w.heap.size, 0, none⟩ = some (.int .u64 an) ∧ W.cell? ⟨w.heap.size, 1, none⟩ = some (.int .u64 ad) ∧ Below w6.heap.size w6 W) (hb : Below W.heap.size W W') => (⟨cell_later hb h.1, cell_later hb h.2.1, h.2.2.trans (hb.mono h.2.2.size)⟩ : W'.cell? ⟨w.heap.size, 0, none⟩ = some (.int .u64 an) ∧ W'.cell? ⟨w.heap.size, 1, none⟩ = some (.int .u64 ad) ∧ Below w6.heap.size w6 W'))
                clear b6
                go_wp2_with fail
                go_region_held3 (fun w' => w'.cell? ⟨w.heap.size, 0, none⟩ = some (.int .u64 an) ∧ w'.cell? ⟨w.heap.size, 1, none⟩ = some (.int .u64 ad) ∧ Below w6.heap.size w6 w')
                  (first | exact HS0.out | exact HST.out _ _ (by assumption) hbA | exact HST.out _ _ (by assumption) hbB | assumption)
                  ((first
                    | (go_at_call 26; with_reducible refine (CM.out _).mono ?_; rintro e wA ⟨rfl, hbA⟩)
                    | (go_at_call 25; with_reducible refine (CO.out _).mono ?_; rintro e wB ⟨rfl, hbB⟩)))
                all_goals
                  rename_i hHeld
                  have HT7 := Lib.hid hHeld
                  have HB7 := Lib.hid (HB6.out.trans (hHeld.2.2.mono HB6.out.size))
                  clear hHeld HS0 HST
                  cases is with
                  | true =>
                    have hw : max q 1 = lm := by rw [HLM.out]; rfl
                    have y1 : ((0 : Int) == 0) = true := by simp
                    have y2 : (lm == lm) = true := by simp
                    go_wp2_with fail
                    refine (CG.out _ (HI.out.call HB7.out) false HCG.out).mono ?_
                    rintro e w8 ⟨rfl, b8⟩
                    have HB8 := Lib.hid (HB7.out.trans (b8.mono HB7.out.size))
                    have z0 := cell_later b8 HT7.out.1
                    have z1 := cell_later b8 HT7.out.2.1
                    clear b8
                    go_wp2_with fail
                    refine (CL.out _).mono ?_
                    rintro e w9 ⟨rfl, b9⟩
                    have HB9 := Lib.hid (HB8.out.trans (b9.mono HB8.out.size))
                    clear b9
                    go_wp2_with fail
                    go_ret
                    exact ⟨rfl, HB9.out⟩
                  | false =>
                    have hw : n = lm := by rw [HLM.out]; rfl
                    obtain rfl := hw
                    have y1 : ((0 : Int) == 0) = true := by simp
                    have y2 : (n == n) = true := by simp
                    go_wp2_with fail
                    refine (CG.out _ (HI.out.call HB7.out) false HCG.out).mono ?_
                    rintro e w8 ⟨rfl, b8⟩
                    have HB8 := Lib.hid (HB7.out.trans (b8.mono HB7.out.size))
                    have z0 := cell_later b8 HT7.out.1
                    have z1 := cell_later b8 HT7.out.2.1
                    clear b8
                    go_wp2_with fail
                    refine (CL.out _).mono ?_
                    rintro e w9 ⟨rfl, b9⟩
                    have HB9 := Lib.hid (HB8.out.trans (b9.mono HB8.out.size))
                    clear b9
                    go_wp2_with fail
                    go_ret
                    exact ⟨rfl, HB9.out⟩
end Go.Proofs.Ytjmkkglmckiknaa
