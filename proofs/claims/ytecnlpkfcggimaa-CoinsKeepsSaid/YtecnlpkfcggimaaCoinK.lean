/-
  The law CoinsKeeps, from the contracts.
-/
import Derived.Test.YtecnlpkfcggimaaCoinF
namespace Go.Proofs.Ytecnlpkfcggimaa
set_option linter.unusedVariables false
set_option linter.unusedSimpArgs false
open Go.RowKit

set_option maxRecDepth 100000 in
set_option maxHeartbeats 4000000 in
theorem keeps20_walk {Tp : TapT} (D : TapDoes Tp) (H : RowDoes) (w : World) (A : Option Addr) (cap : Nat) (L : List Int) (keep : Int) (h : Nums w A L) (hl : L.length ≤ 140737488351232) (hfit : L.length ≤ cap) (hk : I64 keep) :
    Calls Try.prog 6 #[.slice A L.length cap, .int .i64 keep] w fun e w' => e = .returned (.bool true) ∧ Below w.heap.size w w' := by
  have CA := Lib.hid (alive20_any D H w)
  have HI := Lib.hid h
  have HH := Lib.hid H
  have HK := Lib.hid hk
  obtain ⟨k0, k1⟩ := hk
  clear D H h
  obtain ⟨n, hn⟩ : ∃ n, L.length = n := ⟨_, rfl⟩
  rw [hn] at hl hfit ⊢
  have HN := Lib.hid hn
  clear hn
  by_cases h100 : (100 : Int) < n
  · go_enter Try.func6, Try.ntmps6
    go_wp2_with fail
    refine CA.out.mono ?_
    rintro e w1 ⟨rfl, b1⟩
    go_wp2_with fail
    go_ret
    exact ⟨rfl, b1⟩
  have hn1 : n ≤ 100 := by omega
  have CS := Lib.hid (fun W hW => HH.out.split W A n cap L keep hW HN.out hfit (by omega) HK.out)
  obtain ⟨l1, l2⟩ := stay_len keep L
  rw [HN.out] at l1 l2
  obtain ⟨p, hp⟩ : ∃ p, keepN keep n = p := ⟨_, rfl⟩
  have hdef : (if (n - min keep.toNat n) % 2 = 0 then min keep.toNat n else min keep.toNat n + 1) = p := hp
  have hpn : p ≤ n := by rw [← hp]; exact (keepN_le keep n).1
  rw [hp] at l1 l2
  obtain ⟨S, hS⟩ : ∃ S, stayL keep L = S := ⟨_, rfl⟩
  obtain ⟨R, hR⟩ : ∃ R, restL keep L = R := ⟨_, rfl⟩
  have hle : ∀ a, a ∈ S → ∀ b, b ∈ R → a ≤ b := by rw [← hS, ← hR]; exact stay_le
  have hmem : ∀ a, (a ∈ S ∨ a ∈ R) → I64 a := fun a ha => HI.out.ok a ((stay_rest keep L).mem_iff.1 (by rw [hS, hR]; exact List.mem_append.2 ha))
  rw [hS] at CS l1
  rw [hR] at CS l2
  have HSL := Lib.hid l1
  have HRL := Lib.hid l2
  have HLE := Lib.hid hle
  have HME := Lib.hid hmem
  obtain ⟨q, hq⟩ : ∃ q, n - p = q := ⟨_, rfl⟩
  rw [hq] at HRL
  have hsum : ((p : Int) + q) = n := by omega
  have s1 : ((p : Int) + (q : Int) == (n : Int)) = true := by simp [hsum]
  have s2 : decide (p + q = n) = true := decide_eq_true (by omega)
  have hq1 : q ≤ 100 := by omega
  have HSU := Lib.hid hsum
  clear l1 l2 hp hS hR hle hmem hq
  by_cases hm0 : keep < 0
  · rw [show keep.toNat = 0 by omega, Nat.zero_min, Nat.sub_zero] at hdef
    have m0 : max keep 0 = 0 := by omega
    have m1 : min (0 : Int) n = 0 := by omega
    by_cases hpar : n % 2 = 0
    · rw [if_pos hpar] at hdef
      subst hdef
      have z1 : ((0 : Nat) : Int) = 0 := rfl
      have z2 : ((0 : Int) + (q : Int) == (n : Int)) = true := by simpa using s1
      have z3 : ((q : Int) == (n : Int)) = true := by simpa using s1
      clear z1
      go_enter Try.func6, Try.ntmps6
      go_wp2_with fail
      refine CA.out.mono ?_
      rintro e w1 ⟨rfl, b1⟩
      have HB1 := Lib.hid b1
      clear b1
      go_wp2_with fail
      refine (CS.out w1 (HI.out.call HB1.out)).mono ?_
      rintro e w2 ⟨vs, vr, rfl, hos, hor, _, b2⟩
      obtain ⟨A1, c1, rfl, hN1⟩ := hos.rows (fun a ha => HME.out a (Or.inl ha))
      obtain ⟨A2, c2, rfl, hN2⟩ := hor.rows (fun a ha => HME.out a (Or.inr ha))
      rw [HSL.out, HRL.out]
      have HA := Lib.hid hN1
      have HR := Lib.hid hN2
      have HB2 := Lib.hid (HB1.out.trans (b2.mono HB1.out.size))
      clear hos hor hN1 hN2 b2
      go_wp2_with fail
      go_loopw [51] (fun iv wr => ∃ i : Nat, i ≤ 0 ∧ iv = .int .i64 i ∧ w2 = wr) (fun iv _ => 0 - (intOf iv).toNat)
      case atStart => exact ⟨0, Nat.zero_le _, rfl, rfl⟩
      case round =>
        obtain ⟨i, hi, rfl, rfl⟩ := hrel
        by_cases hlt : i < 0
        · have kk : (i : Int) < 0 := by omega
          have hxk := List.getElem?_eq_getElem (l := S) (i := i) (by rw [HSL.out]; exact hlt)
          generalize S[i]'(by rw [HSL.out]; exact hlt) = x at hxk
          obtain ⟨ba, oa, rfl, _, c0⟩ := HA.out.at_ i x hxk
          have HXM := Lib.hid (List.mem_of_getElem? hxk)
          obtain ⟨x0, x1⟩ := HME.out x (Or.inl HXM.out)
          clear hxk
          go_wp2_with fail
          go_loopw [57] (fun jv wr => ∃ j : Nat, j ≤ q ∧ jv = .int .i64 j ∧ w2 = wr) (fun jv _ => q - (intOf jv).toNat)
          case atStart => exact ⟨0, Nat.zero_le _, rfl, rfl⟩
          case round =>
            obtain ⟨j, hj, rfl, rfl⟩ := hrel
            by_cases hlj : j < q
            · have kj : (j : Int) < q := by omega
              have hyk := List.getElem?_eq_getElem (l := R) (i := j) (by rw [HRL.out]; exact hlj)
              generalize R[j]'(by rw [HRL.out]; exact hlj) = y at hyk
              obtain ⟨bb, ob, rfl, _, d0⟩ := HR.out.at_ j y hyk
              have hyx : ¬ y < x := by have := HLE.out x HXM.out y (List.mem_of_getElem? hyk); omega
              clear hyk
              go_wp2_with fail
              go_roundw
              case rel => exact ⟨j + 1, by omega, by go_num, by first | rfl | trivial⟩
              case measure => simp [intOf]; omega
            · have kj : ¬ (j : Int) < q := by omega
              go_wp2_with fail
              go_roundw
              case rel => exact ⟨i + 1, by omega, by go_num, by first | rfl | trivial⟩
              case measure => simp [intOf]; omega
        · have kk : ¬ (i : Int) < 0 := by omega
          go_wp2_with fail
          go_ret
          exact ⟨rfl, HB2.out⟩
    · rw [if_neg hpar] at hdef
      obtain rfl : 1 = p := by omega
      have z2 : ((1 : Int) + (q : Int) == (n : Int)) = true := by simpa using s1
      go_enter Try.func6, Try.ntmps6
      go_wp2_with fail
      refine CA.out.mono ?_
      rintro e w1 ⟨rfl, b1⟩
      have HB1 := Lib.hid b1
      clear b1
      go_wp2_with fail
      refine (CS.out w1 (HI.out.call HB1.out)).mono ?_
      rintro e w2 ⟨vs, vr, rfl, hos, hor, _, b2⟩
      obtain ⟨A1, c1, rfl, hN1⟩ := hos.rows (fun a ha => HME.out a (Or.inl ha))
      obtain ⟨A2, c2, rfl, hN2⟩ := hor.rows (fun a ha => HME.out a (Or.inr ha))
      rw [HSL.out, HRL.out]
      have HA := Lib.hid hN1
      have HR := Lib.hid hN2
      have HB2 := Lib.hid (HB1.out.trans (b2.mono HB1.out.size))
      clear hos hor hN1 hN2 b2
      go_wp2_with fail
      go_loopw [51] (fun iv wr => ∃ i : Nat, i ≤ 1 ∧ iv = .int .i64 i ∧ w2 = wr) (fun iv _ => 1 - (intOf iv).toNat)
      case atStart => exact ⟨0, Nat.zero_le _, rfl, rfl⟩
      case round =>
        obtain ⟨i, hi, rfl, rfl⟩ := hrel
        by_cases hlt : i < 1
        · have kk : (i : Int) < 1 := by omega
          have hxk := List.getElem?_eq_getElem (l := S) (i := i) (by rw [HSL.out]; exact hlt)
          generalize S[i]'(by rw [HSL.out]; exact hlt) = x at hxk
          obtain ⟨ba, oa, rfl, _, c0⟩ := HA.out.at_ i x hxk
          have HXM := Lib.hid (List.mem_of_getElem? hxk)
          obtain ⟨x0, x1⟩ := HME.out x (Or.inl HXM.out)
          clear hxk
          go_wp2_with fail
          go_loopw [57] (fun jv wr => ∃ j : Nat, j ≤ q ∧ jv = .int .i64 j ∧ w2 = wr) (fun jv _ => q - (intOf jv).toNat)
          case atStart => exact ⟨0, Nat.zero_le _, rfl, rfl⟩
          case round =>
            obtain ⟨j, hj, rfl, rfl⟩ := hrel
            by_cases hlj : j < q
            · have kj : (j : Int) < q := by omega
              have hyk := List.getElem?_eq_getElem (l := R) (i := j) (by rw [HRL.out]; exact hlj)
              generalize R[j]'(by rw [HRL.out]; exact hlj) = y at hyk
              obtain ⟨bb, ob, rfl, _, d0⟩ := HR.out.at_ j y hyk
              have hyx : ¬ y < x := by have := HLE.out x HXM.out y (List.mem_of_getElem? hyk); omega
              clear hyk
              go_wp2_with fail
              go_roundw
              case rel => exact ⟨j + 1, by omega, by go_num, by first | rfl | trivial⟩
              case measure => simp [intOf]; omega
            · have kj : ¬ (j : Int) < q := by omega
              go_wp2_with fail
              go_roundw
              case rel => exact ⟨i + 1, by omega, by go_num, by first | rfl | trivial⟩
              case measure => simp [intOf]; omega
        · have kk : ¬ (i : Int) < 1 := by omega
          go_wp2_with fail
          go_ret
          exact ⟨rfl, HB2.out⟩
  · obtain ⟨m, rfl⟩ : ∃ m : Nat, keep = m := ⟨keep.toNat, by omega⟩
    rw [show ((m : Int)).toNat = m by omega] at hdef
    have m0 : max (m : Int) 0 = m := by omega
    by_cases hmn : m ≤ n
    · rw [Nat.min_eq_left hmn] at hdef
      have m1 : min (m : Int) n = m := by omega
      have m2 : (m : Int) ≤ n := by omega
      by_cases hpar : (n - m) % 2 = 0
      · rw [if_pos hpar] at hdef
        subst hdef
        have e1 : ((m : Int) == (m : Int)) = true := by simp
        go_enter Try.func6, Try.ntmps6
        go_wp2_with fail
        refine CA.out.mono ?_
        rintro e w1 ⟨rfl, b1⟩
        have HB1 := Lib.hid b1
        clear b1
        go_wp2_with fail
        refine (CS.out w1 (HI.out.call HB1.out)).mono ?_
        rintro e w2 ⟨vs, vr, rfl, hos, hor, _, b2⟩
        obtain ⟨A1, c1, rfl, hN1⟩ := hos.rows (fun a ha => HME.out a (Or.inl ha))
        obtain ⟨A2, c2, rfl, hN2⟩ := hor.rows (fun a ha => HME.out a (Or.inr ha))
        rw [HSL.out, HRL.out]
        have HA := Lib.hid hN1
        have HR := Lib.hid hN2
        have HB2 := Lib.hid (HB1.out.trans (b2.mono HB1.out.size))
        clear hos hor hN1 hN2 b2
        go_wp2_with fail
        go_loopw [51] (fun iv wr => ∃ i : Nat, i ≤ m ∧ iv = .int .i64 i ∧ w2 = wr) (fun iv _ => m - (intOf iv).toNat)
        case atStart => exact ⟨0, Nat.zero_le _, rfl, rfl⟩
        case round =>
          obtain ⟨i, hi, rfl, rfl⟩ := hrel
          by_cases hlt : i < m
          · have kk : (i : Int) < m := by omega
            have hxk := List.getElem?_eq_getElem (l := S) (i := i) (by rw [HSL.out]; exact hlt)
            generalize S[i]'(by rw [HSL.out]; exact hlt) = x at hxk
            obtain ⟨ba, oa, rfl, _, c0⟩ := HA.out.at_ i x hxk
            have HXM := Lib.hid (List.mem_of_getElem? hxk)
            obtain ⟨x0, x1⟩ := HME.out x (Or.inl HXM.out)
            clear hxk
            go_wp2_with fail
            go_loopw [57] (fun jv wr => ∃ j : Nat, j ≤ q ∧ jv = .int .i64 j ∧ w2 = wr) (fun jv _ => q - (intOf jv).toNat)
            case atStart => exact ⟨0, Nat.zero_le _, rfl, rfl⟩
            case round =>
              obtain ⟨j, hj, rfl, rfl⟩ := hrel
              by_cases hlj : j < q
              · have kj : (j : Int) < q := by omega
                have hyk := List.getElem?_eq_getElem (l := R) (i := j) (by rw [HRL.out]; exact hlj)
                generalize R[j]'(by rw [HRL.out]; exact hlj) = y at hyk
                obtain ⟨bb, ob, rfl, _, d0⟩ := HR.out.at_ j y hyk
                have hyx : ¬ y < x := by have := HLE.out x HXM.out y (List.mem_of_getElem? hyk); omega
                clear hyk
                go_wp2_with fail
                go_roundw
                case rel => exact ⟨j + 1, by omega, by go_num, by first | rfl | trivial⟩
                case measure => simp [intOf]; omega
              · have kj : ¬ (j : Int) < q := by omega
                go_wp2_with fail
                go_roundw
                case rel => exact ⟨i + 1, by omega, by go_num, by first | rfl | trivial⟩
                case measure => simp [intOf]; omega
          · have kk : ¬ (i : Int) < m := by omega
            go_wp2_with fail
            go_ret
            exact ⟨rfl, HB2.out⟩
      · rw [if_neg hpar] at hdef
        have e1 : ((p : Int) == (m : Int)) = false := by rw [beq_eq_false_iff_ne]; omega
        have e2 : ((p : Int) == (m : Int) + 1) = true := by simp; omega
        go_enter Try.func6, Try.ntmps6
        go_wp2_with fail
        refine CA.out.mono ?_
        rintro e w1 ⟨rfl, b1⟩
        have HB1 := Lib.hid b1
        clear b1
        go_wp2_with fail
        refine (CS.out w1 (HI.out.call HB1.out)).mono ?_
        rintro e w2 ⟨vs, vr, rfl, hos, hor, _, b2⟩
        obtain ⟨A1, c1, rfl, hN1⟩ := hos.rows (fun a ha => HME.out a (Or.inl ha))
        obtain ⟨A2, c2, rfl, hN2⟩ := hor.rows (fun a ha => HME.out a (Or.inr ha))
        rw [HSL.out, HRL.out]
        have HA := Lib.hid hN1
        have HR := Lib.hid hN2
        have HB2 := Lib.hid (HB1.out.trans (b2.mono HB1.out.size))
        clear hos hor hN1 hN2 b2
        go_wp2_with fail
        go_loopw [51] (fun iv wr => ∃ i : Nat, i ≤ p ∧ iv = .int .i64 i ∧ w2 = wr) (fun iv _ => p - (intOf iv).toNat)
        case atStart => exact ⟨0, Nat.zero_le _, rfl, rfl⟩
        case round =>
          obtain ⟨i, hi, rfl, rfl⟩ := hrel
          by_cases hlt : i < p
          · have kk : (i : Int) < p := by omega
            have hxk := List.getElem?_eq_getElem (l := S) (i := i) (by rw [HSL.out]; exact hlt)
            generalize S[i]'(by rw [HSL.out]; exact hlt) = x at hxk
            obtain ⟨ba, oa, rfl, _, c0⟩ := HA.out.at_ i x hxk
            have HXM := Lib.hid (List.mem_of_getElem? hxk)
            obtain ⟨x0, x1⟩ := HME.out x (Or.inl HXM.out)
            clear hxk
            go_wp2_with fail
            go_loopw [57] (fun jv wr => ∃ j : Nat, j ≤ q ∧ jv = .int .i64 j ∧ w2 = wr) (fun jv _ => q - (intOf jv).toNat)
            case atStart => exact ⟨0, Nat.zero_le _, rfl, rfl⟩
            case round =>
              obtain ⟨j, hj, rfl, rfl⟩ := hrel
              by_cases hlj : j < q
              · have kj : (j : Int) < q := by omega
                have hyk := List.getElem?_eq_getElem (l := R) (i := j) (by rw [HRL.out]; exact hlj)
                generalize R[j]'(by rw [HRL.out]; exact hlj) = y at hyk
                obtain ⟨bb, ob, rfl, _, d0⟩ := HR.out.at_ j y hyk
                have hyx : ¬ y < x := by have := HLE.out x HXM.out y (List.mem_of_getElem? hyk); omega
                clear hyk
                go_wp2_with fail
                go_roundw
                case rel => exact ⟨j + 1, by omega, by go_num, by first | rfl | trivial⟩
                case measure => simp [intOf]; omega
              · have kj : ¬ (j : Int) < q := by omega
                go_wp2_with fail
                go_roundw
                case rel => exact ⟨i + 1, by omega, by go_num, by first | rfl | trivial⟩
                case measure => simp [intOf]; omega
          · have kk : ¬ (i : Int) < p := by omega
            go_wp2_with fail
            go_ret
            exact ⟨rfl, HB2.out⟩
    · rw [Nat.min_eq_right (by omega), Nat.sub_self] at hdef
      have m1 : min (m : Int) n = n := by omega
      have m2 : ¬ (m : Int) ≤ n := by omega
      obtain rfl : n = p := by simpa using hdef
      clear hdef
      have e1 : ((n : Int) == (n : Int)) = true := by simp
      go_enter Try.func6, Try.ntmps6
      go_wp2_with fail
      refine CA.out.mono ?_
      rintro e w1 ⟨rfl, b1⟩
      have HB1 := Lib.hid b1
      clear b1
      go_wp2_with fail
      refine (CS.out w1 (HI.out.call HB1.out)).mono ?_
      rintro e w2 ⟨vs, vr, rfl, hos, hor, _, b2⟩
      obtain ⟨A1, c1, rfl, hN1⟩ := hos.rows (fun a ha => HME.out a (Or.inl ha))
      obtain ⟨A2, c2, rfl, hN2⟩ := hor.rows (fun a ha => HME.out a (Or.inr ha))
      rw [HSL.out, HRL.out]
      have HA := Lib.hid hN1
      have HR := Lib.hid hN2
      have HB2 := Lib.hid (HB1.out.trans (b2.mono HB1.out.size))
      clear hos hor hN1 hN2 b2
      go_wp2_with fail
      go_loopw [51] (fun iv wr => ∃ i : Nat, i ≤ n ∧ iv = .int .i64 i ∧ w2 = wr) (fun iv _ => n - (intOf iv).toNat)
      case atStart => exact ⟨0, Nat.zero_le _, rfl, rfl⟩
      case round =>
        obtain ⟨i, hi, rfl, rfl⟩ := hrel
        by_cases hlt : i < n
        · have kk : (i : Int) < n := by omega
          have hxk := List.getElem?_eq_getElem (l := S) (i := i) (by rw [HSL.out]; exact hlt)
          generalize S[i]'(by rw [HSL.out]; exact hlt) = x at hxk
          obtain ⟨ba, oa, rfl, _, c0⟩ := HA.out.at_ i x hxk
          have HXM := Lib.hid (List.mem_of_getElem? hxk)
          obtain ⟨x0, x1⟩ := HME.out x (Or.inl HXM.out)
          clear hxk
          go_wp2_with fail
          go_loopw [57] (fun jv wr => ∃ j : Nat, j ≤ q ∧ jv = .int .i64 j ∧ w2 = wr) (fun jv _ => q - (intOf jv).toNat)
          case atStart => exact ⟨0, Nat.zero_le _, rfl, rfl⟩
          case round =>
            obtain ⟨j, hj, rfl, rfl⟩ := hrel
            by_cases hlj : j < q
            · have kj : (j : Int) < q := by omega
              have hyk := List.getElem?_eq_getElem (l := R) (i := j) (by rw [HRL.out]; exact hlj)
              generalize R[j]'(by rw [HRL.out]; exact hlj) = y at hyk
              obtain ⟨bb, ob, rfl, _, d0⟩ := HR.out.at_ j y hyk
              have hyx : ¬ y < x := by have := HLE.out x HXM.out y (List.mem_of_getElem? hyk); omega
              clear hyk
              go_wp2_with fail
              go_roundw
              case rel => exact ⟨j + 1, by omega, by go_num, by first | rfl | trivial⟩
              case measure => simp [intOf]; omega
            · have kj : ¬ (j : Int) < q := by omega
              go_wp2_with fail
              go_roundw
              case rel => exact ⟨i + 1, by omega, by go_num, by first | rfl | trivial⟩
              case measure => simp [intOf]; omega
        · have kk : ¬ (i : Int) < n := by omega
          go_wp2_with fail
          go_ret
          exact ⟨rfl, HB2.out⟩
end Go.Proofs.Ytecnlpkfcggimaa
