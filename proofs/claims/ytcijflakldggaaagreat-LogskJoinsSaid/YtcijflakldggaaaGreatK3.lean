/-
  Texts joined, in build order: RefQ, RefV, CellN, BinC, RunsI, StripR, InsA, InsB, Plus, StripA, Grew, Cap.
-/
import Derived.Test.YtcijflakldggaaaGreatK2
import Derived.Deep.CutRange
import Derived.Deep.RegionWith
import Derived.Deep.AppendLies
import Derived.Lib.AppendZerosOnto
import Derived.Lib.JoinLaws
import Derived.Lib.Overlaps
import Derived.Lib.SmallJoins
import Derived.Laws.CopyRow
import Derived.Laws.NewBlocks
import Derived.Shelf.Spec.SlicesInsertGrow
import Derived.Deep.RegionLaw
import Derived.Test.YtcijflakldggaaaGreatRows
import Derived.WalkKit
import Derived.WalkSpells
import Derived.WalkLawsBesides
import Derived.LoopTactic
import Derived.Deep.QuietTactic
import Derived.BigQuiet
import Derived.Deep.RegionHeld3
import Derived.Sort.Grow
import Derived.Below
/-
  Walks: the reference of layer 13: Exact, Find, New.
-/
namespace Go.Proofs.YtcijflakldggaaaGreat
set_option linter.unusedVariables false
set_option linter.unusedSimpArgs false
open Go.RowKit

theorem find_take_none {A : List PairV} {f : PairV → Bool} {k : Nat} {p : PairV} (h : A[k]? = some p) (h1 : (A.take k).find? f = none) (h2 : f p = false) : (A.take (k + 1)).find? f = none := by
  rw [take_snocP h, List.find?_append, h1, List.find?_cons, h2]; rfl
theorem find_take_some {A : List PairV} {f : PairV → Bool} {k : Nat} {p : PairV} (h : A[k]? = some p) (h1 : (A.take k).find? f = none) (h2 : f p = true) : A.find? f = some p := by
  have e : A = A.take (k + 1) ++ A.drop (k + 1) := (List.take_append_drop _ _).symm
  rw [e, List.find?_append, take_snocP h, List.find?_append, h1, List.find?_cons, h2]; rfl

set_option maxRecDepth 100000 in
set_option maxHeartbeats 4000000 in
theorem rexact_any (w : World) (a : Option Addr) (cap : Nat) (A : List PairV) (t x : Int) (b : Bool) (h : Pairs w a A) (ht : Word t) (hl : A.length ≤ 1000) (hb : sumP A < 9223372036854775808) (hx : (exactV A t).getD 0 = x) (hs : (exactV A t).isSome = b) :
    Calls Tryz.prog 18 #[.slice a A.length cap, .int .u64 t] w fun e w' => e = .returned (.tuple #[.int .i64 x, .bool b]) ∧ Below w.heap.size w w' := by
  have HI := Lib.hid h
  have HX := Lib.hid hx
  have HSB := Lib.hid hs
  have HP := Lib.hid (fun (f : Int → Bool) k => cnt_part (f := f) (A := A) k (ok_pos h.ok))
  obtain ⟨t0, t1⟩ := ht
  clear h hx hs
  go_enter Tryz.func18, Tryz.ntmps18
  go_wp2_with fail
  go_loopw [14] (fun j wr => ∃ k : Nat, k ≤ A.length ∧ j = .int .i64 k ∧ (A.take k).find? (isV A t) = none ∧ Below w.heap.size w wr) (fun j _ => A.length - (intOf j).toNat)
  case atStart => exact ⟨0, Nat.zero_le _, rfl, rfl, Below.refl _ _⟩
  case round =>
    obtain ⟨k, hk, rfl, hfn, hb2⟩ := hrel
    have HFN := Lib.hid hfn
    clear hfn
    by_cases hlt : k < A.length
    · have kk : (k : Int) < A.length := by omega
      have hxk : A[k]? = some A[k] := List.getElem?_eq_getElem hlt
      have HXK := Lib.hid hxk
      generalize hit : A[k] = p at *
      obtain ⟨px, pc⟩ := p
      obtain ⟨bb, off, rfl, hbl, c0, c1⟩ := (HI.out.call hb2).at_ k _ hxk
      have hok := HI.out.ok _ (List.mem_of_getElem? hxk)
      have hbs := hb2.size
      obtain ⟨⟨o1, o2⟩, o3, o4⟩ := hok
      simp only at c0 c1 o1 o2 o3 o4
      have HB3 := Lib.hid (hb2.alloc hbs (.cells #[.int .i64 px, .int .u64 pc] 52))
      have v0 : (wr.alloc (.cells #[.int .i64 px, .int .u64 pc] 52)).cell? ⟨wr.heap.size, 0, none⟩ = some (.int .i64 px) := by go_simp
      have vlt : wr.heap.size < (wr.alloc (.cells #[.int .i64 px, .int .u64 pc] 52)).heap.size := by simp
      clear hxk hit
      go_wp2_with fail
      generalize (wr.alloc (.cells #[.int .i64 px, .int .u64 pc] 52)) = wB at *
      obtain ⟨V, hV⟩ : ∃ V, wr.heap.size = V := ⟨_, rfl⟩
      rw [hV] at v0 vlt ⊢
      go_loopw [8, 9, 20] (fun s q j wz => ∃ i : Nat, i ≤ A.length ∧ j = .int .i64 i ∧ s = .int .u64 (cntV (fun y => decide (y < px)) (A.take i)) ∧ q = .int .u64 (cntV (fun y => y == px) (A.take i)) ∧ Below wB.heap.size wB wz) (fun _ _ j _ => A.length - (intOf j).toNat)
      case atStart => exact ⟨0, Nat.zero_le _, rfl, rfl, rfl, Below.refl _ _⟩
      case round =>
        obtain ⟨i, hi, rfl, rfl, rfl, hb4⟩ := hrel
        have hbs4 := hb4.size
        have vlt4 : V < wr.heap.size := by omega
        have z0 := cell_later hb4 v0
        have g1 := HP.out (fun y => decide (y < px)) i
        have g2 := HP.out (fun y => y == px) i
        obtain ⟨cl, hcl⟩ : ∃ cl, cntV (fun y => decide (y < px)) (A.take i) = cl := ⟨_, rfl⟩
        obtain ⟨cs, hcs⟩ : ∃ cs, cntV (fun y => y == px) (A.take i) = cs := ⟨_, rfl⟩
        have HCL := Lib.hid hcl
        have HCS := Lib.hid hcs
        rw [hcl] at g1 ⊢
        rw [hcs] at g2 ⊢
        obtain ⟨g11, g12⟩ := g1
        obtain ⟨g21, g22⟩ := g2
        clear hcl hcs
        by_cases hli : i < A.length
        · have ki : (i : Int) < A.length := by omega
          have hyk : A[i]? = some A[i] := List.getElem?_eq_getElem hli
          generalize hit : A[i] = p at *
          obtain ⟨qx, qc⟩ := p
          obtain ⟨b2, of2, e2, hbl2, d0, d1⟩ := (HI.out.call (HB3.out.trans (hb4.mono HB3.out.size))).at_ i _ hyk
          obtain ⟨rfl, rfl⟩ : bb = b2 ∧ off = of2 := by simpa using e2
          have hok2 := HI.out.ok _ (List.mem_of_getElem? hyk)
          obtain ⟨⟨p1, p2⟩, p3, p4⟩ := hok2
          have HS1 := Lib.hid (cnt_take (f := fun y => decide (y < px)) hyk)
          have HS2 := Lib.hid (cnt_take (f := fun y => y == px) hyk)
          have n1 := HP.out (fun y => decide (y < px)) (i + 1)
          have n2 := HP.out (fun y => y == px) (i + 1)
          rw [HS1.out, HCL.out] at n1
          rw [HS2.out, HCS.out] at n2
          simp only [decide_eq_true_eq, beq_iff_eq] at d0 d1 p1 p2 p3 p4 HS1 HS2 n1 n2
          clear hyk hit e2
          by_cases hq : qx < px
          · have e1 : ¬ qx = px := by omega
            have e3 : (qx == px) = false := by simp [e1]
            rw [if_pos hq] at n1 HS1
            rw [if_neg e1] at n2 HS2
            obtain ⟨n11, n12⟩ := n1
            clear n2
            go_wp2_with fail
            go_roundw
            case rel => exact ⟨i + 1, by omega, by go_num, by rw [HS1.out, HCL.out], by rw [HS2.out, HCS.out, Int.add_zero], hb4.alloc hbs4 _⟩
            case measure => simp [intOf]; omega
          · by_cases e1 : qx = px
            · have e3 : (qx == px) = true := by simp [e1]
              rw [if_neg hq] at n1 HS1
              rw [if_pos e1] at n2 HS2
              obtain ⟨n21, n22⟩ := n2
              clear n1
              subst e1
              go_wp2_with fail
              go_roundw
              case rel => exact ⟨i + 1, by omega, by go_num, by rw [HS1.out, HCL.out, Int.add_zero], by rw [HS2.out, HCS.out], hb4.alloc hbs4 _⟩
              case measure => simp [intOf]; omega
            · have e3 : (qx == px) = false := by simp [e1]
              rw [if_neg hq] at n1 HS1
              rw [if_neg e1] at n2 HS2
              clear n1 n2
              go_wp2_with fail
              go_roundw
              case rel => exact ⟨i + 1, by omega, by go_num, by rw [HS1.out, HCL.out, Int.add_zero], by rw [HS2.out, HCS.out, Int.add_zero], hb4.alloc hbs4 _⟩
              case measure => simp [intOf]; omega
        · obtain rfl : i = A.length := by omega
          have ki : ¬ (A.length : Int) < A.length := by omega
          rw [List.take_length] at HCL HCS
          have HB5 := Lib.hid (HB3.out.trans (hb4.mono HB3.out.size))
          have his : isV A t (px, pc) = (decide (cl < t) && decide (t ≤ cl + cs)) := by
            have a1 : ltV A px = cl := HCL.out
            have a2 : eqV A px = cs := HCS.out
            unfold isV; rw [a1, a2]
          by_cases f1 : cl < t
          · by_cases f2 : t ≤ cl + cs
            · have ht : isV A t (px, pc) = true := by rw [his]; simp [f1, f2]
              have hsome : exactV A t = some px := by unfold exactV; rw [find_take_some HXK.out HFN.out ht]; rfl
              have E : Hid (px = x ∧ true = b) := Lib.hid (by have a1 := HX.out; have a2 := HSB.out; rw [hsome] at a1 a2; exact ⟨a1, a2⟩)
              clear his ht hsome
              go_wp2_with fail
              go_ret2
              exact ⟨ret_pair E.out.1 E.out.2, HB5.out⟩
            · have ht : isV A t (px, pc) = false := by rw [his]; simp [f1, f2]
              have HN := Lib.hid (find_take_none HXK.out HFN.out ht)
              clear his ht
              go_wp2_with fail
              go_roundw
              case rel => exact ⟨k + 1, by omega, by go_num, HN.out, HB5.out⟩
              case measure => simp [intOf]; omega
          · have ht : isV A t (px, pc) = false := by rw [his]; simp [f1]
            have HN := Lib.hid (find_take_none HXK.out HFN.out ht)
            have f1' : ¬ t > cl := by omega
            clear his ht
            go_wp2_with fail
            go_roundw
            case rel => exact ⟨k + 1, by omega, by go_num, HN.out, HB5.out⟩
            case measure => simp [intOf]; omega
    · obtain rfl : k = A.length := by omega
      rw [List.take_length] at HFN
      have hnone : exactV A t = none := by unfold exactV; rw [HFN.out]; rfl
      have E : Hid (0 = x ∧ false = b) := Lib.hid (by have a1 := HX.out; have a2 := HSB.out; rw [hnone] at a1 a2; exact ⟨a1, a2⟩)
      have kk : ¬ (A.length : Int) < A.length := by omega
      clear hnone
      go_wp2_with fail
      go_ret2
      exact ⟨ret_pair E.out.1 E.out.2, hb2⟩

theorem fine_fit {A : List PairV} (hf : FineV A) (hl : A.length ≤ 1000) : sumP A < 9223372036854775808 := by
  have := fine_sum hf
  have : (A.length : Int) * 1125899906842624 ≤ 1000 * 1125899906842624 := Int.mul_le_mul_of_nonneg_right (by omega) (by omega)
  omega

set_option maxRecDepth 100000 in
set_option maxHeartbeats 4000000 in
theorem rfind13_any (w : World) (M : Nat) (P : Pt) (s : Bool) (m : Int) (A : List PairV) (t y : Int) (b : Bool) (h : RefN w M P s m A) (hP : P.ok) (hf : FineV A) (hl : A.length ≤ 1000) (m1 : 1 ≤ m) (m2 : m ≤ 4096) (wt : Word t) (hy : (askV P s m A t).getD 0 = y) (hs : (askV P s m A t).isSome = b) :
    Calls Tryz.prog 38 #[.pointer (some ⟨M, 0, none⟩), .int .u64 t] w fun e w' => e = .returned (.tuple #[.int .i64 y, .bool b]) ∧ Below w.heap.size w w' := by
  have HR := Lib.hid h
  have HPP := Lib.hid hP
  have HF := Lib.hid hf
  have HY := Lib.hid hy
  have HSB := Lib.hid hs
  obtain ⟨lo, re, dg, a, cap, hp, hv, hc⟩ := h.cells
  have c5 := hc.c5
  clear h hc hp hy hs
  cases hx : exactV A t with
  | none =>
    have E : Hid (0 = y ∧ false = b) := Lib.hid (by
      have e : askV P s m A t = none := by unfold askV; rw [hx]
      have a1 := HY.out; have a2 := HSB.out; rw [e] at a1 a2; exact ⟨a1, a2⟩)
    have HE := Lib.hid (rexact_any w a cap A t 0 false hv wt hl (fine_fit hf hl) (by rw [hx]; rfl) (by rw [hx]; rfl))
    clear hx hv hf hP HR HF HPP
    go_enter Tryz.func38, Tryz.ntmps38
    go_wp2_with fail
    refine HE.out.mono ?_
    rintro e w2 ⟨rfl, hb2⟩
    go_wp2_with fail
    go_ret2
    exact ⟨ret_pair E.out.1 E.out.2, hb2⟩
  | some x =>
    have HE := Lib.hid (rexact_any w a cap A t x true hv wt hl (fine_fit hf hl) (by rw [hx]; rfl) (by rw [hx]; rfl))
    obtain ⟨v, hvm, hvx, _⟩ := exact_of hx
    have hxi : I64 x := hvx ▸ (hf v hvm).1
    have HXI := Lib.hid hxi
    have hask : askV P s m A t = if x ≠ 0 ∧ countP (keepS s m (rowV P (decide (x < 0)) A)) (P.idx (mag x)) = 0 then none else some (standV P x) := by unfold askV; rw [hx]
    have HST := Lib.hid (fun W hW => rstands_any W M P s m A x (standV P x) hW hP hxi rfl)
    by_cases x0 : x = 0
    · subst x0
      have E : Hid (standV P 0 = y ∧ true = b) := Lib.hid (by
        have e : askV P s m A t = some (standV P 0) := by rw [hask, if_neg (by simp)]
        have a1 := HY.out; have a2 := HSB.out; rw [e] at a1 a2; exact ⟨a1, a2⟩)
      clear hask hx hv hf hP HF HPP HY HSB hvx hvm
      go_enter Tryz.func38, Tryz.ntmps38
      go_wp2_with fail
      refine HE.out.mono ?_
      rintro e w2 ⟨rfl, hb2⟩
      go_wp2_with fail
      refine (HST.out _ (HR.out.call hb2)).mono ?_
      rintro e w3 ⟨rfl, hb3⟩
      go_wp2_with fail
      go_ret2
      exact ⟨ret_pair E.out.1 E.out.2, hb2.trans (hb3.mono hb2.size)⟩
    · have z1 : (x == 0) = false := by simp [x0]
      have z2 : (x != 0) = true := by simp [x0]
      have z3 : (!x == 0) = true := by simp [x0]
      obtain ⟨g1, g2⟩ := mag_in hxi x0
      have hpi := pt_idx hP g1 g2
      have S50 := row_sum50 hP (decide (x < 0)) hf hl
      have HSZ := Lib.hid (fun W => size_any x hxi W)
      obtain ⟨mg, hmg⟩ : ∃ mg, mag x = mg := ⟨_, rfl⟩
      rw [hmg] at HSZ g1 g2 hpi hask
      obtain ⟨i, hi⟩ : ∃ i, P.idx mg = i := ⟨_, rfl⟩
      rw [hi] at hpi hask
      have HPT := Lib.hid (fun W hW => rpart13_any W M P s m A mg i hW hP g1 g2 hi)
      obtain ⟨lt, hlt⟩ : ∃ lt, sumP (rowV P (decide (x < 0)) A) - sumP (keepS s m (rowV P (decide (x < 0)) A)) = lt := ⟨_, rfl⟩
      have HKP := Lib.hid (fun W hW => rkept13_any W M P s m A (decide (x < 0)) lt hW hP hf hl m1 m2 hlt)
      have hko := keeps_ok (s := s) (m := m) S50.ok
      have hkl : (keepS s m (rowV P (decide (x < 0)) A)).length ≤ 1000 := by have := keeps_le s m (rowV P (decide (x < 0)) A); have := S50.len; omega
      have hks := keeps_sum s m (ok_pos S50.ok)
      have hkc := count_le_sum i (ok_pos hko)
      have hss : sumP (rowV P (decide (x < 0)) A) ≤ 9223372036854775807 := by
        have := S50.sum
        have : (A.length : Int) * 1125899906842624 ≤ 1000 * 1125899906842624 := Int.mul_le_mul_of_nonneg_right (by omega) (by omega)
        omega
      have HKO := Lib.hid hko
      generalize keepS s m (rowV P (decide (x < 0)) A) = K at *
      obtain ⟨n, hn⟩ : ∃ n, countP K i = n := ⟨_, rfl⟩
      rw [hn] at hkc hask
      have n0 : 0 ≤ n := hkc.1
      have n1 : n < 18446744073709551616 := by omega
      have HCO := Lib.hid (fun W A' cap' (hW : Pairs W A' K) => rcount_any W A' cap' K i n hW hkl (by unfold I64; omega) hn n1)
      have HHO := Lib.hid hlt
      obtain ⟨db, hdb⟩ : ∃ db, decide (x < 0) = db := ⟨_, rfl⟩
      rw [hdb] at HKP
      obtain ⟨kn, hkn⟩ : ∃ kn : Nat, K.length = kn := ⟨_, rfl⟩
      rw [hkn] at HCO
      have HKN := Lib.hid hkn
      by_cases nz : n = 0
      · have E : Hid (0 = y ∧ false = b) := Lib.hid (by
          have e : askV P s m A t = none := by rw [hask, if_pos ⟨x0, nz⟩]
          have a1 := HY.out; have a2 := HSB.out; rw [e] at a1 a2; exact ⟨a1, a2⟩)
        subst nz
        clear hask hx hv hf hP HF HPP HY HSB hvx hvm hmg hi hlt hko hkl hks hkc hss hn hkn HHO hpi S50
        go_enter Tryz.func38, Tryz.ntmps38
        go_wp2_with fail
        refine HE.out.mono ?_
        rintro e w2 ⟨rfl, hb2⟩
        go_wp2_with fail
        refine (HKP.out _ (HR.out.call hb2)).mono ?_
        rintro e w3 ⟨v3, rfl, hO, hb3⟩
        obtain ⟨ra, rcap, rfl, hpr⟩ := hO.pairs HKO.out
        have B3 := hb2.trans (hb3.mono hb2.size)
        rw [HKN.out]
        go_wp2_with fail
        refine (HSZ.out _).mono ?_
        rintro e w4 ⟨rfl, rfl⟩
        go_wp2_with fail
        refine (HPT.out _ (HR.out.call B3)).mono ?_
        rintro e w4 ⟨rfl, hb4⟩
        have HPR := Lib.hid (hpr.call hb4)
        have B4 := B3.trans (hb4.mono B3.size)
        go_wp2_with fail
        refine (HCO.out _ ra rcap HPR.out).mono ?_
        rintro e w5 ⟨rfl, hb5⟩
        go_wp2_with fail
        go_ret2
        exact ⟨ret_pair E.out.1 E.out.2, B4.trans (hb5.mono B4.size)⟩
      · have E : Hid (standV P x = y ∧ true = b) := Lib.hid (by
          have e : askV P s m A t = some (standV P x) := by rw [hask, if_neg (fun c => nz c.2)]
          have a1 := HY.out; have a2 := HSB.out; rw [e] at a1 a2; exact ⟨a1, a2⟩)
        have z4 : (n == 0) = false := by simp [nz]
        clear hask hx hv hf hP HF HPP HY HSB hvx hvm hmg hi hlt hko hkl hks hkc hss hn hkn HHO hpi S50
        go_enter Tryz.func38, Tryz.ntmps38
        go_wp2_with fail
        refine HE.out.mono ?_
        rintro e w2 ⟨rfl, hb2⟩
        go_wp2_with fail
        refine (HKP.out _ (HR.out.call hb2)).mono ?_
        rintro e w3 ⟨v3, rfl, hO, hb3⟩
        obtain ⟨ra, rcap, rfl, hpr⟩ := hO.pairs HKO.out
        have B3 := hb2.trans (hb3.mono hb2.size)
        rw [HKN.out]
        go_wp2_with fail
        refine (HSZ.out _).mono ?_
        rintro e w4 ⟨rfl, rfl⟩
        go_wp2_with fail
        refine (HPT.out _ (HR.out.call B3)).mono ?_
        rintro e w4 ⟨rfl, hb4⟩
        have HPR := Lib.hid (hpr.call hb4)
        have B4 := B3.trans (hb4.mono B3.size)
        go_wp2_with fail
        refine (HCO.out _ ra rcap HPR.out).mono ?_
        rintro e w5 ⟨rfl, hb5⟩
        have B5 := B4.trans (hb5.mono B4.size)
        go_wp2_with fail
        refine (HST.out _ (HR.out.call B5)).mono ?_
        rintro e w6 ⟨rfl, hb6⟩
        go_wp2_with fail
        go_ret2
        exact ⟨ret_pair E.out.1 E.out.2, B5.trans (hb6.mono B5.size)⟩
end Go.Proofs.YtcijflakldggaaaGreat

/-
  Walks: the reference of layer 13: New; all its values set.
-/
namespace Go.Proofs.YtcijflakldggaaaGreat
set_option linter.unusedVariables false
set_option linter.unusedSimpArgs false
open Go.RowKit

/-- The partition of a closeness, or of so many digits. -/
def PtOf (dg u v : Int) : Pt → Prop
  | .cells a b n => dg = 0 ∧ a = u ∧ b = v
  | .spans d L T => d = dg
/-- There is none such: no closeness, or too many cells. -/
def NoPt (dg u v : Int) : Prop := dg = 0 ∧ (goodC u v = false ∨ (GoodC u v ∧ lowC u v 4096 ≤ 9223372036854775808))
theorem pt_one {dg u v : Int} {P Q : Pt} (hP : P.ok) (hQ : Q.ok) (h : PtOf dg u v P) (k : PtOf dg u v Q) : P = Q := by
  cases P with
  | cells a b n =>
    obtain ⟨h0, rfl, rfl⟩ := h
    cases Q with
    | cells c d n' =>
      obtain ⟨_, rfl, rfl⟩ := k
      rw [tab_one hP.1 hP.2.1 hQ.2.1]
    | spans d L T =>
      have k' : d = dg := k
      have : SpanP d L T := hQ
      unfold SpanP at this; omega
  | spans d L T =>
    have h' : d = dg := h
    have hs : SpanP d L T := hP
    cases Q with
    | cells c e n' =>
      obtain ⟨k0, _, _⟩ := k
      unfold SpanP at hs; omega
    | spans e L' T' =>
      have k' : e = dg := k
      have hs' : SpanP e L' T' := hQ
      obtain rfl : d = e := by omega
      have : L = L' ∧ T = T' := by unfold SpanP at hs hs'; omega
      rw [this.1, this.2]
theorem pt_none {dg u v : Int} {P : Pt} (hP : P.ok) (h : PtOf dg u v P) (k : NoPt dg u v) : False := by
  cases P with
  | cells a b n =>
    obtain ⟨h0, rfl, rfl⟩ := h
    obtain ⟨g, t, hn⟩ := hP
    rcases k.2 with c | ⟨_, c⟩
    · rw [goodC_iff.2 g] at c; cases c
    · have := low_mono g hn
      rw [t.2] at this; omega
  | spans d L T =>
    have h' : d = dg := h
    have hs : SpanP d L T := hP
    have := k.1
    unfold SpanP at hs; omega
/-- The rows of cells lie in blocks that are not older. -/
def Far (n : Nat) (w : World) (M : Nat) : Prop := ∀ (o g l c : Nat), o = 0 ∨ o = 1 → w.cell? ⟨M, o, none⟩ = some (.slice (some ⟨g, 0, none⟩) l c) → n ≤ g
theorem far_block {n : Nat} {w : World} {M : Nat} {x0 x1 x2 x3 x4 x5 : Value} {t : TypeId} (hb : w.heap[M]? = some (.cells #[x0, x1, x2, x3, x4, x5] t (0, 0))) (h0 : ∀ g l c, x0 = .slice (some ⟨g, 0, none⟩) l c → n ≤ g) (h1 : ∀ g l c, x1 = .slice (some ⟨g, 0, none⟩) l c → n ≤ g) : Far n w M := by
  intro o g l c ho hc
  rw [Joins.cell_of_block hb] at hc
  rcases ho with rfl | rfl
  · exact h0 g l c (Option.some.inj hc)
  · exact h1 g l c (Option.some.inj hc)
theorem far_same {n : Nat} {w w' : World} {M : Nat} (h : Far n w M) (hk : w'.heap[M]? = w.heap[M]?) : Far n w' M := fun o g l c ho hc => h o g l c ho (by rw [← hc]; unfold World.cell?; simp only [hk])
/-- What New tells: the reference's bins, without values, or that there are none such. -/
def NewN (w : World) (dg u v : Int) (s : Bool) (m : Int) (e : Ending) (w' : World) : Prop :=
  (∃ M P, P.ok ∧ PtOf dg u v P ∧ e = .returned (.tuple #[.pointer (some ⟨M, 0, none⟩), .bool true]) ∧ RefN w' M P s m [] ∧ w.heap.size ≤ M ∧ Below w.heap.size w w' ∧ Far w.heap.size w' M) ∨
  (NoPt dg u v ∧ e = .returned (.tuple #[.pointer none, .bool false]) ∧ Below w.heap.size w w')

theorem setCell_other_heap {w : World} {g M o : Nat} {x : Value} (h : g ≠ M) (i : Nat) : (w.setCell ⟨M, o, none⟩ x).cell? ⟨g, i, none⟩ = w.cell? ⟨g, i, none⟩ :=
  World.cell?_setCell_other _ _ _ _ (two_far (fun e => h e.symm))
/-- All values set: the model of a partition has these. -/
theorem RefN.vals {w0 w : World} {M : Nat} {P : Pt} {s : Bool} {m : Int} {A : List PairV} {a : Option Addr} {cap : Nat} (h : RefN w M P s m []) (hv : Pairs w0 a A) (hb : Below w0.heap.size w0 w) (hM : w0.heap.size ≤ M) :
    RefN (w.setCell ⟨M, 5, none⟩ (.slice a A.length cap)) M P s m A := by
  obtain ⟨lo, re, dg, a0, cap0, h1, h2, h3⟩ := h.ex
  refine ⟨lo, re, dg, a, cap, ?_, hv.call (hb.setCell (p := ⟨M, 5, none⟩) hM _), ?_⟩
  · cases P with
    | cells u v n =>
      obtain ⟨h0, g, k, c, c', e1, e2, n1, n2, e3, e4⟩ := h1
      exact ⟨h0, g, k, c, c', e1, e2, n1, n2, fun i hi => (setCell_other_heap n1 i).trans (e3 i hi), fun i hi => (setCell_other_heap n2 i).trans (e4 i hi)⟩
    | spans d L T => exact h1
  · rw [Joins.block_setCell h3]; rfl

theorem ownw_some {w : World} {base n cap : Nat} {A : Option Addr} {L : List Int} (h : OwnW w base (.slice A n cap) L) (hn : 1 ≤ L.length) : ∃ g, A = some ⟨g, 0, none⟩ ∧ base ≤ g ∧ ∀ i x, L[i]? = some x → w.cell? ⟨g, i, none⟩ = some (.int .u64 x) := by
  have hh : w.ownsRow base 22 1 (.slice A n cap) L.length (wordsL L) := h
  rcases hh.2 with ⟨e, h0⟩ | ⟨g, cap', cur, e, hb, hg, r⟩
  · omega
  · have e' := e
    injection e' with e1 e2 e3
    subst e1
    refine ⟨g, rfl, hb, fun i x hi => ?_⟩
    obtain ⟨g', eg, _, hc⟩ := h.at_ hi
    have : g = g' := by simpa using eg
    rw [this]; exact hc

set_option maxRecDepth 100000 in
set_option maxHeartbeats 4000000 in
theorem rnew13_any (u v dg : Int) (s : Bool) (m : Int) (wu : Word u) (wv : Word v) (d0 : 0 ≤ dg) (d4 : dg ≤ 4) (hm : I64 m) (w : World) :
    Calls Tryz.prog 35 #[.agg #[.int .u64 u, .int .u64 v], .int .i64 dg, .int .i64 (sideI s), .int .i64 m] w (NewN w dg u v s m) := by
  have s0 : 0 ≤ sideI s ∧ sideI s ≤ 1 := by unfold sideI; split <;> omega
  obtain ⟨sd, hsd⟩ : ∃ sd, sideI s = sd := ⟨_, rfl⟩
  have HSD := Lib.hid hsd
  rw [hsd] at s0 ⊢
  obtain ⟨s0, s1⟩ := s0
  obtain ⟨m0, m1⟩ := hm
  clear hsd
  have hMb : ∀ d, ((w.alloc (.cells #[.int .u64 u, .int .u64 v] 24)).alloc (.cells #[.slice none 0 0, .slice none 0 0, .int .i64 d, .int .i64 sd, .int .i64 m, .slice none 0 0] 48)).heap[w.heap.size + 1]? = some (.cells #[.slice none 0 0, .slice none 0 0, .int .i64 d, .int .i64 sd, .int .i64 m, .slice none 0 0] 48 (0, 0)) := by
    intro d
    have e : (w.alloc (.cells #[.int .u64 u, .int .u64 v] 24)).heap.size = w.heap.size + 1 := by simp
    have := heap_new (w.alloc (.cells #[.int .u64 u, .int .u64 v] 24)) (.cells #[.slice none 0 0, .slice none 0 0, .int .i64 d, .int .i64 sd, .int .i64 m, .slice none 0 0] 48)
    rw [e] at this; exact this
  have hBw : ∀ d, Below w.heap.size w ((w.alloc (.cells #[.int .u64 u, .int .u64 v] 24)).alloc (.cells #[.slice none 0 0, .slice none 0 0, .int .i64 d, .int .i64 sd, .int .i64 m, .slice none 0 0] 48)) := fun d => ((Below.refl w.heap.size w).alloc (Nat.le_refl _) _).alloc (by simp) _
  have hsz : ∀ d, ((w.alloc (.cells #[.int .u64 u, .int .u64 v] 24)).alloc (.cells #[.slice none 0 0, .slice none 0 0, .int .i64 d, .int .i64 sd, .int .i64 m, .slice none 0 0] 48)).heap.size = w.heap.size + 2 := by intro d; simp
  have hp0 : ∀ d, ((w.alloc (.cells #[.int .u64 u, .int .u64 v] 24)).alloc (.cells #[.slice none 0 0, .slice none 0 0, .int .i64 d, .int .i64 sd, .int .i64 m, .slice none 0 0] 48)).cell? ⟨w.heap.size, 0, none⟩ = some (.int .u64 u) := fun d => cell_later ((Below.refl _ _).alloc (Nat.le_refl _) _) (by go_simp)
  have hp1 : ∀ d, ((w.alloc (.cells #[.int .u64 u, .int .u64 v] 24)).alloc (.cells #[.slice none 0 0, .slice none 0 0, .int .i64 d, .int .i64 sd, .int .i64 m, .slice none 0 0] 48)).cell? ⟨w.heap.size, 1, none⟩ = some (.int .u64 v) := fun d => cell_later ((Below.refl _ _).alloc (Nat.le_refl _) _) (by go_simp)
  by_cases hd : dg = 0
  · subst hd
    have hMb := hMb 0
    have hBw := hBw 0
    have hsz := hsz 0
    have hp0 := hp0 0
    have hp1 := hp1 0
    by_cases hg : goodC u v = true
    · have g := goodC_iff.1 hg
      have HRG := Lib.hid (fun W => rcgood_any u v wu wv W)
      rw [hg] at HRG
      have HRC := Lib.hid (fun W => rcells_any u v g W)
      have HG := Lib.hid g
      clear hg g
      go_enter Tryz.func35, Tryz.ntmps35
      go_wp2_with fail
      refine (HRG.out _).mono ?_
      rintro e w2 ⟨rfl, hb2⟩
      have p0 := cell_later hb2 hp0
      have p1 := cell_later hb2 hp1
      have hMB := Lib.hid ((hb2.block _ (by rw [hsz]; omega)).trans hMb)
      have B2 := hBw.trans (hb2.mono (by rw [hsz]; omega))
      have hz2 : w.heap.size + 2 ≤ w2.heap.size := by have := hb2.size; rw [hsz] at this; exact this
      clear hb2 hp0 hp1 hMb hBw hsz
      go_wp2_with fail
      refine (HRC.out _).mono ?_
      rintro e w3 (⟨n, A, c, A', c', ht, n1, n2, rfl, hL, hR, hb3⟩ | ⟨rfl, hl, hb3⟩)
      · have hMB3 := (hb3.block _ (by omega)).trans hMB.out
        have q0 : w3.cell? ⟨w.heap.size + 1, 0, none⟩ = some (.slice none 0 0) := by rw [Joins.cell_of_block hMB3]; rfl
        have q1 : w3.cell? ⟨w.heap.size + 1, 1, none⟩ = some (.slice none 0 0) := by rw [Joins.cell_of_block hMB3]; rfl
        have f0 : w3.frozen? ⟨w.heap.size + 1, 0, none⟩ = false := Joins.unfrozen_of_block hMB3 0
        have f1 : w3.frozen? ⟨w.heap.size + 1, 1, none⟩ = false := Joins.unfrozen_of_block hMB3 1
        have HMB3 := Lib.hid hMB3
        have HT := Lib.hid ht
        have HLr := Lib.hid hL
        have HRr := Lib.hid hR
        have B3 := B2.trans (hb3.mono B2.size)
        have hz3 : w.heap.size + 2 ≤ w3.heap.size := by have := hb3.size; omega
        clear hMB3 hMB ht hL hR hb3 p0 p1
        go_wp2_with fail
        go_ret2
        obtain ⟨ga, rfl, ba, oa⟩ := ownw_some HLr.out (by rw [lowsC_len]; exact n1)
        obtain ⟨gb, rfl, bb, ob⟩ := ownw_some HRr.out (by rw [repsC_len]; exact n1)
        have hfb := far_block (n := w.heap.size) (w := (w3.setCell ⟨w.heap.size + 1, 0, none⟩ (.slice (some ⟨ga, 0, none⟩) n c)).setCell ⟨w.heap.size + 1, 1, none⟩ (.slice (some ⟨gb, 0, none⟩) n c')) (M := w.heap.size + 1) (by rw [Joins.block_setCell (Joins.block_setCell HMB3.out _)]; rfl) (fun g l c e => by injection e with e; have := (Addr.mk.inj (Option.some.inj e)).1; omega) (fun g l c e => by injection e with e; have := (Addr.mk.inj (Option.some.inj e)).1; omega)
        refine Or.inl ⟨w.heap.size + 1, .cells u v n, ⟨HG.out, HT.out, n2⟩, ⟨rfl, rfl, rfl⟩, rfl, ?_, by omega, (B3.setCell (p := ⟨w.heap.size + 1, 0, none⟩) (by show w.heap.size ≤ w.heap.size + 1; omega) _).setCell (p := ⟨w.heap.size + 1, 1, none⟩) (by show w.heap.size ≤ w.heap.size + 1; omega) _, hfb⟩
        have na : ga ≠ w.heap.size + 1 := by omega
        have nb : gb ≠ w.heap.size + 1 := by omega
        refine ⟨_, _, 0, none, 0, ⟨rfl, ga, gb, c, c', rfl, rfl, na, nb, fun i hi => ?_, fun i hi => ?_⟩, Pairs.nil _, ?_⟩
        · rw [setCell_other_heap na, setCell_other_heap na]; exact oa i _ (lowsC_at u v hi)
        · rw [setCell_other_heap nb, setCell_other_heap nb]; exact ob i _ (repsC_at u v hi)
        · rw [Joins.block_setCell (Joins.block_setCell HMB3.out _), HSD.out]; rfl
      · have B3 := B2.trans (hb3.mono B2.size)
        go_wp2_with fail
        go_ret2
        exact Or.inr ⟨⟨rfl, Or.inr ⟨HG.out, hl⟩⟩, rfl, B3⟩
    · have hf : goodC u v = false := by simpa using hg
      have HRG := Lib.hid (fun W => rcgood_any u v wu wv W)
      rw [hf] at HRG
      clear hg
      go_enter Tryz.func35, Tryz.ntmps35
      go_wp2_with fail
      refine (HRG.out _).mono ?_
      rintro e w2 ⟨rfl, hb2⟩
      have B2 := hBw.trans (hb2.mono (by rw [hsz]; omega))
      go_wp2_with fail
      go_ret2
      exact Or.inr ⟨⟨rfl, Or.inl hf⟩, rfl, B2⟩
  · have z1 : (dg == 0) = false := by simp [hd]
    obtain ⟨L, T, hs⟩ := spanp_of (show 1 ≤ dg by omega) d4
    have hMb := Lib.hid (hMb dg)
    have hBw := Lib.hid (hBw dg)
    have HS := Lib.hid hs
    clear hs hsz hp0 hp1
    go_enter Tryz.func35, Tryz.ntmps35
    go_wp2_with fail
    go_ret2
    exact Or.inl ⟨w.heap.size + 1, .spans dg L T, HS.out, rfl, rfl, ⟨_, _, dg, none, 0, ⟨rfl, rfl, rfl⟩, Pairs.nil _, by rw [HSD.out]; exact hMb.out⟩, by omega, hBw.out, far_block hMb.out (fun g l c e => by injection e with e; cases e) (fun g l c e => by injection e with e; cases e)⟩
end Go.Proofs.YtcijflakldggaaaGreat

/-
  Walks: a table's New.
-/
namespace Go.Proofs.YtcijflakldggaaaGreat
set_option linter.unusedVariables false
set_option linter.unusedSimpArgs false
open Go.RowKit

theorem set_cells11 {w : World} {b : Nat} {cs : Array Value} {t : TypeId} (h : w.heap[b]? = some (.cells cs t (0, 0))) (o : Nat) (u : Value) : (w.setCell ⟨b, o, none⟩ u).heap[b]? = some (.cells (cs.setIfInBounds o u) t (0, 0)) := by
  have hlt := lt_of_block h
  have h' : w.heap[b] = .cells cs t (0, 0) := by simpa [Array.getElem?_eq_getElem hlt] using h
  show (w.heap.modify b _)[b]? = _
  rw [Array.getElem?_eq_getElem (by simpa using hlt), Array.getElem_modify_self, h']
  rfl
/-- A table on its way: its closeness in a box, the table at block B, its cells so far behind it. -/
structure Way (w0 w : World) (B : Nat) (u v : Int) (L : List CellV) : Prop where
  p0 : w.cell? ⟨w0.heap.size, 0, none⟩ = some (.int .u64 u)
  p1 : w.cell? ⟨w0.heap.size, 1, none⟩ = some (.int .u64 v)
  b : ∃ x, w.heap[B]? = some (.cells #[.int .u64 u, .int .u64 v, x] 146 (0, 0)) ∧ OwnR w (B + 1) x L
  bel : Below w0.heap.size w0 w
theorem Way.call {w0 w w' : World} {B : Nat} {u v : Int} {L : List CellV} (h : Way w0 w B u v L) (hb : Below w.heap.size w w') : Way w0 w' B u v L := by
  obtain ⟨p0, p1, ⟨x, hx, ho⟩, bel⟩ := h
  exact ⟨cell_later hb p0, cell_later hb p1, ⟨x, (hb.block _ (lt_of_block hx)).trans hx, ho.call hb⟩, bel.trans (hb.mono bel.size)⟩
/-- Behind an append to its cells, which lie in a world that has but more blocks. -/
theorem Way.put {w0 w W w1 : World} {B : Nat} {u v : Int} {L M : List CellV} {x x' : Value} (h : Way w0 w B u v L) (hx : w.heap[B]? = some (.cells #[.int .u64 u, .int .u64 v, x] 146 (0, 0))) (hB : w0.heap.size + 1 ≤ B) (hW : Below w.heap.size w W)
    (hown : OwnR W (B + 1) x L) (ho : OwnR w1 (B + 1) x' M) (hg : W.grownBy w1 x.ownBlock) : Way w0 (w1.setCell ⟨B, 2, none⟩ x') B u v M ∧ w1.heap[B]? = some (.cells #[.int .u64 u, .int .u64 v, x] 146 (0, 0)) ∧
      ∀ (k o : Nat) (y : Value), k ≠ B → x.ownBlock ≠ some k → W.cell? ⟨k, o, none⟩ = some y → (w1.setCell ⟨B, 2, none⟩ x').cell? ⟨k, o, none⟩ = some y := by
  obtain ⟨p0, p1, _, bel⟩ := h
  have hlt := lt_of_block hx
  have hz := hW.size
  have hne : ∀ k, x.ownBlock = some k → B + 1 ≤ k := fun k hk => (hown.lt k hk).1
  have hb1 : Below (B + 1) w w1 := (hW.mono (by omega)).grown hg (by omega) hne
  have hB1 : w1.heap[B]? = some (.cells #[.int .u64 u, .int .u64 v, x] 146 (0, 0)) := (hb1.block B (by omega)).trans hx
  have hc : ∀ (o : Nat) (y : Value), w.cell? ⟨w0.heap.size, o, none⟩ = some y → (w1.setCell ⟨B, 2, none⟩ x').cell? ⟨w0.heap.size, o, none⟩ = some y := by
    intro o y hy
    rw [World.cell?_setCell_other _ _ _ _ (two_far (by omega))]
    exact (World.cell?_of_block (a := ⟨w0.heap.size, o, none⟩) (hb1.block _ (by show w0.heap.size < B + 1; omega))).trans hy
  refine ⟨⟨hc 0 _ p0, hc 1 _ p1, ⟨x', ?_, ?_⟩, ?_⟩, hB1, ?_⟩
  · rw [set_cells11 hB1 2 _]; rfl
  · refine ownsRow_setCell_other ho ?_ _
    intro e
    have := (ho.lt B e).1
    omega
  · exact (bel.trans (hb1.mono (by omega))).setCell (p := ⟨B, 2, none⟩) (by show w0.heap.size ≤ B; omega) _
  · intro k o y hkB hkx hy
    rw [World.cell?_setCell_other _ _ _ _ (two_far (fun e => hkB e.symm))]
    exact (World.cell?_of_block (a := ⟨k, o, none⟩) (hg.block k (World.block_lt_of_cell? (a := ⟨k, o, none⟩) W hy) (fun e => hkx e.symm))).trans hy
theorem Way.c2 {w : World} {B : Nat} {a b x : Value} (h : w.heap[B]? = some (.cells #[a, b, x] 146 (0, 0))) : w.cell? ⟨B, 2, none⟩ = some x := by rw [Joins.cell_of_block h]; rfl
theorem Way.f2 {w : World} {B : Nat} {a b x : Value} (h : w.heap[B]? = some (.cells #[a, b, x] 146 (0, 0))) (o : Nat) : w.frozen? ⟨B, o, none⟩ = false := by simp [World.frozen?, h]

set_option maxHeartbeats 400000 in
theorem cnew_bad (u v : Int) (wu : Word u) (wv : Word v) (hg : goodC u v = false) (w : World) :
    Calls Tryz.prog 51 #[.agg #[.int .u64 u, .int .u64 v]] w fun e w' => e = .returned (.tuple #[.pointer none, .int .i64 1]) ∧ Below w.heap.size w w' := by
  have HG := Lib.hid (fun W => cgood_any u v wu wv W)
  rw [hg] at HG
  clear hg
  go_enter Tryz.func51, Tryz.ntmps51
  go_wp2_with fail
  refine (HG.out _).mono ?_
  rintro e w2 ⟨rfl, hb2⟩
  go_wp2_with fail
  go_ret2
  exact ⟨rfl, ((Below.refl _ _).alloc (Nat.le_refl _) _).trans (hb2.mono (by simp))⟩

/-- What New tells of a closeness that can be. -/
def NewC (w : World) (u v : Int) (e : Ending) (w' : World) : Prop :=
  (∃ B S n, e = .returned (.tuple #[.pointer (some ⟨B, 0, none⟩), .int .i64 0]) ∧ TabX w' B S u v n ∧ (∀ k, S k → w.heap.size ≤ k) ∧ Below w.heap.size w w') ∨
  (e = .returned (.tuple #[.pointer none, .int .i64 6]) ∧ lowC u v 4096 ≤ 9223372036854775808 ∧ Below w.heap.size w w')
theorem way_done {w0 w : World} {u v : Int} {k B : Nat} (g : GoodC u v) (hk : k ≤ 4096) (hl : ∀ j, j < k → lowC u v j ≤ 9223372036854775808) (hn : ¬ lowC u v k ≤ 9223372036854775808) (hB : w0.heap.size + 1 ≤ B) (h : Way w0 w B u v (rowC u v k)) :
    ∃ S, TabX w B S u v k ∧ ∀ j, S j → w0.heap.size ≤ j := by
  have ht : TabN u v k := ⟨hl, by have := low_le u v k; omega⟩
  obtain ⟨_, _, ⟨x, hx, ho⟩, _⟩ := h
  obtain ⟨b, cap, rfl, hb⟩ := ho.some_ (by rw [rowC_len]; exact tab_pos ht)
  rw [rowC_len] at hx ho
  exact ⟨fun j => j = B ∨ j = b, ⟨g, ht, hk, b, cap, hx, by omega, ho, fun j => Iff.rfl⟩, fun j hj => by rcases hj with rfl | rfl <;> omega⟩
theorem new_two (w : World) (x y : Value) (t : TypeId) : (w.drew.alloc (.cells #[x, y] t)).cell? ⟨w.heap.size, 0, none⟩ = some x ∧ (w.drew.alloc (.cells #[x, y] t)).cell? ⟨w.heap.size, 1, none⟩ = some y := by
  have h : (w.drew.alloc (.cells #[x, y] t)).heap[w.heap.size]? = some (.cells #[x, y] t (0, 0)) := heap_alloc_new w.drew _
  exact ⟨by rw [Joins.cell_of_block h]; rfl, by rw [Joins.cell_of_block h]; rfl⟩

set_option maxRecDepth 100000 in
set_option maxHeartbeats 2000000 in
theorem cnew_good (u v : Int) (g : GoodC u v) (w : World) :
    Calls Tryz.prog 51 #[.agg #[.int .u64 u, .int .u64 v]] w (NewC w u v) := by
  have HG : Hid (GoodC u v) := Lib.hid g
  obtain ⟨g0, g1, g2⟩ := id g
  have HC := Lib.hid (fun W => cgood_any u v (by unfold Word; omega) (by unfold Word; omega) W)
  rw [goodC_iff.2 g] at HC
  clear g
  go_enter Tryz.func51, Tryz.ntmps51
  go_wp2_with fail
  refine (HC.out _).mono ?_
  rintro e w2 ⟨rfl, hb2⟩
  have hz2 : w.heap.size + 1 ≤ w2.heap.size := by have := hb2.size; simp at this; omega
  obtain ⟨bc, bf⟩ := bcell hb2
  go_wp2_with fail
  have W0 : Way w (w2.alloc (.cells #[.int .u64 u, .int .u64 v, .slice none 0 0] 146)) w2.heap.size u v (rowC u v 0) :=
    ⟨cell_later ((Below.refl _ _).alloc (Nat.le_refl _) _) (cell_later hb2 (by go_simp)), cell_later ((Below.refl _ _).alloc (Nat.le_refl _) _) (cell_later hb2 (by go_simp)), ⟨_, heap_alloc_new _ _, OwnR.nil _ _⟩, (((Below.refl _ _).alloc (Nat.le_refl _) _).trans (hb2.mono (by simp))).alloc (by omega) _⟩
  clear bc bf hb2
  generalize w2.heap.size = B at *
  generalize w2.alloc (.cells #[.int .u64 u, .int .u64 v, .slice none 0 0] 146) = w3 at *
  go_loopw [5] (fun s wr => ∃ k : Nat, k ≤ 4096 ∧ s = .int .u64 (lowC u v k) ∧ (∀ j, j < k → lowC u v j ≤ 9223372036854775808) ∧ Way w wr B u v (rowC u v k)) (fun s _ => (9223372036854775810 - intOf s).toNat)
  case atStart => exact ⟨0, by omega, rfl, fun j hj => absurd hj (Nat.not_lt_zero _), W0⟩
  case round =>
    clear W0
    obtain ⟨k, hk, rfl, hl, hw⟩ := hrel
    have HL := Lib.hid hl
    have HW := Lib.hid hw
    clear hl hw
    have l0 := low_pos HG.out k
    have HS := Lib.hid (fun h => clow_step HG.out (k := k) h)
    have HU := Lib.hid (low_succ u v k)
    have HK : Hid (¬ lowC u v k ≤ 9223372036854775808 → ∃ S, TabX wr B S u v k ∧ ∀ j, S j → w.heap.size ≤ j) := Lib.hid fun h => way_done HG.out hk HL.out h hz2 HW.out
    have HF : Hid (k = 4096 → lowC u v k = lowC u v 4096) := Lib.hid fun h => by rw [h]
    generalize hlo : lowC u v k = lo at *
    have HLO := Lib.hid hlo
    by_cases hle : lo ≤ 9223372036854775808
    · obtain ⟨p0, p1, ⟨x, hx, ho⟩, bel⟩ := id HW.out
      obtain ⟨A, cap, rfl⟩ := ho.form
      rw [rowC_len] at hx ho
      have c2 := Way.c2 hx
      have HX := Lib.hid hx
      have HO := Lib.hid ho
      clear hx ho hlo
      by_cases hf : k = 4096
      · have HF2 := Lib.hid (HF.out hf)
        subst hf
        go_wp2_with fail
        go_ret2
        refine Or.inr ⟨rfl, ?_, bel⟩
        have := HF2.out
        omega
      · have e1 : ((k : Int) == 4096) = false := by simp; omega
        obtain ⟨E, hE⟩ : ∃ E, endC u v lo = E := ⟨_, rfl⟩
        obtain ⟨R, hR⟩ : ∃ R, repC u v lo = R := ⟨_, rfl⟩
        have E0 : lo ≤ E := by rw [← hE]; exact cend_ge HG.out l0 hle
        have E1 : E ≤ 9223372036854775808 := by rw [← hE]; exact end_le u v lo
        have HFR : Hid (∀ W, Calls Tryz.prog 75 #[.int .u64 lo, .agg #[.int .u64 u, .int .u64 v]] W fun e w' => e = .returned (.agg #[.int .u64 E, .int .u64 R]) ∧ Below W.heap.size W w') := Lib.hid fun W => from_any u v lo E R HG.out l0 hle hE hR W
        have HE := Lib.hid hE
        have HR := Lib.hid hR
        clear hE hR
        go_wp2_with fail
        refine (HFR.out _).mono ?_
        rintro e w4 ⟨rfl, hb4⟩
        have HW4 := Lib.hid (HW.out.call hb4)
        have hx4 := (hb4.block B (lt_of_block HX.out)).trans HX.out
        have hz4 := hb4.size
        have hB4 := lt_of_block HX.out
        have ho4 := HO.out.call hb4
        have hW5 : Below w4.heap.size w4 (w4.alloc (.cells #[.int .u64 E, .int .u64 R] 148)) := (Below.refl _ _).alloc (Nat.le_refl _) _
        obtain ⟨e0, e1c⟩ := (Two.new w4 (.int .u64 E) (.int .u64 R) 148 : Two _ _ _ _)
        have f0 := e0
        have hC : (Value.slice A k cap).ownBlock ≠ some w4.heap.size := fun e => by have := (ho4.lt _ e).2; omega
        have hCB : w4.heap.size ≠ B := by omega
        go_upto_region 9 with fail
        have hx5 := (hW5.block B (by omega)).trans hx4
        have ho5 := ho4.call hW5
        have HW5 := Lib.hid (HW4.out.call hW5)
        have hz5 := hW5.size
        have hB5 : B + 1 ≤ (w4.alloc (.cells #[.int .u64 E, .int .u64 R] 148)).heap.size := by omega
        clear hW5 hx4 ho4 HW4 hb4 hB4 f0
        generalize w4.alloc (.cells #[.int .u64 E, .int .u64 R] 148) = W at *
        generalize w4.heap.size = C at *
        have c25 := Way.c2 hx5
        have HO5 : Hid (∀ o, OwnR (W.drew.alloc o) (B + 1) (.slice A k cap) (rowC u v k)) := Lib.hid fun o => ho5.call ((Below.refl _ _).drew.alloc (Nat.le_refl _) _)
        have HBS : Hid (∀ o, B + 1 ≤ (W.drew.alloc o).heap.size) := Lib.hid fun o => by rw [World.size_alloc]; show B + 1 ≤ W.heap.size + 1; omega
        have HKL : Hid ((rowC u v k).length ≤ 100000) := Lib.hid (by rw [rowC_len]; omega)
        have HP : Hid (∀ (o : Obj) (x' : Value) (w1 : World), OwnR w1 (B + 1) x' (rowC u v k ++ [(E, R)]) → (W.drew.alloc o).grownBy w1 (Value.slice A k cap).ownBlock → ∃ A' c', x' = .slice A' (k + 1) c' ∧
            Way w (w1.setCell ⟨B, 2, none⟩ (.slice A' (k + 1) c')) B u v (rowC u v (k + 1)) ∧ w1.cell? ⟨B, 2, none⟩ = some (.slice A k cap) ∧ w1.frozen? ⟨B, 2, none⟩ = false ∧ (w1.setCell ⟨B, 2, none⟩ (.slice A' (k + 1) c')).cell? ⟨C, 0, none⟩ = some (.int .u64 E)) := Lib.hid fun o x' w1 h1 h2 => by
          have e : rowC u v k ++ [(E, R)] = rowC u v (k + 1) := by rw [rowC_succ, ← HE.out, ← HR.out, HLO.out]
          rw [e] at h1
          obtain ⟨A', c', rfl⟩ := h1.form
          rw [rowC_len] at h1 ⊢
          obtain ⟨P1, P2, P3⟩ := Way.put HW5.out hx5 hz2 ((Below.refl _ _).drew.alloc (Nat.le_refl _) o) (HO5.out o) h1 h2
          exact ⟨A', c', rfl, P1, Way.c2 P2, Way.f2 P2 2, P3 C 0 _ hCB hC (cell_later ((Below.refl _ _).drew.alloc (Nat.le_refl _) o) e0)⟩
        have c26 : ∀ o, (W.alloc o).cell? ⟨B, 2, none⟩ = some (.slice A k cap) := fun o => cell_later ((Below.refl _ _).alloc (Nat.le_refl _) o) c25
        have e06 : ∀ o, (W.alloc o).cell? ⟨C, 0, none⟩ = some (.int .u64 E) := fun o => cell_later ((Below.refl _ _).alloc (Nat.le_refl _) o) e0
        clear ho5 hx5
        go_region_law (refine step_append_cell rfl (.tmp 28) (.tmp 30) rfl (B + 1) _ (rowC u v k) W.heap.size (E, R) rfl (HO5.out _) rfl (new_two W _ _ _).1 (new_two W _ _ _).2 HKL.out (HBS.out _) ?_; intro x' w1 ho' hg'; obtain ⟨A', c', rfl, P1, P2, P3, P4⟩ := HP.out _ _ _ ho' hg'; have HP1 := Lib.hid P1; clear P1 ho' hg')
        all_goals
          go_wp2_with fail
          go_roundw
          case rel => exact ⟨k + 1, by omega, by rw [HU.out, HE.out], fun j hj => by
            by_cases e : j = k
            · subst e; have := HLO.out; omega
            · exact HL.out j (by omega), HP1.out⟩
          case measure => simp [intOf]; omega
    · go_wp2_with fail
      go_ret2
      obtain ⟨S, h1, h2⟩ := HK.out hle
      exact Or.inl ⟨B, S, k, rfl, h1, h2, HW.out.bel⟩
end Go.Proofs.YtcijflakldggaaaGreat

/-
  What package bins is to do, told as properties of its calls; a partition in memory; the laws' alive and empty.
-/
namespace Go.Proofs.YtcijflakldggaaaGreat
set_option linter.unusedVariables false
set_option linter.unusedSimpArgs false
open Go.RowKit

/-- A partition in memory, as an interface's value; R are its blocks. -/
def PtX (w : World) (V : Value) (R : Nat → Prop) : Pt → Prop
  | .cells u v n => ∃ B, V = .iface 103 (.pointer (some ⟨B, 0, none⟩)) ∧ TabX w B R u v n
  | .spans d L T => False
theorem ptx_ok {w : World} {V : Value} {R : Nat → Prop} {P : Pt} (h : PtX w V R P) : P.ok := by
  cases P with
  | cells u v n => obtain ⟨B, _, h⟩ := h; exact ⟨h.1, h.2.1, h.2.2.1⟩
  | spans d L T => exact False.elim h
theorem ptx_keep {w w' : World} {V : Value} {R : Nat → Prop} {P : Pt} (h : PtX w V R P) (hk : ∀ k, R k → w'.heap[k]? = w.heap[k]?) : PtX w' V R P := by
  cases P with
  | cells u v n => obtain ⟨B, e, h⟩ := h; exact ⟨B, e, tabx_keep h hk⟩
  | spans d L T => exact False.elim h
theorem ptx_lt {w : World} {V : Value} {R : Nat → Prop} {P : Pt} (h : PtX w V R P) : ∀ k, R k → k < w.heap.size := by
  cases P with
  | cells u v n => obtain ⟨B, e, h⟩ := h; exact tabx_lt h
  | spans d L T => exact False.elim h
theorem ptx_call {w w' : World} {V : Value} {R : Nat → Prop} {P : Pt} (h : PtX w V R P) (hb : Below w.heap.size w w') : PtX w' V R P := ptx_keep h fun k hk => hb.block k (ptx_lt h k hk)

/-- What bins that can be hold. -/
def KeptP (s : Bool) (m : Int) (K : List PairV) (T : Int) : Prop := if s = true then Hgp m K T else Lwp m K T
structure StOk (s : Bool) (m : Int) (st : St) : Prop where
  k1 : KeptP s m st.k1 st.t1
  k2 : KeptP s m st.k2 st.t2
  z : 0 ≤ st.z
  all : st.all ≤ 9223372036854775807
/-- What is loaded: rows below 0 and above it, how many of each are lost, noughts. -/
def fitsSt (P : Pt) (s : Bool) (m : Int) (L1 : List PairV) (l1 : Int) (L2 : List PairV) (l2 z : Int) : Bool :=
  (L1.all fun p => decide (0 ≤ p.1) && !(P.rep p.1 == 0)) && (L2.all fun p => decide (0 ≤ p.1) && !(P.rep p.1 == 0)) && loadB m L1 l1 && loadB m L2 l2 && decide (sumP L1 + l1 + (sumP L2 + l2) + z ≤ 9223372036854775807)
def loadSt (L1 : List PairV) (l1 : Int) (L2 : List PairV) (l2 z : Int) : St := ⟨L1, sumP L1 + l1, L2, sumP L2 + l2, z⟩
def binErr (st : St) (c : Int) : Int := lwErr st.all c
def binSt (P : Pt) (s : Bool) (m : Int) (st : St) (x c : Int) : St := if binErr st c = 0 then addSt P s m st x c else st

/-- Bn w B S R P s m st: at block B lie bins of a partition P (its blocks: R), that keep m parts on a side, and hold st; S are the blocks of their own. -/
structure BinsDoes (Bn : World → Nat → (Nat → Prop) → (Nat → Prop) → Pt → Bool → Int → St → Prop) : Prop where
  keep : ∀ (w w' : World) (B : Nat) (S R : Nat → Prop) (P : Pt) (s : Bool) (m : Int) (st : St), Bn w B S R P s m st → (∀ k, S k ∨ R k → w'.heap[k]? = w.heap[k]?) → Bn w' B S R P s m st
  lt : ∀ (w : World) (B : Nat) (S R : Nat → Prop) (P : Pt) (s : Bool) (m : Int) (st : St), Bn w B S R P s m st → ∀ k, S k ∨ R k → k < w.heap.size
  ok : ∀ (w : World) (B : Nat) (S R : Nat → Prop) (P : Pt) (s : Bool) (m : Int) (st : St), Bn w B S R P s m st → P.ok ∧ StOk s m st ∧ ∀ k, S k → ¬ R k
  new : ∀ (w : World) (V : Value) (R : Nat → Prop) (P : Pt) (s : Bool) (m : Int), PtX w V R P → 1 ≤ m → m ≤ 4096 → Calls Tryz.prog 52 #[V, .int .i64 (sideI s), .int .i64 m] w fun e w' => ∃ B S, e = .returned (.tuple #[.pointer (some ⟨B, 0, none⟩), .int .i64 0]) ∧ Bn w' B S R P s m stNil ∧ (∀ k, S k → w.heap.size ≤ k) ∧ Below w.heap.size w w'
  bad : ∀ (w : World) (V : Value) (R : Nat → Prop) (P : Pt) (sd m : Int), PtX w V R P → I64 sd → I64 m → (sd < 0 ∨ 1 < sd ∨ m < 1 ∨ 4096 < m) → Calls Tryz.prog 52 #[V, .int .i64 sd, .int .i64 m] w fun e w' => e = .returned (.tuple #[.pointer none, .int .i64 1]) ∧ Below w.heap.size w w'
  nop : ∀ (w : World) (sd m : Int), I64 sd → I64 m → Calls Tryz.prog 52 #[.nilIface, .int .i64 sd, .int .i64 m] w fun e w' => e = .returned (.tuple #[.pointer none, .int .i64 1]) ∧ Below w.heap.size w w'
  add : ∀ (w : World) (B : Nat) (S R : Nat → Prop) (P : Pt) (s : Bool) (m : Int) (st : St) (x c : Int), Bn w B S R P s m st → st.k1.length ≤ 500 → st.k2.length ≤ 500 → I64 x → Word c →
    Calls Tryz.prog 50 #[.pointer (some ⟨B, 0, none⟩), .int .i64 x, .int .u64 c] w fun e w' => ∃ S', e = .returned (.int .i64 (binErr st c)) ∧ Bn w' B S' R P s m (binSt P s m st x c) ∧ Keeps S w w' ∧ (∀ k, S' k → S k ∨ w.heap.size ≤ k)
  find : ∀ (w : World) (B : Nat) (S R : Nat → Prop) (P : Pt) (s : Bool) (m : Int) (st : St) (t : Int), Bn w B S R P s m st → st.k1.length ≤ 500 → st.k2.length ≤ 500 → Word t →
    Calls Tryz.prog 37 #[.pointer (some ⟨B, 0, none⟩), .int .u64 t] w fun e w' => e = .returned (.tuple #[.int .i64 ((findSt P s st t).getD 0), .bool (findSt P s st t).isSome]) ∧ Below w.heap.size w w'
  total : ∀ (w : World) (B : Nat) (S R : Nat → Prop) (P : Pt) (s : Bool) (m : Int) (st : St), Bn w B S R P s m st → st.k1.length ≤ 500 → st.k2.length ≤ 500 →
    Calls Tryz.prog 31 #[.pointer (some ⟨B, 0, none⟩)] w fun e w' => e = .returned (.int .u64 st.all) ∧ Below w.heap.size w w'
  lost : ∀ (w : World) (B : Nat) (S R : Nat → Prop) (P : Pt) (s : Bool) (m : Int) (st : St), Bn w B S R P s m st →
    Calls Tryz.prog 33 #[.pointer (some ⟨B, 0, none⟩)] w fun e w' => e = .returned (.tuple #[.int .u64 (st.t1 - sumP st.k1), .int .u64 (st.t2 - sumP st.k2)]) ∧ Below w.heap.size w w'
  zero : ∀ (w : World) (B : Nat) (S R : Nat → Prop) (P : Pt) (s : Bool) (m : Int) (st : St), Bn w B S R P s m st →
    Calls Tryz.prog 54 #[.pointer (some ⟨B, 0, none⟩)] w fun e w' => e = .returned (.int .u64 st.z) ∧ Below w.heap.size w w'
  rows : ∀ (w : World) (B : Nat) (S R : Nat → Prop) (P : Pt) (s : Bool) (m : Int) (st : St), Bn w B S R P s m st → st.k1.length ≤ 500 → st.k2.length ≤ 500 →
    Calls Tryz.prog 32 #[.pointer (some ⟨B, 0, none⟩)] w fun e w' => ∃ v1 v2, e = .returned (.tuple #[v1, v2]) ∧ OwnP w' w.heap.size v1 st.k1 ∧ OwnP w' w.heap.size v2 st.k2 ∧ Below w.heap.size w w'
  most : ∀ (w : World) (B : Nat) (S R : Nat → Prop) (P : Pt) (s : Bool) (m : Int) (st : St), Bn w B S R P s m st →
    Calls Tryz.prog 88 #[.pointer (some ⟨B, 0, none⟩)] w fun e w' => e = .returned (.int .i64 m) ∧ Below w.heap.size w w'
  like : ∀ (w : World) (B : Nat) (S R : Nat → Prop) (P : Pt) (s : Bool) (m : Int) (st : St) (B' : Nat) (S' R' : Nat → Prop) (P' : Pt) (s' : Bool) (m' : Int) (st' : St) (b : Bool), Bn w B S R P s m st → Bn w B' S' R' P' s' m' st' → decide (s = s' ∧ m = m') = b →
    Calls Tryz.prog 69 #[.pointer (some ⟨B, 0, none⟩), .pointer (some ⟨B', 0, none⟩)] w fun e w' => e = .returned (.bool b) ∧ Below w.heap.size w w'
  merge : ∀ (w : World) (B : Nat) (S R : Nat → Prop) (P : Pt) (s : Bool) (m : Int) (st : St) (B' : Nat) (S' R' : Nat → Prop) (st' : St), Bn w B S R P s m st → Bn w B' S' R' P s m st' → (∀ k, S k → ¬ S' k ∧ ¬ R' k) → st.k1.length ≤ 200 → st.k2.length ≤ 200 → st'.k1.length ≤ 200 → st'.k2.length ≤ 200 → st.all + st'.all ≤ 9223372036854775807 →
    Calls Tryz.prog 47 #[.pointer (some ⟨B, 0, none⟩), .pointer (some ⟨B', 0, none⟩)] w fun e w' => ∃ S2, e = .returned (.int .i64 0) ∧ Bn w' B S2 R P s m (mergeSt s m st st') ∧ Keeps S w w' ∧ (∀ k, S2 k → S k ∨ w.heap.size ≤ k)
  other : ∀ (w : World) (B : Nat) (S R : Nat → Prop) (P : Pt) (s : Bool) (m : Int) (st : St) (B' : Nat) (S' R' : Nat → Prop) (P' : Pt) (s' : Bool) (m' : Int) (st' : St), Bn w B S R P s m st → Bn w B' S' R' P' s' m' st' → (s ≠ s' ∨ m ≠ m') →
    Calls Tryz.prog 47 #[.pointer (some ⟨B, 0, none⟩), .pointer (some ⟨B', 0, none⟩)] w fun e w' => e = .returned (.int .i64 8) ∧ Below w.heap.size w w'
  load : ∀ (w : World) (B : Nat) (S R : Nat → Prop) (P : Pt) (s : Bool) (m : Int) (st : St) (a1 a2 : Option Addr) (c1 c2 : Nat) (L1 L2 : List PairV) (l1 l2 z : Int), Bn w B S R P s m st → Pairs w a1 L1 → Pairs w a2 L2 → L1.length ≤ 200 → L2.length ≤ 200 → Word l1 → Word l2 → Word z → fitsSt P s m L1 l1 L2 l2 z = true →
    Calls Tryz.prog 49 #[.pointer (some ⟨B, 0, none⟩), .agg #[.slice a1 L1.length c1, .slice a2 L2.length c2], .agg #[.int .u64 l1, .int .u64 l2], .int .u64 z] w fun e w' => ∃ S', e = .returned (.int .i64 0) ∧ Bn w' B S' R P s m (loadSt L1 l1 L2 l2 z) ∧ Keeps S w w' ∧ (∀ k, S' k → S k ∨ w.heap.size ≤ k)
  unfit : ∀ (w : World) (B : Nat) (S R : Nat → Prop) (P : Pt) (s : Bool) (m : Int) (st : St) (a1 a2 : Option Addr) (c1 c2 : Nat) (L1 L2 : List PairV) (l1 l2 z : Int), Bn w B S R P s m st → Pairs w a1 L1 → Pairs w a2 L2 → L1.length ≤ 200 → L2.length ≤ 200 → Word l1 → Word l2 → Word z → fitsSt P s m L1 l1 L2 l2 z = false →
    Calls Tryz.prog 49 #[.pointer (some ⟨B, 0, none⟩), .agg #[.slice a1 L1.length c1, .slice a2 L2.length c2], .agg #[.int .u64 l1, .int .u64 l2], .int .u64 z] w fun e w' => e = .returned (.int .i64 1) ∧ Below w.heap.size w w'
theorem BinsDoes.call {Bn : World → Nat → (Nat → Prop) → (Nat → Prop) → Pt → Bool → Int → St → Prop} (D : BinsDoes Bn) {w w' : World} {B : Nat} {S R : Nat → Prop} {P : Pt} {s : Bool} {m : Int} {st : St} (h : Bn w B S R P s m st) (hb : Below w.heap.size w w') : Bn w' B S R P s m st :=
  D.keep w w' B S R P s m st h fun k hk => hb.block k (D.lt _ _ _ _ _ _ _ _ h k hk)
theorem BinsDoes.past {Bn : World → Nat → (Nat → Prop) → (Nat → Prop) → Pt → Bool → Int → St → Prop} (D : BinsDoes Bn) {w w' : World} {B : Nat} {S R S0 : Nat → Prop} {P : Pt} {s : Bool} {m : Int} {st : St} (h : Bn w B S R P s m st) (hk : Keeps S0 w w') (hS : ∀ k, S k ∨ R k → ¬ S0 k) : Bn w' B S R P s m st :=
  D.keep w w' B S R P s m st h fun k hk' => hk.block k (D.lt _ _ _ _ _ _ _ _ h k hk') (hS k hk')

/-- Nil bins. -/
structure BinsNil : Prop where
  add : ∀ (w : World) (x c : Int), I64 x → Word c → Calls Tryz.prog 50 #[.pointer none, .int .i64 x, .int .u64 c] w fun e w' => e = .returned (.int .i64 2) ∧ Below w.heap.size w w'
  find : ∀ (w : World) (t : Int), Word t → Calls Tryz.prog 37 #[.pointer none, .int .u64 t] w fun e w' => e = .returned (.tuple #[.int .i64 0, .bool false]) ∧ Below w.heap.size w w'
  total : ∀ (w : World), Calls Tryz.prog 31 #[.pointer none] w fun e w' => e = .returned (.int .u64 0) ∧ Below w.heap.size w w'
  zero : ∀ (w : World), Calls Tryz.prog 54 #[.pointer none] w fun e w' => e = .returned (.int .u64 0) ∧ Below w.heap.size w w'
  most : ∀ (w : World), Calls Tryz.prog 88 #[.pointer none] w fun e w' => e = .returned (.int .i64 0) ∧ Below w.heap.size w w'
  like : ∀ (w : World), Calls Tryz.prog 69 #[.pointer none, .pointer none] w fun e w' => e = .returned (.bool false) ∧ Below w.heap.size w w'
  merge : ∀ (w : World), Calls Tryz.prog 47 #[.pointer none, .pointer none] w fun e w' => e = .returned (.int .i64 2) ∧ Below w.heap.size w w'
  load : ∀ (w : World), Calls Tryz.prog 49 #[.pointer none, .agg #[.slice none 0 0, .slice none 0 0], .agg #[.int .u64 0, .int .u64 0], .int .u64 0] w fun e w' => e = .returned (.int .i64 2) ∧ Below w.heap.size w w'
end Go.Proofs.YtcijflakldggaaaGreat

/-
  Walk: the landed code of runs: Find; the library's cmp.Compare and slices.BinarySearchFunc at rows of pairs.
  Walk: the landed code of runs: the pair behind a row.
  Walk: the landed code of runs: Add.
-/
namespace Go.Proofs.YtcijflakldggaaaGreat
set_option linter.unusedVariables false
set_option linter.unusedSimpArgs false
open Go.RowKit

def cmpI (x y : Int) : Int := if x < y then -1 else if y < x then 1 else 0
theorem cmpI_neg {x y : Int} : cmpI x y < 0 ↔ x < y := by unfold cmpI; split <;> (try split) <;> omega
theorem cmpI_zero {x y : Int} : cmpI x y = 0 ↔ x = y := by unfold cmpI; split <;> (try split) <;> omega

set_option maxHeartbeats 400000 in
theorem nan_any (x : Int) (w : World) : Calls Tryz.prog 142 #[.int .i64 x] w fun e w' => e = .returned (.bool false) ∧ w = w' := by
  have e1 : (!(x == x)) = false := by simp
  go_enter Tryz.func142, Tryz.ntmps142
  go_wp2_with fail
  go_ret
  exact ⟨by simp, rfl⟩

set_option maxHeartbeats 400000 in
theorem compare_int (x y : Int) (w : World) : Calls Tryz.prog 139 #[.int .i64 x, .int .i64 y] w fun e w' => e = .returned (.int .i64 (cmpI x y)) ∧ w = w' := by
  have HN := Lib.hid nan_any
  obtain ⟨r, hr⟩ : ∃ r, cmpI x y = r := ⟨_, rfl⟩
  have HR := Lib.hid hr
  rw [hr]
  clear hr
  by_cases h1 : x < y
  · have HE : Hid (-1 = r) := Lib.hid (by rw [← HR.out]; unfold cmpI; rw [if_pos h1])
    go_enter Tryz.func139, Tryz.ntmps139
    go_wp2_with (go_at_call 142; refine (HN.out _ _).mono ?_; rintro e w' ⟨rfl, rfl⟩)
    go_ret
    exact ⟨ret_int HE.out, rfl⟩
  · by_cases h2 : y < x
    · have HE : Hid (1 = r) := Lib.hid (by rw [← HR.out]; unfold cmpI; rw [if_neg h1, if_pos h2])
      go_enter Tryz.func139, Tryz.ntmps139
      go_wp2_with (go_at_call 142; refine (HN.out _ _).mono ?_; rintro e w' ⟨rfl, rfl⟩)
      go_ret
      exact ⟨ret_int HE.out, rfl⟩
    · have HE : Hid (0 = r) := Lib.hid (by rw [← HR.out]; unfold cmpI; rw [if_neg h1, if_neg h2])
      go_enter Tryz.func139, Tryz.ntmps139
      go_wp2_with (go_at_call 142; refine (HN.out _ _).mono ?_; rintro e w' ⟨rfl, rfl⟩)
      go_ret
      exact ⟨ret_int HE.out, rfl⟩

set_option maxHeartbeats 400000 in
theorem find_cmp (px pc i r : Int) (hr : cmpI px i = r) (w : World) : Calls Tryz.prog 138 #[.agg #[.int .i64 px, .int .u64 pc], .int .i64 i] w fun e w' => e = .returned (.int .i64 r) ∧ Below w.heap.size w w' := by
  subst hr
  obtain ⟨r, hr⟩ : ∃ r, cmpI px i = r := ⟨_, rfl⟩
  have HC := Lib.hid (fun W => hr ▸ compare_int px i W)
  rw [hr]
  clear hr
  go_enter Tryz.func138, Tryz.ntmps138
  go_wp2_with fail
  refine (HC.out _).mono ?_
  rintro e w' ⟨rfl, rfl⟩
  go_wp2_with fail
  go_ret
  exact ⟨rfl, (Below.refl _ _).alloc (Nat.le_refl _) _⟩

/-- The place of an index: those ahead are less, those from there on aren't. -/
theorem low_at {L : List PairV} {i : Int} {lo : Nat} (hlo : lo ≤ L.length) (h1 : ∀ t p, t < lo → L[t]? = some p → p.1 < i) (h2 : ∀ t p, lo ≤ t → L[t]? = some p → i ≤ p.1) : lowP L i = L.take lo := by
  have e : lowP L i = lowP (L.take lo) i ++ lowP (L.drop lo) i := by unfold lowP; rw [← List.filter_append, List.take_append_drop]
  rw [e]
  have e1 : lowP (L.take lo) i = L.take lo := by
    unfold lowP; rw [List.filter_eq_self]
    intro p hp
    obtain ⟨t, ht, rfl⟩ := List.getElem_of_mem hp
    rw [List.length_take] at ht
    exact decide_eq_true (h1 t (L.take lo)[t] (by omega) (by rw [List.getElem_take]; exact List.getElem?_eq_getElem (by omega)))
  have e2 : lowP (L.drop lo) i = [] := by
    unfold lowP; rw [List.filter_eq_nil_iff]
    intro p hp
    obtain ⟨t, ht, rfl⟩ := List.getElem_of_mem hp
    rw [List.length_drop] at ht
    have := h2 (lo + t) (L.drop lo)[t] (by omega) (by rw [List.getElem_drop]; exact List.getElem?_eq_getElem (by omega))
    simp only [decide_eq_true_eq]; omega
  rw [e1, e2, List.append_nil]
theorem is_at {L : List PairV} {i : Int} {lo : Nat} (hg : GoodP L) (h1 : ∀ t p, t < lo → L[t]? = some p → p.1 < i) (h2 : ∀ t p, lo ≤ t → L[t]? = some p → i ≤ p.1) : isP L i = ((L[lo]?).map fun p => p.1 == i).getD false := by
  cases hx : L[lo]? with
  | none =>
    have hl : L.length ≤ lo := List.getElem?_eq_none_iff.1 hx
    show isP L i = false
    unfold isP; rw [List.any_eq_false]
    intro p hp
    obtain ⟨t, ht, rfl⟩ := List.getElem_of_mem hp
    have := h1 t _ (by omega) (List.getElem?_eq_getElem ht)
    simp; omega
  | some q =>
    show isP L i = (q.1 == i)
    by_cases hq : q.1 = i
    · rw [hq]
      have : isP L i = true := by unfold isP; rw [List.any_eq_true]; exact ⟨q, List.mem_of_getElem? hx, by simpa using hq⟩
      rw [this]; simp
    · have e : (q.1 == i) = false := by simpa using hq
      rw [e]; unfold isP; rw [List.any_eq_false]
      intro p hp
      obtain ⟨t, ht, rfl⟩ := List.getElem_of_mem hp
      have hqi := h2 lo q (Nat.le_refl _) hx
      rcases Nat.lt_trichotomy t lo with h | h | h
      · have := h1 t _ h (List.getElem?_eq_getElem ht); simp; omega
      · subst h; rw [List.getElem?_eq_getElem ht] at hx; rw [Option.some.inj hx]; simpa using hq
      · have hlo : lo < L.length := by omega
        have e2 := (List.pairwise_iff_getElem.1 hg.2) lo t hlo ht h
        rw [List.getElem?_eq_getElem hlo] at hx
        rw [Option.some.inj hx] at e2
        simp; omega

set_option maxRecDepth 100000 in
set_option maxHeartbeats 1000000 in
theorem search_any (w : World) (A : Option Addr) (cap : Nat) (L : List PairV) (i : Int) (n : Nat) (b : Bool) (h : Pairs w A L) (hl : L.length ≤ 100000) (hg : GoodP L) (hi : I64 i) (hn : (lowP L i).length = n) (hb : isP L i = b) :
    Calls Tryz.prog 137 #[.slice A L.length cap, .int .i64 i, .func (.func 138) #[] #[]] w fun e w' => e = .returned (.tuple #[.int .i64 n, .bool b]) ∧ Below w.heap.size w w' := by
  have HI := Lib.hid h
  have HN := Lib.hid hn
  have HB := Lib.hid hb
  have HG := Lib.hid hg
  have HS : Hid (∀ (a b : Nat) (p q : PairV), a ≤ b → L[a]? = some p → L[b]? = some q → p.1 ≤ q.1) := Lib.hid (by
    intro a b p q hab ha hb
    rcases Nat.lt_or_eq_of_le hab with h1 | h1
    · have hbl : b < L.length := by
        rcases Nat.lt_or_ge b L.length with h2 | h2
        · exact h2
        · rw [List.getElem?_eq_none h2] at hb; cases hb
      have e2 := (List.pairwise_iff_getElem.1 hg.2) a b (by omega) hbl h1
      rw [List.getElem?_eq_getElem (by omega)] at ha
      rw [List.getElem?_eq_getElem hbl] at hb
      rw [Option.some.inj ha, Option.some.inj hb] at e2
      omega
    · subst h1; rw [ha] at hb; rw [Option.some.inj hb]; exact Int.le_refl _)
  clear h hg hn hb
  have HF := Lib.hid find_cmp
  go_enter Tryz.func137, Tryz.ntmps137
  go_wp2_with fail
  go_loopw [9, 10] (fun a c wr => ∃ lo hi : Nat, a = .int .i64 lo ∧ c = .int .i64 hi ∧ lo ≤ hi ∧ hi ≤ L.length ∧ (∀ t p, t < lo → L[t]? = some p → p.1 < i) ∧ (∀ t p, hi ≤ t → L[t]? = some p → i ≤ p.1) ∧ Below w.heap.size w wr) (fun a c _ => (intOf c).toNat - (intOf a).toNat)
  case atStart => exact ⟨0, L.length, rfl, rfl, Nat.zero_le _, Nat.le_refl _, fun t p ht => absurd ht (Nat.not_lt_zero _), fun t p ht hp => (by rw [List.getElem?_eq_none ht] at hp; cases hp), Below.refl _ _⟩
  case round =>
    obtain ⟨lo, hi', rfl, rfl, hlh, hhi, h1, h2, hb2⟩ := hrel
    have H1 := Lib.hid h1
    have H2 := Lib.hid h2
    have hbs := hb2.size
    clear h1 h2
    by_cases hlt : (lo : Int) < (hi' : Int)
    · obtain ⟨m, hm⟩ : ∃ m : Nat, m = (lo + hi') / 2 := ⟨_, rfl⟩
      have hm1 : lo ≤ m := by omega
      have hm2 : m < hi' := by omega
      have hmi : ((lo : Int) + (hi' : Int)) / 2 = (m : Int) := by omega
      have mm : (m : Int) < L.length := by omega
      have mm' : m < L.length := by omega
      have hxm : L[m]? = some L[m] := List.getElem?_eq_getElem mm'
      generalize hit : L[m] = p at *
      obtain ⟨px, pc⟩ := p
      obtain ⟨b0, off, rfl, hbl, c0, c1⟩ := (HI.out.call hb2).at_ m _ hxm
      simp only at c0 c1
      have HXM := Lib.hid hxm
      clear hm hxm hit
      obtain ⟨r, hr⟩ : ∃ r, cmpI px i = r := ⟨_, rfl⟩
      have HR := Lib.hid hr
      by_cases hc : px < i
      · have hr0 : r < 0 := by rw [← hr]; exact cmpI_neg.2 hc
        clear hr
        go_wp2_with fail
        refine (HF.out px pc i r HR.out _).mono ?_
        rintro e w1 ⟨rfl, hb3⟩
        have hb4 := hb2.trans (hb3.mono hbs)
        clear hb3 c0 c1
        go_wp2_with fail
        go_roundw
        case rel => exact ⟨m + 1, hi', by go_num, rfl, by omega, hhi, fun t p ht hp => (by have h5 := HS.out t m p _ (by omega) hp HXM.out; simp only at h5; omega), H2.out, hb4⟩
        case measure => simp [intOf]; omega
      · have hr0 : ¬ r < 0 := by rw [← hr]; exact fun h => hc (cmpI_neg.1 h)
        clear hr
        go_wp2_with fail
        refine (HF.out px pc i r HR.out _).mono ?_
        rintro e w1 ⟨rfl, hb3⟩
        have hb4 := hb2.trans (hb3.mono hbs)
        clear hb3 c0 c1
        go_wp2_with fail
        go_roundw
        case rel => exact ⟨lo, m, rfl, by go_num, by omega, by omega, H1.out, fun t p ht hp => (by have h5 := HS.out m t _ p ht HXM.out hp; simp only at h5; omega), hb4⟩
        case measure => simp [intOf]; omega
    · obtain rfl : hi' = lo := by omega
      have HLO : Hid (hi' = n) := Lib.hid (by
        rw [← HN.out, low_at hhi H1.out H2.out, List.length_take]; omega)
      have HIS := Lib.hid (is_at HG.out H1.out H2.out)
      by_cases hl2 : hi' < L.length
      · have kk : (hi' : Int) < L.length := by omega
        have hxm : L[hi']? = some L[hi'] := List.getElem?_eq_getElem hl2
        generalize hit : L[hi'] = p at *
        obtain ⟨px, pc⟩ := p
        obtain ⟨b0, off, rfl, hbl, c0, c1⟩ := (HI.out.call hb2).at_ hi' _ hxm
        simp only at c0 c1
        have HE : Hid ((px == i) = b) := Lib.hid (by rw [← HB.out, HIS.out, hxm]; rfl)
        clear hxm hit
        obtain ⟨r, hr⟩ : ∃ r, cmpI px i = r := ⟨_, rfl⟩
        have HR := Lib.hid hr
        by_cases hc : px = i
        · have hr0 : r = 0 := by rw [← hr]; exact cmpI_zero.2 hc
          have HB1 : Hid (true = b) := Lib.hid (by rw [← HE.out]; simp [hc])
          have HC := Lib.hid hc
          subst hr0
          clear hr hc
          go_wp2_with fail
          refine (HF.out px pc i 0 HR.out _).mono ?_
          rintro e w1 ⟨rfl, hb3⟩
          have hb4 := hb2.trans (hb3.mono hbs)
          go_wp2_with fail
          go_ret2
          exact ⟨ret_pair (by rw [HLO.out]) HB1.out, hb4⟩
        · have hr0 : (r == 0) = false := by
            have : r ≠ 0 := by rw [← hr]; exact fun h => hc (cmpI_zero.1 h)
            simpa using this
          have HB1 : Hid (false = b) := Lib.hid (by rw [← HE.out]; simp [hc])
          clear hr hc
          go_wp2_with fail
          refine (HF.out px pc i r HR.out _).mono ?_
          rintro e w1 ⟨rfl, hb3⟩
          have hb4 := hb2.trans (hb3.mono hbs)
          go_wp2_with fail
          go_ret2
          exact ⟨ret_pair (by rw [HLO.out]) HB1.out, hb4⟩
      · have kk : ¬ (hi' : Int) < L.length := by omega
        have HB1 : Hid (false = b) := Lib.hid (by rw [← HB.out, HIS.out, List.getElem?_eq_none (by omega)]; rfl)
        go_wp2_with fail
        go_ret2
        exact ⟨ret_pair (by rw [HLO.out]) HB1.out, hb2⟩

set_option maxHeartbeats 400000 in
theorem find_big (w : World) (A : Option Addr) (cap : Nat) (L : List PairV) (i : Int) (n : Nat) (b : Bool) (h : Pairs w A L) (hl : L.length ≤ 100000) (hg : GoodP L) (hi : I64 i) (hn : (lowP L i).length = n) (hb : isP L i = b) :
    Calls Tryz.prog 132 #[.slice A L.length cap, .int .i64 i] w fun e w' => e = .returned (.tuple #[.int .i64 n, .bool b]) ∧ Below w.heap.size w w' := by
  have H := Lib.hid (search_any w A cap L i n b h hl hg hi hn hb)
  clear h hg hn hb
  go_enter Tryz.func132, Tryz.ntmps132
  go_wp2_with fail
  refine H.out.mono ?_
  rintro e w' ⟨rfl, hb⟩
  go_wp2_with fail
  go_ret2
  exact ⟨rfl, hb⟩
theorem find_does : FindDoes := fun w A cap L i n b h hl hg hi hn hb => find_big w A cap L i n b h (by omega) hg hi hn hb
end Go.Proofs.YtcijflakldggaaaGreat

namespace Go.Proofs.YtcijflakldggaaaGreat
set_option linter.unusedVariables false
set_option linter.unusedSimpArgs false
open Go.RowKit

theorem grown_alloc {a b : World} {r : Option Nat} (h : a.grownBy b r) (o : Obj) : a.grownBy (b.alloc o) r :=
  ⟨h.os, h.tape, h.output, Nat.le_trans h.size (by simp), fun i hi hr => (heap_alloc_old _ _ (Nat.lt_of_lt_of_le hi h.size)).trans (h.block i hi hr)⟩
theorem grown_own {a b c : World} {r r' : Option Nat} (h : a.grownBy b r) (k : b.grownBy c r') (hr : ∀ g, r' = some g → a.heap.size ≤ g) : a.grownBy c r :=
  ⟨k.os.trans h.os, k.tape.trans h.tape, k.output.trans h.output, Nat.le_trans h.size k.size, fun i hi hne => (k.block i (Nat.lt_of_lt_of_le hi h.size) (fun e => by have := hr i e.symm; omega)).trans (h.block i hi hne)⟩
theorem grown_call {a b c : World} {r : Option Nat} (h : a.grownBy b r) (k : Below b.heap.size b c) : a.grownBy c r :=
  ⟨k.os.trans h.os, k.tape.trans h.tape, k.output.trans h.output, Nat.le_trans h.size k.size, fun i hi hne => (k.block i (Nat.lt_of_lt_of_le hi h.size)).trans (h.block i hi hne)⟩
theorem grown_cell {a b : World} {B g o : Nat} {v : Value} (h : a.grownBy b (some B)) (hne : g ≠ B) (hc : a.cell? ⟨g, o, none⟩ = some v) : b.cell? ⟨g, o, none⟩ = some v := by
  have hlt := World.block_lt_of_cell? (a := ⟨g, o, none⟩) a hc
  exact (World.cell?_of_block (a := ⟨g, o, none⟩) (h.block g hlt (fun e => hne (Option.some.inj e)))).trans hc
theorem Eye.grown {w w' : World} {B : Nat} {s : ByteArray} {bad : Bool} {r : Option Nat} (h : Eye w B s bad) (hg : w.grownBy w' r) (hne : r ≠ some B) : Eye w' B s bad := by
  have hlt := h.two.lt
  have hb := hg.block B hlt (fun e => hne e.symm)
  exact ⟨⟨(World.cell?_of_block (a := ⟨B, 0, none⟩) hb).trans h.two.c0, (World.cell?_of_block (a := ⟨B, 1, none⟩) hb).trans h.two.c1, (World.frozen?_of_block (a := ⟨B, 0, none⟩) hb).trans h.two.f0, (World.frozen?_of_block (a := ⟨B, 1, none⟩) hb).trans h.two.f1⟩, h.non⟩
theorem Eye.lt {w : World} {B : Nat} {s : ByteArray} {bad : Bool} (h : Eye w B s bad) : B < w.heap.size := h.two.lt
theorem Eye.alloc {w : World} {B : Nat} {s : ByteArray} {bad : Bool} (h : Eye w B s bad) (o : Obj) : Eye (w.alloc o) B s bad := h.call ((Below.refl _ _).alloc (Nat.le_refl _) _)
theorem nS_le (s : ByteArray) (bad : Bool) (m : Nat) (n : Nat) (h : s.size ≤ n) : (nS s bad m).size ≤ n := Nat.le_trans (nS_size s bad m) h

/-- A result that lies in a cell of two. -/
theorem ret_agg {a b c d : Int} (h : a = c) (h' : b = d) : Ending.returned (.agg #[.int .i64 a, .int .u64 b]) = .returned (.agg #[.int .i64 c, .int .u64 d]) := by rw [h, h']

/-- The index so far behind one. -/
def nextI (q v : Int) : Int := (q + 1 + v + 9223372036854775808) % 18446744073709551616 - 9223372036854775808

end Go.Proofs.YtcijflakldggaaaGreat

namespace Go.Proofs.YtcijflakldggaaaGreat
set_option linter.unusedVariables false
set_option linter.unusedSimpArgs false
open Go.RowKit

theorem isP_app (A B : List PairV) (i : Int) : isP (A ++ B) i = (isP A i || isP B i) := by unfold isP; rw [List.any_append]
theorem isP_no {L : List PairV} {i : Int} (h : ∀ p, p ∈ L → p.1 ≠ i) : isP L i = false := by
  unfold isP; rw [List.any_eq_false]; intro p hp; simpa using h p hp
theorem is_part {L : List PairV} {i : Int} (h : isP (lowP L i) i = false ∧ isP (highP L i) i = false := ⟨isP_no fun p hp => by have := (lowP_mem hp).2; omega, isP_no fun p hp => by have := (highP_mem hp).2; omega⟩) : isP (lowP L i ++ highP L i) i = false ∧ ∀ m, isP (lowP L i ++ ((i, m) :: highP L i)) i = true := by
  refine ⟨by rw [isP_app, h.1, h.2]; rfl, fun m => ?_⟩
  rw [isP_app]; unfold isP; simp
theorem cellsQ_set (A B : List PairV) (i m m' : Int) : (cellsQ (A ++ (i, m) :: B)).set (A.length * 2 + 1) (.int .u64 m') = cellsQ (A ++ (i, m') :: B) := by
  rw [cellsQ_app, cellsQ_app, cellsQ_cons, cellsQ_cons, List.set_append_right _ _ (by rw [cellsQ_len]; omega), cellsQ_len]
  rw [show A.length * 2 + 1 - A.length * 2 = 1 by omega]
  rfl

theorem pairs_low {w : World} {A : Option Addr} {lo hi : List PairV} (h : Pairs w A (lo ++ hi)) : Pairs w A lo :=
  ⟨fun p hp => h.ok p (List.mem_append_left _ hp), fun j p hj => h.at_ j p (by
    have hl : j < lo.length := by
      rcases Nat.lt_or_ge j lo.length with h1 | h1
      · exact h1
      · rw [List.getElem?_eq_none h1] at hj; cases hj
    rw [List.getElem?_append_left hl]; exact hj)⟩
theorem pairs_high {w : World} {g : Nat} {lo hi : List PairV} (h : Pairs w (some ⟨g, 0, none⟩) (lo ++ hi)) (n : Nat) (hn : lo.length = n) : Pairs w (some ⟨g, n * 2, none⟩) hi :=
  ⟨fun p hp => h.ok p (List.mem_append_right _ hp), fun j p hj => by
    obtain ⟨b, off, e, hb, c0, c1⟩ := h.at_ (n + j) p (by rw [List.getElem?_append_right (by omega), hn, Nat.add_sub_cancel_left]; exact hj)
    obtain ⟨rfl, rfl⟩ : g = b ∧ 0 = off := by
      have := Option.some.inj e
      exact ⟨(Addr.mk.inj this).1, (Addr.mk.inj this).2.1⟩
    refine ⟨g, n * 2, rfl, hb, ?_, ?_⟩
    · rw [← c0]; congr 2; omega
    · rw [← c1]; congr 2; omega⟩

end Go.Proofs.YtcijflakldggaaaGreat

/-
  How package strip's row lies in memory (anywhere in its block); walk: runs.Add of such a row.
-/
namespace Go.Proofs.YtcijflakldggaaaGreat
set_option linter.unusedVariables false
set_option linter.unusedSimpArgs false
open Go.RowKit

theorem set_cells8 {w : World} {b : Nat} {cs : Array Value} {t : TypeId} (h : w.heap[b]? = some (.cells cs t (0, 0))) (o : Nat) (u : Value) : (w.setCell ⟨b, o, none⟩ u).heap[b]? = some (.cells (cs.setIfInBounds o u) t (0, 0)) := by
  have hlt := lt_of_block h
  have h' : w.heap[b] = .cells cs t (0, 0) := by simpa [Array.getElem?_eq_getElem hlt] using h
  show (w.heap.modify b _)[b]? = _
  rw [Array.getElem?_eq_getElem (by simpa using hlt), Array.getElem_modify_self, h']
  rfl
theorem free8 {w : World} {b : Nat} {cs : Array Value} {t : TypeId} (h : w.heap[b]? = some (.cells cs t (0, 0))) (o : Nat) : w.frozen? ⟨b, o, none⟩ = false := by simp [World.frozen?, h]

/-- A row of pairs that may be written; its first pair may lie anywhere in its block. -/
structure Slab (w : World) (A : Option Addr) (cap : Nat) (L : List PairV) : Prop where
  pairs : Pairs w A L
  fit : L.length ≤ cap
  blk : (A = none ∧ cap = 0) ∨ ∃ g off cs, A = some ⟨g, off, none⟩ ∧ w.heap[g]? = some (.cells cs 114 (0, 0))
  room : ∀ g off cs, A = some ⟨g, off, none⟩ → w.heap[g]? = some (.cells cs 114 (0, 0)) → off + cap * 2 ≤ cs.size
  capm : cap ≤ 9223372036854775807
/-- The block of such a row. -/
def blkA (A : Option Addr) : Option Nat := A.map fun a => a.block
theorem blk_slice (A : Option Addr) (n cap : Nat) : (Value.slice A n cap).ownBlock = blkA A := by cases A <;> rfl
theorem Slab.nil (w : World) : Slab w none 0 [] := ⟨Pairs.nil w, by simp, Or.inl ⟨rfl, rfl⟩, fun g off cs e => (by cases e), by omega⟩
theorem Slab.form {w : World} {A : Option Addr} {cap : Nat} {L : List PairV} (h : Slab w A cap L) : (A = none ∧ L = [] ∧ cap = 0) ∨ ∃ g off, A = some ⟨g, off, none⟩ := by
  rcases h.blk with ⟨rfl, rfl⟩ | ⟨g, off, cs, rfl, _⟩
  · exact Or.inl ⟨rfl, List.eq_nil_of_length_eq_zero (by have := h.fit; omega), rfl⟩
  · exact Or.inr ⟨g, off, rfl⟩
theorem Slab.lt {w : World} {A : Option Addr} {cap : Nat} {L : List PairV} (h : Slab w A cap L) {k : Nat} (hk : blkA A = some k) : k < w.heap.size := by
  rcases h.blk with ⟨rfl, _⟩ | ⟨g, off, cs, rfl, hb⟩
  · cases hk
  · cases hk; exact lt_of_block hb
theorem Slab.keep {w w' : World} {A : Option Addr} {cap : Nat} {L : List PairV} (h : Slab w A cap L) (hk : ∀ k, blkA A = some k → w'.heap[k]? = w.heap[k]?) : Slab w' A cap L := by
  refine ⟨⟨h.pairs.ok, fun i p hi => ?_⟩, h.fit, ?_, fun g off cs e hb => h.room g off cs e (by rw [← hk g (by rw [e]; rfl)]; exact hb), h.capm⟩
  · obtain ⟨b, off, rfl, hlt, c0, c1⟩ := h.pairs.at_ i p hi
    have hb := hk b rfl
    refine ⟨b, off, rfl, ?_, (World.cell?_of_block (a := ⟨b, off + i * 2, none⟩) hb).trans c0, (World.cell?_of_block (a := ⟨b, off + i * 2 + 1, none⟩) hb).trans c1⟩
    exact World.block_lt_of_cell? (a := ⟨b, off + i * 2, none⟩) _ ((World.cell?_of_block (a := ⟨b, off + i * 2, none⟩) hb).trans c0)
  · rcases h.blk with h0 | ⟨g, off, cs, rfl, hb⟩
    · exact Or.inl h0
    · exact Or.inr ⟨g, off, cs, rfl, (hk g rfl).trans hb⟩
theorem Slab.call {w w' : World} {A : Option Addr} {cap : Nat} {L : List PairV} (h : Slab w A cap L) (hb : Below w.heap.size w w') : Slab w' A cap L := h.keep fun k hk => hb.block k (h.lt hk)
theorem Slab.of_own {w : World} {base : Nat} {v : Value} {L : List PairV} (h : OwnP w base v L) (ok : ∀ p, p ∈ L → okP p) : ∃ A cap, v = .slice A L.length cap ∧ Slab w A cap L ∧ ∀ k, blkA A = some k → base ≤ k := by
  obtain ⟨A, cap, rfl, hP⟩ := h.pairs ok
  refine ⟨A, cap, rfl, ?_, fun k hk => (h.lt k (by rw [blk_slice]; exact hk)).1⟩
  rcases h.2 with ⟨e, e0⟩ | ⟨g, cap', cur, e, _, hg, hnc, hcm, hcz, _⟩
  · injection e with e1 e2 e3
    exact ⟨hP, by omega, Or.inl ⟨e1, e3⟩, fun g off cs e => (by rw [e1] at e; cases e), by omega⟩
  · injection e with e1 _ e3
    subst e1
    exact ⟨hP, by omega, Or.inr ⟨g, 0, cur, rfl, hg⟩, (fun g' off' cs' e hg' => by
      obtain ⟨rfl, rfl, _⟩ := Addr.mk.inj (Option.some.inj e)
      rw [hg] at hg'
      obtain ⟨rfl, _⟩ := Obj.cells.inj (Option.some.inj hg')
      omega), by unfold maxLen at hcm; omega⟩
/-- A count is written. -/
theorem Slab.put {w : World} {g off cap n : Nat} {L lo hi : List PairV} {i m m' : Int} (h : Slab w (some ⟨g, off, none⟩) cap L) (hp : lo ++ ((i, m) :: hi) = L) (hn : lo.length = n) (hi' : I64 i) (hm : Word m') :
    Slab (w.setCell ⟨g, off + n * 2 + 1, none⟩ (.int .u64 m')) (some ⟨g, off, none⟩) cap (lo ++ ((i, m') :: hi)) := by
  subst hn hp
  have hsz : (lo ++ ((i, m') :: hi)).length = (lo ++ ((i, m) :: hi)).length := by simp
  refine ⟨⟨fun p hp' => ?_, fun j p hj => ?_⟩, by rw [hsz]; exact h.fit, ?_, ?_, h.capm⟩
  · rcases List.mem_append.1 hp' with h1 | h1
    · exact h.pairs.ok p (List.mem_append_left _ h1)
    · rcases List.mem_cons.1 h1 with rfl | h2
      · exact ⟨hi', hm⟩
      · exact h.pairs.ok p (List.mem_append_right _ (List.mem_cons_of_mem _ h2))
  · obtain ⟨b0, o0, e0, hlt, x0, x1⟩ := h.pairs.at_ lo.length (i, m) (by rw [List.getElem?_append_right (Nat.le_refl _), Nat.sub_self]; rfl)
    obtain ⟨rfl, rfl, _⟩ := Addr.mk.inj (Option.some.inj e0)
    by_cases hjn : j = lo.length
    · subst hjn
      rw [List.getElem?_append_right (Nat.le_refl _), Nat.sub_self] at hj
      obtain rfl := Option.some.inj hj
      refine ⟨g, off, rfl, by simpa [World.setCell] using hlt, ?_, World.cell?_setCell_same _ _ _ x1⟩
      rw [World.cell?_setCell_other _ _ _ _ (two_off (by omega))]; exact x0
    · have hj' : (lo ++ ((i, m) :: hi))[j]? = some p := by
        rcases Nat.lt_or_ge j lo.length with h1 | h1
        · rw [List.getElem?_append_left h1] at hj ⊢; exact hj
        · rw [List.getElem?_append_right h1] at hj ⊢
          obtain ⟨t, ht⟩ : ∃ t, j - lo.length = t + 1 := ⟨j - lo.length - 1, by omega⟩
          rw [ht] at hj ⊢
          exact hj
      obtain ⟨b0, o0, e0, hlt', c0, c1⟩ := h.pairs.at_ j p hj'
      obtain ⟨rfl, rfl, _⟩ := Addr.mk.inj (Option.some.inj e0)
      refine ⟨g, off, rfl, by simpa [World.setCell] using hlt, ?_, ?_⟩
      · rw [World.cell?_setCell_other _ _ _ _ (two_off (by omega))]; exact c0
      · rw [World.cell?_setCell_other _ _ _ _ (two_off (by omega))]; exact c1
  · rcases h.blk with ⟨e, _⟩ | ⟨g', off', cs, e, hb⟩
    · cases e
    · obtain ⟨rfl, rfl, _⟩ := Addr.mk.inj (Option.some.inj e)
      exact Or.inr ⟨g, off, _, rfl, set_cells8 hb _ _⟩
  · intro g2 off2 cs2 e2 hb2
    obtain ⟨rfl, rfl, _⟩ := Addr.mk.inj (Option.some.inj e2)
    rcases h.blk with ⟨e, _⟩ | ⟨g', off', cs, e, hb⟩
    · cases e
    · obtain ⟨rfl, rfl, _⟩ := Addr.mk.inj (Option.some.inj e)
      have hr := h.room _ _ cs rfl hb
      rw [set_cells8 hb] at hb2
      obtain ⟨rfl, _⟩ := Obj.cells.inj (Option.some.inj hb2)
      simpa using hr

/-- What has become of a row. -/
def AddedV (w : World) (A : Option Addr) (L : List PairV) (e : Ending) (w' : World) : Prop :=
  ∃ A' cap', e = .returned (.slice A' L.length cap') ∧ Slab w' A' cap' L ∧ w.grownBy w' (blkA A) ∧ (A' = A ∨ ∀ k, blkA A' = some k → w.heap.size ≤ k)

theorem pairs_from {w : World} {g off : Nat} {lo hi : List PairV} (h : Pairs w (some ⟨g, off, none⟩) (lo ++ hi)) (n : Nat) (hn : lo.length = n) : Pairs w (some ⟨g, off + n * 2, none⟩) hi := by
  have h1 := h.shift n
  rw [List.drop_append_of_le_length (by omega), List.drop_of_length_le (by omega), List.nil_append] at h1
  exact h1

end Go.Proofs.YtcijflakldggaaaGreat
/-
  Walk: the library's slices.Insert of one pair into a row of pairs that may be written: in its own room, or in a new block.
-/
namespace Go.Proofs.YtcijflakldggaaaGreat
set_option linter.unusedVariables false
set_option linter.unusedSimpArgs false
open Go.RowKit

/-- Putting v between A and H, where there is room behind. -/
theorem shift_in {A H R v : List Value} {a h : Nat} (hA : A.length = a) (hH : H.length = h) (hv : v.length = 2) :
    (((A ++ H ++ R).take (a + 2) ++ H ++ (A ++ H ++ R).drop (a + 2 + h)).take a) ++ v ++ (((A ++ H ++ R).take (a + 2) ++ H ++ (A ++ H ++ R).drop (a + 2 + h)).drop (a + 2)) = A ++ v ++ H ++ R.drop 2 ∨ (A ++ H ++ R).length < a + 2 := by
  by_cases hl : (A ++ H ++ R).length < a + 2
  · exact Or.inr hl
  left
  subst hA hH
  have h1 : ((A ++ H ++ R).take (A.length + 2)).length = A.length + 2 := by rw [List.length_take]; omega
  have h2 : (A ++ H ++ R).drop (A.length + 2 + H.length) = R.drop 2 := by
    rw [List.drop_append, List.drop_of_length_le (by rw [List.length_append]; omega), List.nil_append, List.length_append]
    congr 1; omega
  have hT : List.take A.length ((A ++ H ++ R).take (A.length + 2)) = A := by
    rw [List.take_take, Nat.min_eq_left (by omega), List.append_assoc, List.take_left' rfl]
  rw [h2]
  generalize (A ++ H ++ R).take (A.length + 2) = T at *
  rw [List.append_assoc T, List.take_append_of_le_length (by omega), hT, List.drop_left' h1]
  simp
theorem shift_new {A H W v : List Value} {a h : Nat} (hA : A.length = a) (hH : H.length = h) (hv : v.length = 2) :
    ((((A ++ W).take a ++ v ++ (A ++ W).drop (a + 2)).take (a + 2)) ++ H ++ (((A ++ W).take a ++ v ++ (A ++ W).drop (a + 2)).drop (a + 2 + h))) = A ++ v ++ H ++ W.drop (2 + h) := by
  subst hA hH
  have h1 : (A ++ W).take A.length = A := by rw [List.take_append, List.take_length, Nat.sub_self, List.take_zero, List.append_nil]
  have h2 : (A ++ W).drop (A.length + 2) = W.drop 2 := by
    rw [List.drop_append, List.drop_of_length_le (by omega), List.nil_append]; congr 1; omega
  have h3 : (A ++ v).length = A.length + 2 := by rw [List.length_append]; omega
  rw [h1, h2, List.take_append, List.drop_append, List.take_of_length_le (by omega), h3, Nat.sub_self, List.take_zero, List.append_nil, List.drop_of_length_le (by omega), List.nil_append, List.drop_drop]
  congr 2; omega

/-- What a block's cells say of a row in it, and back. -/
theorem pairs_cells {w : World} {g off : Nat} {cs : Array Value} {L : List PairV} (h : Pairs w (some ⟨g, off, none⟩) L) (hg : w.heap[g]? = some (.cells cs 114 (0, 0))) (hl : off + L.length * 2 ≤ cs.size) :
    cs.toList = cs.toList.take off ++ cellsQ L ++ cs.toList.drop (off + L.length * 2) := by
  have hQ := cellsQ_len L
  have key : (cs.toList.drop off).take (L.length * 2) = cellsQ L := by
    apply List.ext_getElem?
    intro j
    by_cases hj : j < L.length * 2
    · rw [List.getElem?_take_of_lt hj, List.getElem?_drop]
      have hq := List.getElem?_eq_getElem (l := L) (i := j / 2) (by omega)
      obtain ⟨b', off', e, _, c0, c1⟩ := h.at_ (j / 2) _ hq
      obtain ⟨rfl, rfl, _⟩ := Addr.mk.inj (Option.some.inj e)
      obtain ⟨q0, q1⟩ := cellsQ_at L (j / 2) _ hq
      rw [Joins.cell_of_block hg] at c0 c1
      rcases Nat.mod_two_eq_zero_or_one j with h2 | h2
      · have e1 : j / 2 * 2 = j := by omega
        rw [e1] at q0 c0; rw [q0, ← c0]; simp
      · have e1 : j / 2 * 2 + 1 = j := by omega
        rw [Nat.add_assoc, e1] at c1; rw [e1] at q1; rw [q1, ← c1]; simp
    · rw [List.getElem?_eq_none (by rw [List.length_take]; omega), List.getElem?_eq_none (by omega)]
  rw [List.append_assoc, ← key]
  have h2 : (cs.toList.drop off).drop (L.length * 2) = cs.toList.drop (off + L.length * 2) := by rw [List.drop_drop]
  rw [← h2, List.take_append_drop, List.take_append_drop]
theorem cells_pairs {w : World} {g off : Nat} {cs : Array Value} {L : List PairV} (ok : ∀ p, p ∈ L → okP p) (hg : w.heap[g]? = some (.cells cs 114 (0, 0))) {P R : List Value} (hP : P.length = off) (hc : cs.toList = P ++ cellsQ L ++ R) :
    Pairs w (some ⟨g, off, none⟩) L := by
  refine ⟨ok, fun i p hi => ⟨g, off, rfl, lt_of_block hg, ?_, ?_⟩⟩
  all_goals
    obtain ⟨q0, q1⟩ := cellsQ_at L i p hi
    have hlt : i < L.length := by
      rcases Nat.lt_or_ge i L.length with h1 | h1
      · exact h1
      · rw [List.getElem?_eq_none h1] at hi; cases hi
    have hQ := cellsQ_len L
    rw [Joins.cell_of_block hg]
    have e : ∀ o, cs[o]? = cs.toList[o]? := fun o => Array.getElem?_toList.symm
    rw [e, hc, List.append_assoc, List.getElem?_append_right (by omega), List.getElem?_append_left (by omega)]
  · rw [show off + i * 2 - P.length = i * 2 by omega]; exact q0
  · rw [show off + i * 2 + 1 - P.length = i * 2 + 1 by omega]; exact q1

/-- copy at rows of pairs: all is read before anything is written. -/
theorem run_copy_pairs (w : World) (ty : TypeId) (g o dLen dCap : Nat) (a : Addr) (sLen sCap : Nat) (cur : Array Value) (t : TypeId) (k : Nat) (cs : List Value)
    (hg : w.heap[g]? = some (.cells cur t (0, 0))) (hk : k = Nat.min sLen dLen) (hn : cs.length = k * 2)
    (hsrc : ∀ j v, cs[j]? = some v → w.cell? (a.add j) = some v) (hfit : o + cs.length ≤ cur.size) (h1 : ∀ v ∈ cs, v.oneCell' = true) :
    (Builtin.copy_ #[72, 72] ty #[.slice (some ⟨g, o, none⟩) dLen dCap, .slice (some a) sLen sCap]).run Tryz.prog w =
      .ok (goInt k) (w.setRow g (cur.toList.take o ++ cs ++ cur.toList.drop (o + cs.length)).toArray) := by
  have hl := run_loadCells_list (P := Tryz.prog) w a cs hsrc
  have hst := run_storeCells_at Tryz.prog g o t cs 0 cur w hg (by simpa using hfit) h1
  obtain ⟨i0, hi, hz0, hz1, hz2⟩ := info_parts Tryz.infoPair
  simp [Builtin.copy_, run_underlying Tryz.underlying72, Builtin.lenOf, Builtin.firstCells, sizeOf, typeInfo, hi, hz1, ← hk, ← hn, hl, hst]
theorem run_copy_pairs0 (w : World) (ty : TypeId) (d a : Addr) (dLen dCap sLen sCap : Nat) (hk : Nat.min sLen dLen = 0) :
    (Builtin.copy_ #[72, 72] ty #[.slice (some d) dLen dCap, .slice (some a) sLen sCap]).run Tryz.prog w = .ok (goInt 0) w := by
  obtain ⟨i0, hi, hz0, hz1, hz2⟩ := info_parts Tryz.infoPair
  have hl : (loadCells a 0).run Tryz.prog w = .ok #[] w := run_loadCells_list (P := Tryz.prog) w a [] (fun j v hj => by simp at hj)
  simp [Builtin.copy_, run_underlying Tryz.underlying72, Builtin.lenOf, Builtin.firstCells, sizeOf, typeInfo, hi, hz1, hk, hl, storeCells]
end Go.Proofs.YtcijflakldggaaaGreat

namespace Go.Proofs.YtcijflakldggaaaGreat
set_option linter.unusedVariables false
set_option linter.unusedSimpArgs false
open Go.RowKit

theorem setCells_row {w : World} {g o : Nat} {cur : Array Value} {t : TypeId} {vs : List Value} (hg : w.heap[g]? = some (.cells cur t (0, 0))) (hl : o + vs.length ≤ cur.size) (h1 : ∀ v ∈ vs, v.oneCell' = true) :
    w.setCells g o vs = w.setRow g (cur.toList.take o ++ vs ++ cur.toList.drop (o + vs.length)).toArray := by
  have a := run_storeCells_at Tryz.prog g o t vs 0 cur w hg (by simpa using hl) h1
  have b := run_storeCells_cells (P := Tryz.prog) g o vs 0 w (fun j hj => by rw [Joins.cell_of_block hg, Array.getElem?_eq_getElem (by omega)]; rfl) (fun j hj => free8 hg _) h1
  rw [a] at b
  simp only [Nat.add_zero] at b
  injection b with _ b2
  exact b2.symm
theorem grown_setRow (w : World) (g : Nat) (cs : Array Value) : w.grownBy (w.setRow g cs) (some g) :=
  ⟨rfl, rfl, rfl, by simp [World.setRow], fun k hk hr => setRow_other w g k cs (fun e => hr (by rw [e]))⟩
theorem slab_of_cells {w : World} {g off cap : Nat} {X : Array Value} {L : List PairV} {P R : List Value} (ok : ∀ p, p ∈ L → okP p) (hg : w.heap[g]? = some (.cells X 114 (0, 0))) (hP : P.length = off) (hc : X.toList = P ++ cellsQ L ++ R)
    (hfit : L.length ≤ cap) (hr : off + cap * 2 ≤ X.size) (hcap : cap ≤ 9223372036854775807) : Slab w (some ⟨g, off, none⟩) cap L :=
  ⟨cells_pairs ok hg hP hc, hfit, Or.inr ⟨g, off, X, rfl, hg⟩, (fun g' off' cs' e hg' => by
    obtain ⟨rfl, rfl, _⟩ := Addr.mk.inj (Option.some.inj e)
    rw [hg] at hg'
    obtain ⟨rfl, _⟩ := Obj.cells.inj (Option.some.inj hg')
    exact hr), hcap⟩

/-- The pair that is put in, as its call lays it: in a block of its own. -/
structure OneP (w : World) (vb : Nat) (i c : Int) : Prop where
  blk : w.heap[vb]? = some (.cells #[.int .i64 i, .int .u64 c] 114 (0, 0))
theorem OneP.at_ {w : World} {vb : Nat} {i c : Int} (h : OneP w vb i c) : ∀ (j : Nat) (u : Value), [Value.int .i64 i, .int .u64 c][j]? = some u → w.cell? ((⟨vb, 0, none⟩ : Addr).add j) = some u := by
  intro j u hj
  rw [Addr.add_lit, Nat.zero_add, Joins.cell_of_block h.blk]
  rw [← hj]; simp

theorem cells_mid (lo hi : List PairV) (i c : Int) : cellsQ (lo ++ ((i, c) :: hi)) = cellsQ lo ++ [.int .i64 i, .int .u64 c] ++ cellsQ hi := by
  rw [cellsQ_app, cellsQ_cons]; simp [cellsP]

set_option maxRecDepth 100000 in
set_option maxHeartbeats 4000000 in
/-- At the end, where there is room. -/
theorem ins_end_room (w : World) (g off cap n vb : Nat) (L : List PairV) (i c : Int) (h : Slab w (some ⟨g, off, none⟩) cap L) (hn : L.length = n) (hlt : n < cap) (hv : OneP w vb i c) (hi : I64 i) (hc : Word c) :
    Calls Tryz.prog 133 #[.slice (some ⟨g, off, none⟩) n cap, .int .i64 n, .slice (some ⟨vb, 0, none⟩) 1 1] w (AddedV w (some ⟨g, off, none⟩) (L ++ [(i, c)])) := by
  obtain ⟨i0, hi0, hz0, hz1, hz2⟩ := info_parts Tryz.infoPair
  obtain ⟨cs, hg⟩ : ∃ cs, w.heap[g]? = some (.cells cs 114 (0, 0)) := by
    rcases h.blk with ⟨e, _⟩ | ⟨g', off', cs, e, hb⟩
    · cases e
    · obtain ⟨rfl, rfl, _⟩ := Addr.mk.inj (Option.some.inj e)
      exact ⟨cs, hb⟩
  have hr := h.room _ _ _ rfl hg
  have hcm := h.capm
  have hsrc : Src Tryz.prog i0.size 72 (.slice (some ⟨vb, 0, none⟩) 1 1) 1 [.int .i64 i, .int .u64 c] w := Src.ofSlice w Tryz.underlying72 ⟨vb, 0, none⟩ 1 1 _ (by rw [hz1]; rfl) hv.at_ (by intro u hu; simp at hu; rcases hu with rfl | rfl <;> rfl)
  have hE := setCells_row (o := off + n * i0.size) (vs := [.int .i64 i, .int .u64 c]) hg (by rw [hz1]; simp; omega) (by intro u hu; simp at hu; rcases hu with rfl | rfl <;> rfl)
  have hroom1 : ∀ j, j < [Value.int .i64 i, .int .u64 c].length → (w.cell? ⟨g, off + n * i0.size + j, none⟩).isSome = true := fun j hj => by
    rw [hz1, Joins.cell_of_block hg, Array.getElem?_eq_getElem (by simp at hj; omega)]; rfl
  have hfin : AddedV w (some ⟨g, off, none⟩) (L ++ [(i, c)]) (.returned (.slice (some ⟨g, off, none⟩) (n + 1) cap)) (w.setCells g (off + n * i0.size) [.int .i64 i, .int .u64 c]) := by
    rw [hE]
    have hc1 := pairs_cells h.pairs hg (by omega)
    have hT : (cs.toList.take off).length = off := by rw [List.length_take]; simp; omega
    have hQ := cellsQ_len L
    refine ⟨some ⟨g, off, none⟩, cap, by simp [hn], ?_, grown_setRow w g _, Or.inl rfl⟩
    refine slab_of_cells (P := cs.toList.take off) (R := (cs.toList.drop (off + L.length * 2)).drop 2) (by intro p hp; rcases List.mem_append.1 hp with h1 | h1; exact h.pairs.ok p h1; simp at h1; subst h1; exact ⟨hi, hc⟩) (setRow_heap w g _ _ _ _ hg) hT ?_ (by simp; omega) ?_ hcm
    · have e1 : cs.toList.take (off + n * i0.size) = cs.toList.take off ++ cellsQ L := by
        rw [hz1, ← hn, List.take_add]
        congr 1
        have : cs.toList.drop off = cellsQ L ++ cs.toList.drop (off + L.length * 2) := by
          conv => lhs; rw [hc1, List.append_assoc, List.drop_append, List.drop_of_length_le (by omega), hT, Nat.sub_self, List.drop_zero, List.nil_append]
        rw [this, List.take_append, ← hQ, List.take_length, Nat.sub_self, List.take_zero, List.append_nil]
      rw [e1, cellsQ_app, cellsQ_one', hz1, ← hn]
      simp [List.drop_drop]
    · rw [hz1]; simp; omega
  rw [hz1] at hfin
  have HF := Lib.hid hfin
  clear hfin hE hr
  go_enter Tryz.func133, Tryz.ntmps133
  go_wp2_with (at_builtin; refine wpList_append_room_src _ rfl (.tmp 23) (.tmp 24) 72 72 rfl 114 i0 Tryz.underlying72 hi0 g off n cap rfl _ rfl 1 _ hsrc hlt hroom1 (fun j hj => free8 hg _) ?_)
  go_ret
  exact HF.out

theorem zero_len (z : Array Value) (n : Nat) : (Builtin.zeroCells z n).size = n * z.size := by simp [Builtin.zeroCells]
theorem old_cells {w : World} {A : Option Addr} {cap : Nat} {L : List PairV} (h : Slab w A cap L) (sz k c2 : Nat) (hz : sz = 2) (hk : k ≤ L.length) : (Builtin.firstCells sz k (.slice A k c2)).run Tryz.prog w = .ok (cellsQ (L.take k)).toArray w := by
  subst hz
  have hlen : (L.take k).length = k := by rw [List.length_take]; omega
  rcases h.form with ⟨rfl, rfl, rfl⟩ | ⟨g, off, rfl⟩
  · have : k = 0 := by simpa using hk
    subst this
    exact run_firstCells_none w 2 0 0 c2
  · refine run_firstCells_some w 2 k ⟨g, off, none⟩ k c2 (cellsQ (L.take k)) (by rw [cellsQ_len, hlen]) fun j u hj => ?_
    have hjl : j < k * 2 := by
      rcases Nat.lt_or_ge j (k * 2) with h1 | h1
      · exact h1
      · rw [List.getElem?_eq_none (by rw [cellsQ_len, hlen]; omega)] at hj; cases hj
    have hq := List.getElem?_eq_getElem (l := L.take k) (i := j / 2) (by omega)
    have hq2 : L[j / 2]? = some ((L.take k)[j / 2]'(by omega)) := by rw [← hq, List.getElem?_take_of_lt (by omega)]
    obtain ⟨b', off', e, _, c0, c1⟩ := h.pairs.at_ (j / 2) _ hq2
    obtain ⟨rfl, rfl, _⟩ := Addr.mk.inj (Option.some.inj e)
    obtain ⟨q0, q1⟩ := cellsQ_at (L.take k) (j / 2) _ hq
    rw [Addr.add_lit]
    rcases Nat.mod_two_eq_zero_or_one j with h2 | h2
    · have e1 : j / 2 * 2 = j := by omega
      rw [e1] at q0 c0; rw [c0, ← hj, q0]
    · have e1 : j / 2 * 2 + 1 = j := by omega
      rw [Nat.add_assoc, e1] at c1; rw [e1] at q1; rw [c1, ← hj, q1]

set_option maxRecDepth 100000 in
set_option maxHeartbeats 4000000 in
/-- At the end, where there is no room: a new block. -/
theorem ins_end_grow (w : World) (A : Option Addr) (n vb : Nat) (L : List PairV) (i c : Int) (h : Slab w A n L) (hn : L.length = n) (hl : n ≤ 100000) (hv : OneP w vb i c) (hi : I64 i) (hc : Word c) :
    Calls Tryz.prog 133 #[.slice A n n, .int .i64 n, .slice (some ⟨vb, 0, none⟩) 1 1] w (AddedV w A (L ++ [(i, c)])) := by
  obtain ⟨i0, hi0, hz0, hz1, hz2⟩ := info_parts Tryz.infoPair
  have hsrc : Src Tryz.prog i0.size 72 (.slice (some ⟨vb, 0, none⟩) 1 1) 1 [.int .i64 i, .int .u64 c] w := Src.ofSlice w Tryz.underlying72 ⟨vb, 0, none⟩ 1 1 _ (by rw [hz1]; rfl) hv.at_ (by intro u hu; simp at hu; rcases hu with rfl | rfl <;> rfl)
  have hdr : Slab w.drew A n L := h.keep fun k hk => rfl
  have hold := old_cells hdr i0.size n n hz1 (by omega)
  rw [List.take_of_length_le (by omega)] at hold
  have hrun : ∀ ty, (Builtin.append_ #[72, 72] ty #[.slice A n n, .slice (some ⟨vb, 0, none⟩) 1 1]).run Tryz.prog w = _ := fun ty =>
    run_append_grow_src w 72 72 ty 114 i0 _ Tryz.underlying72 hi0 hz0 A n n (cellsQ L) hold _ 1 _ hsrc (by omega) (by omega) (by rw [hz2]; exact growslice_fits (by omega) (by omega))
  obtain ⟨G, hG⟩ : ∃ G, G = grownCap w (n + 1) n 114 := ⟨_, rfl⟩
  have hGn : n + 1 ≤ G := by rw [hG]; exact grownCap_ge w _ _ _
  have hGm := grownCap_le_maxLen w (n + 1) n 114 (by unfold maxLen; omega)
  rw [← hG] at hrun hGm
  have hG63 : G ≤ 9223372036854775807 := by unfold maxLen at hGm; omega
  obtain ⟨X, hX⟩ : ∃ X : Array Value, X = (cellsQ L ++ [Value.int .i64 i, Value.int .u64 c]).toArray ++ Builtin.zeroCells (Value.agg #[.int .i64 0, .int .u64 0]).cells (G - (n + 1)) := ⟨_, rfl⟩
  rw [← hX] at hrun
  have hfin : AddedV w A (L ++ [(i, c)]) (.returned (.slice (some ⟨w.heap.size, 0, none⟩) (n + 1) G)) (w.drew.alloc (.cells X 114)) := by
    refine ⟨some ⟨w.heap.size, 0, none⟩, G, by simp [hn], ?_, grown_call (grown_refl w _) ((Below.refl _ _).drew.alloc (Nat.le_refl _) _), Or.inr fun k hk => by cases hk; exact Nat.le_refl _⟩
    refine slab_of_cells (P := []) (R := (Builtin.zeroCells (Value.agg #[.int .i64 0, .int .u64 0]).cells (G - (n + 1))).toList) (by intro p hp; rcases List.mem_append.1 hp with h1 | h1; exact h.pairs.ok p h1; simp at h1; subst h1; exact ⟨hi, hc⟩) (heap_alloc_new w.drew _) rfl ?_ (by simp; omega) ?_ hG63
    · rw [hX, cellsQ_app, cellsQ_one']; simp
    · have hQ := cellsQ_len L
      rw [hX]; simp [zero_len, Value.cells, hQ]; omega
  have HF := Lib.hid hfin
  have hform := h.form
  have HR := Lib.hid hrun
  clear hfin hold hdr hG hGm hX hrun hz0 hz1 hz2 hsrc h
  rcases hform with ⟨rfl, rfl, rfl⟩ | ⟨g, off, rfl⟩
  · go_enter Tryz.func133, Tryz.ntmps133
    go_wp2_with (at_builtin; refine Lib.wpList_append_run _ rfl _ _ _ _ rfl _ _ rfl rfl _ _ (HR.out _) ?_)
    go_ret
    exact HF.out
  · go_enter Tryz.func133, Tryz.ntmps133
    go_wp2_with (at_builtin; refine Lib.wpList_append_run _ rfl _ _ _ _ rfl _ _ rfl rfl _ _ (HR.out _) ?_)
    all_goals (go_ret; exact HF.out)
end Go.Proofs.YtcijflakldggaaaGreat

/-
  Walk: the library's slices.Insert of one pair into a row of pairs, not at its end: all behind it moves up.
-/
namespace Go.Proofs.YtcijflakldggaaaGreat
set_option linter.unusedVariables false
set_option linter.unusedSimpArgs false
open Go.RowKit

theorem ok_mid {lo hi : List PairV} {i c : Int} (h : ∀ p, p ∈ lo ++ hi → okP p) (hi' : I64 i) (hc : Word c) : ∀ p, p ∈ lo ++ ((i, c) :: hi) → okP p := by
  intro p hp
  rcases List.mem_append.1 hp with h1 | h1
  · exact h p (List.mem_append_left _ h1)
  · rcases List.mem_cons.1 h1 with rfl | h2
    · exact ⟨hi', hc⟩
    · exact h p (List.mem_append_right _ h2)
/-- A block of pairs, split at an index. -/
theorem split_cells {w : World} {g off n N : Nat} {cs : Array Value} {lo hi : List PairV} (h : Pairs w (some ⟨g, off, none⟩) (lo ++ hi)) (hg : w.heap[g]? = some (.cells cs 114 (0, 0))) (hn : lo.length = n) (hN : (lo ++ hi).length = N) (hl : off + N * 2 ≤ cs.size) :
    ∃ A R : List Value, cs.toList = A ++ cellsQ hi ++ R ∧ A.length = off + n * 2 ∧ (cellsQ hi).length = (N - n) * 2 ∧ (∃ P : List Value, P.length = off ∧ A = P ++ cellsQ lo) ∧ R.length = cs.size - (off + N * 2) := by
  have hc := pairs_cells h hg (by omega)
  have hQ1 := cellsQ_len lo
  have hQ2 := cellsQ_len hi
  have hNN : lo.length + hi.length = N := by rw [← hN, List.length_append]
  refine ⟨cs.toList.take off ++ cellsQ lo, cs.toList.drop (off + (lo ++ hi).length * 2), ?_, ?_, ?_, ⟨_, ?_, rfl⟩, ?_⟩
  · rw [List.append_assoc (cs.toList.take off), ← cellsQ_app]; exact hc
  · rw [List.length_append, List.length_take]; simp; omega
  · omega
  · rw [List.length_take]; simp; omega
  · rw [hN, List.length_drop]; simp

set_option maxRecDepth 100000 in
set_option maxHeartbeats 4000000 in
/-- There is room: in its own block. -/
theorem ins_shift (w : World) (g off cap n N vb : Nat) (lo hi : List PairV) (i c : Int) (h : Slab w (some ⟨g, off, none⟩) cap (lo ++ hi)) (hn : lo.length = n) (hN : (lo ++ hi).length = N) (hlt : n < N) (hroom : N < cap) (hv : OneP w vb i c) (hvg : vb ≠ g) (hi' : I64 i) (hc : Word c) :
    Calls Tryz.prog 133 #[.slice (some ⟨g, off, none⟩) N cap, .int .i64 n, .slice (some ⟨vb, 0, none⟩) 1 1] w (AddedV w (some ⟨g, off, none⟩) (lo ++ ((i, c) :: hi))) := by
  obtain ⟨cs, hg⟩ : ∃ cs, w.heap[g]? = some (.cells cs 114 (0, 0)) := by
    rcases h.blk with ⟨e, _⟩ | ⟨g', off', cs, e, hb⟩
    · cases e
    · obtain ⟨rfl, rfl, _⟩ := Addr.mk.inj (Option.some.inj e)
      exact ⟨cs, hb⟩
  have hr := h.room _ _ _ rfl hg
  have hcm := h.capm
  obtain ⟨CA, CR, hcs, hA, hH, ⟨CP, hP, hAP⟩, hR⟩ := split_cells h.pairs hg hn hN (by omega)
  have hgd : w.drew.heap[g]? = some (.cells cs 114 (0, 0)) := hg
  obtain ⟨H, hHe⟩ : ∃ H, cellsQ hi = H := ⟨_, rfl⟩
  have hH1 : ∀ v ∈ H, v.oneCell' = true := by rw [← hHe]; exact cellsQ_one hi
  have hv1 : ∀ u ∈ [Value.int .i64 i, .int .u64 c], u.oneCell' = true := by intro u hu; simp at hu; rcases hu with rfl | rfl <;> rfl
  rw [hHe] at hcs hH
  have hsrc : ∀ j v, H[j]? = some v → w.drew.cell? ((⟨g, off + n * 2, none⟩ : Addr).add j) = some v := fun j v hj => by
    rw [Addr.add_lit, Joins.cell_of_block hgd, ← Array.getElem?_toList, hcs, List.append_assoc, List.getElem?_append_right (by omega), show off + n * 2 + j - CA.length = j by omega]
    have hjl : j < H.length := by
      rcases Nat.lt_or_ge j H.length with h1 | h1
      · exact h1
      · rw [List.getElem?_eq_none h1] at hj; cases hj
    rw [List.getElem?_append_left hjl]; exact hj
  obtain ⟨Y, hY⟩ : ∃ Y : Array Value, (cs.toList.take (off + (n + 1) * 2) ++ H ++ cs.toList.drop (off + (n + 1) * 2 + H.length)).toArray = Y := ⟨_, rfl⟩
  have hYs : Y.size = cs.size := by
    have e1 : cs.toList.length = cs.size := by simp
    rw [← hY]; simp; omega
  have hcp1 : ∀ ty dc sc, (Builtin.copy_ #[72, 72] ty #[.slice (some ⟨g, off + (n + 1) * 2, none⟩) (N - n) dc, .slice (some ⟨g, off + n * 2, none⟩) (N + 1 - n) sc]).run Tryz.prog w.drew = .ok (goInt ((N - n : Nat) : Int)) (w.drew.setRow g Y) := fun ty dc sc => by
    rw [← hY]
    exact run_copy_pairs w.drew ty g (off + (n + 1) * 2) _ dc ⟨g, off + n * 2, none⟩ _ sc cs 114 (N - n) H hgd (by simp only [Nat.min_def]; split <;> omega) hH hsrc (by omega) hH1
  obtain ⟨W1, hW1⟩ : ∃ W1, w.drew.setRow g Y = W1 := ⟨_, rfl⟩
  have hg1 : W1.heap[g]? = some (.cells Y 114 (0, 0)) := by rw [← hW1]; exact setRow_heap w.drew g _ _ _ _ hgd
  have hv2 : OneP W1 vb i c := ⟨by rw [← hW1, setRow_other _ _ _ _ hvg]; exact hv.blk⟩
  obtain ⟨Z, hZ⟩ : ∃ Z : Array Value, (Y.toList.take (off + n * 2) ++ [Value.int .i64 i, .int .u64 c] ++ Y.toList.drop (off + n * 2 + [Value.int .i64 i, .int .u64 c].length)).toArray = Z := ⟨_, rfl⟩
  have hcp2 : ∀ (W : World), W.heap = W1.heap → ∀ ty dc, (Builtin.copy_ #[72, 72] ty #[.slice (some ⟨g, off + n * 2, none⟩) (N + 1 - n) dc, .slice (some ⟨vb, 0, none⟩) 1 1]).run Tryz.prog W = .ok (goInt ((1 : Nat) : Int)) (W.setRow g Z) := fun W hW ty dc => by
    rw [← hZ]
    exact run_copy_pairs W ty g (off + n * 2) _ dc ⟨vb, 0, none⟩ 1 1 Y 114 1 _ (by rw [hW]; exact hg1) (by simp only [Nat.min_def]; split <;> omega) rfl (fun j v hj => by
      have := hv2.at_ j v hj
      rwa [World.cell?_of_block (w := W1) (w' := W) (by rw [hW])]) (by simp; omega) hv1
  have hshape : w.shape? g = some (114, cs.size) := by simp [World.shape?, hg]
  have hshape2 : w.shape? vb = some (114, 2) := by simp [World.shape?, hv.blk]
  have hov : ∀ lb cb, (callFunc 140 #[.slice (some ⟨vb, 0, none⟩) 1 1, .slice (some ⟨g, off + (n + 1) * 2, none⟩) lb cb]).run Tryz.prog w = .ok (.value (.bool false)) w := fun lb cb => by
    obtain ⟨i0, hi0, hz0, hz1, hz2⟩ := info_parts Tryz.infoPair
    rw [run_callFunc_extern Tryz.func140 (by kernel_rfl) (by kernel_rfl) (by kernel_rfl) (e := Extern.SlicesOverlaps.overlaps #[72, 72] #[4]) (by kernel_rfl),
      Lib.run_overlaps_apart w 72 4 114 Tryz.underlying72 2 (fun w => by simp [sizeOf, typeInfo, hi0, hz1]) ⟨vb, 0, none⟩ ⟨g, off + (n + 1) * 2, none⟩ 1 1 lb cb hvg 114 114 2 cs.size hshape2 hshape (by omega) (free8 hv.blk _) (free8 hv.blk _)]
    rfl
  have hfin : ∀ W : World, W.heap = W1.heap → W.os = w.os → W.tape = w.tape → W.output = w.output → AddedV w (some ⟨g, off, none⟩) (lo ++ ((i, c) :: hi)) (.returned (.slice (some ⟨g, off, none⟩) (N + 1) cap)) (W.setRow g Z) := fun W hW ho ht hu => by
    have hl3 : (lo ++ ((i, c) :: hi)).length = N + 1 := by rw [← hN]; simp; omega
    have hsh := shift_in (A := CA) (H := H) (R := CR) (v := [Value.int .i64 i, .int .u64 c]) hA hH rfl
    have hlen : (CA ++ H ++ CR).length = cs.size := by rw [← hcs]; simp
    rcases hsh with hsh | hbad
    · have hg2 : (W.setRow g Z).heap[g]? = some (.cells Z 114 (0, 0)) := setRow_heap W g _ _ _ _ (by rw [hW]; exact hg1)
      have hZL : Z.toList = CP ++ cellsQ (lo ++ ((i, c) :: hi)) ++ CR.drop 2 := by
        rw [← hZ, ← hY, cells_mid, ← List.append_assoc CP, ← List.append_assoc CP, ← hAP, hHe, ← hsh, ← hcs]
        simp only [List.length_cons, List.length_nil]
        rw [show off + (n + 1) * 2 = off + n * 2 + 2 by omega, hH]
      refine ⟨some ⟨g, off, none⟩, cap, by rw [hl3], slab_of_cells (P := CP) (R := CR.drop 2) (ok_mid h.pairs.ok hi' hc) hg2 hP hZL (by omega) ?_ hcm, ?_, Or.inl rfl⟩
      · have : Z.size = cs.size := by
          have e1 : Z.size = Z.toList.length := by simp
          have hQ := cellsQ_len lo
          rw [e1, hZL, cells_mid, hHe]; simp only [List.length_append, List.length_drop, hH, hR, hP, hQ, List.length_cons, List.length_nil]
          rw [hAP, List.length_append, hP, hQ] at hA
          omega
        omega
      · have hk : W1.heap = (w.drew.setRow g Y).heap := by rw [hW1]
        exact grown_trans ⟨ho, ht, hu, by rw [hW, hk]; simp [World.setRow], fun k hk' hr' => by rw [hW, hk]; exact (setRow_other w.drew g k Y (fun e => hr' (by rw [e]; rfl)))⟩ (grown_setRow W g Z)
    · omega
  have ho1 : W1.os = w.os ∧ W1.tape = w.tape ∧ W1.output = w.output := by rw [← hW1]; exact ⟨rfl, rfl, rfl⟩
  have HF := Lib.hid (hfin W1 rfl ho1.1 ho1.2.1 ho1.2.2)
  rw [hW1] at hcp1
  have HC1 := Lib.hid hcp1
  have hA2 := hcp2 W1 rfl
  generalize W1.setRow g Z = W2 at *
  have hw1 : IntKind.i64.wrap ((n : Int) + 1) = (n : Int) + 1 := by rw [IntKind.wrap_i64]; omega
  have hw2 : IntKind.i64.wrap ((N : Int) + 1) = (N : Int) + 1 := by rw [IntKind.wrap_i64]; omega
  have hb1 : (0 : Int) ≤ (n : Int) + 1 := by omega
  have hb0 : (0 : Int) ≤ (N : Int) + 1 := by omega
  have htn : ((n : Int) + 1).toNat = n + 1 := by omega
  have htN : ((N : Int) + 1).toNat = N + 1 := by omega
  have hb2 : ¬ (cap = n + 1) := by omega
  have hb4 : ¬ (cap = n) := by omega
  have hz2 : ¬ ((n : Int) = (N : Int)) := by omega
  have hin : n ≤ N := by omega
  have hin2 : n ≤ cap := by omega
  have hb3 : (n : Int) ≤ (N : Int) + 1 := by omega
  have hb5 : (n : Int) + 1 ≤ (N : Int) + 1 := by omega
  have hb6 : ¬ ((cap : Int) < (N : Int) + 1) := by omega
  have hb7 : (N : Int) + 1 ≤ (cap : Int) := by omega
  clear hfin hcp1 hcp2 hg1 ho1 hW1 hZ hY hYs hsrc hcs hA hH hP hAP hR hHe hH1 hv1 hgd hr h hv2 hn hN hshape hshape2 hg
  go_enter Tryz.func133, Tryz.ntmps133
  go_wp2_with (simp only [hov])
  go_region_law (refine step_copy_runI rfl _ _ 72 72 rfl (.slice (some ⟨g, off + (n + 1) * 2, none⟩) (N - n) (cap - (n + 1))) (.slice (some ⟨g, off + n * 2, none⟩) (N + 1 - n) (cap - n)) (by simp [Act.eval, Act.put]) (by simp [Act.eval, Act.put]) (HC1.out _ _ _) ?_)
  go_wp2_with fail
  go_ret
  exact HF.out

set_option maxRecDepth 100000 in
set_option maxHeartbeats 4000000 in
/-- There is no room: a new block. -/
theorem ins_grow (w : World) (g off n N vb : Nat) (lo hi : List PairV) (i c : Int) (h : Slab w (some ⟨g, off, none⟩) N (lo ++ hi)) (hn : lo.length = n) (hN : (lo ++ hi).length = N) (hlt : n < N) (hl : N ≤ 100000) (hv : OneP w vb i c) (hi' : I64 i) (hc : Word c) :
    Calls Tryz.prog 133 #[.slice (some ⟨g, off, none⟩) N N, .int .i64 n, .slice (some ⟨vb, 0, none⟩) 1 1] w (AddedV w (some ⟨g, off, none⟩) (lo ++ ((i, c) :: hi))) := by
  obtain ⟨i0, hi0, hz0, hz1, hz2⟩ := info_parts Tryz.infoPair
  obtain ⟨cs, hg⟩ : ∃ cs, w.heap[g]? = some (.cells cs 114 (0, 0)) := by
    rcases h.blk with ⟨e, _⟩ | ⟨g', off', cs, e, hb⟩
    · cases e
    · obtain ⟨rfl, rfl, _⟩ := Addr.mk.inj (Option.some.inj e)
      exact ⟨cs, hb⟩
  have hgw : g < w.heap.size := lt_of_block hg
  have hvw : vb < w.heap.size := lt_of_block hv.blk
  have hr := h.room _ _ _ rfl hg
  have hQ := cellsQ_len lo
  have hQh := cellsQ_len hi
  have hNN : lo.length + hi.length = N := by rw [← hN, List.length_append]
  have hdr : Slab w.drew (some ⟨g, off, none⟩) N (lo ++ hi) := h.keep fun k hk => rfl
  have hold := old_cells hdr i0.size n N hz1 (by omega)
  rw [List.take_append_of_le_length (by omega), List.take_of_length_le (by omega)] at hold
  have hik : n + (N + 1 - n) = N + 1 := by omega
  have hkk : (N : Int) + 1 - (n : Int) = ((N + 1 - n : Nat) : Int) := by omega
  obtain ⟨G, hG⟩ : ∃ G, G = grownCap w (N + 1) N 114 := ⟨_, rfl⟩
  have hGn : N + 1 ≤ G := by rw [hG]; exact grownCap_ge w _ _ _
  have hGm := grownCap_le_maxLen w (N + 1) N 114 (by unfold maxLen; omega)
  rw [← hG] at hGm
  have hG63 : G ≤ 9223372036854775807 := by unfold maxLen at hGm; omega
  obtain ⟨V, hV⟩ : ∃ V : List Value, V = (Builtin.zeroCells (Value.agg #[.int .i64 0, .int .u64 0]).cells (N + 1 - n)).toList ++ (Builtin.zeroCells (Value.agg #[.int .i64 0, .int .u64 0]).cells (G - (N + 1))).toList := ⟨_, rfl⟩
  have hVl : V.length = (G - n) * 2 := by
    rw [hV, List.length_append]; simp [zero_len, Value.cells]; omega
  obtain ⟨X, hX⟩ : ∃ X : Array Value, X = (cellsQ lo).toArray ++ Builtin.zeroCells (Value.agg #[.int .i64 0, .int .u64 0]).cells (N + 1 - n) ++ Builtin.zeroCells (Value.agg #[.int .i64 0, .int .u64 0]).cells (G - (N + 1)) := ⟨_, rfl⟩
  have hXL : X.toList = cellsQ lo ++ V := by rw [hX, hV]; simp
  have hXs : X.size = G * 2 := by
    have : X.size = X.toList.length := by simp
    rw [this, hXL, List.length_append]; omega
  have hrz : ∀ ty, (Builtin.append_ #[72, 3] ty #[.slice (some ⟨g, off, none⟩) n N, .int .i64 ((N : Int) + 1 - (n : Int))]).run Tryz.prog w =
      .ok (.slice (some ⟨w.heap.size, 0, none⟩) (N + 1) G) (w.drew.alloc (.cells X 114)) := fun ty => by
    have h1 := Lib.run_append_grow_zeros w 72 3 ty 114 i0 _ .i64 .i64 Tryz.underlying72 Tryz.underlying3 hi0 hz0 (some ⟨g, off, none⟩) n N (cellsQ lo) hold (N + 1 - n) (by omega) (by omega) (by omega) (by omega) (by rw [hz2]; omega) (by rw [hz2, hik]; exact growslice_fits (by omega) (by omega))
    rw [hik, ← hG, ← hX] at h1
    rw [hkk]
    exact h1
  obtain ⟨W1, hW1⟩ : ∃ W1, w.drew.alloc (.cells X 114) = W1 := ⟨_, rfl⟩
  have hb1' : Below w.heap.size w W1 := by rw [← hW1]; exact (Below.refl _ _).drew.alloc (Nat.le_refl _) _
  have hg1 : W1.heap[w.heap.size]? = some (.cells X 114 (0, 0)) := by rw [← hW1]; exact heap_alloc_new w.drew _
  have hv1 : ∀ u ∈ [Value.int .i64 i, .int .u64 c], u.oneCell' = true := by intro u hu; simp at hu; rcases hu with rfl | rfl <;> rfl
  have hvW : OneP W1 vb i c := ⟨(hb1'.block _ hvw).trans hv.blk⟩
  obtain ⟨Y, hY⟩ : ∃ Y : Array Value, (X.toList.take (n * 2) ++ [Value.int .i64 i, .int .u64 c] ++ X.toList.drop (n * 2 + [Value.int .i64 i, .int .u64 c].length)).toArray = Y := ⟨_, rfl⟩
  have hYs : Y.size = X.size := by
    have e1 : X.toList.length = X.size := by simp
    rw [← hY]; simp; omega
  have hcpA : ∀ (W : World), W.heap = W1.heap → ∀ ty dc, (Builtin.copy_ #[72, 72] ty #[.slice (some ⟨w.heap.size, n * 2, none⟩) (N + 1 - n) dc, .slice (some ⟨vb, 0, none⟩) 1 1]).run Tryz.prog W = .ok (goInt ((1 : Nat) : Int)) (W.setRow w.heap.size Y) := fun W hW ty dc => by
    rw [← hY]
    exact run_copy_pairs W ty w.heap.size (n * 2) _ dc ⟨vb, 0, none⟩ 1 1 X 114 1 _ (by rw [hW]; exact hg1) (by simp only [Nat.min_def]; split <;> omega) rfl (fun j v hj => by
      have := hvW.at_ j v hj
      rwa [World.cell?_of_block (w := W1) (w' := W) (by rw [hW])]) (by simp; omega) hv1
  obtain ⟨H, hHe⟩ : ∃ H, cellsQ hi = H := ⟨_, rfl⟩
  have hH1 : ∀ v ∈ H, v.oneCell' = true := by rw [← hHe]; exact cellsQ_one hi
  have hHl : H.length = (N - n) * 2 := by rw [← hHe]; omega
  obtain ⟨CA, CR, hcs, hA, hH, _, _⟩ := split_cells h.pairs hg hn hN (by omega)
  rw [hHe] at hcs
  have hsrc : ∀ (W : World), W.heap[g]? = w.heap[g]? → ∀ j v, H[j]? = some v → W.cell? ((⟨g, off + n * 2, none⟩ : Addr).add j) = some v := fun W hW j v hj => by
    rw [Addr.add_lit, Joins.cell_of_block (hW.trans hg), ← Array.getElem?_toList, hcs, List.append_assoc, List.getElem?_append_right (by omega), show off + n * 2 + j - CA.length = j by omega]
    have hjl : j < H.length := by
      rcases Nat.lt_or_ge j H.length with h1 | h1
      · exact h1
      · rw [List.getElem?_eq_none h1] at hj; cases hj
    rw [List.getElem?_append_left hjl]; exact hj
  obtain ⟨Z, hZ⟩ : ∃ Z : Array Value, (Y.toList.take ((n + 1) * 2) ++ H ++ Y.toList.drop ((n + 1) * 2 + H.length)).toArray = Z := ⟨_, rfl⟩
  have hcpB : ∀ (W : World), W.heap[w.heap.size]? = some (.cells Y 114 (0, 0)) → W.heap[g]? = w.heap[g]? → ∀ ty dc sc, (Builtin.copy_ #[72, 72] ty #[.slice (some ⟨w.heap.size, (n + 1) * 2, none⟩) (N + 1 - (n + 1)) dc, .slice (some ⟨g, off + n * 2, none⟩) (N - n) sc]).run Tryz.prog W = .ok (goInt ((N - n : Nat) : Int)) (W.setRow w.heap.size Z) := fun W hW hWg ty dc sc => by
    rw [← hZ]
    exact run_copy_pairs W ty w.heap.size ((n + 1) * 2) _ dc ⟨g, off + n * 2, none⟩ _ sc Y 114 (N - n) H hW (by simp only [Nat.min_def]; split <;> omega) hHl (hsrc W hWg) (by omega) hH1
  have hW2 : ∀ W : World, W.heap = W1.heap → (W.setRow w.heap.size Y).heap[w.heap.size]? = some (.cells Y 114 (0, 0)) ∧ (W.setRow w.heap.size Y).heap[g]? = w.heap[g]? := fun W hW =>
    ⟨setRow_heap W _ _ _ _ _ (by rw [hW]; exact hg1), by rw [setRow_other _ _ _ _ (by omega), hW]; exact hb1'.block _ hgw⟩
  have hfin : ∀ W : World, W.heap = W1.heap → W.os = w.os → W.tape = w.tape → W.output = w.output → AddedV w (some ⟨g, off, none⟩) (lo ++ ((i, c) :: hi)) (.returned (.slice (some ⟨w.heap.size, 0, none⟩) (N + 1) G)) (((W.setRow w.heap.size Y).drew).setRow w.heap.size Z) := fun W hW ho ht hu => by
    have hl3 : (lo ++ ((i, c) :: hi)).length = N + 1 := by rw [← hN]; simp; omega
    have hsh := shift_new (A := cellsQ lo) (H := H) (W := V) (v := [Value.int .i64 i, .int .u64 c]) (a := n * 2) (h := (N - n) * 2) (by omega) hHl rfl
    have hg2 : (((W.setRow w.heap.size Y).drew).setRow w.heap.size Z).heap[w.heap.size]? = some (.cells Z 114 (0, 0)) := setRow_heap _ _ _ _ _ _ (hW2 W hW).1
    have hZL : Z.toList = [] ++ cellsQ (lo ++ ((i, c) :: hi)) ++ V.drop (2 + (N - n) * 2) := by
      rw [← hZ, ← hY, hXL, cells_mid, hHe, List.nil_append, ← hsh]
      simp only [List.length_cons, List.length_nil]
      rw [show (n + 1) * 2 = n * 2 + 2 by omega, hHl]
    refine ⟨some ⟨w.heap.size, 0, none⟩, G, by rw [hl3], slab_of_cells (P := []) (R := V.drop (2 + (N - n) * 2)) (ok_mid h.pairs.ok hi' hc) hg2 rfl hZL (by omega) ?_ hG63, ?_, Or.inr fun k hk => by cases hk; exact Nat.le_refl _⟩
    · have : Z.size = Z.toList.length := by simp
      rw [this, hZL, cells_mid, hHe]; simp only [List.length_append, List.length_drop, List.length_cons, List.length_nil]
      omega
    · refine grown_call (grown_refl w _) ⟨ho, ht, hu, ?_, fun k hk => ?_⟩
      · have := hb1'.size
        simp only [World.setRow, Array.size_modify]
        show w.heap.size ≤ (W.heap.modify _ _).size
        rw [Array.size_modify, hW]; exact this
      · rw [setRow_other _ _ _ _ (by omega)]
        show (W.setRow w.heap.size Y).heap[k]? = _
        rw [setRow_other _ _ _ _ (by omega), hW]; exact hb1'.block k hk
  rw [hW1] at hrz
  have HR := Lib.hid hrz
  have ho1 : W1.os = w.os ∧ W1.tape = w.tape ∧ W1.output = w.output := by rw [← hW1]; exact ⟨rfl, rfl, rfl⟩
  have HF := Lib.hid (hfin W1 rfl ho1.1 ho1.2.1 ho1.2.2)
  have hA1 := hcpA W1 rfl
  have HB := Lib.hid (fun ty dc sc => hcpB (W1.setRow w.heap.size Y).drew (hW2 W1 rfl).1 (hW2 W1 rfl).2 ty dc sc)
  have HG2 : Hid ((W1.setRow w.heap.size Y).heap.size = (W1.setRow w.heap.size Y).heap.size) := Lib.hid rfl
  generalize W1.setRow w.heap.size Y = W2 at *
  have hw1 : IntKind.i64.wrap ((n : Int) + 1) = (n : Int) + 1 := by rw [IntKind.wrap_i64]; omega
  have hw2 : IntKind.i64.wrap ((N : Int) + 1) = (N : Int) + 1 := by rw [IntKind.wrap_i64]; omega
  have hw3 : IntKind.i64.wrap ((N : Int) + 1 - n) = (N : Int) + 1 - n := by rw [IntKind.wrap_i64]; omega
  have hb1 : (0 : Int) ≤ (n : Int) + 1 := by omega
  have htn : ((n : Int) + 1).toNat = n + 1 := by omega
  have hz2' : ¬ ((n : Int) = (N : Int)) := by omega
  have hz3 : (N : Int) < (N : Int) + 1 := by omega
  have hin : n ≤ N := by omega
  have hb3 : (n : Int) ≤ (N : Int) := by omega
  have hb5 : (n : Int) + 1 ≤ (N : Int) + 1 := by omega
  have hb8 : (n : Int) ≤ (N : Int) + 1 := by omega
  have hci : ¬ (N = n) := by omega
  have hGi : ¬ (G = n) := by omega
  have hGim : ¬ (G = n + 1) := by omega
  have hNG : (N : Int) + 1 ≤ (G : Int) := by omega
  clear HG2 hfin hrz hcpA hcpB hW2 hW1 ho1 hZ hY hYs hsrc hcs hA hH hHe hH1 hHl hv1 hvW hg1 hb1' hXs hXL hX hVl hV hG hGm hGn hik hkk hold hdr hQ hQh hNN hr hn hN h hz0 hz1 hz2 hgw hvw hg hv
  go_enter Tryz.func133, Tryz.ntmps133
  go_wp2_with (at_builtin; refine Lib.wpList_append_run _ rfl _ _ _ _ rfl _ _ rfl rfl _ _ (HR.out _) ?_)
  go_region_law (refine step_copy_runI rfl _ _ 72 72 rfl (.slice (some ⟨w.heap.size, (n + 1) * 2, none⟩) (N + 1 - (n + 1)) (G - (n + 1))) (.slice (some ⟨g, off + n * 2, none⟩) (N - n) (N - n)) (by simp [Act.eval, Act.put]) (by simp [Act.eval, Act.put]) (HB.out _ _ _) ?_)
  go_wp2_with fail
  go_ret
  exact HF.out

theorem ins_any (w : World) (A : Option Addr) (cap n N vb : Nat) (lo hi : List PairV) (i c : Int) (h : Slab w A cap (lo ++ hi)) (hn : lo.length = n) (hN : (lo ++ hi).length = N) (hl : N ≤ 100000) (hv : OneP w vb i c) (hvg : blkA A ≠ some vb) (hi' : I64 i) (hc : Word c) :
    Calls Tryz.prog 133 #[.slice A N cap, .int .i64 n, .slice (some ⟨vb, 0, none⟩) 1 1] w (AddedV w A (lo ++ ((i, c) :: hi))) := by
  have hfit := h.fit
  have hNN : lo.length + hi.length = N := by rw [← hN, List.length_append]
  by_cases he : n = N
  · have hh : hi = [] := List.eq_nil_of_length_eq_zero (by omega)
    subst hh he
    rw [List.append_nil] at h hfit
    by_cases hr : n < cap
    · rcases h.form with ⟨rfl, rfl, rfl⟩ | ⟨g, off, rfl⟩
      · omega
      · exact ins_end_room w g off cap n vb lo i c h hn hr hv hi' hc
    · obtain rfl : cap = n := by omega
      exact ins_end_grow w A cap vb lo i c h hn hl hv hi' hc
  · rcases h.form with ⟨rfl, e, rfl⟩ | ⟨g, off, rfl⟩
    · rw [e] at hN; simp at hN; omega
    · by_cases hr : N < cap
      · exact ins_shift w g off cap n N vb lo hi i c h hn hN (by omega) hr hv (fun e => hvg (by rw [e]; rfl)) hi' hc
      · obtain rfl : cap = N := by omega
        exact ins_grow w g off n cap vb lo hi i c h hn hN (by omega) hl hv hi' hc
end Go.Proofs.YtcijflakldggaaaGreat

/-
  Walk: wide.Plus of two numbers, that lie in a block of their own.
-/
namespace Go.Proofs.YtcijflakldggaaaGreat
set_option linter.unusedVariables false
set_option linter.unusedSimpArgs false
open Go.RowKit

def plus2B (a b : Int) : Bool := decide (a + b ≤ 9223372036854775807)
def plus2Q (a b : Int) : Int := if plus2B a b then a + b else 0

set_option maxRecDepth 100000 in
set_option maxHeartbeats 1000000 in
theorem plus_two (x y q : Int) (ok : Bool) (g cap : Nat) (w : World) (hx : Word x) (hy : Word y) (h0 : w.cell? ⟨g, 0, none⟩ = some (.int .u64 x)) (h1 : w.cell? ⟨g, 1, none⟩ = some (.int .u64 y)) (hq : plus2Q x y = q) (hb : plus2B x y = ok) :
    Calls Tryz.prog 70 #[.slice (some ⟨g, 0, none⟩) 2 cap] w fun e w' =>
      e = .returned (.tuple #[.int .u64 q, .bool ok]) ∧ w = w' := by
  obtain ⟨x0, x1⟩ := hx
  obtain ⟨y0, y1⟩ := hy
  have HQ := Lib.hid hq
  have HB := Lib.hid hb
  clear hq hb
  by_cases a1 : 9223372036854775807 < x
  · have E1 : Hid (ok = false) := Lib.hid (by rw [← HB.out]; unfold plus2B; apply decide_eq_false; omega)
    have E2 : Hid (q = 0) := Lib.hid (by rw [← HQ.out]; unfold plus2Q; rw [HB.out, E1.out]; rfl)
    go_enter Tryz.func70, Tryz.ntmps70
    go_wp2_with fail
    go_loop [4, 9] (fun s i => s = .int .u64 0 ∧ i = .int .i64 0) (fun _ _ => 0)
    case atStart => exact ⟨rfl, rfl⟩
    case round =>
      obtain ⟨rfl, rfl⟩ := hrel
      have a2 : 9223372036854775807 - 0 < x := by omega
      go_wp2_with fail
      exact bodyPost_ret (v := .tuple #[.int .u64 0, .bool false]) (by simp [results, Tryz.results70, go_sem]) rfl ⟨by rw [E1.out, E2.out], rfl⟩
  · by_cases a2 : 9223372036854775807 - x < y
    · have E1 : Hid (ok = false) := Lib.hid (by rw [← HB.out]; unfold plus2B; apply decide_eq_false; omega)
      have E2 : Hid (q = 0) := Lib.hid (by rw [← HQ.out]; unfold plus2Q; rw [HB.out, E1.out]; rfl)
      go_enter Tryz.func70, Tryz.ntmps70
      go_wp2_with fail
      go_loop [4, 9] (fun s i => (s = .int .u64 0 ∧ i = .int .i64 0) ∨ (s = .int .u64 x ∧ i = .int .i64 1)) (fun _ i => 2 - (intOf i).toNat)
      case atStart => exact Or.inl ⟨rfl, rfl⟩
      case round =>
        rcases hrel with ⟨rfl, rfl⟩ | ⟨rfl, rfl⟩
        · go_wp2_with fail
          go_round
          case rel => exact Or.inr ⟨by go_num, by go_num⟩
          case measure => simp [intOf]
        · go_wp2_with fail
          exact bodyPost_ret (v := .tuple #[.int .u64 0, .bool false]) (by simp [results, Tryz.results70, go_sem]) rfl ⟨by rw [E1.out, E2.out], rfl⟩
    · have E1 : Hid (ok = true) := Lib.hid (by rw [← HB.out]; unfold plus2B; apply decide_eq_true; omega)
      have E2 : Hid (q = x + y) := Lib.hid (by rw [← HQ.out]; unfold plus2Q; rw [HB.out, E1.out]; rfl)
      go_enter Tryz.func70, Tryz.ntmps70
      go_wp2_with fail
      go_loop [4, 9] (fun s i => (s = .int .u64 0 ∧ i = .int .i64 0) ∨ (s = .int .u64 x ∧ i = .int .i64 1) ∨ (s = .int .u64 (x + y) ∧ i = .int .i64 2)) (fun _ i => 2 - (intOf i).toNat)
      case atStart => exact Or.inl ⟨rfl, rfl⟩
      case round =>
        rcases hrel with ⟨rfl, rfl⟩ | ⟨rfl, rfl⟩ | ⟨rfl, rfl⟩
        · go_wp2_with fail
          go_round
          case rel => exact Or.inr (Or.inl ⟨by go_num, by go_num⟩)
          case measure => simp [intOf]
        · go_wp2_with fail
          go_round
          case rel => exact Or.inr (Or.inr ⟨by go_num, by go_num⟩)
          case measure => simp [intOf]
        · go_wp2_with fail
          exact bodyPost_ret (v := .tuple #[.int .u64 (x + y), .bool true]) (by simp [results, Tryz.results70, go_sem]) rfl ⟨by rw [E1.out, E2.out], rfl⟩
end Go.Proofs.YtcijflakldggaaaGreat

/-
  How package strip lays a strip in memory; walks: New, own, Len, Total, At, Ends, of a strip and of a nil one.
  Walk: package strip: Add, of a strip and of a nil one.
-/
namespace Go.Proofs.YtcijflakldggaaaGreat
set_option linter.unusedVariables false
set_option linter.unusedSimpArgs false
open Go.RowKit

/-- At block B lies a strip: how many pairs at most, its row, their sum. -/
structure LayS (w : World) (B : Nat) (A : Option Addr) (n cap : Nat) (m t : Int) (L : List PairV) : Prop where
  b : w.heap[B]? = some (.cells #[.int .i64 m, .slice A n cap, .int .u64 t] 194 (0, 0))
  row : Slab w A cap L
theorem LayS.c0 {w : World} {B : Nat} {A : Option Addr} {n cap : Nat} {m t : Int} {L : List PairV} (h : LayS w B A n cap m t L) : w.cell? ⟨B, 0, none⟩ = some (.int .i64 m) := by rw [Joins.cell_of_block h.b]; rfl
theorem LayS.c1 {w : World} {B : Nat} {A : Option Addr} {n cap : Nat} {m t : Int} {L : List PairV} (h : LayS w B A n cap m t L) : w.cell? ⟨B, 1, none⟩ = some (.slice A n cap) := by rw [Joins.cell_of_block h.b]; rfl
theorem LayS.c2 {w : World} {B : Nat} {A : Option Addr} {n cap : Nat} {m t : Int} {L : List PairV} (h : LayS w B A n cap m t L) : w.cell? ⟨B, 2, none⟩ = some (.int .u64 t) := by rw [Joins.cell_of_block h.b]; rfl
theorem LayS.f {w : World} {B : Nat} {A : Option Addr} {n cap : Nat} {m t : Int} {L : List PairV} (h : LayS w B A n cap m t L) (o : Nat) : w.frozen? ⟨B, o, none⟩ = false := free8 h.b o
theorem LayS.lt {w : World} {B : Nat} {A : Option Addr} {n cap : Nat} {m t : Int} {L : List PairV} (h : LayS w B A n cap m t L) : B < w.heap.size := lt_of_block h.b
theorem LayS.ne {w : World} {B : Nat} {A : Option Addr} {n cap : Nat} {m t : Int} {L : List PairV} (h : LayS w B A n cap m t L) {k : Nat} (hk : blkA A = some k) : k ≠ B := by
  rintro rfl
  rcases h.row.blk with ⟨rfl, _⟩ | ⟨g, off, cs, rfl, hb⟩
  · cases hk
  · cases hk
    have h1 := h.b
    rw [hb] at h1
    injection h1 with h2
    injection h2 with _ h3
    revert h3
    decide
theorem LayS.keep {w w' : World} {B : Nat} {A : Option Addr} {n cap : Nat} {m t : Int} {L : List PairV} (h : LayS w B A n cap m t L) (h1 : w'.heap[B]? = w.heap[B]?) (h2 : ∀ k, blkA A = some k → w'.heap[k]? = w.heap[k]?) : LayS w' B A n cap m t L := ⟨h1.trans h.b, h.row.keep h2⟩
theorem LayS.call {w w' : World} {B : Nat} {A : Option Addr} {n cap : Nat} {m t : Int} {L : List PairV} (h : LayS w B A n cap m t L) (hb : Below w.heap.size w w') : LayS w' B A n cap m t L := ⟨(hb.block _ h.lt).trans h.b, h.row.call hb⟩

/-- A strip at block B, of m pairs at most, whose row is L; S are its blocks. -/
def StX (w : World) (B : Nat) (S : Nat → Prop) (m : Int) (L : List PairV) : Prop :=
  Stp m L ∧ I64 m ∧ ∃ A cap, LayS w B A L.length cap m (sumP L) L ∧ ∀ k, S k ↔ k = B ∨ blkA A = some k
theorem stx_keep (w w' : World) (B : Nat) (S : Nat → Prop) (m : Int) (L : List PairV) (h : StX w B S m L) (hk : ∀ k, S k → w'.heap[k]? = w.heap[k]?) : StX w' B S m L := by
  obtain ⟨h1, h2, A, cap, h3, h4⟩ := h
  exact ⟨h1, h2, A, cap, h3.keep (hk B ((h4 B).2 (Or.inl rfl))) (fun k hA => hk k ((h4 k).2 (Or.inr hA))), h4⟩
theorem stx_lt (w : World) (B : Nat) (S : Nat → Prop) (m : Int) (L : List PairV) (h : StX w B S m L) : ∀ k, S k → k < w.heap.size := by
  obtain ⟨h1, h2, A, cap, h3, h4⟩ := h
  intro k hk
  rcases (h4 k).1 hk with rfl | hA
  · exact h3.lt
  · exact h3.row.lt hA
theorem stx_cells (w : World) (B : Nat) (S : Nat → Prop) (m : Int) (L : List PairV) (h : StX w B S m L) : ∀ k, S k → ∃ cs t z, w.heap[k]? = some (.cells cs t z) := by
  obtain ⟨h1, h2, A, cap, h3, h4⟩ := h
  intro k hk
  rcases (h4 k).1 hk with rfl | hA
  · exact ⟨_, _, _, h3.b⟩
  · rcases h3.row.blk with ⟨rfl, _⟩ | ⟨g, off, cs, rfl, hb⟩
    · cases hA
    · cases hA; exact ⟨_, _, _, hb⟩

set_option maxHeartbeats 400000 in
theorem snew_any (w : World) (m : Int) (h1 : 1 ≤ m) (h2 : m ≤ 4096) :
    Calls Tryz.prog 122 #[.int .i64 m] w fun e w' => ∃ B S, e = .returned (.tuple #[.pointer (some ⟨B, 0, none⟩), .int .i64 0]) ∧ StX w' B S m [] ∧ (∀ k, S k → w.heap.size ≤ k) ∧ Below w.heap.size w w' := by
  have q1 : ¬ m < 1 := by omega
  have q2 : ¬ 4096 < m := by omega
  go_enter Tryz.func122, Tryz.ntmps122
  go_wp2_with fail
  refine bodyPost_ret (v := .tuple #[.pointer (some ⟨w.heap.size, 0, none⟩), .int .i64 0]) (by simp [results, Tryz.results122, go_sem]) rfl ?_
  refine ⟨w.heap.size, rfl, fun k => k = w.heap.size, ⟨Stp.nil (by omega), ⟨by omega, by omega⟩, none, 0, ⟨heap_alloc_new _ _, Slab.nil _⟩, fun k => ⟨Or.inl, fun h => by rcases h with h | h; exact h; cases h⟩⟩, fun k hk => by subst hk; exact Nat.le_refl _, (Below.refl _ _).alloc (Nat.le_refl _) _⟩
set_option maxHeartbeats 400000 in
theorem sbad_any (w : World) (m : Int) (hm : I64 m) (hb : m < 1 ∨ 4096 < m) :
    Calls Tryz.prog 122 #[.int .i64 m] w fun e w' => e = .returned (.tuple #[.pointer none, .int .i64 1]) ∧ Below w.heap.size w w' := by
  by_cases q2 : m < 1
  · go_enter Tryz.func122, Tryz.ntmps122
    go_wp2_with fail
    go_ret2
    exact ⟨rfl, Below.refl _ _⟩
  · have q3 : 4096 < m := by omega
    go_enter Tryz.func122, Tryz.ntmps122
    go_wp2_with fail
    go_ret2
    exact ⟨rfl, Below.refl _ _⟩

set_option maxHeartbeats 400000 in
theorem sown_at (w : World) (B : Nat) (v : Value) (h : w.cell? ⟨B, 1, none⟩ = some v) :
    Calls Tryz.prog 129 #[.pointer (some ⟨B, 0, none⟩)] w fun e w' => e = .returned v ∧ w = w' := by
  go_enter Tryz.func129, Tryz.ntmps129
  go_wp2_with fail
  go_ret
  exact ⟨rfl, rfl⟩
set_option maxHeartbeats 400000 in
theorem sown_none (w : World) :
    Calls Tryz.prog 129 #[.pointer none] w fun e w' => e = .returned (.slice none 0 0) ∧ w = w' := by
  go_enter Tryz.func129, Tryz.ntmps129
  go_wp2_with fail
  go_ret
  exact ⟨rfl, rfl⟩
/-- A strip, or none: what its own row is. -/
def OwnsV (w : World) (p : Option Addr) (A : Option Addr) (n cap : Nat) : Prop := ∀ w', Below w.heap.size w w' → Calls Tryz.prog 129 #[.pointer p] w' fun e w'' => e = .returned (.slice A n cap) ∧ w' = w''
theorem owns_at {w : World} {B : Nat} {A : Option Addr} {n cap : Nat} (h : w.cell? ⟨B, 1, none⟩ = some (.slice A n cap)) : OwnsV w (some ⟨B, 0, none⟩) A n cap := fun w' hb => sown_at w' B _ (cell_later hb h)
theorem owns_none (w : World) : OwnsV w none none 0 0 := fun w' _ => sown_none w'
theorem OwnsV.now {w : World} {p A : Option Addr} {n cap : Nat} (h : OwnsV w p A n cap) : Calls Tryz.prog 129 #[.pointer p] w fun e w' => e = .returned (.slice A n cap) ∧ w = w' := h w (Below.refl _ _)

set_option maxHeartbeats 400000 in
theorem slen_of (w : World) (p A : Option Addr) (n cap : Nat) (h : OwnsV w p A n cap) :
    Calls Tryz.prog 136 #[.pointer p] w fun e w' => e = .returned (.int .i64 n) ∧ w = w' := by
  have H := Lib.hid h
  clear h
  go_enter Tryz.func136, Tryz.ntmps136
  go_wp2_with fail
  refine H.out.now.mono ?_
  rintro e w2 ⟨rfl, rfl⟩
  go_wp2_with fail
  go_ret
  exact ⟨rfl, rfl⟩
set_option maxHeartbeats 400000 in
theorem stotal_at (w : World) (B : Nat) (t : Int) (h : w.cell? ⟨B, 2, none⟩ = some (.int .u64 t)) :
    Calls Tryz.prog 112 #[.pointer (some ⟨B, 0, none⟩)] w fun e w' => e = .returned (.int .u64 t) ∧ w = w' := by
  go_enter Tryz.func112, Tryz.ntmps112
  go_wp2_with fail
  go_ret
  exact ⟨rfl, rfl⟩
set_option maxHeartbeats 400000 in
theorem stotal_none (w : World) :
    Calls Tryz.prog 112 #[.pointer none] w fun e w' => e = .returned (.int .u64 0) ∧ w = w' := by
  go_enter Tryz.func112, Tryz.ntmps112
  go_wp2_with fail
  go_ret
  exact ⟨rfl, rfl⟩

/-- Where an index stands in a good row, and how many of it there are. -/
theorem good_where {L : List PairV} (i : Int) (hg : GoodP L) : ∃ n, (lowP L i).length = n ∧ n ≤ L.length ∧
    ((isP L i = true ∧ n < L.length ∧ L[n]? = some (i, countP L i) ∧ belowP L i = sumP (L.take (n + 1)) ∧ (∀ c, 0 < c → 0 ≤ countP L i → (addP L i c).length = L.length)) ∨
     (isP L i = false ∧ countP L i = 0 ∧ belowP L i = sumP (L.take n) ∧ (∀ c, 0 < c → (addP L i c).length = L.length + 1))) := by
  have hlo : ∀ A : List PairV, (∀ p, p ∈ A → p.1 < i) → A.filter (fun p => decide (p.1 ≤ i)) = A := fun A h => List.filter_eq_self.2 fun p hp => by have := h p hp; simp; omega
  have hhi : ∀ A : List PairV, (∀ p, p ∈ A → i < p.1) → A.filter (fun p => decide (p.1 ≤ i)) = [] := fun A h => List.filter_eq_nil_iff.2 fun p hp => by have := h p hp; simp; omega
  have h1 := hlo (lowP L i) fun p hp => (lowP_mem hp).2
  have h2 := hhi (highP L i) fun p hp => (highP_mem hp).2
  refine ⟨_, rfl, List.length_filter_le _ _, ?_⟩
  rcases good_part i hg with ⟨m, e1, e2, e3⟩ | ⟨e1, e2⟩
  · refine Or.inl ⟨by rw [← e1]; exact (is_part (L := L)).2 m, ?_, ?_, ?_, fun c hc _ => ?_⟩
    · have := congrArg List.length e1; simp only [List.length_append, List.length_cons] at this; omega
    · rw [e2]
      have : (lowP L i ++ ((i, m) :: highP L i))[(lowP L i).length]? = some (i, m) := by rw [List.getElem?_append_right (Nat.le_refl _), Nat.sub_self]; rfl
      rwa [e1] at this
    · have h3 : belowP (lowP L i ++ ((i, m) :: highP L i)) i = sumP ((lowP L i ++ ((i, m) :: highP L i)).take ((lowP L i).length + 1)) := by
        unfold belowP
        rw [List.filter_append, h1, List.filter_cons_of_pos (by simp), h2, List.take_append, List.take_of_length_le (Nat.le_succ _), Nat.add_sub_cancel_left]
        rfl
      rwa [e1] at h3
    · have h4 := congrArg List.length e1
      unfold addP
      rw [e2]
      unfold midP
      rw [if_pos (by omega)]
      simp only [List.length_append, List.length_cons, List.length_nil] at h4 ⊢
      omega
  · refine Or.inr ⟨by rw [← e1]; exact (is_part (L := L)).1, e2, ?_, fun c hc => ?_⟩
    · have h3 : belowP (lowP L i ++ highP L i) i = sumP ((lowP L i ++ highP L i).take (lowP L i).length) := by
        unfold belowP
        rw [List.filter_append, h1, h2, List.take_append_of_le_length (Nat.le_refl _), List.take_length, List.append_nil]
      rwa [e1] at h3
    · have h4 := congrArg List.length e1
      unfold addP
      rw [e2]
      unfold midP
      rw [if_pos (by omega)]
      simp only [List.length_append, List.length_cons, List.length_nil] at h4 ⊢
      omega

set_option maxRecDepth 100000 in
set_option maxHeartbeats 1000000 in
theorem sends_none (w : World) (p A : Option Addr) (cap : Nat) (h : OwnsV w p A 0 cap) :
    Calls Tryz.prog 130 #[.pointer p] w fun e w' => e = .returned (.tuple #[.int .i64 0, .int .i64 0, .bool false]) ∧ Below w.heap.size w w' := by
  have H := Lib.hid h
  clear h
  go_enter Tryz.func130, Tryz.ntmps130
  go_wp2_with fail
  refine H.out.now.mono ?_
  rintro e w2 ⟨rfl, rfl⟩
  go_wp2_with fail
  exact bodyPost_ret (v := .tuple #[.int .i64 0, .int .i64 0, .bool false]) (by simp [results, Tryz.results130, go_sem]) rfl ⟨rfl, Below.refl _ _⟩

set_option maxRecDepth 100000 in
set_option maxHeartbeats 1000000 in
theorem sends_of (w : World) (p A : Option Addr) (cap N : Nat) (px pc qx qc : Int) (L : List PairV) (h : OwnsV w p A N cap) (hP : Pairs w A L) (hN : L.length = N) (hpos : 0 < N) (hl : N ≤ 1000) (h0 : L[0]? = some (px, pc)) (h1 : L[N - 1]? = some (qx, qc)) :
    Calls Tryz.prog 130 #[.pointer p] w fun e w' => e = .returned (.tuple #[.int .i64 px, .int .i64 qx, .bool true]) ∧ Below w.heap.size w w' := by
  have H := Lib.hid h
  obtain ⟨nn, hnn⟩ : ∃ nn, N - 1 = nn := ⟨_, rfl⟩
  rw [hnn] at h1
  obtain ⟨g, off, rfl, hbl, d0, _⟩ := hP.at_ 0 _ h0
  obtain ⟨g', off', e', _, g0, _⟩ := hP.at_ nn _ h1
  obtain ⟨rfl, rfl, _⟩ := Addr.mk.inj (Option.some.inj e')
  simp only [Nat.zero_mul, Nat.add_zero] at d0
  simp only at g0
  have k0 : ((N : Int) == 0) = false := by simp; omega
  have kN : (0 : Int) < (N : Int) := by omega
  have u1 : IntKind.i64.wrap ((N : Int) - 1) = (nn : Int) := by rw [IntKind.wrap_i64]; omega
  have u2 : (N : Int) - 1 = (nn : Int) := by omega
  have u3 : (nn : Int) < (N : Int) := by omega
  have u4 : (0 : Int) ≤ (nn : Int) := by omega
  have u5 : IntKind.i64.wrap (nn : Int) = (nn : Int) := by rw [IntKind.wrap_i64]; omega
  clear h hP hN h0 h1 hnn e'
  go_enter Tryz.func130, Tryz.ntmps130
  go_wp2_with fail
  refine H.out.now.mono ?_
  rintro e w2 ⟨rfl, rfl⟩
  go_wp2_with fail
  go_quiet (fail)
  go_wp2_with fail
  exact bodyPost_ret (v := .tuple #[.int .i64 px, .int .i64 qx, .bool true]) (by simp [results, Tryz.results130, go_sem]) rfl ⟨rfl, below_drewN (Below.refl _ _) _⟩
end Go.Proofs.YtcijflakldggaaaGreat

namespace Go.Proofs.YtcijflakldggaaaGreat
set_option linter.unusedVariables false
set_option linter.unusedSimpArgs false
open Go.RowKit

theorem Keeps.set {S : Nat → Prop} {w w1 : World} (k : Keeps S w w1) {b : Nat} (o : Nat) (u : Value) (h : S b ∨ w.heap.size ≤ b) : Keeps S w (w1.setCell ⟨b, o, none⟩ u) :=
  ⟨k.os, k.tape, k.output, by simpa [World.setCell] using k.size, fun j hj hn => by
    rw [Below.heap_setCell _ _ _ _ (by show j ≠ b; rintro rfl; rcases h with h | h; exact hn h; omega)]; exact k.block j hj hn⟩
theorem Keeps.new {S : Nat → Prop} {w w1 : World} (k : Keeps S w w1) (o : Obj) : Keeps S w (w1.alloc o) :=
  ⟨k.os, k.tape, k.output, Nat.le_trans k.size (by simp), fun j hj hn => (heap_alloc_old _ _ (Nat.lt_of_lt_of_le hj k.size)).trans (k.block j hj hn)⟩
theorem Keeps.draws {S : Nat → Prop} {w w1 : World} (k : Keeps S w w1) (m : Nat) : Keeps S w (w1.drewN m) := by
  have h := below_drewN (Below.refl w1.heap.size w1) m
  exact ⟨h.os.trans k.os, h.tape.trans k.tape, h.output.trans k.output, Nat.le_trans k.size h.size, fun j hj hn => (h.block j (Nat.lt_of_lt_of_le hj k.size)).trans (k.block j hj hn)⟩
theorem keeps_grown {S : Nat → Prop} {w w1 : World} {r : Option Nat} (h : w.grownBy w1 r) (hS : ∀ k, r = some k → S k) : Keeps S w w1 :=
  ⟨h.os, h.tape, h.output, h.size, fun j hj hn => h.block j hj (fun e => hn (hS j e.symm))⟩
theorem two_new8 (w : World) (x y : Value) (t : TypeId) : (w.alloc (.cells #[x, y] t)).cell? ⟨w.heap.size, 0, none⟩ = some x ∧ (w.alloc (.cells #[x, y] t)).cell? ⟨w.heap.size, 1, none⟩ = some y := by
  have h : (w.alloc (.cells #[x, y] t)).heap[w.heap.size]? = some (.cells #[x, y] t (0, 0)) := heap_alloc_new w _
  exact ⟨by rw [Joins.cell_of_block h]; rfl, by rw [Joins.cell_of_block h]; rfl⟩

set_option maxHeartbeats 400000 in
theorem sadd_none (w : World) (i c : Int) (hi : I64 i) (hc : Word c) :
    Calls Tryz.prog 117 #[.pointer none, .int .i64 i, .int .u64 c] w fun e w' => e = .returned (.int .i64 2) ∧ Below w.heap.size w w' := by
  go_enter Tryz.func117, Tryz.ntmps117
  go_wp2_with fail
  go_ret
  exact ⟨rfl, Below.refl _ _⟩

/-- What Add comes to. -/
def AddsS (w : World) (B : Nat) (S : Nat → Prop) (m : Int) (L : List PairV) (i c : Int) (e : Ending) (w' : World) : Prop :=
  ∃ S', e = .returned (.int .i64 (stErr m L i c)) ∧ StX w' B S' m (stRow m L i c) ∧ Keeps S w w' ∧ (∀ k, S' k → S k ∨ w.heap.size ≤ k)
theorem adds_same {w w' : World} {B : Nat} {S : Nat → Prop} {m : Int} {L : List PairV} {i c x : Int} (h : StX w B S m L) (he : stErr m L i c = x) (hx : x ≠ 0) (hb : Below w.heap.size w w') : AddsS w B S m L i c (.returned (.int .i64 x)) w' :=
  ⟨S, by rw [he], by unfold stRow; rw [if_neg (by omega)]; exact stx_keep _ _ _ _ _ _ h (fun k hk => hb.block k (stx_lt _ _ _ _ _ h k hk)), Keeps.of_below hb, fun k hk => Or.inl hk⟩

set_option maxRecDepth 100000 in
set_option maxHeartbeats 2000000 in
theorem sadd_no (w : World) (B : Nat) (S : Nat → Prop) (m : Int) (L : List PairV) (i c : Int) (h : StX w B S m L) (hl : L.length ≤ 900) (hi : I64 i) (hc : Word c) (hcase : c = 0 ∧ stErr m L i c = 1 ∨ (0 < c ∧ 9223372036854775807 - sumP L < c ∧ stErr m L i c = 6)) :
    Calls Tryz.prog 117 #[.pointer (some ⟨B, 0, none⟩), .int .i64 i, .int .u64 c] w (AddsS w B S m L i c) := by
  have HX := Lib.hid h
  obtain ⟨hst, hm, A, cap, hL, hS⟩ := h
  rcases hcase with ⟨rfl, e⟩ | ⟨hc0, hbig, e⟩
  · have E := Lib.hid e
    clear e hst hL hS
    go_enter Tryz.func117, Tryz.ntmps117
    go_wp2_with fail
    go_ret
    exact adds_same HX.out E.out (by decide) (Below.refl _ _)
  · have E := Lib.hid e
    have c1 := hL.c1
    have c2 := hL.c2
    have hs0 := sumP_pos (ok_pos hst.ok)
    have hs1 := hst.sum
    obtain ⟨t, ht⟩ : ∃ t, sumP L = t := ⟨_, rfl⟩
    rw [ht] at c2 hs0 hs1 hbig
    have P1 : Hid (plus2B t c = false) := Lib.hid (by unfold plus2B; apply decide_eq_false; omega)
    have P2 : Hid (plus2Q t c = 0) := Lib.hid (by unfold plus2Q; rw [P1.out]; rfl)
    have c00 : (c == 0) = false := by simp; omega
    obtain ⟨n, b, hF⟩ : ∃ (n : Nat) (b : Bool), ∀ w', Below w.heap.size w w' → Calls Tryz.prog 132 #[.slice A L.length cap, .int .i64 i] w' fun e w'' => e = .returned (.tuple #[.int .i64 n, .bool b]) ∧ Below w'.heap.size w' w'' :=
      ⟨_, _, fun w' hb => find_big w' A cap L i _ _ (hL.row.pairs.call hb) (by omega) hst.good hi rfl rfl⟩
    have HF := Lib.hid hF
    obtain ⟨hc1, hc2⟩ := hc
    clear e hst hL hS ht hF
    go_enter Tryz.func117, Tryz.ntmps117
    go_wp2_with fail
    refine (plus_two t c 0 false _ _ _ ⟨by omega, by omega⟩ ⟨by omega, by omega⟩ (two_new8 w _ _ _).1 (two_new8 w _ _ _).2 P2.out P1.out).mono ?_
    rintro e w3 ⟨rfl, rfl⟩
    have hb3 : Below w.heap.size w (w.alloc (.cells #[.int .u64 t, .int .u64 c] 22)) := (Below.refl _ _).alloc (Nat.le_refl _) _
    have d1 := cell_later hb3 c1
    have HB3 := Lib.hid hb3
    clear hb3
    go_wp2_with fail
    refine (HF.out _ HB3.out).mono ?_
    rintro e w4 ⟨rfl, hb4⟩
    have HB4 := Lib.hid (HB3.out.trans (hb4.mono HB3.out.size))
    clear hb4 d1
    go_wp2_with fail
    go_quiet (fail)
    go_wp2_with fail
    go_ret
    exact adds_same HX.out E.out (by decide) (below_drewN HB4.out _)

set_option maxRecDepth 100000 in
set_option maxHeartbeats 2000000 in
theorem sadd_full (w : World) (B : Nat) (S : Nat → Prop) (m : Int) (L : List PairV) (i c : Int) (h : StX w B S m L) (hl : L.length ≤ 900) (hi : I64 i) (hc : Word c) (hc0 : 0 < c) (hfit : c ≤ 9223372036854775807 - sumP L) (hf : m < ((addP L i c).length : Int)) (e : stErr m L i c = 6) :
    Calls Tryz.prog 117 #[.pointer (some ⟨B, 0, none⟩), .int .i64 i, .int .u64 c] w (AddsS w B S m L i c) := by
  have HX := Lib.hid h
  obtain ⟨hst, hm, A, cap, hL, hS⟩ := h
  have E := Lib.hid e
  have c0 := hL.c0
  have c1 := hL.c1
  have c2 := hL.c2
  have hs0 := sumP_pos (ok_pos hst.ok)
  have hs1 := hst.sum
  obtain ⟨n, hn, hnl, ⟨hb, _, _, _, hlen⟩ | ⟨hb, _, _, hlen⟩⟩ := good_where i hst.good
  · have h1 := hlen c hc0 (hst.cnt i).1
    have h2 := hst.most
    omega
  have h1 := hlen c hc0
  have k7 : m ≤ (L.length : Int) := by omega
  have k8 : decide (m ≤ (L.length : Int)) = true := decide_eq_true k7
  obtain ⟨t, ht⟩ : ∃ t, sumP L = t := ⟨_, rfl⟩
  rw [ht] at c2 hs0 hs1 hfit
  have P1 : Hid (plus2B t c = true) := Lib.hid (by unfold plus2B; apply decide_eq_true; omega)
  have P2 : Hid (plus2Q t c = t + c) := Lib.hid (by unfold plus2Q; rw [P1.out]; rfl)
  have c00 : (c == 0) = false := by simp; omega
  have hF : ∀ w', Below w.heap.size w w' → Calls Tryz.prog 132 #[.slice A L.length cap, .int .i64 i] w' fun e w'' => e = .returned (.tuple #[.int .i64 n, .bool false]) ∧ Below w'.heap.size w' w'' :=
    fun w' hb' => find_big w' A cap L i _ _ (hL.row.pairs.call hb') (by omega) hst.good hi hn hb
  have HF := Lib.hid hF
  obtain ⟨hc1, hc2⟩ := hc
  obtain ⟨m0, m1⟩ := hm
  clear e hst hL hS ht hF hn hb hlen h1
  go_enter Tryz.func117, Tryz.ntmps117
  go_wp2_with fail
  refine (plus_two t c (t + c) true _ _ _ ⟨by omega, by omega⟩ ⟨by omega, by omega⟩ (two_new8 w _ _ _).1 (two_new8 w _ _ _).2 P2.out P1.out).mono ?_
  rintro e w3 ⟨rfl, rfl⟩
  have hb3 : Below w.heap.size w (w.alloc (.cells #[.int .u64 t, .int .u64 c] 22)) := (Below.refl _ _).alloc (Nat.le_refl _) _
  have d1 := cell_later hb3 c1
  have d0 := cell_later hb3 c0
  have HB3 := Lib.hid hb3
  clear hb3
  go_wp2_with fail
  refine (HF.out _ HB3.out).mono ?_
  rintro e w4 ⟨rfl, hb4⟩
  have g1 := cell_later hb4 d1
  have g0 := cell_later hb4 d0
  have HB4 := Lib.hid (HB3.out.trans (hb4.mono HB3.out.size))
  clear hb4 d1 d0 c0 c1 c2
  go_wp2_with fail
  go_quiet (fail)
  go_wp2_with fail
  go_ret
  exact adds_same HX.out E.out (by decide) (below_drewN HB4.out _)

set_option maxRecDepth 100000 in
set_option maxHeartbeats 2000000 in
theorem sadd_in (w : World) (B : Nat) (S : Nat → Prop) (m : Int) (L : List PairV) (i c mm : Int) (h : StX w B S m L) (hl : L.length ≤ 900) (hi : I64 i) (hc : Word c) (hc0 : 0 < c) (hfit : c ≤ 9223372036854775807 - sumP L) (e : stErr m L i c = 0)
    (hp : lowP L i ++ ((i, mm) :: highP L i) = L) (hm2 : countP L i = mm) (hm1 : 1 ≤ mm) :
    Calls Tryz.prog 117 #[.pointer (some ⟨B, 0, none⟩), .int .i64 i, .int .u64 c] w (AddsS w B S m L i c) := by
  have HST := Lib.hid (stp_add h.1 hi hc)
  have HRW : Hid (stRow m L i c = addP L i c) := Lib.hid (by unfold stRow; rw [if_pos e])
  have HM := Lib.hid h.2.1
  obtain ⟨hst, hm, A, cap, hL, hS⟩ := h
  have E := Lib.hid e
  have hs0 := sumP_pos (ok_pos hst.ok)
  have hs1 := hst.sum
  have hcn := hst.cnt i
  have HSM : Hid (sumP (addP L i c) = sumP L + c) := Lib.hid (add_sum (by omega))
  have HS := Lib.hid hS
  obtain ⟨n, hn⟩ : ∃ n, (lowP L i).length = n := ⟨_, rfl⟩
  have his : isP L i = true := by rw [← hp]; exact (is_part (L := L)).2 mm
  have hxn : L[n]? = some (i, mm) := by
    have : (lowP L i ++ ((i, mm) :: highP L i))[n]? = some (i, mm) := by rw [List.getElem?_append_right (by omega), hn, Nat.sub_self]; rfl
    rwa [hp] at this
  have hnl : n < L.length := by
    rcases Nat.lt_or_ge n L.length with h1 | h1
    · exact h1
    · rw [List.getElem?_eq_none h1] at hxn; cases hxn
  obtain ⟨g, off, rfl, hbl, d0, d1⟩ := hL.row.pairs.at_ n _ hxn
  have hadd : addP L i c = lowP L i ++ ((i, mm + c) :: highP L i) := by unfold addP; rw [hm2]; unfold midP; rw [if_pos (by omega)]; rfl
  have hlen : (addP L i c).length = L.length := by rw [hadd]; have := congrArg List.length hp; simp only [List.length_append, List.length_cons] at this ⊢; exact this
  obtain ⟨t, ht⟩ : ∃ t, sumP L = t := ⟨_, rfl⟩
  rw [ht] at hs0 hs1 hfit hL HSM hcn
  have HL := Lib.hid hL
  have P1 : Hid (plus2B t c = true) := Lib.hid (by unfold plus2B; apply decide_eq_true; omega)
  have P2 : Hid (plus2Q t c = t + c) := Lib.hid (by unfold plus2Q; rw [P1.out]; rfl)
  have c00 : (c == 0) = false := by simp; omega
  have hF : ∀ w', Below w.heap.size w w' → Calls Tryz.prog 132 #[.slice (some ⟨g, off, none⟩) L.length cap, .int .i64 i] w' fun e w'' => e = .returned (.tuple #[.int .i64 n, .bool true]) ∧ Below w'.heap.size w' w'' :=
    fun w' hb' => find_big w' _ cap L i _ _ (hL.row.pairs.call hb') (by omega) hst.good hi hn his
  have HF := Lib.hid hF
  have hBw := hL.lt
  have hBg : g ≠ B := hL.ne rfl
  have hBg' : ¬ B = g := fun e => hBg e.symm
  have fin : ∀ w5, Below w.heap.size w w5 → w5.cell? ⟨B, 1, none⟩ = some (.slice (some ⟨g, off, none⟩) L.length cap) ∧ w5.cell? ⟨B, 2, none⟩ = some (.int .u64 t) ∧ w5.frozen? ⟨B, 2, none⟩ = false ∧ w5.cell? ⟨g, off + n * 2 + 1, none⟩ = some (.int .u64 mm) ∧ w5.frozen? ⟨g, off + n * 2 + 1, none⟩ = false ∧
      AddsS w B S m L i c (.returned (.int .i64 0)) ((w5.setCell ⟨g, off + n * 2 + 1, none⟩ (.int .u64 (mm + c))).setCell ⟨B, 2, none⟩ (.int .u64 (t + c))) := by
    intro w5 hb5
    have hL5 := HL.out.call hb5
    have hr := hL5.row.put hp hn hi (m' := mm + c) ⟨by omega, by omega⟩
    rw [← hadd] at hr
    have hb6 : (w5.setCell ⟨g, off + n * 2 + 1, none⟩ (.int .u64 (mm + c))).heap[B]? = some (.cells #[.int .i64 m, .slice (some ⟨g, off, none⟩) L.length cap, .int .u64 t] 194 (0, 0)) := by
      rw [Below.heap_setCell _ _ _ _ hBg.symm]; exact hL5.b
    have hfz : w5.frozen? ⟨g, off + n * 2 + 1, none⟩ = false := by
      rcases hL5.row.blk with ⟨e, _⟩ | ⟨g', off', cs, e, hb⟩
      · cases e
      · obtain ⟨rfl, rfl, _⟩ := Addr.mk.inj (Option.some.inj e)
        exact free8 hb _
    refine ⟨hL5.c1, hL5.c2, hL5.f 2, cell_later hb5 d1, hfz, S, by rw [E.out], ?_, ?_, fun k hk => Or.inl hk⟩
    · rw [HRW.out]
      have hst2 := HST.out
      rw [HRW.out] at hst2
      refine ⟨hst2, HM.out, some ⟨g, off, none⟩, cap, ⟨?_, hr.keep fun k hk => ?_⟩, HS.out⟩
      · rw [HSM.out, hlen]
        exact set_cells8 hb6 2 _
      · rw [Below.heap_setCell _ _ _ _ (by show k ≠ B; cases hk; exact hBg)]
    · have hk1 : Keeps S w (w5.setCell ⟨g, off + n * 2 + 1, none⟩ (.int .u64 (mm + c))) := (Keeps.of_below hb5).set _ _ (Or.inl ((HS.out g).2 (Or.inr rfl)))
      exact hk1.set 2 _ (Or.inl ((HS.out B).2 (Or.inl rfl)))
  have FIN := Lib.hid fin
  have hc1' := hL.c1
  have hc2' := hL.c2
  have hc0' := hL.c0
  have hm64 : mm < 18446744073709551616 := by omega
  have hmc2 : IntKind.u64.wrap (mm + c) = mm + c := by rw [IntKind.wrap_u64]; omega
  obtain ⟨hc1, hc2⟩ := hc
  obtain ⟨m0, m1⟩ := hm
  obtain ⟨i0, i1⟩ := hi
  have nn : (n : Int) < L.length := by omega
  clear fin e hst hL hS ht hF hn his hxn hadd hlen hp hm2 d0 d1 hbl
  go_enter Tryz.func117, Tryz.ntmps117
  go_wp2_with fail
  refine (plus_two t c (t + c) true _ _ _ ⟨by omega, by omega⟩ ⟨by omega, by omega⟩ (two_new8 w _ _ _).1 (two_new8 w _ _ _).2 P2.out P1.out).mono ?_
  rintro e w3 ⟨rfl, rfl⟩
  have hb3 : Below w.heap.size w (w.alloc (.cells #[.int .u64 t, .int .u64 c] 22)) := (Below.refl _ _).alloc (Nat.le_refl _) _
  have d1 := cell_later hb3 hc1'
  have d0 := cell_later hb3 hc0'
  have HB3 := Lib.hid hb3
  clear hb3
  go_wp2_with fail
  refine (HF.out _ HB3.out).mono ?_
  rintro e w4 ⟨rfl, hb4⟩
  have g1 := cell_later hb4 d1
  have g0 := cell_later hb4 d0
  have HB4 := Lib.hid (HB3.out.trans (hb4.mono HB3.out.size))
  clear hb4 d1 d0 hc0' hc1' hc2'
  go_wp2_with fail
  go_quiet (fail)
  obtain ⟨x1, x2, x3, x4, x5, hfin⟩ := FIN.out _ (below_drewN HB4.out nq)
  have HFI := Lib.hid hfin
  clear hfin g0 g1
  generalize w4.drewN nq = w5 at *
  go_wp2_with fail
  go_ret
  exact HFI.out

set_option maxRecDepth 100000 in
set_option maxHeartbeats 2000000 in
theorem sadd_new (w : World) (B : Nat) (S : Nat → Prop) (m : Int) (L : List PairV) (i c : Int) (h : StX w B S m L) (hl : L.length ≤ 900) (hi : I64 i) (hc : Word c) (hc0 : 0 < c) (hfit : c ≤ 9223372036854775807 - sumP L) (hf : ((addP L i c).length : Int) ≤ m) (e : stErr m L i c = 0)
    (hp : lowP L i ++ highP L i = L) (hm2 : countP L i = 0) :
    Calls Tryz.prog 117 #[.pointer (some ⟨B, 0, none⟩), .int .i64 i, .int .u64 c] w (AddsS w B S m L i c) := by
  have HST := Lib.hid (stp_add h.1 hi hc)
  have HRW : Hid (stRow m L i c = addP L i c) := Lib.hid (by unfold stRow; rw [if_pos e])
  have HM := Lib.hid h.2.1
  obtain ⟨hst, hm, A, cap, hL, hS⟩ := h
  have E := Lib.hid e
  have hs0 := sumP_pos (ok_pos hst.ok)
  have hs1 := hst.sum
  have hcn := hst.cnt i
  have HSM : Hid (sumP (addP L i c) = sumP L + c) := Lib.hid (add_sum (by omega))
  have HS := Lib.hid hS
  obtain ⟨n, hn⟩ : ∃ n, (lowP L i).length = n := ⟨_, rfl⟩
  have his : isP L i = false := by rw [← hp]; exact (is_part (L := L)).1
  have hadd : addP L i c = lowP L i ++ ((i, c) :: highP L i) := by unfold addP; rw [hm2, Int.zero_add]; unfold midP; rw [if_pos hc0]; rfl
  have hlen : (addP L i c).length = L.length + 1 := by rw [hadd]; have := congrArg List.length hp; simp only [List.length_append, List.length_cons] at this ⊢; omega
  have k7 : ¬ m ≤ (L.length : Int) := by omega
  obtain ⟨t, ht⟩ : ∃ t, sumP L = t := ⟨_, rfl⟩
  rw [ht] at hs0 hs1 hfit hL HSM hcn
  have HL := Lib.hid hL
  obtain ⟨N, hN⟩ : ∃ N : Nat, L.length = N := ⟨_, rfl⟩
  have HIN : Hid (∀ w', Below w.heap.size w w' → ∀ vb, OneP w' vb i c → w.heap.size ≤ vb → Calls Tryz.prog 133 #[.slice A N cap, .int .i64 n, .slice (some ⟨vb, 0, none⟩) 1 1] w' (AddedV w' A (addP L i c))) := Lib.hid fun w' hb' vb hv hvb => by
    rw [hadd]
    refine ins_any w' A cap n N vb _ _ i c (by rw [hp]; exact hL.row.call hb') hn (by rw [hp]; exact hN) (by omega) hv (fun e => ?_) hi hc
    have := hL.row.lt e
    omega
  have P1 : Hid (plus2B t c = true) := Lib.hid (by unfold plus2B; apply decide_eq_true; omega)
  have P2 : Hid (plus2Q t c = t + c) := Lib.hid (by unfold plus2Q; rw [P1.out]; rfl)
  have c00 : (c == 0) = false := by simp; omega
  have hF : ∀ w', Below w.heap.size w w' → Calls Tryz.prog 132 #[.slice A N cap, .int .i64 i] w' fun e w'' => e = .returned (.tuple #[.int .i64 n, .bool false]) ∧ Below w'.heap.size w' w'' :=
    fun w' hb' => hN ▸ find_big w' A cap L i _ _ (hL.row.pairs.call hb') (by omega) hst.good hi hn his
  have HF := Lib.hid hF
  have hBw := hL.lt
  have fin : ∀ w5 w6 A' cap', Below w.heap.size w w5 → Slab w6 A' cap' (addP L i c) → w5.grownBy w6 (blkA A) → (A' = A ∨ ∀ k, blkA A' = some k → w5.heap.size ≤ k) →
      w6.cell? ⟨B, 1, none⟩ = some (.slice A N cap) ∧ w6.cell? ⟨B, 2, none⟩ = some (.int .u64 t) ∧ w6.frozen? ⟨B, 1, none⟩ = false ∧ w6.frozen? ⟨B, 2, none⟩ = false ∧
      AddsS w B S m L i c (.returned (.int .i64 0)) ((w6.setCell ⟨B, 1, none⟩ (.slice A' (addP L i c).length cap')).setCell ⟨B, 2, none⟩ (.int .u64 (t + c))) := by
    intro w5 w6 A' cap' hb5 hr hg hor3
    have hL5 := HL.out.call hb5
    have hB6 : w6.heap[B]? = w5.heap[B]? := hg.block B (Nat.lt_of_lt_of_le hBw hb5.size) (fun e => HL.out.ne e.symm rfl)
    have hb6 := hB6.trans hL5.b
    have hne : ∀ k, blkA A' = some k → k ≠ B := fun k hk => by
      rcases hor3 with rfl | hf'
      · exact HL.out.ne hk
      · have := hf' k hk; have := hb5.size; omega
    refine ⟨by rw [Joins.cell_of_block hb6, ← hN]; rfl, by rw [Joins.cell_of_block hb6]; rfl, free8 hb6 _, free8 hb6 _, fun k => k = B ∨ blkA A' = some k, by rw [E.out], ?_, ?_, ?_⟩
    · rw [HRW.out]
      have hst2 := HST.out
      rw [HRW.out] at hst2
      refine ⟨hst2, HM.out, A', cap', ⟨?_, hr.keep fun k hk => ?_⟩, fun k => Iff.rfl⟩
      · rw [HSM.out]
        exact set_cells8 (set_cells8 hb6 1 _) 2 _
      · rw [Below.heap_setCell _ _ _ _ (hne k hk), Below.heap_setCell _ _ _ _ (hne k hk)]
    · have hk1 : Keeps S w w6 := keeps_grown (grown_trans (grown_of_below8 hb5) hg) fun k hk => (HS.out k).2 (Or.inr hk)
      exact (hk1.set 1 _ (Or.inl ((HS.out B).2 (Or.inl rfl)))).set 2 _ (Or.inl ((HS.out B).2 (Or.inl rfl)))
    · rintro k (rfl | hk)
      · exact Or.inl ((HS.out k).2 (Or.inl rfl))
      · rcases hor3 with rfl | hf'
        · exact Or.inl ((HS.out k).2 (Or.inr hk))
        · exact Or.inr (Nat.le_trans hb5.size (hf' k hk))
  have FIN := Lib.hid fin
  have hc1' := hL.c1
  have hc2' := hL.c2
  have hc0' := hL.c0
  rw [hN] at hc1' k7
  have k8 : decide (m ≤ (N : Int)) = false := decide_eq_false k7
  obtain ⟨hc1, hc2⟩ := hc
  obtain ⟨m0, m1⟩ := hm
  obtain ⟨i0, i1⟩ := hi
  clear fin e hst hL hS ht hF hn his hadd hlen hp hm2 hcn hf
  go_enter Tryz.func117, Tryz.ntmps117
  go_wp2_with fail
  refine (plus_two t c (t + c) true _ _ _ ⟨by omega, by omega⟩ ⟨by omega, by omega⟩ (two_new8 w _ _ _).1 (two_new8 w _ _ _).2 P2.out P1.out).mono ?_
  rintro e w3 ⟨rfl, rfl⟩
  have hb3 : Below w.heap.size w (w.alloc (.cells #[.int .u64 t, .int .u64 c] 22)) := (Below.refl _ _).alloc (Nat.le_refl _) _
  have d1 := cell_later hb3 hc1'
  have d0 := cell_later hb3 hc0'
  have HB3 := Lib.hid hb3
  clear hb3
  go_wp2_with fail
  refine (HF.out _ HB3.out).mono ?_
  rintro e w4 ⟨rfl, hb4⟩
  have g1 := cell_later hb4 d1
  have g0 := cell_later hb4 d0
  have HB4 := Lib.hid (HB3.out.trans (hb4.mono HB3.out.size))
  clear hb4 d1 d0 hc0' hc1' hc2'
  go_wp2_with fail
  go_quiet (fail)
  have hb5 := below_drewN HB4.out nq
  have g1 := cell_later (below_drewN (Below.refl w4.heap.size w4) nq) g1
  generalize w4.drewN nq = w5 at *
  have HB5 := Lib.hid hb5
  have hb6 : Below w.heap.size w (w5.alloc (.cells #[.int .i64 i, .int .u64 c] 114)) := hb5.alloc hb5.size _
  have HB6 := Lib.hid hb6
  have HI6 := Lib.hid (HIN.out _ hb6 w5.heap.size ⟨heap_alloc_new _ _⟩ hb5.size)
  clear hb5 hb6 g0
  go_wp2_with fail
  refine HI6.out.mono ?_
  rintro e w6 ⟨A', cap', rfl, hr, hg, hor3⟩
  obtain ⟨x1, x2, x3, x4, hfin⟩ := FIN.out _ w6 A' cap' HB6.out hr hg hor3
  have HFI := Lib.hid hfin
  clear hfin hr hg hor3
  go_wp2_with fail
  go_ret
  exact HFI.out

theorem sadd_any (w : World) (B : Nat) (S : Nat → Prop) (m : Int) (L : List PairV) (i c : Int) (h : StX w B S m L) (hl : L.length ≤ 900) (hi : I64 i) (hc : Word c) :
    Calls Tryz.prog 117 #[.pointer (some ⟨B, 0, none⟩), .int .i64 i, .int .u64 c] w (AddsS w B S m L i c) := by
  rcases stErr_cases (m := m) (L := L) (i := i) hc with hz | hbig | ⟨h1, h2, h3, e⟩ | ⟨h1, h2, h3, e⟩
  · exact sadd_no w B S m L i c h hl hi hc (Or.inl hz)
  · exact sadd_no w B S m L i c h hl hi hc (Or.inr hbig)
  · exact sadd_full w B S m L i c h hl hi hc h1 h2 h3 e
  · rcases good_part i h.1.good with ⟨mm, e1, e2, e3⟩ | ⟨e1, e2⟩
    · exact sadd_in w B S m L i c mm h hl hi hc h1 h2 e e1 e2 e3
    · exact sadd_new w B S m L i c h hl hi hc h1 h2 h3 e e1 e2
end Go.Proofs.YtcijflakldggaaaGreat

/-
  Regions that draw their order, whose operations only read, and whose calls leave all that lay there as it was: one walk, in the order of the text. Worlds that have grown from one.
-/
namespace Go.Proofs.YtcijflakldggaaaGreat
set_option linter.unusedVariables false
set_option linter.unusedSimpArgs false
open Go.RowKit Go.Sort

/-- How a world has grown: so many draws, these blocks. -/
structure GrewP where
  d : Nat
  os : Array Obj
instance : Inhabited GrewP := ⟨⟨0, #[]⟩⟩
def grewTo (w : World) (d : Nat) (os : Array Obj) : World := grow { w with drawn := d } os
theorem below_grewTo (w : World) (d : Nat) (os : Array Obj) : Below w.heap.size w (grewTo w d os) :=
  ⟨rfl, rfl, rfl, by show w.heap.size ≤ (grow _ os).heap.size; rw [size_grow]; show w.heap.size ≤ w.heap.size + _; omega, fun k hk => heap_grow_old { w with drawn := d } os hk⟩
theorem grewTo_of_below {w w' : World} (h : Below w.heap.size w w') : ∃ p : GrewP, w' = grewTo w p.d p.os := by
  refine ⟨⟨w'.drawn, w'.heap.extract w.heap.size w'.heap.size⟩, ?_⟩
  have hs := h.size
  have hh : w'.heap = w.heap ++ w'.heap.extract w.heap.size w'.heap.size := by
    apply Array.ext_getElem?
    intro i
    by_cases hi : i < w.heap.size
    · rw [Array.getElem?_append_left hi]; exact h.block i hi
    · rw [Array.getElem?_append_right (by omega), Array.getElem?_extract]
      by_cases h2 : i < w'.heap.size
      · rw [if_pos (by omega)]; congr 1; omega
      · rw [if_neg (by omega), Array.getElem?_eq_none (by omega)]
  obtain ⟨h1, t1, d1, o1, u1⟩ := w'
  have e1 : t1 = w.tape := h.tape
  have e2 : o1 = w.os := h.os
  have e3 : u1 = w.output := h.output
  subst e1 e2 e3
  simp only at hh
  show (⟨h1, w.tape, d1, w.os, w.output⟩ : World) = ⟨w.heap ++ h1.extract w.heap.size h1.size, w.tape, d1, w.os, w.output⟩
  rw [← hh]
theorem cell_grewTo {w : World} {a : Addr} {v : Value} (h : w.cell? a = some v) (d : Nat) (os : Array Obj) : (grewTo w d os).cell? a = some v := by
  have hlt := World.block_lt_of_cell? (a := a) w h
  exact (World.cell?_of_block ((below_grewTo w d os).block _ hlt)).trans h
/-- A callee that leaves all as it was, in a world that has grown. -/
theorem calls_grew {P : Program} {f : FuncId} {args : Array Value} {w : World} {d : Nat} {os : Array Obj} {v : Value}
    (h : Calls P f args (grewTo w d os) fun e w' => e = .returned v ∧ Below (grewTo w d os).heap.size (grewTo w d os) w') : Calls P f args (grewTo w d os) fun e w'' => e = .returned v ∧ ∃ p : GrewP, w'' = grewTo w p.d p.os :=
  h.mono fun e w' ⟨he, hb⟩ => ⟨he, grewTo_of_below ((below_grewTo w d os).trans (hb.mono (below_grewTo w d os).size))⟩
/-- .. one that leaves the very world. -/
theorem calls_grew_same {P : Program} {f : FuncId} {args : Array Value} {w : World} {d : Nat} {os : Array Obj} {v : Value}
    (h : Calls P f args (grewTo w d os) fun e w' => e = .returned v ∧ grewTo w d os = w') : Calls P f args (grewTo w d os) fun e w'' => e = .returned v ∧ ∃ p : GrewP, w'' = grewTo w p.d p.os :=
  h.mono fun e w' ⟨he, hb⟩ => ⟨he, ⟨d, os⟩, hb.symm⟩

theorem wp_region_grew {P : Program} {id : Nat} {Q : Exit → Act → World → Prop} {a : Act} {w : World} {l : List Oper} (hm : P.follows .mixedOrders = true) (hB : Region.lexB .any l.toArray = true)
    (h : wpQuiet P l.toArray (fun w' => ∃ p : GrewP, w' = grewTo w p.d p.os) (fun a' => ∀ w', (∃ p : GrewP, w' = grewTo w p.d p.os) → Q .normal a' w') l a) : (Code.region id l.toArray true).wp P Q a w :=
  wp_region_quiet (C := fun w' => ∃ p : GrewP, w' = grewTo w p.d p.os) hm hB ⟨⟨w.drawn + 1, #[]⟩, by unfold grewTo; rw [grow_empty]⟩ (by simpa using h)

section
variable {P : Program} {ops : Array Oper} {md : Region.Mode} {C S : World → Prop}
/-- What holds with much held holds with less. -/
theorem wpAnyH_weaken {S' : World → Prop} {Q : Exit → Act → World → Prop} (hS : ∀ w, S' w → S w) : ∀ (fuel : Nat) (listed : Array Bool) (a : Act) (w : World), wpAnyH P md ops Q S' fuel listed a w → wpAnyH P md ops Q S fuel listed a w
  | 0, _, _, _, h => h
  | fuel + 1, _, _, _, h => ⟨h.1, fun i hi => wpOp_mono (fun a' w' h' => ⟨hS _ h'.1, wpAnyH_weaken hS fuel _ a' w' h'.2⟩) (h.2 i hi)⟩
theorem wpAnyH_of_quiet {Q : Act → Prop} {Q' : Exit → Act → World → Prop} (hS : ∀ w, C w → S w) (hQ : ∀ a w, C w → Q a → Q' .normal a w) : ∀ (fuel : Nat) (listed : Array Bool) (a : Act) (w : World), C w →
    wpAnyQ P md ops C Q fuel listed a → wpAnyH P md ops Q' S fuel listed a w
  | 0, _, _, _, hw, h => ⟨h.1, hQ _ _ hw h.2⟩
  | fuel + 1, _, _, _, hw, h => ⟨fun h0 => hQ _ _ hw (h.1 h0), fun i hi => wpOp_of_qOp hw (fun a' w' hw' hh => ⟨hS _ hw', wpAnyH_of_quiet hS hQ fuel _ a' w' hw' hh⟩) (h.2 i hi)⟩
/-- From the midst of a region on: what is left of it, in the order of the text. -/
theorem held_grew {Q : Exit → Act → World → Prop} {l : List Oper} {fuel k : Nat} {listed : Array Bool} {a : Act} {w : World} (hf : l.length = fuel) (hs : Region.noSelect ops = true) (hl : ops.toList.drop k = l) (hB : Region.lexFrom md ops l.length k listed = true)
    (hS : ∀ d os, S (grewTo w d os))
    (h : wpQuiet P ops (fun w' => ∃ p : GrewP, w' = grewTo w p.d p.os) (fun a' => ∀ w', (∃ p : GrewP, w' = grewTo w p.d p.os) → Q .normal a' w') l a) : wpAnyH P md ops Q S fuel listed a w := by
  subst hf
  refine wpAnyH_of_quiet (C := fun w' => ∃ p : GrewP, w' = grewTo w p.d p.os) (fun w' ⟨p, e⟩ => e ▸ hS p.d p.os) (Q := fun a' => ∀ w', (∃ p : GrewP, w' = grewTo w p.d p.os) → Q .normal a' w') (fun _ w' hw' hh => hh w' hw') _ _ _ _ ⟨⟨w.drawn, #[]⟩, by unfold grewTo; rw [grow_empty]⟩ ?_
  refine wpAnyQ_lex hs l k listed a (fun j => ?_) hB h
  rw [← hl, List.getElem?_drop, ← Array.getElem?_toList]
end
end Go.Proofs.YtcijflakldggaaaGreat

/-
  What the walks of lowcap and of highcap share: cells of a block of three, numbers that go round, boxes, Plus of two, rows that are loaded.
-/
namespace Go.Proofs.YtcijflakldggaaaGreat
set_option linter.unusedVariables false
set_option linter.unusedSimpArgs false
open Go.RowKit

theorem three_cells {w : World} {B : Nat} {x y z : Value} {t : TypeId} (h : w.heap[B]? = some (.cells #[x, y, z] t (0, 0))) : w.cell? ⟨B, 0, none⟩ = some x ∧ w.cell? ⟨B, 1, none⟩ = some y ∧ w.cell? ⟨B, 2, none⟩ = some z := by
  refine ⟨?_, ?_, ?_⟩ <;> (rw [Joins.cell_of_block h]; rfl)
/-- A number that goes round. -/
def wrU (x : Int) : Int := x % 18446744073709551616
theorem wrU_word (x : Int) : Word (wrU x) := by unfold wrU Word; omega
theorem wrU_id {x : Int} (h : 0 ≤ x) (h2 : x < 18446744073709551616) : wrU x = x := by unfold wrU; omega
theorem wrU_add (x y : Int) : IntKind.u64.wrap (wrU x + y) = wrU (x + y) := by rw [IntKind.wrap_u64]; unfold wrU; omega
theorem fir_drop {K : List PairV} {k : Nat} {p : PairV} (h : K[k]? = some p) : firP (K.drop k) = p := by
  unfold firP
  rw [List.head?_drop, h]; rfl
theorem Keeps.trans {S S1 : Nat → Prop} {w w1 w2 : World} (h : Keeps S w w1) (h1 : Keeps S1 w1 w2) (hS : ∀ k, S1 k → S k ∨ w.heap.size ≤ k) : Keeps S w w2 :=
  ⟨h1.os.trans h.os, h1.tape.trans h.tape, h1.output.trans h.output, Nat.le_trans h.size h1.size, fun k hk hn => (h1.block k (Nat.lt_of_lt_of_le hk h.size) (fun h2 => by rcases hS k h2 with h3 | h3; exact hn h3; omega)).trans (h.block k hk hn)⟩
/-- A pair is laid in a box of its own. -/
theorem box_facts (w4 : World) {B : Nat} {cs : Array Value} {T : TypeId} {v : Value} (hb : w4.heap[B]? = some (.cells cs T (0, 0))) (h2 : w4.cell? ⟨B, 2, none⟩ = some v) (x y : Value) (t : TypeId) :
    ∃ X, w4.alloc (.cells #[x, y] t) = X ∧ Below w4.heap.size w4 X ∧ X.cell? ⟨B, 2, none⟩ = some v ∧ X.frozen? ⟨B, 2, none⟩ = false ∧ X.cell? ⟨w4.heap.size, 0, none⟩ = some x ∧ X.cell? ⟨w4.heap.size, 1, none⟩ = some y := by
  have b : Below w4.heap.size w4 (w4.alloc (.cells #[x, y] t)) := (Below.refl _ _).alloc (Nat.le_refl _) _
  exact ⟨_, rfl, b, cell_later b h2, free8 ((b.block B (lt_of_block hb)).trans hb) 2, (two_new8 w4 x y t).1, (two_new8 w4 x y t).2⟩
/-- Two numbers in a block of their own. -/
theorem two_words (w : World) (x y : Value) (t : TypeId) : (w.alloc (.cells #[x, y] t)).cell? ⟨w.heap.size, 0, none⟩ = some x ∧ (w.alloc (.cells #[x, y] t)).cell? ⟨w.heap.size, 1, none⟩ = some y := two_new8 w x y t
theorem plus2_yes {x y : Int} (h : x + y ≤ 9223372036854775807) : plus2B x y = true ∧ plus2Q x y = x + y := by
  have : plus2B x y = true := by unfold plus2B; apply decide_eq_true; exact h
  exact ⟨this, by unfold plus2Q; rw [this]; rfl⟩
theorem plus2_no {x y : Int} (h : 9223372036854775807 < x + y) : plus2B x y = false ∧ plus2Q x y = 0 := by
  have : plus2B x y = false := by unfold plus2B; apply decide_eq_false; omega
  exact ⟨this, by unfold plus2Q; rw [this]; rfl⟩
theorem good_fir_end {L : List PairV} (hg : GoodP L) : ∀ p, p ∈ L → (firP L).1 ≤ p.1 := by
  intro p hp
  cases L with
  | nil => cases hp
  | cons q r =>
    rcases List.mem_cons.1 hp with rfl | h
    · exact Int.le_refl _
    · have := (List.pairwise_cons.1 hg.2).1 p h; show q.1 ≤ p.1; omega
theorem load_true {m : Int} {L : List PairV} {l : Int} (h : loadB m L l = true) : GoodP L ∧ (L.length : Int) ≤ m ∧ (L = [] → l = 0) ∧ sumP L + l ≤ 9223372036854775807 ∧ (L ≠ [] → endP L - (firP L).1 < m) := by
  unfold loadB at h
  simp only [Bool.and_eq_true, decide_eq_true_eq] at h
  obtain ⟨⟨⟨⟨h1, h2⟩, h3⟩, h4⟩, h5⟩ := h
  exact ⟨goodB_true.1 h1, h2, h3, h4, h5⟩
/-- A pointer laid in a box of its own. -/
theorem ptr_box (w : World) (v : Value) (t : TypeId) : ∃ X, w.alloc (.cells #[v] t) = X ∧ Below w.heap.size w X ∧ X.heap.size = w.heap.size + 1 ∧ X.heap[w.heap.size]? = some (.cells #[v] t (0, 0)) :=
  ⟨_, rfl, (Below.refl _ _).alloc (Nat.le_refl _) _, by simp, heap_alloc_new _ _⟩
theorem one_cell {w : World} {B : Nat} {x : Value} {t : TypeId} (h : w.heap[B]? = some (.cells #[x] t (0, 0))) : w.cell? ⟨B, 0, none⟩ = some x := by
  rw [Joins.cell_of_block h]; rfl
end Go.Proofs.YtcijflakldggaaaGreat
