/-
  Walks: the landed package tuples: gap, room, Total, Limit, Good.
-/
import Derived.Test.YtjmkkglmckiknaaTupR
import Derived.Test.YtjmkkglmckiknaaTpcM
import Derived.Test.YtjmkkglmckiknaaPlus
import Derived.Test.YtjmkkglmckiknaaOver
import Derived.Deep.RegionHeld3
import Derived.Lib.SmallJoins
namespace Go.Proofs.Ytjmkkglmckiknaa
set_option linter.unusedVariables false
set_option linter.unusedSimpArgs false
open Go.RowKit

set_option maxHeartbeats 400000 in
theorem tgap_any (w : World) (a b g : Int) (ha : Word a) (hb : Word b) (hg : (if b < a then 0 else b - a) = g) :
    Calls Try.prog 37 #[.int .u64 a, .int .u64 b] w fun e w' => e = .returned (.int .u64 g) ∧ w' = w := by
  obtain ⟨a0, a1⟩ := ha
  obtain ⟨b0, b1⟩ := hb
  by_cases c : b < a
  · rw [if_pos c] at hg
    subst hg
    go_enter Try.func37, Try.ntmps37
    go_wp2_with fail
    go_ret
    exact ⟨rfl, rfl⟩
  · rw [if_neg c] at hg
    have u : IntKind.u64.wrap (b - a) = b - a := by rw [IntKind.wrap_u64]; omega
    have HG := Lib.hid hg
    clear hg
    go_enter Try.func37, Try.ntmps37
    go_wp2_with fail
    go_ret
    exact ⟨ret_int HG.out, rfl⟩

set_option maxRecDepth 100000 in
set_option maxHeartbeats 1000000 in
theorem troom_any (w : World) (A : Option Addr) (cap n k : Nat) (L : List TupV) (r : Int) (h : Tups w A L) (hn : L.length = n) (hk : k ≤ n) (hl : n ≤ 100000) (hg : ∀ p, L[k]? = some p → 0 < p.st ∧ 0 ≤ p.sl ∧ p.st + p.sl ≤ 9223372036854775807) (hr : roomT L k = r) :
    Calls Try.prog 36 #[.slice A n cap, .int .i64 k] w fun e w' => e = .returned (.int .u64 r) ∧ Below w.heap.size w w' := by
  by_cases hlt : k < n
  · have kk : ((k : Int) == (n : Int)) = false := by rw [beq_eq_false_iff_ne]; omega
    have k2 : (k : Int) < (n : Int) := by omega
    have hx := List.getElem?_eq_getElem (l := L) (i := k) (by omega)
    generalize L[k]'(by omega) = p at hx
    obtain ⟨px, ps, pl⟩ := p
    obtain ⟨g1, g2, g3⟩ := hg _ hx
    obtain ⟨b0, off, rfl, hbl, c0, c1, c2⟩ := h.at_ k _ hx
    rw [room_some hx] at hr
    simp only at g1 g2 g3 c0 c1 c2 hr
    have u1 : IntKind.u64.wrap (ps + pl) = ps + pl := by rw [IntKind.wrap_u64]; omega
    have u2 : IntKind.u64.wrap (ps + pl - 1) = ps + pl - 1 := by rw [IntKind.wrap_u64]; omega
    have HR := Lib.hid hr
    clear hr hx h hg hn
    go_enter Try.func36, Try.ntmps36
    go_wp2_with fail
    go_quiet (fail)
    go_wp2_with fail
    go_ret
    exact ⟨ret_int HR.out, below_drewT (Below.refl _ _) _⟩
  · obtain rfl : k = n := by omega
    have hr0 : (0 : Int) = r := by rw [← hr, ← hn, room_none]
    have HR := Lib.hid hr0
    have kk : ((k : Int) == (k : Int)) = true := by simp
    clear hr hr0 h hg hn
    go_enter Try.func36, Try.ntmps36
    go_wp2_with fail
    go_ret
    exact ⟨ret_int HR.out, Below.refl _ _⟩

theorem st_all {w : World} {A : Option Addr} {L : List TupV} (h : Tups w A L) : ∀ p, p ∈ L → 0 ≤ p.st := fun p hp => (h.ok p hp).2.1.1

set_option maxRecDepth 100000 in
set_option maxHeartbeats 2000000 in
theorem ttotal_any (w : World) (A : Option Addr) (cap : Nat) (L : List TupV) (n : Int) (b : Bool) (h : Tups w A L) (hl : L.length ≤ 140737488351232) (hn : sumT L ≤ 9223372036854775807 ∧ n = sumT L ∧ b = true ∨ 9223372036854775807 < sumT L ∧ n = 0 ∧ b = false) :
    Calls Try.prog 10 #[.slice A L.length cap] w fun e w' => e = .returned (.tuple #[.int .u64 n, .bool b]) ∧ Below w.heap.size w w' := by
  have HI := Lib.hid h
  have HN := Lib.hid hn
  have HL := Lib.hid hl
  have HS := Lib.hid (sumT_take (st_all h))
  obtain ⟨N, hN⟩ : ∃ N, L.length = N := ⟨_, rfl⟩
  have HNN := Lib.hid hN
  have hl2 : N ≤ 140737488351232 := by omega
  rw [hN]
  clear h hn hl hN
  go_enter Try.func10, Try.ntmps10
  go_wp2_with fail
  go_loopw [4, 11] (fun s j wr => ∃ (k : Nat) (m : Int), k ≤ N ∧ j = .int .i64 k ∧ s = .int .u64 m ∧ sumT (L.take k) = m ∧ m ≤ 9223372036854775807 ∧ Below w.heap.size w wr) (fun _ j _ => N - (intOf j).toNat)
  case atStart => exact ⟨0, 0, Nat.zero_le _, rfl, rfl, rfl, by decide, Below.refl _ _⟩
  case round =>
    obtain ⟨k, m, hk, rfl, rfl, hm, hm1, hb2⟩ := hrel
    have HM := Lib.hid hm
    have m0 := (HS.out k).1
    rw [hm] at m0
    have hbs := hb2.size
    have HB := Lib.hid hb2
    clear hm hb2
    by_cases hlt : k < N
    · have kk : (k : Int) < N := by omega
      have hxk := List.getElem?_eq_getElem (l := L) (i := k) (by rw [HNN.out]; exact hlt)
      generalize L[k]'(by rw [HNN.out]; exact hlt) = p at hxk
      obtain ⟨px, ps, pl⟩ := p
      obtain ⟨b0, off, rfl, hbl, c0, c1, c2⟩ := (HI.out.call HB.out).at_ k _ hxk
      have hok := (HI.out.ok _ (List.mem_of_getElem? hxk)).2.1
      have hst := sumT_step hxk
      simp only at c0 c1 c2 hst hok
      rw [HM.out] at hst
      have s1 := (HS.out (k + 1))
      rw [hst] at s1
      have HST := Lib.hid hst
      obtain ⟨o3, o4⟩ := hok
      obtain ⟨q, hq⟩ : ∃ q, plus2Q m ps = q := ⟨_, rfl⟩
      obtain ⟨ok, hok2⟩ : ∃ ok, plus2B m ps = ok := ⟨_, rfl⟩
      have HQ := Lib.hid hq
      have HOK := Lib.hid hok2
      have HSM := Lib.hid s1
      clear hxk hst hq hok2 s1
      go_wp2_with fail
      refine (plus_two m ps q ok _ _ _ ⟨by omega, by omega⟩ ⟨by omega, by omega⟩ (by go_simp) (by go_simp) HQ.out HOK.out).mono ?_
      rintro e w' ⟨rfl, rfl⟩
      cases ok with
      | true =>
        have HQ2 : Hid (q = m + ps ∧ m + ps ≤ 9223372036854775807) := Lib.hid (by
          have h1 := HOK.out; unfold plus2B at h1
          have h2 := HQ.out; unfold plus2Q plus2B at h2; rw [h1] at h2
          exact ⟨h2.symm, of_decide_eq_true h1⟩)
        go_wp2_with fail
        go_roundw
        case rel => exact ⟨k + 1, q, by omega, by go_num, rfl, by rw [HST.out, HQ2.out.1], by rw [HQ2.out.1]; exact HQ2.out.2, (HB.out.alloc hbs _).alloc (by simp; omega) _⟩
        case measure => simp [intOf]; omega
      | false =>
        have HE : Hid (n = 0 ∧ b = false) := Lib.hid (by
          have h1 := HOK.out; unfold plus2B at h1
          have h2 := of_decide_eq_false h1
          have h3 := HSM.out.2
          rcases HN.out with ⟨e, _⟩ | ⟨_, e1, e2⟩
          · omega
          · exact ⟨e1, e2⟩)
        go_wp2_with fail
        go_ret2
        exact ⟨ret_pair HE.out.1.symm HE.out.2.symm, (HB.out.alloc hbs _).alloc (by simp; omega) _⟩
    · obtain rfl : k = N := by omega
      have HE : Hid (m = n ∧ true = b) := Lib.hid (by
        have h1 := HM.out
        rw [List.take_of_length_le (by rw [HNN.out]; exact Nat.le_refl _)] at h1
        rcases HN.out with ⟨_, e1, e2⟩ | ⟨e, _⟩
        · exact ⟨by omega, e2.symm⟩
        · omega)
      have kk : ¬ (k : Int) < k := by omega
      go_wp2_with fail
      go_ret2
      exact ⟨ret_pair HE.out.1 HE.out.2, HB.out⟩

set_option maxRecDepth 100000 in
set_option maxHeartbeats 1000000 in
theorem tlimit_any (w : World) (a b n m : Int) (a0 : 0 ≤ a) (a1 : a ≤ 2147483648) (hb : Word b) (hn : Word n) (hm : limT a b n = m) :
    Calls Try.prog 27 #[.agg #[.int .u64 a, .int .u64 b], .int .u64 n] w fun e w' => e = .returned (.int .u64 m) ∧ Below w.heap.size w w' := by
  have hF := fun w => floor_any (2 * a) n b ⟨by omega, by omega⟩ hn hb w
  obtain ⟨q, hq⟩ : ∃ q, ovQ (2 * a * n) b = q := ⟨_, rfl⟩
  obtain ⟨ok, hok⟩ : ∃ ok, ovB (2 * a * n) b = ok := ⟨_, rfl⟩
  have hqw : Word q := by rw [← hq]; exact (ov_word (Int.mul_nonneg (by omega) hn.1) hb).1
  unfold limT at hm
  rw [hq, hok] at hm
  rw [hq, hok] at hF
  have HF := Lib.hid hF
  have HM := Lib.hid hm
  have u1 : IntKind.u64.wrap (2 * a) = 2 * a := by rw [IntKind.wrap_u64]; omega
  obtain ⟨q0, q1⟩ := hqw
  obtain ⟨n0, n1⟩ := hn
  obtain ⟨b0, b1⟩ := hb
  have hbx : Below w.heap.size w (w.alloc (.cells #[.int .u64 a, .int .u64 b] 57)) := (Below.refl _ _).alloc (Nat.le_refl _) _
  have HBX := Lib.hid hbx
  clear hF hm hq hok hbx
  cases ok with
  | false =>
    have HE : Hid (n = m) := Lib.hid HM.out
    go_enter Try.func27, Try.ntmps27
    go_wp2_with fail
    refine (HF.out _).mono ?_
    rintro e w2 ⟨rfl, hb2⟩
    have HB2 := Lib.hid hb2
    clear hb2
    go_wp2_with fail
    go_ret
    exact ⟨ret_int HE.out, HBX.out.trans (HB2.out.mono HBX.out.size)⟩
  | true =>
    have HE : Hid (max q 1 = m) := Lib.hid HM.out
    go_enter Try.func27, Try.ntmps27
    go_wp2_with fail
    refine (HF.out _).mono ?_
    rintro e w2 ⟨rfl, hb2⟩
    have HB2 := Lib.hid hb2
    clear hb2
    go_wp2_with fail
    go_ret
    exact ⟨ret_int HE.out, HBX.out.trans (HB2.out.mono HBX.out.size)⟩

set_option maxRecDepth 100000 in
set_option maxHeartbeats 4000000 in
theorem tgood_any (w : World) (A : Option Addr) (cap : Nat) (L : List TupV) (b : Bool) (h : Tups w A L) (hl : L.length ≤ 200) (hb : b = true ↔ GoodT L) :
    Calls Try.prog 14 #[.slice A L.length cap] w fun e w' => e = .returned (.bool b) ∧ Below w.heap.size w w' := by
  have hgc := good_can (L := L) (fun p hp => (h.ok p hp).2.2.1)
  rw [hgc] at hb
  have HB := Lib.hid hb
  have HI := Lib.hid h
  have HS := Lib.hid (sumT_take (st_all h))
  obtain ⟨N, hN⟩ : ∃ N, L.length = N := ⟨_, rfl⟩
  have HN := Lib.hid hN
  have hN2 : N ≤ 200 := by omega
  by_cases hx : sumT L ≤ 9223372036854775807
  · obtain ⟨n, hn⟩ : ∃ n, sumT L = n := ⟨_, rfl⟩
    have hT := ttotal_any w A cap L n true h (by omega) (Or.inl ⟨hx, hn.symm, rfl⟩)
    rw [hN] at hT ⊢
    have HT := Lib.hid hT
    have HSN := Lib.hid hn
    have n0 : 0 ≤ n := by have := (HS.out 0).1; have := (HS.out 0).2; omega
    have n1 : n ≤ 9223372036854775807 := by omega
    have HBT : Hid (CanT n 0 none L → true = b) := Lib.hid fun hc => (HB.out.2 ⟨hx, by rw [hn]; exact hc⟩).symm
    have HBF : Hid (¬ CanT n 0 none L → false = b) := Lib.hid fun hc => by
      cases b with
      | false => rfl
      | true => exact absurd (by have := (HB.out.1 rfl).2; rw [hn] at this; exact this) hc
    clear hT hb h hn hx hl hN HB hgc
    go_enter Try.func14, Try.ntmps14
    go_wp2_with fail
    refine HT.out.mono ?_
    rintro e w1 ⟨rfl, hb1⟩
    have HB1 := Lib.hid hb1
    have hs1 := hb1.size
    clear hb1
    go_wp2_with fail
    go_loopw [5, 17] (fun s j wr => ∃ (k : Nat) (m : Int), k ≤ N ∧ j = .int .i64 k ∧ s = .int .u64 m ∧ sumT (L.take k) = m ∧ CanT n 0 none (L.take k) ∧ Below w.heap.size w wr) (fun _ j _ => N - (intOf j).toNat)
    case atStart => exact ⟨0, 0, Nat.zero_le _, rfl, rfl, rfl, trivial, HB1.out⟩
    case round =>
      obtain ⟨k, m, hk, rfl, rfl, hm, hc, hb2⟩ := hrel
      have HM := Lib.hid hm
      have HC := Lib.hid hc
      have m0 := (HS.out k).1
      rw [hm] at m0
      have hbs := hb2.size
      have HB2 := Lib.hid hb2
      clear hm hc hb2
      by_cases hlt : k < N
      · have kk : (k : Int) < N := by omega
        have hxk := List.getElem?_eq_getElem (l := L) (i := k) (by rw [HN.out]; exact hlt)
        generalize L[k]'(by rw [HN.out]; exact hlt) = p at hxk
        obtain ⟨px, ps, pl⟩ := p
        obtain ⟨b0, off, rfl, hbl, c0, c1, c2⟩ := (HI.out.call HB2.out).at_ k _ hxk
        have hok := HI.out.ok _ (List.mem_of_getElem? hxk)
        have hst := sumT_step hxk
        have hcs := can_step (n := n) hxk
        simp only at c0 c1 c2 hst hcs
        rw [HM.out] at hst hcs
        have s1 := (HS.out (k + 1)).2
        rw [hst, HSN.out] at s1
        have HST := Lib.hid hst
        have HCS := Lib.hid hcs
        obtain ⟨⟨x0, x1⟩, ⟨o3, o4⟩, o5, o6⟩ := hok
        simp only at x0 x1 o3 o4 o5 o6
        have HNO : Hid (¬ CanT n 0 none (L.take (k + 1)) → false = b) := Lib.hid fun hc => HBF.out fun hc' => hc (can_take _ hc')
        have hbn : Below w.heap.size w (wr.alloc (.cells #[.int .i64 px, .int .u64 ps, .int .u64 pl] 52)) := HB2.out.alloc hbs _
        have HBN := Lib.hid hbn
        have u1 : IntKind.u64.wrap (m + ps) = m + ps := by rw [IntKind.wrap_u64]; omega
        have u2 : IntKind.u64.wrap (n - (m + ps)) = n - (m + ps) := by rw [IntKind.wrap_u64]; omega
        clear hst hcs hbn
        by_cases k0 : k = 0
        · have e1 : ((k : Int) == 0) = true := by simp [k0]
          have e2 : decide ((0 : Int) < (k : Int)) = false := decide_eq_false (by omega)
          have e3 : ¬ (0 : Int) < (k : Int) := by omega
          have e2n : decide (0 < k) = false := decide_eq_false (by omega)
          have e3n : ¬ 0 < k := by omega
          have HK0 := Lib.hid k0
          clear k0 hxk
          by_cases q1 : ps = 1
          · by_cases q2 : pl = 0
            · have f1 : (ps == 1) = true := by simp [q1]
              have f2 : (ps != 1) = false := by simp [q1]
              have f3 : (pl == 0) = true := by simp [q2]
              have f4 : (pl != 0) = false := by simp [q2]
              have f5 : (ps == 0) = false := by simp [q1]
              have f6 : decide (n - (m + ps) < pl) = false := decide_eq_false (by omega)
              have f7 : ¬ (n - (m + ps) < pl) := by omega
              have HCN : Hid (CanT n 0 none (L.take (k + 1))) := Lib.hid (HCS.out.2 ⟨HC.out, by omega, by omega, fun _ => ⟨q1, q2⟩, fun y hy => absurd hy e3n⟩)
              clear q1 q2
              go_wp2_with fail
              go_quiet (fail)
              go_wp2_with fail
              go_roundw
              case rel => exact ⟨k + 1, m + ps, by omega, by go_num, rfl, HST.out, HCN.out, below_drewT HBN.out _⟩
              case measure => simp [intOf]; omega
            · have f1 : (ps == 1) = true := by simp [q1]
              have f2 : (ps != 1) = false := by simp [q1]
              have f3 : (pl == 0) = false := by simp [q2]
              have f4 : (pl != 0) = true := by simp [q2]
              have HE := Lib.hid (HNO.out fun hc => q2 ((HCS.out.1 hc).2.2.2.1 HK0.out).2)
              clear q1 q2
              go_wp2_with fail
              go_quiet (fail)
              go_wp2_with fail
              go_ret
              exact ⟨ret_bool HE.out, below_drewT HBN.out _⟩
          · have f1 : (ps == 1) = false := by simp [q1]
            have f2 : (ps != 1) = true := by simp [q1]
            have HE := Lib.hid (HNO.out fun hc => q1 ((HCS.out.1 hc).2.2.2.1 HK0.out).1)
            clear q1
            go_wp2_with fail
            go_quiet (fail)
            go_wp2_with fail
            go_ret
            exact ⟨ret_bool HE.out, below_drewT HBN.out _⟩
        · have e1 : ((k : Int) == 0) = false := by rw [beq_eq_false_iff_ne]; omega
          have e2 : decide ((0 : Int) < (k : Int)) = true := decide_eq_true (by omega)
          have e3 : (0 : Int) < (k : Int) := by omega
          have e2n : decide (0 < k) = true := decide_eq_true (by omega)
          have e3n : 0 < k := by omega
          obtain ⟨j, hj⟩ : ∃ j, k = j + 1 := ⟨k - 1, by omega⟩
          have hxj := List.getElem?_eq_getElem (l := L) (i := j) (by rw [HN.out]; omega)
          generalize L[j]'(by rw [HN.out]; omega) = q at hxj
          obtain ⟨qx, qs, ql⟩ := q
          obtain ⟨b0', off', e, hbl', d0, _, _⟩ := (HI.out.call HB2.out).at_ j _ hxj
          obtain ⟨rfl, rfl, _⟩ := Addr.mk.inj (Option.some.inj e)
          have hxo := HI.out.ok _ (List.mem_of_getElem? hxj)
          obtain ⟨⟨y0, y1⟩, _⟩ := hxo
          simp only at d0 y0 y1
          have hw : IntKind.i64.wrap ((k : Int) - 1) = (j : Int) := by rw [IntKind.wrap_i64]; omega
          have kj : (j : Int) < N := by omega
          have hmap : (L[k - 1]?).map TupV.x = some qx := by rw [show k - 1 = j by omega, hxj]; rfl
          have HMP := Lib.hid hmap
          have HK0 : Hid (¬ k = 0) := Lib.hid k0
          clear hmap hxj hxk hj k0 e
          by_cases q1 : px < qx
          · have f1 : decide (px < qx) = true := decide_eq_true q1
            have HE := Lib.hid (HNO.out fun hc => by have := (HCS.out.1 hc).2.2.2.2 qx e3n HMP.out; omega)
            go_wp2_with fail
            go_quiet (fail)
            go_wp2_with fail
            go_ret
            exact ⟨ret_bool HE.out, below_drewT HBN.out _⟩
          · have f1 : decide (px < qx) = false := decide_eq_false q1
            by_cases q2 : ps = 0
            · have f5 : (ps == 0) = true := by simp [q2]
              have HE := Lib.hid (HNO.out fun hc => by have := (HCS.out.1 hc).2.1; omega)
              clear q2
              go_wp2_with fail
              go_quiet (fail)
              go_wp2_with fail
              go_ret
              exact ⟨ret_bool HE.out, below_drewT HBN.out _⟩
            · have f5 : (ps == 0) = false := by simp [q2]
              by_cases q3 : n - (m + ps) < pl
              · have f6 : decide (n - (m + ps) < pl) = true := decide_eq_true q3
                have HE := Lib.hid (HNO.out fun hc => by have := (HCS.out.1 hc).2.2.1; omega)
                clear q2
                go_wp2_with fail
                go_quiet (fail)
                go_wp2_with fail
                go_ret
                exact ⟨ret_bool HE.out, below_drewT HBN.out _⟩
              · have f6 : decide (n - (m + ps) < pl) = false := decide_eq_false q3
                have HCN : Hid (CanT n 0 none (L.take (k + 1))) := Lib.hid (HCS.out.2 ⟨HC.out, by omega, by omega, fun e => absurd e HK0.out, fun y hy ey => by rw [HMP.out] at ey; rw [← Option.some.inj ey]; omega⟩)
                clear q2
                go_wp2_with fail
                go_quiet (fail)
                go_wp2_with fail
                go_roundw
                case rel => exact ⟨k + 1, m + ps, by omega, by go_num, rfl, HST.out, HCN.out, below_drewT HBN.out _⟩
                case measure => simp [intOf]; omega
      · obtain rfl : k = N := by omega
        have HE : Hid (true = b) := Lib.hid (HBT.out (by
          have h1 := HC.out
          rw [List.take_of_length_le (by rw [HN.out]; exact Nat.le_refl _)] at h1
          exact h1))
        have kk : ¬ (k : Int) < k := by omega
        go_wp2_with fail
        go_ret
        exact ⟨ret_bool HE.out, HB2.out⟩
  · have hT := ttotal_any w A cap L 0 false h (by omega) (Or.inr ⟨by omega, rfl, rfl⟩)
    rw [hN] at hT ⊢
    have HT := Lib.hid hT
    have HE : Hid (false = b) := Lib.hid (by
      cases b with
      | false => rfl
      | true => exact absurd (hb.1 rfl).1 hx)
    clear hT hb h hx hl hN HB hgc
    go_enter Try.func14, Try.ntmps14
    go_wp2_with fail
    refine HT.out.mono ?_
    rintro e w1 ⟨rfl, hb1⟩
    go_wp2_with fail
    go_ret
    exact ⟨ret_bool HE.out, hb1⟩
end Go.Proofs.Ytjmkkglmckiknaa
