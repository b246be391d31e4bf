/-
  Walks: the reference's Count, Same, Good of rows of pairs.
-/
import Derived.Test.YtoegjncccahmlaaPairI
import Derived.Test.YtoegjncccahmlaaSignA
import Derived.StillTailTactics
import Derived.Deep.QuietTactic
import Derived.BigQuiet
namespace Go.Proofs.Ytoegjncccahmlaa
set_option linter.unusedVariables false
set_option linter.unusedSimpArgs false
open Go.RowKit

theorem count_step {L : List PairV} {k : Nat} {p : PairV} (h : L[k]? = some p) (i : Int) : countP (L.take (k + 1)) i = countP (L.take k) i + if p.1 = i then p.2 else 0 := by
  rw [take_snocP h, countP_app, countP_one]
theorem ok_pos {L : List PairV} (h : ∀ p, p ∈ L → okP p) : ∀ p, p ∈ L → 0 ≤ p.2 := fun p hp => (h p hp).2.1

set_option maxRecDepth 100000 in
set_option maxHeartbeats 1000000 in
theorem rcount_any (w : World) (A : Option Addr) (cap : Nat) (L : List PairV) (i n : Int) (h : Pairs w A L) (hl : L.length ≤ 1000) (hi : I64 i) (hn : countP L i = n) (hb : n < 18446744073709551616) :
    Calls Try.prog 21 #[.slice A L.length cap, .int .i64 i] w fun e w' => e = .returned (.int .u64 n) ∧ Below w.heap.size w w' := by
  have HI := Lib.hid h
  have HN := Lib.hid hn
  have HP := Lib.hid (fun k => countP_take (L := L) k i (ok_pos h.ok))
  obtain ⟨i0, i1⟩ := hi
  clear h hn
  go_enter Try.func21, Try.ntmps21
  go_wp2_with fail
  go_loopw [5, 10] (fun s j wr => ∃ (k : Nat) (m : Int), k ≤ L.length ∧ j = .int .i64 k ∧ s = .int .u64 m ∧ m = countP (L.take k) i ∧ Below w.heap.size w wr) (fun _ j _ => L.length - (intOf j).toNat)
  case atStart => exact ⟨0, 0, Nat.zero_le _, rfl, rfl, rfl, Below.refl _ _⟩
  case round =>
    obtain ⟨k, m, hk, rfl, rfl, hm, hb2⟩ := hrel
    have HM := Lib.hid hm
    by_cases hlt : k < L.length
    · have kk : (k : Int) < L.length := by omega
      have hxk : L[k]? = some L[k] := List.getElem?_eq_getElem hlt
      generalize hit : L[k] = p at *
      obtain ⟨px, pc⟩ := p
      obtain ⟨b, off, rfl, hbl, c0, c1⟩ := (HI.out.call hb2).at_ k _ hxk
      have HS := Lib.hid (count_step hxk i)
      have hok := HI.out.ok _ (List.mem_of_getElem? hxk)
      have p1 := HP.out (k + 1)
      have p0 := HP.out k
      rw [HN.out] at p1
      rw [HS.out] at p1
      rw [← hm] at p0 p1
      have hbs := hb2.size
      obtain ⟨⟨o1, o2⟩, o3, o4⟩ := hok
      simp only at c0 c1 o1 o2 o3 o4 p1 HS
      clear hxk hit hm
      by_cases he : px = i
      · subst he
        rw [if_pos rfl] at p1 HS
        obtain ⟨p2, p3⟩ := p1
        obtain ⟨p4, _⟩ := p0
        have e1 : (px == px) = true := by simp
        go_wp2_with fail
        go_roundw
        case rel => exact ⟨k + 1, m + pc, by omega, by go_num, rfl, by rw [HS.out, HM.out], hb2.alloc hbs _⟩
        case measure => simp [intOf]; omega
      · rw [if_neg he] at p1 HS
        have e1 : (px == i) = false := by simpa using he
        clear p0 p1 he
        go_wp2_with fail
        go_roundw
        case rel => exact ⟨k + 1, m, by omega, by go_num, rfl, by rw [HS.out, HM.out, Int.add_zero], hb2.alloc hbs _⟩
        case measure => simp [intOf]; omega
    · obtain rfl : k = L.length := by omega
      rw [List.take_length, HN.out] at HM
      have kk : ¬ (L.length : Int) < L.length := by omega
      clear hm
      go_wp2_with fail
      go_ret
      exact ⟨ret_int HM.out, hb2⟩

theorem below_drewM {B : Nat} {a w : World} (h : Below B a w) (n : Nat) : Below B a (w.drewN n) := by
  induction n with
  | zero => exact h
  | succ n ih => exact ih.drew
theorem pair_neq (a b c d : Int) (w : World) : (binOp .neq 34 (.agg #[.int .i64 a, .int .u64 b]) (.agg #[.int .i64 c, .int .u64 d])).run Try.prog w = .ok (.bool (!(a == c && b == d))) w := by
  by_cases h : a = c
  · subst h
    by_cases h' : b = d
    · subst h'; simp [go_sem]
    · have : (b == d) = false := by simp [h']
      simp [go_sem, this]
  · have : (a == c) = false := by simp [h]
    simp [go_sem, this]
theorem ne_at {L M : List PairV} {k : Nat} {p q : PairV} (hp : L[k]? = some p) (hq : M[k]? = some q) (h : p ≠ q) : L ≠ M := by
  rintro rfl; rw [hp] at hq; exact h (Option.some.inj hq)
theorem same_take {L M : List PairV} {k : Nat} {p q : PairV} (hp : L[k]? = some p) (hq : M[k]? = some q) (h : p = q) (ht : L.take k = M.take k) : L.take (k + 1) = M.take (k + 1) := by
  rw [take_snocP hp, take_snocP hq, ht, h]

set_option maxRecDepth 100000 in
set_option maxHeartbeats 1000000 in
theorem same_any (w : World) (A A' : Option Addr) (cap cap' : Nat) (L M : List PairV) (b : Bool) (hbb : decide (L = M) = b) (h : Pairs w A L) (h' : Pairs w A' M) (hl : L.length ≤ 1000) (hl' : M.length ≤ 1000) :
    Calls Try.prog 14 #[.slice A L.length cap, .slice A' M.length cap'] w fun e w' => e = .returned (.bool b) ∧ Below w.heap.size w w' := by
  have HB := Lib.hid hbb
  have HI := Lib.hid h
  have HJ := Lib.hid h'
  clear hbb h h'
  by_cases hlen : L.length = M.length
  · have e1 : ((L.length : Int) == (M.length : Int)) = true := by simp [hlen]
    have e2 : (!(L.length : Int) == (M.length : Int)) = false := by rw [e1]; rfl
    have HL := Lib.hid hlen
    clear hlen
    go_enter Try.func14, Try.ntmps14
    go_wp2_with fail
    go_loopw [13] (fun j wr => ∃ k : Nat, k ≤ L.length ∧ j = .int .i64 k ∧ L.take k = M.take k ∧ Below w.heap.size w wr) (fun j _ => L.length - (intOf j).toNat)
    case atStart => exact ⟨0, Nat.zero_le _, rfl, rfl, Below.refl _ _⟩
    case round =>
      obtain ⟨k, hk, rfl, ht, hb2⟩ := hrel
      have HT := Lib.hid ht
      clear ht
      by_cases hlt : k < L.length
      · have kk : (k : Int) < L.length := by omega
        have hlt' : k < M.length := by have := HL.out; omega
        have kk' : (k : Int) < M.length := by omega
        have hxk : L[k]? = some L[k] := List.getElem?_eq_getElem hlt
        have hyk : M[k]? = some M[k] := List.getElem?_eq_getElem hlt'
        generalize hit : L[k] = p at *
        generalize hjt : M[k] = q at *
        obtain ⟨px, pc⟩ := p
        obtain ⟨qx, qc⟩ := q
        obtain ⟨b0, off, rfl, hbl, c0, c1⟩ := (HI.out.call hb2).at_ k _ hxk
        obtain ⟨b1, off', rfl, hbl', d0, d1⟩ := (HJ.out.call hb2).at_ k _ hyk
        simp only at c0 c1 d0 d1
        have hcmp := pair_neq px pc qx qc
        have HXK := Lib.hid hxk
        have HYK := Lib.hid hyk
        clear hxk hyk hit hjt
        by_cases hc : px = qx ∧ pc = qc
        · have e3 : (!(px == qx && pc == qc)) = false := by simp [hc.1, hc.2]
          rw [e3] at hcmp
          have HC := Lib.hid hc
          clear hc e3
          go_wp2_with fail
          go_quiet (fail)
          go_wp2_with fail
          go_roundw
          case rel => exact ⟨k + 1, by omega, by go_num, same_take HXK.out HYK.out (Prod.ext HC.out.1 HC.out.2) HT.out, below_drewM hb2 _⟩
          case measure => simp [intOf]; omega
        · have e3 : (!(px == qx && pc == qc)) = true := by
            by_cases h1 : px = qx
            · have h2 : ¬ pc = qc := fun h => hc ⟨h1, h⟩
              simp [h2]
            · simp [h1]
          rw [e3] at hcmp
          have HE : Hid (b = false) := Lib.hid (by rw [← HB.out]; exact decide_eq_false (ne_at HXK.out HYK.out (fun h => hc ⟨(Prod.mk.inj h).1, (Prod.mk.inj h).2⟩)))
          clear hc e3
          go_wp2_with fail
          go_quiet (fail)
          go_wp2_with fail
          go_ret
          exact ⟨by rw [HE.out]; rfl, below_drewM hb2 _⟩
      · obtain rfl : k = L.length := by omega
        have HE : Hid (b = true) := Lib.hid (by
          have h1 := HT.out
          rw [List.take_length, HL.out, List.take_length] at h1
          rw [← HB.out]; exact decide_eq_true h1)
        have kk : ¬ (L.length : Int) < L.length := by omega
        go_wp2_with fail
        go_ret
        exact ⟨by rw [HE.out]; rfl, hb2⟩
  · have e1 : ((L.length : Int) == (M.length : Int)) = false := by simp; omega
    have e2 : (!(L.length : Int) == (M.length : Int)) = true := by rw [e1]; rfl
    have HE : Hid (b = false) := Lib.hid (by rw [← HB.out]; exact decide_eq_false (fun h => hlen (by rw [h])))
    clear hlen
    go_enter Try.func14, Try.ntmps14
    go_wp2_with fail
    go_ret
    exact ⟨by rw [HE.out]; rfl, Below.refl _ _⟩

set_option maxRecDepth 100000 in
set_option maxHeartbeats 1000000 in
theorem rgood_row (w : World) (A : Option Addr) (cap : Nat) (L : List PairV) (b : Bool) (hbb : goodB L = b) (h : Pairs w A L) (hl : L.length ≤ 140737488351232) :
    Calls Try.prog 31 #[.slice A L.length cap] w fun e w' => e = .returned (.bool b) ∧ Below w.heap.size w w' := by
  have HB := Lib.hid hbb
  have HI := Lib.hid h
  clear hbb h
  go_enter Try.func31, Try.ntmps31
  go_wp2_with fail
  go_loopw [6] (fun j wr => ∃ k : Nat, k ≤ L.length ∧ j = .int .i64 k ∧ GoodP (L.take k) ∧ Below w.heap.size w wr) (fun j _ => L.length - (intOf j).toNat)
  case atStart => exact ⟨0, Nat.zero_le _, rfl, good_nil, Below.refl _ _⟩
  case round =>
    obtain ⟨k, hk, rfl, hg, hb2⟩ := hrel
    by_cases hlt : k < L.length
    · have kk : (k : Int) < L.length := by omega
      have hxk : L[k]? = some L[k] := List.getElem?_eq_getElem hlt
      generalize hit : L[k] = p at *
      have hst := good_step hxk hg
      obtain ⟨px, pc⟩ := p
      obtain ⟨b0, off, rfl, hbl, c0, c1⟩ := (HI.out.call hb2).at_ k _ hxk
      have hok := HI.out.ok _ (List.mem_of_getElem? hxk)
      obtain ⟨⟨o1, o2⟩, o3, o4⟩ := hok
      have HST := Lib.hid hst
      have hneg : ∀ k : Nat, ¬ GoodP (L.take k) → ¬ GoodP L := fun k h hg => h (good_take _ hg)
      have HN := Lib.hid hneg
      simp only at c0 c1 o1 o2 o3 o4 HST
      clear hxk hit hg hst hneg
      by_cases h1 : pc < 1
      · have HE : Hid (b = false) := Lib.hid (by rw [← HB.out]; exact goodB_false.2 (HN.out (k + 1) (fun hg => by have := (HST.out.1 hg).1; omega)))
        go_wp2_with fail
        go_ret
        exact ⟨by rw [HE.out]; rfl, hb2⟩
      · by_cases h2 : 9223372036854775807 < pc
        · have HE : Hid (b = false) := Lib.hid (by rw [← HB.out]; exact goodB_false.2 (HN.out (k + 1) (fun hg => by have := (HST.out.1 hg).1; omega)))
          go_wp2_with fail
          go_ret
          exact ⟨by rw [HE.out]; rfl, hb2⟩
        · by_cases h0 : k = 0
          · subst h0
            have HG : Hid (GoodP (L.take (0 + 1))) := Lib.hid (HST.out.2 ⟨⟨by omega, by omega⟩, fun h => by omega⟩)
            go_wp2_with fail
            go_quiet (fail)
            go_wp2_with fail
            go_roundw
            case rel => exact ⟨1, by omega, by go_num, HG.out, below_drewM hb2 _⟩
            case measure => simp [intOf]; omega
          · obtain ⟨u, hu⟩ : ∃ u, k = u + 1 := ⟨k - 1, by omega⟩
            have hxu : L[u]? = some L[u] := List.getElem?_eq_getElem (by omega)
            generalize hiu : L[u] = q at *
            obtain ⟨qx, qc⟩ := q
            obtain ⟨b1, off1, ea, hbl1, d0, d1⟩ := (HI.out.call hb2).at_ u _ hxu
            obtain ⟨rfl, rfl⟩ : b0 = b1 ∧ off = off1 := by
              have := Option.some.inj ea
              exact ⟨(Addr.mk.inj this).1, (Addr.mk.inj this).2.1⟩
            simp only at d0 d1
            have u1 : IntKind.i64.wrap ((k : Int) - 1) = (u : Int) := by rw [IntKind.wrap_i64]; omega
            have u2 : (k : Int) - 1 = (u : Int) := by omega
            have u3 : (u : Int) < L.length := by omega
            have k0 : 0 < k := by omega
            have k0d : decide (0 < k) = true := decide_eq_true k0
            have HU : Hid (L[k - 1]? = some (qx, qc)) := Lib.hid (by rw [hu, Nat.add_sub_cancel]; exact hxu)
            have HK := Lib.hid hu
            have hok := HI.out.ok _ (List.mem_of_getElem? hxu)
            clear ea hxu hiu h0 hu
            by_cases h3 : qx < px
            · have HG : Hid (GoodP (L.take (k + 1))) := Lib.hid (HST.out.2 ⟨⟨by omega, by omega⟩, fun h z hz => by rw [HU.out] at hz; have := Option.some.inj hz; rw [← this]; exact h3⟩)
              have h3' : decide (qx < px) = true := decide_eq_true h3
              go_wp2_with fail
              go_quiet (fail)
              go_wp2_with fail
              go_roundw
              case rel => exact ⟨k + 1, by omega, by go_num, HG.out, below_drewM hb2 _⟩
              case measure => simp [intOf]; omega
            · have HE : Hid (b = false) := Lib.hid (by rw [← HB.out]; exact goodB_false.2 (HN.out (k + 1) (fun hg => h3 ((HST.out.1 hg).2 (by omega) _ HU.out))))
              have h3' : decide (qx < px) = false := decide_eq_false h3
              go_wp2_with fail
              go_quiet (fail)
              go_wp2_with fail
              go_ret
              exact ⟨by rw [HE.out]; rfl, below_drewM hb2 _⟩
    · obtain rfl : k = L.length := by omega
      rw [List.take_length] at hg
      have HE : Hid (b = true) := Lib.hid (by rw [← HB.out]; exact goodB_true.2 hg)
      have kk : ¬ (L.length : Int) < L.length := by omega
      clear hg
      go_wp2_with fail
      go_ret
      exact ⟨by rw [HE.out]; rfl, hb2⟩
end Go.Proofs.Ytoegjncccahmlaa
