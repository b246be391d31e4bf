/-
  Walks: the reference's Add of rows of pairs, of any count (sums wrap around).
-/
import Derived.Test.YtnhhehinbobknaaPairS
namespace Go.Proofs.Ytnhhehinbobknaa
set_option linter.unusedVariables false
set_option linter.unusedSimpArgs false
open Go.RowKit

set_option maxRecDepth 100000 in
set_option maxHeartbeats 2000000 in
theorem radd_wrap (w : World) (A : Option Addr) (cap : Nat) (L : List PairV) (i c n : Int) (h : Pairs w A L) (hl : L.length ≤ 1000) (hi : I64 i) (hc : Word c) (hn : IntKind.u64.wrap (countP L i + c) = n) (hcl : countP L i < 18446744073709551616) :
    Calls Try.prog 34 #[.slice A L.length cap, .int .i64 i, .int .u64 c] w fun e w' => ∃ v, e = .returned v ∧ OwnP w' w.heap.size v (lowP L i ++ (midP i n ++ highP L i)) ∧ Below w.heap.size w w' := by
  have HI := Lib.hid h
  have HIX := Lib.hid hi
  obtain ⟨i0, i1⟩ := hi
  obtain ⟨c0', c1'⟩ := hc
  obtain ⟨m, hm⟩ : ∃ m, countP L i = m := ⟨_, rfl⟩
  have hm0 := (countP_take (L := L) L.length i (ok_pos h.ok)).1
  rw [List.take_length, hm] at hm0
  rw [hm] at hn
  have HM := Lib.hid hm
  have HN := Lib.hid hn
  have hmt : m < 18446744073709551616 := hm ▸ hcl
  have hnr : 0 ≤ n ∧ n < 18446744073709551616 := by rw [← hn, IntKind.wrap_u64]; omega
  obtain ⟨n0, n1⟩ := hnr
  clear h hm
  go_enter Try.func34, Try.ntmps34
  go_wp2_with fail
  go_loopw [7, 15] (fun s j wr => ∃ (k : Nat), k ≤ L.length ∧ j = .int .i64 k ∧ OwnP wr w.heap.size s (lowP (L.take k) i) ∧ Below w.heap.size w wr) (fun _ j _ => L.length - (intOf j).toNat)
  case atStart => exact ⟨0, Nat.zero_le _, rfl, OwnP.nil _ _, Below.refl _ _⟩
  case round =>
    obtain ⟨k, hk, rfl, hown, hb2⟩ := hrel
    have hbs := hb2.size
    by_cases hlt : k < L.length
    · have kk : (k : Int) < L.length := by omega
      have hxk : L[k]? = some L[k] := List.getElem?_eq_getElem hlt
      generalize hit : L[k] = p at *
      obtain ⟨px, pc⟩ := p
      obtain ⟨b0, off, rfl, hbl, c0, c1⟩ := (HI.out.call hb2).at_ k _ hxk
      simp only at c0 c1
      have HS := Lib.hid (low_step hxk i)
      have HLL := Lib.hid (low_len L i k)
      have hok := HI.out.ok _ (List.mem_of_getElem? hxk)
      obtain ⟨⟨o1, o2⟩, o3, o4⟩ := hok
      simp only at HS
      clear hxk hit
      by_cases hc : px < i
      · rw [if_pos hc] at HS
        obtain ⟨vA, vk, rfl⟩ := hown.form
        have HO := Lib.hid hown
        clear hown
        go_wp2_with (at_builtin; refine wpList_append_pair rfl _ _ rfl w.heap.size _ _ (wr.heap.size + 1) (px, pc) rfl ((HO.out.alloc _).alloc _) rfl ?c1 ?c2 ?c3 ?c4 ?_)
        case c3 => have := HLL.out; omega
        case c4 => first | omega | (simp; omega)
        intro v' w1 hown' hgrow
        have hb3 := OwnP.below ((HO.out.alloc _).alloc _) ((hb2.alloc hbs _).alloc (by simp; omega) _) hgrow (by simp; omega)
        rw [← HS.out] at hown'
        clear hgrow
        go_wp2_with fail
        go_roundw
        case rel => exact ⟨k + 1, by omega, by go_num, hown', hb3⟩
        case measure => simp [intOf]; omega
      · rw [if_neg hc, List.append_nil] at HS
        rw [← HS.out] at hown
        go_wp2_with fail
        go_roundw
        case rel => exact ⟨k + 1, by omega, by go_num, hown.alloc _, hb2.alloc hbs _⟩
        case measure => simp [intOf]; omega
    · obtain rfl : k = L.length := by omega
      rw [List.take_length] at hown
      have kk : ¬ (L.length : Int) < L.length := by omega
      have HLL := Lib.hid (low_len L i L.length)
      rw [List.take_length] at HLL
      have HO := Lib.hid hown
      clear hown
      go_wp2_with fail
      refine (rcount_any _ A cap L i m (HI.out.call hb2) hl HIX.out HM.out (by omega)).mono ?_
      rintro e w3 ⟨rfl, hb3'⟩
      have hb3 := hb2.trans (hb3'.mono hbs)
      have hbs3 := hb3.size
      have HO3 := Lib.hid (HO.out.call hb3')
      have HML : Hid ((lowP L i ++ midP i n).length ≤ 1001) := Lib.hid (by
        rw [List.length_append]; have := HLL.out
        have : (midP i n).length ≤ 1 := by unfold midP; split <;> simp
        omega)
      clear hb3' hb2 hbs HO
      by_cases h0 : 0 < n
      · have HMID : Hid (lowP L i ++ [(i, n)] = lowP L i ++ midP i n) := Lib.hid (by unfold midP; rw [if_pos h0])
        obtain ⟨vA, vk, rfl⟩ := HO3.out.form
        go_wp2_with (at_builtin; refine wpList_append_pair rfl _ _ rfl w.heap.size _ _ w3.heap.size (i, n) rfl (HO3.out.alloc _) rfl ?d1 ?d2 ?d3 ?d4 ?_)
        case d3 => have := HLL.out; omega
        case d4 => first | omega | (simp; omega)
        intro v5 w5 hown5 hgrow
        have hb5 := OwnP.below (HO3.out.alloc _) (hb3.alloc hbs3 _) hgrow (by simp; omega)
        rw [HMID.out] at hown5
        have hbs5 := hb5.size
        clear hgrow hb3 hbs3 HO3 HLL
        go_wp2_with fail
        go_loopw [7, 43] (fun s j wr => ∃ (k : Nat), k ≤ L.length ∧ j = .int .i64 k ∧ OwnP wr w.heap.size s (lowP L i ++ midP i n ++ highP (L.take k) i) ∧ Below w.heap.size w wr) (fun _ j _ => L.length - (intOf j).toNat)
        case atStart => exact ⟨0, Nat.zero_le _, rfl, by rw [List.take_zero, show highP [] i = [] from rfl, List.append_nil]; exact hown5, hb5⟩
        case round =>
          clear hown5 hb5 hbs5
          obtain ⟨k, hk, rfl, hown, hb2⟩ := hrel
          have hbs := hb2.size
          by_cases hlt : k < L.length
          · have kk : (k : Int) < L.length := by omega
            have hxk : L[k]? = some L[k] := List.getElem?_eq_getElem hlt
            generalize hit : L[k] = p at *
            obtain ⟨px, pc⟩ := p
            obtain ⟨b0, off, rfl, hbl, c0, c1⟩ := (HI.out.call hb2).at_ k _ hxk
            simp only at c0 c1
            have HS := Lib.hid (high_step hxk i)
            have HHL := Lib.hid (high_len L i k)
            have hok := HI.out.ok _ (List.mem_of_getElem? hxk)
            obtain ⟨⟨o1, o2⟩, o3, o4⟩ := hok
            simp only at HS
            clear hxk hit
            by_cases hc : i < px
            · rw [if_pos hc] at HS
              obtain ⟨R, hR⟩ : ∃ R, lowP L i ++ midP i n ++ highP (L.take k) i = R := ⟨_, rfl⟩
              have HRL : Hid (R.length ≤ 3000) := Lib.hid (by rw [← hR, List.length_append]; have := HML.out; have := HHL.out; omega)
              have HSR : Hid (R ++ [(px, pc)] = lowP L i ++ midP i n ++ highP (L.take (k + 1)) i) := Lib.hid (by rw [HS.out, ← List.append_assoc, hR])
              rw [hR] at hown
              clear hR
              obtain ⟨vA, vk, rfl⟩ := hown.form
              have HO := Lib.hid hown
              clear hown
              go_wp2_with (at_builtin; refine wpList_append_pair rfl _ _ rfl w.heap.size _ _ (wr.heap.size + 1) (px, pc) rfl ((HO.out.alloc _).alloc _) rfl ?e1 ?e2 ?e3 ?e4 ?_)
              case e3 => have := HRL.out; omega
              case e4 => first | omega | (simp; omega)
              intro v' w1 hown' hgrow
              have hb3 := OwnP.below ((HO.out.alloc _).alloc _) ((hb2.alloc hbs _).alloc (by simp; omega) _) hgrow (by simp; omega)
              rw [HSR.out] at hown'
              clear hgrow
              go_wp2_with fail
              go_roundw
              case rel => exact ⟨k + 1, by omega, by go_num, hown', hb3⟩
              case measure => simp [intOf]; omega
            · rw [if_neg hc, List.append_nil] at HS
              rw [← HS.out] at hown
              go_wp2_with fail
              go_roundw
              case rel => exact ⟨k + 1, by omega, by go_num, hown.alloc _, hb2.alloc hbs _⟩
              case measure => simp [intOf]; omega
          · obtain rfl : k = L.length := by omega
            rw [List.take_length, List.append_assoc] at hown
            have kk : ¬ (L.length : Int) < L.length := by omega
            have HO := Lib.hid hown
            clear hown
            go_wp2_with fail
            go_ret
            exact ⟨_, rfl, HO.out, hb2⟩
      · have HMID : Hid (lowP L i = lowP L i ++ midP i n) := Lib.hid (by unfold midP; rw [if_neg h0, List.append_nil])
        have hown5 := HO3.out
        rw [HMID.out] at hown5
        have hb5 := hb3
        have hbs5 := hbs3
        clear hb3 hbs3 HO3 HLL
        go_wp2_with fail
        go_loopw [7, 43] (fun s j wr => ∃ (k : Nat), k ≤ L.length ∧ j = .int .i64 k ∧ OwnP wr w.heap.size s (lowP L i ++ midP i n ++ highP (L.take k) i) ∧ Below w.heap.size w wr) (fun _ j _ => L.length - (intOf j).toNat)
        case atStart => exact ⟨0, Nat.zero_le _, rfl, by rw [List.take_zero, show highP [] i = [] from rfl, List.append_nil]; exact hown5, hb5⟩
        case round =>
          clear hown5 hb5 hbs5
          obtain ⟨k, hk, rfl, hown, hb2⟩ := hrel
          have hbs := hb2.size
          by_cases hlt : k < L.length
          · have kk : (k : Int) < L.length := by omega
            have hxk : L[k]? = some L[k] := List.getElem?_eq_getElem hlt
            generalize hit : L[k] = p at *
            obtain ⟨px, pc⟩ := p
            obtain ⟨b0, off, rfl, hbl, c0, c1⟩ := (HI.out.call hb2).at_ k _ hxk
            simp only at c0 c1
            have HS := Lib.hid (high_step hxk i)
            have HHL := Lib.hid (high_len L i k)
            have hok := HI.out.ok _ (List.mem_of_getElem? hxk)
            obtain ⟨⟨o1, o2⟩, o3, o4⟩ := hok
            simp only at HS
            clear hxk hit
            by_cases hc : i < px
            · rw [if_pos hc] at HS
              obtain ⟨R, hR⟩ : ∃ R, lowP L i ++ midP i n ++ highP (L.take k) i = R := ⟨_, rfl⟩
              have HRL : Hid (R.length ≤ 3000) := Lib.hid (by rw [← hR, List.length_append]; have := HML.out; have := HHL.out; omega)
              have HSR : Hid (R ++ [(px, pc)] = lowP L i ++ midP i n ++ highP (L.take (k + 1)) i) := Lib.hid (by rw [HS.out, ← List.append_assoc, hR])
              rw [hR] at hown
              clear hR
              obtain ⟨vA, vk, rfl⟩ := hown.form
              have HO := Lib.hid hown
              clear hown
              go_wp2_with (at_builtin; refine wpList_append_pair rfl _ _ rfl w.heap.size _ _ (wr.heap.size + 1) (px, pc) rfl ((HO.out.alloc _).alloc _) rfl ?f1 ?f2 ?f3 ?f4 ?_)
              case f3 => have := HRL.out; omega
              case f4 => first | omega | (simp; omega)
              intro v' w1 hown' hgrow
              have hb3 := OwnP.below ((HO.out.alloc _).alloc _) ((hb2.alloc hbs _).alloc (by simp; omega) _) hgrow (by simp; omega)
              rw [HSR.out] at hown'
              clear hgrow
              go_wp2_with fail
              go_roundw
              case rel => exact ⟨k + 1, by omega, by go_num, hown', hb3⟩
              case measure => simp [intOf]; omega
            · rw [if_neg hc, List.append_nil] at HS
              rw [← HS.out] at hown
              go_wp2_with fail
              go_roundw
              case rel => exact ⟨k + 1, by omega, by go_num, hown.alloc _, hb2.alloc hbs _⟩
              case measure => simp [intOf]; omega
          · obtain rfl : k = L.length := by omega
            rw [List.take_length, List.append_assoc] at hown
            have kk : ¬ (L.length : Int) < L.length := by omega
            have HO := Lib.hid hown
            clear hown
            go_wp2_with fail
            go_ret
            exact ⟨_, rfl, HO.out, hb2⟩
end Go.Proofs.Ytnhhehinbobknaa
