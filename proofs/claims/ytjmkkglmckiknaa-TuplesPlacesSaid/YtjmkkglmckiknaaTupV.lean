/-
  The reference of layer 18: Insert.
-/
import Derived.Test.YtjmkkglmckiknaaTupU
import Derived.Deep.CutRange
import Derived.Deep.CutBlock
import Derived.Deep.DeepCutAuto
namespace Go.Proofs.Ytjmkkglmckiknaa
set_option linter.unusedVariables false
set_option linter.unusedSimpArgs false
open Go.RowKit

theorem ah_step {S : List SpotV} {k : Nat} {s : SpotV} (h : S[k]? = some s) (x : Int) : ahS (S.take (k + 1)) x = ahS (S.take k) x ++ (if s.x ≤ x then [s] else []) := by
  rw [snocS h]; unfold ahS; rw [List.filter_append]
  congr 1
  by_cases c : s.x ≤ x
  · rw [List.filter_cons_of_pos (by simpa using c), if_pos c]; rfl
  · rw [List.filter_cons_of_neg (by simpa using c), if_neg c]; rfl
theorem ah_len (S : List SpotV) (k : Nat) (x : Int) : (ahS (S.take k) x).length ≤ S.length := Nat.le_trans (List.length_filter_le _ _) (List.length_take_le' _ _)
theorem up_step {S : List SpotV} {k : Nat} {s : SpotV} (h : S[k]? = some s) : upS (S.take (k + 1)) = upS (S.take k) ++ [⟨s.x, s.lo + 1, s.hi + 1⟩] := by
  rw [snocS h]; unfold upS; rw [List.map_append]; rfl
theorem up_len (S : List SpotV) (k : Nat) : (upS (S.take k)).length ≤ S.length := by unfold upS; rw [List.length_map]; exact List.length_take_le' _ _
/-- How the new value's spot comes about. -/
theorem new_way {n : Int} {S : List SpotV} (hs : SpotsP 0 n S) (x : Int) :
    ∃ kk, (ahS S x).length = kk ∧ kk ≤ S.length ∧ S.drop kk = bhS S x ∧
      ((kk = 0 ∧ S.length = 0 ∧ totS S = 0 ∧ newS (ahS S x) (bhS S x) x = ⟨x, 1, 1⟩) ∨ (kk = 0 ∧ 0 < S.length ∧ newS (ahS S x) (bhS S x) x = ⟨x, 1, 1⟩) ∨
        (0 < kk ∧ kk < S.length ∧ ∃ p q, (ahS S x)[kk - 1]? = some p ∧ S[kk]? = some q ∧ 0 < p.lo ∧ p.lo ≤ n ∧ newS (ahS S x) (bhS S x) x = ⟨x, p.lo + 1, q.hi⟩) ∨
        (0 < kk ∧ kk = S.length ∧ ∃ p, (ahS S x)[kk - 1]? = some p ∧ 0 < p.lo ∧ p.lo ≤ n ∧ totS S = p.lo ∧ newS (ahS S x) (bhS S x) x = ⟨x, p.lo + 1, p.lo + 1⟩)) := by
  have hp := part_x x hs
  have hlen := congrArg List.length hp
  rw [List.length_append] at hlen
  have hdr' : ∀ k, k = (ahS S x).length → S.drop k = bhS S x := fun k hk => by
    conv => lhs; rw [hp]
    rw [hk, List.drop_append_of_le_length (Nat.le_refl _), List.drop_length, List.nil_append]
  have hdr := hdr' _ rfl
  clear hdr'
  refine ⟨_, rfl, by omega, hdr, ?_⟩
  generalize hP : ahS S x = P at *
  generalize hQ : bhS S x = Q at *
  rcases Nat.eq_zero_or_pos P.length with h0 | h0
  · have e := List.eq_nil_of_length_eq_zero h0
    rcases Nat.eq_zero_or_pos S.length with h1 | h1
    · have e1 := List.eq_nil_of_length_eq_zero h1
      refine Or.inl ⟨h0, h1, by rw [e1]; rfl, ?_⟩
      rw [e]; rfl
    · refine Or.inr (Or.inl ⟨h0, h1, ?_⟩)
      rw [e]; rfl
  · have hx := List.getElem?_eq_getElem (l := P) (i := P.length - 1) (by omega)
    have hgl : P.getLast? = P[P.length - 1]? := List.getLast?_eq_getElem?
    have hm : P[P.length - 1] ∈ S := by
      rw [hp]; exact List.mem_append_left _ (List.getElem_mem _)
    have hb := hs.mem _ hm
    rcases Nat.lt_or_ge P.length S.length with h1 | h1
    · refine Or.inr (Or.inr (Or.inl ⟨h0, h1, P[P.length - 1], S[P.length], hx, List.getElem?_eq_getElem h1, by omega, by omega, ?_⟩))
      have hq : Q = S[P.length] :: S.drop (P.length + 1) := by rw [← hdr]; exact drop_is (List.getElem?_eq_getElem h1)
      unfold newS
      rw [hgl, hx, hq]
    · have hQ0 : Q = [] := List.eq_nil_of_length_eq_zero (by omega)
      refine Or.inr (Or.inr (Or.inr ⟨h0, by omega, P[P.length - 1], hx, by omega, by omega, ?_, ?_⟩))
      · have : S = P := by rw [hp, hQ0, List.append_nil]
        unfold totS
        rw [this, hgl, hx]
      · unfold newS
        rw [hgl, hx, hQ0]

set_option maxRecDepth 100000 in
set_option maxHeartbeats 4000000 in
theorem rins18_some (w : World) (bA oA : Nat) (cap : Nat) (S : List SpotV) (n x : Int) (h : Spts w (some ⟨bA, oA, none⟩) S) (hc : S.length ≤ cap) (hl : S.length ≤ 200) (hs : SpotsP 0 n S) (hn : n < 9223372036854775807) (hx : I64 x) :
    Calls Try.prog 30 #[.slice (some ⟨bA, oA, none⟩) S.length cap, .int .i64 x] w fun e w' => ∃ v, e = .returned v ∧ OwnSp w' w.heap.size v (insS S x) ∧ Below w.heap.size w w' := by
  have HI := Lib.hid h
  have HS := Lib.hid hs
  have HL := Lib.hid hl
  have HC := Lib.hid hc
  have HN := Lib.hid hn
  obtain ⟨x0, x1⟩ := hx
  obtain ⟨t, ht⟩ : ∃ t, totS S = t := ⟨_, rfl⟩
  have HT := Lib.hid ht
  have CT := Lib.hid (rtot18_any w _ cap S t h hl ht)
  clear h hc hs hn ht
  go_enter Try.func30, Try.ntmps30
  go_wp2_with fail
  refine CT.out.mono ?_
  rintro e w' ⟨rfl, e2⟩
  have e2 := e2.symm
  subst e2
  go_upto_block 0 with fail
  go_cut [5] (fun s wx => ∃ vA vk, s = .slice vA (ahS S x).length vk ∧ OwnSp wx w.heap.size (.slice vA (ahS S x).length vk) (ahS S x) ∧ Below w.heap.size w wx)
  case first =>
    go_wp2_with fail
    go_loopw [5, 17] (fun s j wr => ∃ (k : Nat), k ≤ S.length ∧ j = .int .i64 k ∧ OwnSp wr w.heap.size s (ahS (S.take k) x) ∧ Below w.heap.size w wr) (fun _ j _ => S.length - (intOf j).toNat)
    case atStart => exact ⟨0, Nat.zero_le _, rfl, OwnSp.nil _ _, Below.refl _ _⟩
    case round =>
      obtain ⟨k, hk, rfl, hown, hb2⟩ := hrel
      have hbs := hb2.size
      by_cases hlt : k < S.length
      · have kk : (k : Int) < S.length := by omega
        have hxk : S[k]? = some S[k] := List.getElem?_eq_getElem hlt
        generalize hit : S[k] = p at *
        obtain ⟨px, pl, ph⟩ := p
        obtain ⟨b0, off, e0, hbl, c0, c1, c2⟩ := (HI.out.call hb2).at_ k _ hxk
        obtain ⟨rfl, rfl⟩ : bA = b0 ∧ oA = off := by
          have := Option.some.inj e0
          exact ⟨(Addr.mk.inj this).1, (Addr.mk.inj this).2.1⟩
        have HST := Lib.hid (ah_step hxk x)
        have HLL := Lib.hid (ah_len S k x)
        simp only at c0 c1 c2 HST
        have HB := Lib.hid hb2
        clear hxk hit
        by_cases hcx : px ≤ x
        · rw [if_pos hcx] at HST
          obtain ⟨vA, vk, rfl⟩ := hown.form
          have HO := Lib.hid hown
          clear hown
          go_wp2_with (at_builtin; refine wpList_append_sp rfl _ _ rfl w.heap.size _ _ _ rfl (wr.heap.size + 1) ⟨px, pl, ph⟩ rfl ((HO.out.alloc _).alloc _) rfl ?c1 ?c2 ?c3 ?c4 ?c5 ?_)
          case c4 => have := HL.out; have := HLL.out; omega
          case c5 => have := HB.out.size; simp; omega
          intro g' cp w1 hown' hgrow _
          have hb4 := OwnSp.below ((HO.out.alloc _).alloc _) ((HB.out.alloc HB.out.size _).alloc (by have := HB.out.size; simp; omega) _) hgrow (by have := HB.out.size; simp; omega)
          rw [← HST.out] at hown'
          clear hgrow
          go_wp2_with fail
          go_roundw
          case rel => exact ⟨k + 1, by omega, by go_num, hown', hb4⟩
          case measure => simp [intOf]; omega
        · rw [if_neg hcx, List.append_nil] at HST
          rw [← HST.out] at hown
          have HO := Lib.hid hown
          have hcd : decide (px ≤ x) = false := decide_eq_false hcx
          clear hown
          go_wp2_with fail
          go_roundw
          case rel => exact ⟨k + 1, by omega, by go_num, HO.out.alloc _, HB.out.alloc HB.out.size _⟩
          case measure => simp [intOf]; omega
      · obtain rfl : k = S.length := by omega
        rw [List.take_length] at hown
        have kk : ¬ (S.length : Int) < S.length := by omega
        obtain ⟨vA, vk, rfl⟩ := hown.form
        have HO := Lib.hid hown
        clear hown
        go_wp2_with fail
        go_meet
        exact ⟨vA, vk, rfl, HO.out, hb2⟩
  case rest =>
    obtain ⟨vA, vk, rfl, hown, hb2⟩ := hcut
    obtain ⟨kk, hkk, hkl, hdr, hway⟩ := new_way HS.out x
    have hPok : ∀ p, p ∈ ahS S x → okSp p := fun p hp => HI.out.ok p (ah_mem hp).1
    obtain ⟨P, hP⟩ : ∃ P, ahS S x = P := ⟨_, rfl⟩
    obtain ⟨z, hz⟩ : ∃ z, newS (ahS S x) (bhS S x) x = z := ⟨_, rfl⟩
    have HINS : Hid (insS S x = P ++ z :: upS (S.drop kk)) := Lib.hid (by unfold insS; rw [hdr, hz, hP])
    rw [hz, hP] at hway
    rw [hP] at hown hPok hkk
    rw [hP]
    have hsp : Spts wc vA P := hown.row hPok
    rw [hkk] at hown
    rw [hkk]
    have HO := Lib.hid hown
    have HP := Lib.hid hsp
    have HW := Lib.hid hb2
    have HKL := Lib.hid hkl
    have HKK := Lib.hid hkk
    clear hown hsp hdr hz hP hPok hkk
    have HZX := Lib.hid hway
    clear hway
    have HQ : Hid (∀ W, Below w.heap.size w W → Spts W (some ⟨bA, oA + kk * 3, none⟩) (S.drop kk)) := Lib.hid fun W hW => (HI.out.call hW).drop kk
    have HB1 := Lib.hid hb2.size
    rcases HZX.out with ⟨w1, w2, w3, rfl⟩ | ⟨w1, w2, rfl⟩ | ⟨w1, w2, p, q, p1, q1, p2, p3, rfl⟩ | ⟨w1, w2, p, p1, p2, p3, p4, rfl⟩
    · subst w1
      have g0 : t = 0 := by rw [← HT.out, w3]
      subst g0
      have g1 : ((0 : Int) == (S.length : Int)) = true := by rw [w2]; rfl
      have g2 : ¬ (0 : Int) < S.length := by omega
      have f0 : (0 : Int) ≤ S.length := by omega
      clear w3
      have f8 : (0 : Int) ≤ 0 := by omega
      go_wp2_with (at_builtin; refine wpList_append_sp rfl _ _ rfl w.heap.size _ _ 0 ?v1c0 (wc.heap.size + 1) ⟨x, 1, 1⟩ rfl ((HO.out.alloc _).alloc _) rfl ?v1c1 ?v1c2 ?v1c3 ?v1c4 ?v1c5 ?_)
      case v1c0 => first | exact HKK.out | exact List.eq_nil_of_length_eq_zero HKK.out
      case v1c5 => have := HB1.out; simp; omega
      intro g' cp w5 hown' hgrow _
      have hb4 := OwnSp.below ((HO.out.alloc _).alloc _) ((HW.out.alloc HW.out.size _).alloc (by have := HB1.out; simp; omega) _) hgrow (by have := HB1.out; simp; omega)
      have HO5 := Lib.hid hown'
      have HB5 := Lib.hid hb4
      have HB6 := Lib.hid hb4.size
      clear hgrow hown' hb4
      go_wp2_with fail
      go_loopw [5, 79] (fun s j wr => j = .int .i64 0 ∧ OwnSp wr w.heap.size s (P ++ [(⟨x, 1, 1⟩ : SpotV)]) ∧ Below w.heap.size w wr) (fun _ _ _ => 0)
      case atStart => exact ⟨rfl, HO5.out, HB5.out⟩
      case round =>
        obtain ⟨rfl, hown, hb7⟩ := hrel
        have HF : Hid (P ++ [(⟨x, 1, 1⟩ : SpotV)] = insS S x) := Lib.hid (by
          rw [HINS.out, List.drop_eq_nil_of_le (by have := w2; omega)]; rfl)
        obtain ⟨vB, vl, rfl⟩ := hown.form
        have HO7 := Lib.hid hown
        have hz9 : S.length = 0 := by have := w2; omega
        clear hown
        go_wp2_with fail
        go_ret
        exact ⟨_, rfl, by rw [← HF.out]; exact HO7.out, hb7⟩
    · subst w1
      have g1 : ((0 : Int) == (S.length : Int)) = false := by rw [beq_eq_false_iff_ne]; omega
      have g2 : (0 : Int) < S.length := by omega
      have g7 : ¬ cap = 0 := by have := HC.out; omega
      have f0 : (0 : Int) ≤ S.length := by omega
      have f8 : (0 : Int) ≤ 0 := by omega
      go_wp2_with (at_builtin; refine wpList_append_sp rfl _ _ rfl w.heap.size _ _ 0 ?v2c0 (wc.heap.size + 1) ⟨x, 1, 1⟩ rfl ((HO.out.alloc _).alloc _) rfl ?v2c1 ?v2c2 ?v2c3 ?v2c4 ?v2c5 ?_)
      case v2c0 => first | exact HKK.out | exact List.eq_nil_of_length_eq_zero HKK.out
      case v2c5 => have := HB1.out; simp; omega
      intro g' cp w5 hown' hgrow _
      have hb4 := OwnSp.below ((HO.out.alloc _).alloc _) ((HW.out.alloc HW.out.size _).alloc (by have := HB1.out; simp; omega) _) hgrow (by have := HB1.out; simp; omega)
      have HO5 := Lib.hid hown'
      have HB5 := Lib.hid hb4
      have HB6 := Lib.hid hb4.size
      clear hgrow hown' hb4
      go_wp2_with fail
      have HQL : Hid (S.length = S.length) := Lib.hid rfl
      have HQ2 : Hid (S.length ≤ 200) := HL
      go_loopw [5, 79] (fun s j wr => ∃ (i : Nat), i ≤ S.length ∧ j = .int .i64 i ∧ OwnSp wr w.heap.size s (P ++ [(⟨x, 1, 1⟩ : SpotV)] ++ upS (S.take i)) ∧ Below w.heap.size w wr) (fun _ j _ => S.length - (intOf j).toNat)
      case atStart => exact ⟨0, Nat.zero_le _, rfl, by rw [List.take_zero]; show OwnSp _ _ _ (P ++ [(⟨x, 1, 1⟩ : SpotV)] ++ []); rw [List.append_nil]; exact HO5.out, HB5.out⟩
      case round =>
        obtain ⟨i, hi, rfl, hown, hb7⟩ := hrel
        have hb7s := hb7.size
        by_cases hlt : i < S.length
        · have hix : i < S.length := by exact hlt
          obtain ⟨s, hsx⟩ : ∃ s, S[i]? = some s := ⟨S[i], List.getElem?_eq_getElem hix⟩
          obtain ⟨b9, o9, e9, hb9, m0, m1, m2⟩ := (HI.out.call hb7).at_ i _ hsx
          obtain ⟨rfl, rfl⟩ : bA = b9 ∧ oA = o9 := by
            have := Option.some.inj e9
            exact ⟨(Addr.mk.inj this).1, (Addr.mk.inj this).2.1⟩
          have hsb := HS.out.mem s (List.mem_of_getElem? hsx)
          obtain ⟨sx, sl, sh⟩ := s
          simp only at m0 m1 m2 hsb
          have j1 : IntKind.u64.wrap (sl + 1) = sl + 1 := by have := HN.out; rw [IntKind.wrap_u64]; omega
          have j2 : IntKind.u64.wrap (sh + 1) = sh + 1 := by have := HN.out; rw [IntKind.wrap_u64]; omega
          have j5 : i < 300 := by have := HQ2.out; omega
          have j3 : (i : Int) < S.length := by omega
          have j4 : (i : Int) < S.length := by have := HQL.out; omega
          have HUS := Lib.hid (up_step hsx)
          have HUL : Hid ((P ++ [(⟨x, 1, 1⟩ : SpotV)] ++ upS (S.take i)).length ≤ 500) := Lib.hid (by
            have a1 := up_len S i

            rw [List.length_append, List.length_append, HKK.out, List.length_singleton]
            have := HL.out; have := HKL.out; have := HQ2.out; omega)
          obtain ⟨vB, vl, rfl⟩ := hown.form
          have HO7 := Lib.hid hown
          have HB7 := Lib.hid hb7
          clear hown hsx e9 hix hsb
          obtain ⟨R, hR⟩ : ∃ R, P ++ [(⟨x, 1, 1⟩ : SpotV)] ++ upS (S.take i) = R := ⟨_, rfl⟩
          have HRR := Lib.hid hR
          rw [hR] at HO7 HUL
          rw [hR]
          clear hR
          obtain ⟨ln, hln⟩ : ∃ n, R.length = n := ⟨_, rfl⟩
          have HLN := Lib.hid hln
          rw [hln] at HO7 HUL
          rw [hln]
          clear hln
          go_wp2_with (at_builtin; refine wpList_append_sp rfl _ _ rfl w.heap.size _ _ ln ?v2e0 (wr.heap.size + 1) ⟨sx, sl + 1, sh + 1⟩ rfl ((HO7.out.alloc _).alloc _) rfl ?v2e1 ?v2e2 ?v2e3 ?v2e4 ?v2e5 ?_)
          case v2e0 => exact HLN.out
          case v2e4 => have := HUL.out; omega
          case v2e5 => have := HB7.out.size; simp; omega
          intro g9 cp9 w9 hown9 hgrow9 _
          have hb9' := OwnSp.below ((HO7.out.alloc _).alloc _) ((HB7.out.alloc HB7.out.size _).alloc (by have := HB7.out.size; simp; omega) _) hgrow9 (by have := HB7.out.size; simp; omega)
          have HO9 := Lib.hid hown9
          have HB9 := Lib.hid hb9'
          clear hgrow9 hown9 hb9'
          go_wp2_with fail
          go_roundw
          case rel => exact ⟨i + 1, by omega, by go_num, by rw [HUS.out, ← List.append_assoc, HRR.out]; exact HO9.out, HB9.out⟩
          case measure => simp [intOf]; omega
        · obtain rfl : i = S.length := by omega
          have HF : Hid (P ++ [(⟨x, 1, 1⟩ : SpotV)] ++ upS (S.take S.length) = insS S x) := Lib.hid (by
            rw [HINS.out, List.take_of_length_le (by exact Nat.le_refl _), List.append_assoc]; rfl)
          rw [HF.out] at hown
          obtain ⟨vB, vl, rfl⟩ := hown.form
          have HO7 := Lib.hid hown
          have hz9 : ¬ ((S.length : Nat) : Int) < S.length := by omega
          clear hown
          go_wp2_with fail
          go_ret
          exact ⟨_, rfl, HO7.out, hb7⟩
    · obtain ⟨b0, off, rfl, hbl, c0, c1, c2⟩ := HP.out.at_ _ _ p1
      obtain ⟨b1, o1, e1, hbl', d0, d1, d2⟩ := (HI.out.call hb2).at_ _ _ q1
      obtain ⟨rfl, rfl⟩ : bA = b1 ∧ oA = o1 := by
        have := Option.some.inj e1
        exact ⟨(Addr.mk.inj this).1, (Addr.mk.inj this).2.1⟩
      clear e1
      obtain ⟨px, pl, ph⟩ := p
      obtain ⟨qx, qlo, qh⟩ := q
      simp only at c0 c1 c2 p2 p3 d0 d1 d2
      have g1 : (0 : Int) < kk := by omega
      have g3 : IntKind.i64.wrap ((kk : Int) - 1) = ((kk - 1 : Nat) : Int) := by rw [IntKind.wrap_i64]; omega
      have g4 : ((kk - 1 : Nat) : Int) < kk := by omega
      have g5 : IntKind.u64.wrap (pl + 1) = pl + 1 := by have := HN.out; rw [IntKind.wrap_u64]; omega
      have f0 : (kk : Int) ≤ S.length := by omega
      have g2 : (kk : Int) < S.length := by omega
      have g6 : ((kk : Int) == (S.length : Int)) = false := by rw [beq_eq_false_iff_ne]; omega
      have g7 : ¬ cap = kk := by have := HC.out; omega
      clear p1 q1 d0 d1 c0 c2
      have f8 : (0 : Int) ≤ kk := by omega
      go_wp2_with (at_builtin; refine wpList_append_sp rfl _ _ rfl w.heap.size _ _ kk ?v3c0 (wc.heap.size + 1) ⟨x, pl + 1, qh⟩ rfl ((HO.out.alloc _).alloc _) rfl ?v3c1 ?v3c2 ?v3c3 ?v3c4 ?v3c5 ?_)
      case v3c0 => first | exact HKK.out | exact List.eq_nil_of_length_eq_zero HKK.out
      case v3c4 => have := HL.out; omega
      case v3c5 => have := HB1.out; simp; omega
      intro g' cp w5 hown' hgrow _
      have hb4 := OwnSp.below ((HO.out.alloc _).alloc _) ((HW.out.alloc HW.out.size _).alloc (by have := HB1.out; simp; omega) _) hgrow (by have := HB1.out; simp; omega)
      have HO5 := Lib.hid hown'
      have HB5 := Lib.hid hb4
      have HB6 := Lib.hid hb4.size
      clear hgrow hown' hb4
      go_wp2_with fail
      obtain ⟨ql, hql⟩ : ∃ q : Nat, (S.length - kk) = q := ⟨_, rfl⟩
      have HQL : Hid ((S.drop kk).length = ql) := Lib.hid (by rw [List.length_drop]; exact hql)
      have HQ2 : Hid (ql ≤ 200) := Lib.hid (by have := HL.out; omega)
      rw [hql]
      clear hql
      go_loopw [5, 79] (fun s j wr => ∃ (i : Nat), i ≤ ql ∧ j = .int .i64 i ∧ OwnSp wr w.heap.size s (P ++ [(⟨x, pl + 1, qh⟩ : SpotV)] ++ upS ((S.drop kk).take i)) ∧ Below w.heap.size w wr) (fun _ j _ => ql - (intOf j).toNat)
      case atStart => exact ⟨0, Nat.zero_le _, rfl, by rw [List.take_zero]; show OwnSp _ _ _ (P ++ [(⟨x, pl + 1, qh⟩ : SpotV)] ++ []); rw [List.append_nil]; exact HO5.out, HB5.out⟩
      case round =>
        obtain ⟨i, hi, rfl, hown, hb7⟩ := hrel
        have hb7s := hb7.size
        by_cases hlt : i < ql
        · have hix : i < (S.drop kk).length := by rw [HQL.out]; exact hlt
          obtain ⟨s, hsx⟩ : ∃ s, (S.drop kk)[i]? = some s := ⟨(S.drop kk)[i], List.getElem?_eq_getElem hix⟩
          obtain ⟨b9, o9, e9, hb9, m0, m1, m2⟩ := (HQ.out _ hb7).at_ i _ hsx
          obtain ⟨rfl, rfl⟩ : bA = b9 ∧ oA + kk * 3 = o9 := by
            have := Option.some.inj e9
            exact ⟨(Addr.mk.inj this).1, (Addr.mk.inj this).2.1⟩
          have hsb := HS.out.mem s (List.mem_of_mem_drop (List.mem_of_getElem? hsx))
          obtain ⟨sx, sl, sh⟩ := s
          simp only at m0 m1 m2 hsb
          have j1 : IntKind.u64.wrap (sl + 1) = sl + 1 := by have := HN.out; rw [IntKind.wrap_u64]; omega
          have j2 : IntKind.u64.wrap (sh + 1) = sh + 1 := by have := HN.out; rw [IntKind.wrap_u64]; omega
          have j5 : i < 300 := by have := HQ2.out; omega
          have j3 : (i : Int) < ql := by omega
          skip
          have HUS := Lib.hid (up_step hsx)
          have HUL : Hid ((P ++ [(⟨x, pl + 1, qh⟩ : SpotV)] ++ upS ((S.drop kk).take i)).length ≤ 500) := Lib.hid (by
            have a1 := up_len (S.drop kk) i
            rw [HQL.out] at a1
            rw [List.length_append, List.length_append, HKK.out, List.length_singleton]
            have := HL.out; have := HKL.out; have := HQ2.out; omega)
          obtain ⟨vB, vl, rfl⟩ := hown.form
          have HO7 := Lib.hid hown
          have HB7 := Lib.hid hb7
          clear hown hsx e9 hix hsb
          obtain ⟨R, hR⟩ : ∃ R, P ++ [(⟨x, pl + 1, qh⟩ : SpotV)] ++ upS ((S.drop kk).take i) = R := ⟨_, rfl⟩
          have HRR := Lib.hid hR
          rw [hR] at HO7 HUL
          rw [hR]
          clear hR
          obtain ⟨ln, hln⟩ : ∃ n, R.length = n := ⟨_, rfl⟩
          have HLN := Lib.hid hln
          rw [hln] at HO7 HUL
          rw [hln]
          clear hln
          go_wp2_with (at_builtin; refine wpList_append_sp rfl _ _ rfl w.heap.size _ _ ln ?v3e0 (wr.heap.size + 1) ⟨sx, sl + 1, sh + 1⟩ rfl ((HO7.out.alloc _).alloc _) rfl ?v3e1 ?v3e2 ?v3e3 ?v3e4 ?v3e5 ?_)
          case v3e0 => exact HLN.out
          case v3e4 => have := HUL.out; omega
          case v3e5 => have := HB7.out.size; simp; omega
          intro g9 cp9 w9 hown9 hgrow9 _
          have hb9' := OwnSp.below ((HO7.out.alloc _).alloc _) ((HB7.out.alloc HB7.out.size _).alloc (by have := HB7.out.size; simp; omega) _) hgrow9 (by have := HB7.out.size; simp; omega)
          have HO9 := Lib.hid hown9
          have HB9 := Lib.hid hb9'
          clear hgrow9 hown9 hb9'
          go_wp2_with fail
          go_roundw
          case rel => exact ⟨i + 1, by omega, by go_num, by rw [HUS.out, ← List.append_assoc, HRR.out]; exact HO9.out, HB9.out⟩
          case measure => simp [intOf]; omega
        · obtain rfl : i = ql := by omega
          have HF : Hid (P ++ [(⟨x, pl + 1, qh⟩ : SpotV)] ++ upS ((S.drop kk).take i) = insS S x) := Lib.hid (by
            rw [HINS.out, List.take_of_length_le (by rw [HQL.out]; exact Nat.le_refl _), List.append_assoc]; rfl)
          rw [HF.out] at hown
          obtain ⟨vB, vl, rfl⟩ := hown.form
          have HO7 := Lib.hid hown
          have hz9 : ¬ ((i : Nat) : Int) < i := by omega
          clear hown
          go_wp2_with fail
          go_ret
          exact ⟨_, rfl, HO7.out, hb7⟩
    · obtain ⟨b0, off, rfl, hbl, c0, c1, c2⟩ := HP.out.at_ _ _ p1
      obtain ⟨px, pl, ph⟩ := p
      simp only at c0 c1 c2 p2 p3 p4
      have g1 : (0 : Int) < kk := by omega
      have g3 : IntKind.i64.wrap ((kk : Int) - 1) = ((kk - 1 : Nat) : Int) := by rw [IntKind.wrap_i64]; omega
      have g4 : ((kk - 1 : Nat) : Int) < kk := by omega
      have g5 : IntKind.u64.wrap (pl + 1) = pl + 1 := by have := HN.out; rw [IntKind.wrap_u64]; omega
      have f0 : (kk : Int) ≤ S.length := by omega
      have g0 : t = pl := by rw [← HT.out, p4]
      subst g0
      have g2 : ¬ (kk : Int) < S.length := by omega
      have g6 : ((kk : Int) == (S.length : Int)) = true := by rw [← w2]; simp
      have HW2 := Lib.hid w2
      clear p1 p4 c0 c2 w2
      by_cases hcz : cap = kk
      · have f8 : (0 : Int) ≤ kk := by omega
        go_wp2_with (at_builtin; refine wpList_append_sp rfl _ _ rfl w.heap.size _ _ kk ?v4c0 (wc.heap.size + 1) ⟨x, t + 1, t + 1⟩ rfl ((HO.out.alloc _).alloc _) rfl ?v4c1 ?v4c2 ?v4c3 ?v4c4 ?v4c5 ?_)
        case v4c0 => first | exact HKK.out | exact List.eq_nil_of_length_eq_zero HKK.out
        case v4c4 => have := HL.out; omega
        case v4c5 => have := HB1.out; simp; omega
        intro g' cp w5 hown' hgrow _
        have hb4 := OwnSp.below ((HO.out.alloc _).alloc _) ((HW.out.alloc HW.out.size _).alloc (by have := HB1.out; simp; omega) _) hgrow (by have := HB1.out; simp; omega)
        have HO5 := Lib.hid hown'
        have HB5 := Lib.hid hb4
        have HB6 := Lib.hid hb4.size
        clear hgrow hown' hb4
        go_wp2_with fail
        go_loopw [5, 79] (fun s j wr => j = .int .i64 0 ∧ OwnSp wr w.heap.size s (P ++ [(⟨x, t + 1, t + 1⟩ : SpotV)]) ∧ Below w.heap.size w wr) (fun _ _ _ => 0)
        case atStart => exact ⟨rfl, HO5.out, HB5.out⟩
        case round =>
          obtain ⟨rfl, hown, hb7⟩ := hrel
          have HF : Hid (P ++ [(⟨x, t + 1, t + 1⟩ : SpotV)] = insS S x) := Lib.hid (by
            rw [HINS.out, List.drop_eq_nil_of_le (by have := HW2.out; omega)]; rfl)
          obtain ⟨vB, vl, rfl⟩ := hown.form
          have HO7 := Lib.hid hown
          have hz9 : S.length - kk = 0 := by have := HW2.out; omega
          clear hown
          go_wp2_with fail
          go_ret
          exact ⟨_, rfl, by rw [← HF.out]; exact HO7.out, hb7⟩
      · have f8 : (0 : Int) ≤ kk := by omega
        go_wp2_with (at_builtin; refine wpList_append_sp rfl _ _ rfl w.heap.size _ _ kk ?v5c0 (wc.heap.size + 1) ⟨x, t + 1, t + 1⟩ rfl ((HO.out.alloc _).alloc _) rfl ?v5c1 ?v5c2 ?v5c3 ?v5c4 ?v5c5 ?_)
        case v5c0 => first | exact HKK.out | exact List.eq_nil_of_length_eq_zero HKK.out
        case v5c4 => have := HL.out; omega
        case v5c5 => have := HB1.out; simp; omega
        intro g' cp w5 hown' hgrow _
        have hb4 := OwnSp.below ((HO.out.alloc _).alloc _) ((HW.out.alloc HW.out.size _).alloc (by have := HB1.out; simp; omega) _) hgrow (by have := HB1.out; simp; omega)
        have HO5 := Lib.hid hown'
        have HB5 := Lib.hid hb4
        have HB6 := Lib.hid hb4.size
        clear hgrow hown' hb4
        go_wp2_with fail
        go_loopw [5, 79] (fun s j wr => j = .int .i64 0 ∧ OwnSp wr w.heap.size s (P ++ [(⟨x, t + 1, t + 1⟩ : SpotV)]) ∧ Below w.heap.size w wr) (fun _ _ _ => 0)
        case atStart => exact ⟨rfl, HO5.out, HB5.out⟩
        case round =>
          obtain ⟨rfl, hown, hb7⟩ := hrel
          have HF : Hid (P ++ [(⟨x, t + 1, t + 1⟩ : SpotV)] = insS S x) := Lib.hid (by
            rw [HINS.out, List.drop_eq_nil_of_le (by have := HW2.out; omega)]; rfl)
          obtain ⟨vB, vl, rfl⟩ := hown.form
          have HO7 := Lib.hid hown
          have hz9 : S.length - kk = 0 := by have := HW2.out; omega
          clear hown
          go_wp2_with fail
          go_ret
          exact ⟨_, rfl, by rw [← HF.out]; exact HO7.out, hb7⟩
end Go.Proofs.Ytjmkkglmckiknaa
