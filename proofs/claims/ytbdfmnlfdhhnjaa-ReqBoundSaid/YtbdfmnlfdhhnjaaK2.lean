/-
  Texts joined, in build order: ReqZ, ReqX, ShareM, ShareA, Shelf, Carry, WideA, DivMath, DivA, Over, WideB, WideD, ROver, WideE, Less, Small, ShareP, ReqY, TreeM, DigM, PairA.
-/
import Derived.Test.YtbdfmnlfdhhnjaaK1
import Derived.Deep.QuietTactic
import Derived.BigQuiet
import Derived.Deep.RegionWith
import Derived.Lib.IndexLaws
import Derived.Lib.IndexMore
import Derived.Lib.Strings
import Derived.Test.YtbdfmnlfdhhnjaaRows
import Derived.WalkKit
import Derived.WalkSpells
import Derived.WalkLawsBesides
import Derived.WalkMore
import Derived.ScopeJumps
import Derived.Scope
import Derived.Shelf.Small.Bits
import Derived.Shelf.Strconv.Itoa0
import Derived.Shelf.Bits.Mul64
import Derived.Test.YtbdfmnlfdhhnjaaProg
import Derived.Shelf.Spec.BitsCarry
import Derived.Deep.RegionHeld3
import Derived.Lib.ItoaNum
import Derived.Laws.Bits64b
import Derived.Deep.DeepCutAuto
import Derived.Deep.CutBlock
import Derived.WalkSmall
import Derived.LoopTactic
import Derived.OwnWalk
import Derived.OneCell
import Derived.Outline
import Derived.Deep.Slices
import Derived.Deep.Fields
import Derived.SizedLaws
import Derived.Carry
import Derived.Laws.AppendOwnNone
import Derived.StillTailTactics
/-
  The reference's Join of layer 21. (Written by tools/gen_req_z.py.)
-/
namespace Go.Proofs.Ytbdfmnlfdhhnjaa
set_option linter.unusedVariables false
set_option linter.unusedSimpArgs false
open Go.RowKit

theorem add21_len : ∀ (R S : List (List Int)), (addR R S).length = max R.length S.length
  | [], S => by show S.length = max 0 S.length; omega
  | r :: R, [] => by show R.length + 1 = max (R.length + 1) 0; omega
  | r :: R, s :: S => by
    show (addR R S).length + 1 = max (R.length + 1) (S.length + 1)
    rw [add21_len R S]; omega
theorem add21_nil : ∀ (R : List (List Int)), addR R [] = R
  | [] => rfl
  | _ :: _ => rfl
theorem add21_siz : ∀ (R S : List (List Int)), sizR (addR R S) = sizR R + sizR S
  | [], S => by show sizR S = 0 + sizR S; omega
  | r :: R, [] => by show sizR (r :: R) = sizR (r :: R) + 0; omega
  | r :: R, s :: S => by
    show sizR ((r ++ s) :: addR R S) = _
    rw [sizR_cons, sizR_cons, sizR_cons, add21_siz R S, List.length_append]; omega
theorem add21_fuel (R S : List (List Int)) : fuelR (addR R S) ≤ fuelR R + fuelR S := by
  unfold fuelR
  rw [add21_len, add21_siz]; omega
theorem add21_mid : ∀ {R S : List (List Int)} {j : Nat} {q s : List Int}, (addR R (S.take j))[j]? = some q → S[j]? = some s → (addR R (S.take j)).set j (q ++ s) = addR R (S.take (j + 1))
  | [], S, j, q, s, h, hs => by
    have e : (S.take j)[j]? = some q := h
    rw [List.getElem?_eq_none (by rw [List.length_take]; omega)] at e
    cases e
  | r :: R, [], j, q, s, h, hs => by simp at hs
  | r :: R, t :: S, 0, q, s, h, hs => by
    have e1 : r = q := by simpa [addR] using h
    have e2 : t = s := by simpa using hs
    subst e1 e2
    show (r ++ t) :: R = (r ++ t) :: addR R []
    rw [add21_nil]
  | r :: R, t :: S, j + 1, q, s, h, hs => by
    have ih := add21_mid (R := R) (S := S) (j := j) (q := q) (s := s) (by simpa [addR] using h) (by simpa using hs)
    show (r ++ t) :: (addR R (S.take j)).set j (q ++ s) = (r ++ t) :: addR R (S.take (j + 1))
    rw [ih]
theorem add21_last : ∀ {R S : List (List Int)} {j : Nat} {s : List Int}, (addR R (S.take j)).length = j → S[j]? = some s → (addR R (S.take j) ++ [[]]).set j ([] ++ s) = addR R (S.take (j + 1))
  | [], S, j, s, h, hs => by
    show (S.take j ++ [[]]).set j ([] ++ s) = S.take (j + 1)
    have hl : (S.take j).length = j := h
    rw [List.set_append_right _ _ (by omega), hl, Nat.sub_self, List.take_add_one, hs]
    rfl
  | r :: R, [], j, s, h, hs => by simp at hs
  | r :: R, t :: S, 0, s, h, hs => by simp [addR] at h
  | r :: R, t :: S, j + 1, s, h, hs => by
    have ih := add21_last (R := R) (S := S) (j := j) (s := s) (by simpa [addR] using h) (by simpa using hs)
    show (r ++ t) :: ((addR R (S.take j) ++ [[]]).set j ([] ++ s)) = (r ++ t) :: addR R (S.take (j + 1))
    rw [ih]
/-- A tower on its way to be joined: S2 are the other one's rows. -/
def OnJoin (w : World) (M : Nat) (B word : Int) (u : Nat) (hv0 : Value) (R0 : List RowI) (S2 : List (List Int)) (j : Nat) (wr : World) (hv : Value) (R : List RowI) : Prop :=
  RefT wr M B word u hv R ∧ lsI R = addR (lsI R0) (S2.take j) ∧ Along w M hv0 R0 wr hv R

set_option maxRecDepth 100000 in
set_option maxHeartbeats 16000000 in
theorem rjoin21_any (w : World) (M M2 : Nat) (B word B2 word2 : Int) (u u2 : Nat) (hv0 hv2 : Value) (R0 R2 : List RowI) (ht : RefT w M B word u hv0 R0) (ht2 : RefT w M2 B2 word2 u2 hv2 R2) (hne : R0 ≠ []) (hne2 : R2 ≠ []) (h4 : B % 4 = 0) (h0 : 4 ≤ B) (h64 : B ≤ 64) (hw : Word word) (hU : u ≤ 1000000) (hN : fuelR (lsI R0) ≤ 15000) (hN2 : fuelR (lsI R2) ≤ 15000)
    (hs1 : ∀ g, hv2.ownBlock = some g → g ≠ M ∧ hv0.ownBlock ≠ some g) (hs2 : ∀ r, r ∈ R2 → ∀ a, r.a = some a → a.block ≠ M ∧ hv0.ownBlock ≠ some a.block) :
    Calls Try.prog 27 #[.pointer (some ⟨M, 0, none⟩), .pointer (some ⟨M2, 0, none⟩)] w fun e w' => e = .returned (.tuple #[]) ∧ SettledR w M B word hv0 R0 (joinT B (coinB word) (lsI R0, u) (lsI R2, u2)) w' := by
  obtain ⟨n2, hn2⟩ : ∃ n, R2.length = n := ⟨_, rfl⟩
  have hn21 : 1 ≤ n2 := by
    cases R2 with
    | nil => exact absurd rfl hne2
    | cons a b => rw [← hn2]; simp
  obtain ⟨G2, cap2, rfl, _, _, hcap2⟩ := ht2.head.some_ (by rw [hn2]; exact hn21)
  rw [hn2] at ht2 hcap2 hs1
  obtain ⟨g1, g2⟩ := hs1 G2 rfl
  have n2le : n2 ≤ 15000 := by have := fuel_le (lsI R2); rw [ls_len, hn2] at this; omega
  have HT2 := Lib.hid ht2
  have HN2 := Lib.hid hn2
  have c32 := ht2.c3
  obtain ⟨S2, hS2⟩ : ∃ S, lsI R2 = S := ⟨_, rfl⟩
  have HS2 := Lib.hid hS2
  rw [hS2] at hN2 ⊢
  have HST : Hid (OnJoin w M B word u hv0 R0 S2 0 w hv0 R0) := Lib.hid ⟨ht, by rw [List.take_zero, add21_nil], Along.refl _ _ _ _⟩
  have HW := Lib.hid hw
  have HCELL : Hid (∀ wr hv R j r, Along w M hv0 R0 wr hv R → R2[j]? = some r → wr.cell? ⟨G2, j, none⟩ = some r.v ∧ Nums wr r.a r.l) := Lib.hid (by
    intro wr hv R j r ha hr
    refine ⟨ha.keeps.cell (fun c => ?_) (HT2.out.head.at_ HN2.out hr), (HT2.out.row r (List.mem_of_getElem? hr)).1.ok, fun i p hi => ?_⟩
    · rcases c with c | c
      · exact g1 c
      · exact g2 c
    · obtain ⟨b, off, e, hlt, c0⟩ := (HT2.out.row r (List.mem_of_getElem? hr)).1.at_ i p hi
      obtain ⟨x1, x2⟩ := hs2 r (List.mem_of_getElem? hr) _ e
      exact ⟨b, off, e, Nat.lt_of_lt_of_le hlt ha.keeps.size, ha.keeps.cell (fun c => by
        rcases c with c | c
        · exact x1 c
        · exact x2 c) c0⟩)
  have HFU : Hid (∀ j, j ≤ n2 → fuelR (addR (lsI R0) (S2.take j)) ≤ 30000) := Lib.hid (by
    intro j hj
    have h1 := add21_fuel (lsI R0) (S2.take j)
    have h2 : fuelR (S2.take j) ≤ fuelR S2 := by
      have e : fuelR S2 = fuelR (S2.take j) + fuelR (S2.drop j) := by
        unfold fuelR
        conv => lhs; rw [← List.take_append_drop j S2]
        unfold sizR
        rw [List.length_append, List.map_append, List.sum_append]
        omega
      omega
    omega)
  have HALL : Hid (S2.take n2 = S2) := Lib.hid (List.take_of_length_le (by rw [← hS2, ls_len, hn2]; exact Nat.le_refl _))
  have HR2S : Hid (∀ j (r : RowI), R2[j]? = some r → S2[j]? = some r.l ∧ r.l.length ≤ 15000) := Lib.hid (by
    intro j r hr
    have h := ls_at hr
    rw [hS2] at h
    exact ⟨h, by have := fuel_at h; omega⟩)
  clear hS2 ht ht2 hw hn2 hs1 hs2 hne2 hcap2 g1 g2
  go_enter Try.func27, Try.ntmps27
  go_wp2_with fail
  go_loopg [11] n2 (fun g sv wr => ∃ (j : Nat) (hv : Value) (R : List RowI), j ≤ n2 ∧ g = n2 - j ∧ sv = .int .i64 j ∧ OnJoin w M B word u hv0 R0 S2 j wr hv R)
  case atStart => exact ⟨0, hv0, R0, Nat.zero_le _, rfl, rfl, HST.out⟩
  case round =>
    clear c32
    obtain ⟨j, hv, R, hj, hgk, rfl, hs⟩ := hrel
    have HS := Lib.hid hs
    obtain ⟨ht, hls, hal⟩ := hs
    obtain ⟨n, hn⟩ : ∃ n, R.length = n := ⟨_, rfl⟩
    have hlen : n = max R0.length (min j n2) := by
      have e : (lsI R).length = _ := congrArg List.length hls
      rw [ls_len, hn, add21_len, ls_len, List.length_take, ← HS2.out, ls_len, HN2.out] at e
      exact e
    have hn1 : 1 ≤ n := by
      cases R0 with
      | nil => exact absurd rfl hne
      | cons a b => rw [hlen]; simp; omega
    have hjn : j ≤ n := by omega
    have hrl : ∀ i (r : RowI), R[i]? = some r → r.l.length ≤ 30000 := fun i r hr => by
      have h1 := fuel_at (ls_at hr)
      rw [hls] at h1
      have := HFU.out j hj
      omega
    have HRL := Lib.hid hrl
    have HLS := Lib.hid hls
    obtain ⟨G, cap, rfl, _, hG1, hcap⟩ := ht.head.some_ (by rw [hn]; exact hn1)
    rw [hn] at ht hcap hal
    have hnb : n ≤ 30000 := by
      have h1 := fuel_le (lsI R)
      rw [ls_len, hn, hls] at h1
      have := HFU.out j hj
      omega
    have HT := Lib.hid ht
    have HAL := Lib.hid hal
    have HN := Lib.hid hn
    have c3 := ht.c3
    clear hal hls hlen hrl hcap
    by_cases hlt : j < n2
    · have kk : (j : Int) < n2 := by omega
      obtain ⟨r, hr⟩ : ∃ r, R2[j]? = some r := ⟨_, List.getElem?_eq_getElem (by rw [HN2.out]; exact hlt)⟩
      obtain ⟨x1, x2⟩ := HCELL.out _ _ _ j r HAL.out hr
      obtain ⟨x3, x4⟩ := HR2S.out j r hr
      obtain ⟨A, L, k⟩ := r
      simp only at x2 x3 x4
      obtain ⟨l, hle⟩ : ∃ l, L.length = l := ⟨_, rfl⟩
      rw [show (⟨A, L, k⟩ : RowI).v = .slice A l k by unfold RowI.v; rw [hle]] at x1
      rw [hle] at x4
      have HLE := Lib.hid hle
      have HSRC := Lib.hid x2
      have HSJ := Lib.hid x3
      have HR2J := Lib.hid hr
      clear hr x2 x3 hle ht
      by_cases hlast : j = n
      · have HLST := Lib.hid hlast
        have e1 : ((j : Int) == (n : Int)) = true := by rw [beq_iff_eq]; omega
        clear hlast
        have HAB : Hid (Below wr.heap.size wr (wr.alloc (.cells #[.slice none 0 0] 62))) := Lib.hid ((Below.refl _ _).alloc (Nat.le_refl _) _)
        have HO := Lib.hid (HT.out.head.call HAB.out)
        go_wp2_with (at_builtin; refine wpList_append_rowI rfl (.tmp 27) (.tmp 28) rfl 0 _ R n HN.out wr.heap.size ⟨none, [], 0⟩ rfl HO.out rfl ?f1 ?f2 ?f3 ?_)
        case f1 => go_simp; rfl
        case f2 => omega
        case f3 => exact Nat.zero_le _
        intro gX cX w6 hoX6 hg6 hgX
        have hlenX : (R ++ [(⟨none, [], 0⟩ : RowI)]).length = n + 1 := by rw [List.length_append, HN.out]; rfl
        generalize hnXe : n + 1 = nX at *
        have HNXE := Lib.hid hnXe
        have n3 : nX ≤ 40001 := by omega
        clear hnXe
        have z : (wr.alloc (.cells #[.slice none 0 0] 62)).heap.size = wr.heap.size + 1 := by simp
        have hnX : gX = G ∨ wr.heap.size + 1 ≤ gX := by
          rcases hgX with e | e
          · exact Or.inl (Option.some.inj e).symm
          · exact Or.inr (by omega)
        have hnX' : gX = G ∨ (wr.alloc (.cells #[.slice none 0 0] 62)).heap.size ≤ gX := by rw [z]; exact hnX
        have hsz := HAL.out.keeps.size
        have htX := (HT.out.call HAB.out).last hg6 hoX6 hnX'
        have halX := (HAL.out.below HAB.out).more (n' := nX) (cap' := cX) hg6 (by rcases hnX with e | e; exact Or.inl e; exact Or.inr (by omega)) (.slice (some ⟨gX, 0, none⟩) nX cX)
        have c36 := ((HT.out.call HAB.out).toHeadT.grown hg6 (HT.out.nM)).c3
        have f36 := ((HT.out.call HAB.out).toHeadT.grown hg6 (HT.out.nM)).f0 3
        have hsx := (HCELL.out _ _ _ j _ halX HR2J.out).2
        obtain ⟨wX, hwX⟩ : ∃ wX, w6.setCell ⟨M, 3, none⟩ (.slice (some ⟨gX, 0, none⟩) nX cX) = wX := ⟨_, rfl⟩
        rw [hwX] at htX halX hsx
        have HTX := Lib.hid htX
        have HALX := Lib.hid halX
        have HSRC := Lib.hid hsx
        have HLX := Lib.hid hlenX
        clear hoX6 hg6 hgX hnX z hnX' htX halX hlenX hsz hsx
        obtain ⟨q, hq⟩ : ∃ q, (R ++ [(⟨none, [], 0⟩ : RowI)])[j]? = some q := ⟨_, List.getElem?_eq_getElem (by rw [HLX.out]; have := HLST.out; have := HNXE.out; omega)⟩
        obtain ⟨A2, L2, k2⟩ := q
        have hl2 : L2.length ≤ 40000 := (by have e := hq; rw [List.getElem?_append_right (by rw [HN.out]; have := HLST.out; omega), HN.out, show j - n = 0 by have := HLST.out; omega] at e; have e2 := (RowI.mk.inj (Option.some.inj e)).2.1; rw [← e2]; simp)
        obtain ⟨l2, hl2e⟩ : ∃ l, L2.length = l := ⟨_, rfl⟩
        have HL2 := Lib.hid hl2e
        have l2le : l2 ≤ 40000 := by rw [← hl2e]; exact hl2
        have hk1 : (j : Int) < ((nX : Nat) : Int) := by have := HLST.out; have := HNXE.out; omega
        have hh2 : j < nX := by have := HLST.out; have := HNXE.out; omega
        have hA2S : Nums wX A2 L2 := (HTX.out.row ⟨A2, L2, k2⟩ (List.mem_of_getElem? hq)).1
        have eS : wX.cell? ⟨gX, j, none⟩ = some (.slice A2 l2 k2) := by
          have := HTX.out.head.at_ (i := j) HLX.out hq
          rw [show (⟨A2, L2, k2⟩ : RowI).v = .slice A2 l2 k2 by unfold RowI.v; rw [hl2e]] at this
          exact this
        have fS : wX.frozen? ⟨gX, j, none⟩ = false := HTX.out.head.free HLX.out _
        have c3S := HTX.out.c3
        have HQ := Lib.hid hq
        have HA2 := Lib.hid hA2S
        have HC3S := Lib.hid c3S
        have HES := Lib.hid eS
        have HFR := Lib.hid fS
        have HGS := Lib.hid (HTX.out.head.lt gX rfl).2
        have HSX := Lib.hid (HSRC.out.call (Below.refl _ _))
        have HOK : Hid (∀ p, p ∈ L2 ++ L → I64 p) := Lib.hid fun p hp => by
          rcases List.mem_append.1 hp with h | h
          · exact HA2.out.ok p h
          · exact HSX.out.ok p h
        have BA := Lib.hid ((Below.refl wX.heap.size wX).drew.alloc (Nat.le_refl _) (.cells #[] 2))
        have hEa : (wX.drew.alloc (.cells #[] 2)).heap[wX.heap.size]? = some (.cells #[] 2 (0, 0)) := new_cells20 wX.drew _
        have HEa := Lib.hid (own_emptyN (base := wX.heap.size) hEa (Nat.le_refl _))
        have a1 : (wX.alloc (.cells #[] 2)).cell? ⟨M, 3, none⟩ = some (.slice (some ⟨gX, 0, none⟩) nX cX) := by have t := cell_later BA.out c3S; exact t
        have d1 : (wX.alloc (.cells #[] 2)).cell? ⟨gX, j, none⟩ = some (.slice A2 l2 k2) := by have t := cell_later BA.out eS; exact t
        have HNa : Hid (([] : List Int).length + l2 ≤ 100000) := Lib.hid (by simp; omega)
        have HNb : Hid (L2.length + l ≤ 100000) := Lib.hid (by rw [hl2e]; omega)
        have HFIN : Hid (∀ w7 A7 k7, OwnN w7 wX.heap.size (.slice A7 (L2 ++ L).length k7) (L2 ++ L) → Below wX.heap.size wX w7 → ∃ hv R', OnJoin w M B word u hv0 R0 S2 (j + 1) (w7.setCell ⟨gX, j, none⟩ (.slice A7 (L2.length + L.length) k7)) hv R') := Lib.hid (by
          intro w7 A7 k7 ho7 hb7
          obtain ⟨A7', k7', e7', hN7⟩ := ho7.rows HOK.out
          obtain ⟨rfl, _, rfl⟩ : A7 = A7' ∧ True ∧ k7 = k7' := by injection e7' with a b c; exact ⟨a, trivial, c⟩
          have hnew : ∀ a, A7 = some a → wX.heap.size ≤ a.block ∧ a.block < w7.heap.size := fun a ha => ho7.lt a.block (by rw [ha]; rfl)
          have ht7 := HTX.out.call hb7
          have hap7 : RowAp w7 M (.slice (some ⟨gX, 0, none⟩) nX cX) ⟨A7, L2 ++ L, k7⟩ := ⟨hN7, fun a ha => by
            have h1 := hnew a ha
            have h2 := HTX.out.lt
            have h3 := HGS.out
            exact ⟨h1.2, by omega, fun e => by have e' : gX = a.block := Option.some.inj e; omega⟩⟩
          have ht8 := ht7.put (i := j) HLX.out hh2 (p := L2.length + L.length) List.length_append hap7
          have ha8 := (HALX.out.below hb7).put (i := j) (r := ⟨A7, L2 ++ L, k7⟩) (fun a ha => by have := (hnew a ha).1; have := HALX.out.keeps.size; omega) (.slice A7 (L2.length + L.length) k7)
          exact ⟨_, _, ht8, (by have e := HQ.out; rw [List.getElem?_append_right (by rw [HN.out]; have := HLST.out; omega), HN.out, show j - n = 0 by have := HLST.out; omega] at e; have e2 := (RowI.mk.inj (Option.some.inj e)).2.1; rw [ls_set, ls_app, HLS.out]; show (addR (lsI R0) (S2.take j) ++ [[]]).set j (L2 ++ L) = _; rw [← e2]; exact add21_last (by rw [← HLS.out, ls_len, HN.out]; exact HLST.out.symm) HSJ.out), ha8⟩)
        clear hq hl2 hl2e hA2S fS hEa
        go_wp2_with fail
        go_region_law (first
          | (refine step_append_nums rfl (.tmp 37) (.tmp 44) rfl wX.heap.size _ [] A2 l2 k2 L2 rfl HEa.out rfl HL2.out (HA2.out.call BA.out) HNa.out BA.out.size ?_; intro v6 w6 hown6 hg6; have HO6 := Lib.hid (show OwnN w6 wX.heap.size v6 L2 from hown6); have HB6 : Hid (Below wX.heap.size wX w6) := Lib.hid (HEa.out.below BA.out hg6 BA.out.size); have a6 := cell_later HB6.out HC3S.out; clear hown6 hg6)
          | (refine step_append_nums rfl (.tmp 45) (.tmp 46) rfl wX.heap.size _ L2 A l k L rfl HO6.out rfl HLE.out (HSX.out.call HB6.out) HNb.out HB6.out.size ?_; intro v7 w7 hown7 hg7; obtain ⟨A7, k7, rfl⟩ := hown7.form; have HO7 := Lib.hid hown7; have HB7 : Hid (Below wX.heap.size wX w7) := Lib.hid (HO6.out.below HB6.out hg7 HB6.out.size); have b7 := cell_later HB7.out HC3S.out; have e7 := cell_later HB7.out HES.out; have f7 : w7.frozen? ⟨gX, j, none⟩ = false := (World.frozen?_of_block (a := ⟨gX, j, none⟩) (HB7.out.block gX HGS.out)).trans HFR.out; clear hown7 hg7))
        all_goals
          clear b7 e7 f7
          obtain ⟨hvF, RF, hfin⟩ := HFIN.out _ _ _ HO7.out HB7.out
          have HNX := Lib.hid hfin
          clear hfin
          go_wp2_with fail
          go_roundg (n2 - (j + 1))
          case measure => omega
          case rel => exact ⟨j + 1, _, _, by omega, rfl, by first | rfl | go_num, HNX.out⟩
      · have e1 : ((j : Int) == (n : Int)) = false := by rw [beq_eq_false_iff_ne]; omega
        have HTX := HT
        have HALX := HAL
        obtain ⟨q, hq⟩ : ∃ q, R[j]? = some q := ⟨_, List.getElem?_eq_getElem (by rw [HN.out]; skip; omega)⟩
        obtain ⟨A2, L2, k2⟩ := q
        have hl2 : L2.length ≤ 40000 := (by have := HRL.out _ _ hq; simp only at this; omega)
        obtain ⟨l2, hl2e⟩ : ∃ l, L2.length = l := ⟨_, rfl⟩
        have HL2 := Lib.hid hl2e
        have l2le : l2 ≤ 40000 := by rw [← hl2e]; exact hl2
        have hk1 : (j : Int) < ((n : Nat) : Int) := by skip; omega
        have hh2 : j < n := by skip; omega
        have hA2S : Nums wr A2 L2 := (HTX.out.row ⟨A2, L2, k2⟩ (List.mem_of_getElem? hq)).1
        have eS : wr.cell? ⟨G, j, none⟩ = some (.slice A2 l2 k2) := by
          have := HTX.out.head.at_ (i := j) HN.out hq
          rw [show (⟨A2, L2, k2⟩ : RowI).v = .slice A2 l2 k2 by unfold RowI.v; rw [hl2e]] at this
          exact this
        have fS : wr.frozen? ⟨G, j, none⟩ = false := HTX.out.head.free HN.out _
        have c3S := HTX.out.c3
        have HQ := Lib.hid hq
        have HA2 := Lib.hid hA2S
        have HC3S := Lib.hid c3S
        have HES := Lib.hid eS
        have HFR := Lib.hid fS
        have HGS := Lib.hid (HTX.out.head.lt G rfl).2
        have HSX := Lib.hid (HSRC.out.call (Below.refl _ _))
        have HOK : Hid (∀ p, p ∈ L2 ++ L → I64 p) := Lib.hid fun p hp => by
          rcases List.mem_append.1 hp with h | h
          · exact HA2.out.ok p h
          · exact HSX.out.ok p h
        have BA := Lib.hid ((Below.refl wr.heap.size wr).drew.alloc (Nat.le_refl _) (.cells #[] 2))
        have hEa : (wr.drew.alloc (.cells #[] 2)).heap[wr.heap.size]? = some (.cells #[] 2 (0, 0)) := new_cells20 wr.drew _
        have HEa := Lib.hid (own_emptyN (base := wr.heap.size) hEa (Nat.le_refl _))
        have a1 : (wr.alloc (.cells #[] 2)).cell? ⟨M, 3, none⟩ = some (.slice (some ⟨G, 0, none⟩) n cap) := by have t := cell_later BA.out c3S; exact t
        have d1 : (wr.alloc (.cells #[] 2)).cell? ⟨G, j, none⟩ = some (.slice A2 l2 k2) := by have t := cell_later BA.out eS; exact t
        have HNa : Hid (([] : List Int).length + l2 ≤ 100000) := Lib.hid (by simp; omega)
        have HNb : Hid (L2.length + l ≤ 100000) := Lib.hid (by rw [hl2e]; omega)
        have HFIN : Hid (∀ w7 A7 k7, OwnN w7 wr.heap.size (.slice A7 (L2 ++ L).length k7) (L2 ++ L) → Below wr.heap.size wr w7 → ∃ hv R', OnJoin w M B word u hv0 R0 S2 (j + 1) (w7.setCell ⟨G, j, none⟩ (.slice A7 (L2.length + L.length) k7)) hv R') := Lib.hid (by
          intro w7 A7 k7 ho7 hb7
          obtain ⟨A7', k7', e7', hN7⟩ := ho7.rows HOK.out
          obtain ⟨rfl, _, rfl⟩ : A7 = A7' ∧ True ∧ k7 = k7' := by injection e7' with a b c; exact ⟨a, trivial, c⟩
          have hnew : ∀ a, A7 = some a → wr.heap.size ≤ a.block ∧ a.block < w7.heap.size := fun a ha => ho7.lt a.block (by rw [ha]; rfl)
          have ht7 := HTX.out.call hb7
          have hap7 : RowAp w7 M (.slice (some ⟨G, 0, none⟩) n cap) ⟨A7, L2 ++ L, k7⟩ := ⟨hN7, fun a ha => by
            have h1 := hnew a ha
            have h2 := HTX.out.lt
            have h3 := HGS.out
            exact ⟨h1.2, by omega, fun e => by have e' : G = a.block := Option.some.inj e; omega⟩⟩
          have ht8 := ht7.put (i := j) HN.out hh2 (p := L2.length + L.length) List.length_append hap7
          have ha8 := (HALX.out.below hb7).put (i := j) (r := ⟨A7, L2 ++ L, k7⟩) (fun a ha => by have := (hnew a ha).1; have := HALX.out.keeps.size; omega) (.slice A7 (L2.length + L.length) k7)
          exact ⟨_, _, ht8, (by rw [ls_set, HLS.out]; exact add21_mid (by rw [← HLS.out]; exact ls_at HQ.out) HSJ.out), ha8⟩)
        clear hq hl2 hl2e hA2S fS hEa
        go_wp2_with fail
        go_region_law (first
          | (refine step_append_nums rfl (.tmp 37) (.tmp 44) rfl wr.heap.size _ [] A2 l2 k2 L2 rfl HEa.out rfl HL2.out (HA2.out.call BA.out) HNa.out BA.out.size ?_; intro v6 w6 hown6 hg6; have HO6 := Lib.hid (show OwnN w6 wr.heap.size v6 L2 from hown6); have HB6 : Hid (Below wr.heap.size wr w6) := Lib.hid (HEa.out.below BA.out hg6 BA.out.size); have a6 := cell_later HB6.out HC3S.out; clear hown6 hg6)
          | (refine step_append_nums rfl (.tmp 45) (.tmp 46) rfl wr.heap.size _ L2 A l k L rfl HO6.out rfl HLE.out (HSX.out.call HB6.out) HNb.out HB6.out.size ?_; intro v7 w7 hown7 hg7; obtain ⟨A7, k7, rfl⟩ := hown7.form; have HO7 := Lib.hid hown7; have HB7 : Hid (Below wr.heap.size wr w7) := Lib.hid (HO6.out.below HB6.out hg7 HB6.out.size); have b7 := cell_later HB7.out HC3S.out; have e7 := cell_later HB7.out HES.out; have f7 : w7.frozen? ⟨G, j, none⟩ = false := (World.frozen?_of_block (a := ⟨G, j, none⟩) (HB7.out.block G HGS.out)).trans HFR.out; clear hown7 hg7))
        all_goals
          clear b7 e7 f7
          obtain ⟨hvF, RF, hfin⟩ := HFIN.out _ _ _ HO7.out HB7.out
          have HNX := Lib.hid hfin
          clear hfin
          go_wp2_with fail
          go_roundg (n2 - (j + 1))
          case measure => omega
          case rel => exact ⟨j + 1, _, _, by omega, rfl, by first | rfl | go_num, HNX.out⟩
    · have kk : ¬ (j : Int) < n2 := by omega
      have hh : j = n2 := by omega
      subst hh
      have hls := HLS.out
      rw [HALL.out] at hls
      have CS := Lib.hid (rsettle21_any _ M B word u _ _ HT.out (fun e => by have h := HN.out; rw [e] at h; have h2 : 0 = n := h; omega) h4 h0 h64 HW.out hU (by rw [hls]; have := HFU.out j (Nat.le_refl _); rw [HALL.out] at this; omega))
      rw [hls] at CS
      clear hls ht hgk
      go_wp2_with fail
      with_reducible (refine CS.out.mono ?_)
      rintro e w9 ⟨rfl, hs9⟩
      have HFN : Hid (SettledR w M B word hv0 R0 (joinT B (coinB word) (lsI R0, u) (S2, u2)) w9) := Lib.hid (hs9.after HAL.out)
      clear hs9
      go_wp2_with fail
      first
      | (go_end0; exact ⟨rfl, HFN.out⟩)
      | exact bodyPost_ret (results_none rfl _ _ _) rfl ⟨rfl, HFN.out⟩
end Go.Proofs.Ytbdfmnlfdhhnjaa

/-
  The reference's tower of layer 21 read: Rank, Total; Same, of rows of rows.
-/
namespace Go.Proofs.Ytbdfmnlfdhhnjaa
set_option linter.unusedVariables false
set_option linter.unusedSimpArgs false
open Go.RowKit

/-! ### Plain -/
theorem rank_take (x : Int) : ∀ {R : List (List Int)} {j : Nat} {r : List Int}, R[j]? = some r → rankR x (R.take (j + 1)) = rankR x (R.take j) + ((2 ^ j : Nat) : Int) * upV r x
  | [], j, r, h => by simp at h
  | q :: R, 0, r, h => by
    have e : q = r := by simpa using h
    subst e
    show upV q x + 2 * 0 = 0 + ((1 : Nat) : Int) * upV q x
    omega
  | q :: R, j + 1, r, h => by
    have ih := rank_take x (R := R) (j := j) (r := r) (by simpa using h)
    show upV q x + 2 * rankR x (R.take (j + 1)) = upV q x + 2 * rankR x (R.take j) + _
    rw [ih, Nat.pow_succ, Int.natCast_mul, Int.mul_add, ← Int.mul_assoc, Int.mul_comm ((2 ^ j : Nat) : Int) ((2 : Nat) : Int)]
    show _ + (_ + (2 : Int) * _ * _) = _ + _ + (2 : Int) * _ * _
    omega
theorem rank_bd (x K : Int) : ∀ {R : List (List Int)}, (∀ r, r ∈ R → (r.length : Int) ≤ K) → 0 ≤ rankR x R ∧ rankR x R ≤ K * ((2 ^ R.length - 1 : Nat) : Int)
  | [], _ => ⟨Int.le_refl _, by show (0 : Int) ≤ K * 0; omega⟩
  | q :: R, h => by
    obtain ⟨i1, i2⟩ := rank_bd x K (R := R) fun r hr => h r (List.mem_cons_of_mem _ hr)
    have hq := h q List.mem_cons_self
    obtain ⟨u1, u2⟩ := upV_bd q x
    have hp : 1 ≤ 2 ^ R.length := Nat.one_le_two_pow
    have e : ((2 ^ (R.length + 1) - 1 : Nat) : Int) = 2 * ((2 ^ R.length - 1 : Nat) : Int) + 1 := by rw [Nat.pow_succ]; omega
    have eb : K * ((2 ^ (R.length + 1) - 1 : Nat) : Int) = 2 * (K * ((2 ^ R.length - 1 : Nat) : Int)) + K := by rw [e, Int.mul_add, Int.mul_left_comm, Int.mul_one]
    refine ⟨by show 0 ≤ upV q x + 2 * rankR x R; omega, ?_⟩
    show upV q x + 2 * rankR x R ≤ K * ((2 ^ (R.length + 1) - 1 : Nat) : Int)
    rw [eb]
    omega
theorem rank_all {x : Int} : ∀ {R : List (List Int)}, (∀ r, r ∈ R → ∀ y, y ∈ r → y ≤ x) → rankR x R = wtR R
  | [], _ => rfl
  | q :: R, h => by
    show upV q x + 2 * rankR x R = (q.length : Int) + 2 * wtR R
    rw [rank_all (R := R) fun r hr => h r (List.mem_cons_of_mem _ hr)]
    have : upV q x = q.length := by
      unfold upV
      rw [List.filter_eq_self.2 fun y hy => by simpa using h q List.mem_cons_self y hy]
    omega

/-! ### Rank -/
set_option maxRecDepth 100000 in
set_option maxHeartbeats 2000000 in
theorem rrank21_any (w : World) (M : Nat) (B word : Int) (u : Nat) (hv : Value) (R : List RowI) (x : Int) (ht : RefT w M B word u hv R) (hx : I64 x) (hR : R.length ≤ 20) (hne : R ≠ []) (hl : ∀ r, r ∈ R → r.l.length ≤ 20000) :
    Calls Try.prog 20 #[.pointer (some ⟨M, 0, none⟩), .int .i64 x] w fun e w' => e = .returned (.int .u64 (rankR x (lsI R))) ∧ w = w' := by
  obtain ⟨n, hn⟩ : ∃ n, R.length = n := ⟨_, rfl⟩
  have hn1 : 1 ≤ n := by
    cases R with
    | nil => exact absurd rfl hne
    | cons a b => rw [← hn]; simp
  obtain ⟨G, cap, rfl, _, _, hcap⟩ := ht.head.some_ (by rw [hn]; exact hn1)
  rw [hn] at ht hR
  have HT := Lib.hid ht
  have HN := Lib.hid hn
  have c3 := ht.c3
  have HX := Lib.hid hx
  have HL := Lib.hid hl
  have HTB : Hid (∀ j, j ≤ n → 0 ≤ rankR x ((lsI R).take j) ∧ rankR x ((lsI R).take j) ≤ 20000 * ((2 ^ j - 1 : Nat) : Int)) := Lib.hid fun j hj => by
    have h := rank_bd x 20000 (R := (lsI R).take j) fun r hr => by
      obtain ⟨q, hq, rfl⟩ := List.mem_map.1 (List.mem_of_mem_take hr)
      have := hl q hq
      omega
    rw [List.length_take, ls_len, hn, Nat.min_eq_left hj] at h
    exact h
  have HFIN : Hid ((lsI R).take n = lsI R) := Lib.hid (List.take_of_length_le (by rw [ls_len, hn]; exact Nat.le_refl _))
  have HT0 : Hid (rankR x ((lsI R).take 0) = 0) := Lib.hid rfl
  clear ht hl hx hn hcap
  go_enter Try.func20, Try.ntmps20
  go_wp2_with fail
  go_loopw [5, 6, 14] (fun nv wv iv wr => ∃ (j : Nat) (a b : Int), j ≤ n ∧ iv = .int .i64 j ∧ nv = .int .u64 a ∧ wv = .int .u64 b ∧ a = rankR x ((lsI R).take j) ∧ b = ((2 ^ j : Nat) : Int) ∧ w = wr) (fun _ _ iv _ => n - (intOf iv).toNat)
  case atStart => exact ⟨0, 0, 1, Nat.zero_le _, rfl, rfl, rfl, HT0.out.symm, rfl, rfl⟩
  case round =>
    obtain ⟨j, a, b, hj, rfl, rfl, rfl, ha, hb, rfl⟩ := hrel
    have HA := Lib.hid ha
    have HB := Lib.hid hb
    have hbd := HTB.out j hj
    have hp20 : 2 ^ j ≤ 2 ^ 20 := Nat.pow_le_pow_right (by decide) (by omega)
    have hp1 : 1 ≤ 2 ^ j := Nat.one_le_two_pow
    have hb0 : 1 ≤ b ∧ b ≤ 1048576 := by rw [hb]; omega
    rw [← ha] at hbd
    have ha0 : 0 ≤ a ∧ a ≤ 20971520000 := by
      refine ⟨hbd.1, ?_⟩
      have h2 := hbd.2
      omega
    obtain ⟨a0, a1⟩ := ha0
    obtain ⟨b0, b1⟩ := hb0
    clear ha hb hbd hp20 hp1
    by_cases hlt : j < n
    · have kk : (j : Int) < n := by omega
      obtain ⟨r, hr⟩ : ∃ r, R[j]? = some r := ⟨_, List.getElem?_eq_getElem (by rw [HN.out]; exact hlt)⟩
      obtain ⟨A, L, k⟩ := r
      obtain ⟨l, hle⟩ : ∃ l, L.length = l := ⟨_, rfl⟩
      have hrm : (⟨A, L, k⟩ : RowI) ∈ R := List.mem_of_getElem? hr
      have hll := HL.out _ hrm
      simp only at hll
      rw [hle] at hll
      have g0 : w.cell? ⟨G, j, none⟩ = some (.slice A l k) := by
        have := HT.out.head.at_ HN.out hr
        rw [show (⟨A, L, k⟩ : RowI).v = .slice A l k by unfold RowI.v; rw [hle]] at this
        exact this
      obtain ⟨c, hc⟩ : ∃ c, upV L x = c := ⟨_, rfl⟩
      have hcb := upV_bd L x
      rw [hc, hle] at hcb
      have CU := Lib.hid (rup20_any w A l k L x c (HT.out.row _ hrm).1 hle (by omega) HX.out hc)
      obtain ⟨p, hp⟩ : ∃ p, b * c = p := ⟨_, rfl⟩
      have hp0 : 0 ≤ p ∧ p ≤ 20971520000 := by
        rw [← hp]
        refine ⟨Int.mul_nonneg (by omega) hcb.1, ?_⟩
        have h1 := Int.mul_le_mul b1 (show c ≤ 20000 by omega) hcb.1 (by decide)
        omega
      have HS : Hid (rankR x ((lsI R).take (j + 1)) = a + p) := Lib.hid (by rw [rank_take x (ls_at hr), ← HA.out, ← HB.out, hc, hp])
      have HB2 : Hid (((2 ^ (j + 1) : Nat) : Int) = 2 * b) := Lib.hid (by rw [Nat.pow_succ, HB.out]; omega)
      obtain ⟨c0, c1⟩ := hcb
      obtain ⟨p0, p1⟩ := hp0
      have wc : IntKind.u64.wrap c = c := by rw [IntKind.wrap_u64]; omega
      have wp : IntKind.u64.wrap (b * c) = p := by rw [hp, IntKind.wrap_u64]; omega
      have wp2 : IntKind.u64.wrap p = p := by rw [IntKind.wrap_u64]; omega
      clear hr hle hrm hc
      go_wp2_with fail
      with_reducible (refine CU.out.mono ?_)
      rintro e w2 ⟨rfl, rfl⟩
      go_wp2_with fail
      go_roundw
      case rel => exact ⟨j + 1, a + p, 2 * b, by omega, by go_num, by first | rfl | go_num, by first | rfl | go_num, HS.out.symm, HB2.out.symm, by first | rfl | trivial⟩
      case measure => simp [intOf]; omega
    · have kk : ¬ (j : Int) < n := by omega
      obtain rfl : j = n := by omega
      have HF : Hid (rankR x (lsI R) = a) := Lib.hid (by rw [HA.out, HFIN.out])
      go_wp2_with fail
      go_ret
      exact ⟨by rw [HF.out]; rfl, rfl⟩

set_option maxHeartbeats 1000000 in
theorem rtotal21_any (w : World) (M : Nat) (B word : Int) (u : Nat) (hv : Value) (R : List RowI) (ht : RefT w M B word u hv R) (hR : R.length ≤ 20) (hne : R ≠ []) (hl : ∀ r, r ∈ R → r.l.length ≤ 20000) :
    Calls Try.prog 38 #[.pointer (some ⟨M, 0, none⟩)] w fun e w' => e = .returned (.int .u64 (wtR (lsI R))) ∧ w = w' := by
  have e : rankR 9223372036854775807 (lsI R) = wtR (lsI R) := rank_all fun r hr y hy => by
    obtain ⟨q, hq, rfl⟩ := List.mem_map.1 hr
    have := (ht.row q hq).1.ok y hy
    exact this.2
  have C := Lib.hid (rrank21_any w M B word u hv R 9223372036854775807 ht ⟨by decide, by decide⟩ hR hne hl)
  rw [e] at C
  clear e ht hl
  go_enter Try.func38, Try.ntmps38
  go_wp2_with fail
  with_reducible (refine C.out.mono ?_)
  rintro e w2 ⟨rfl, rfl⟩
  go_wp2_with fail
  go_ret
  exact ⟨rfl, rfl⟩

/-! ### Rows of rows -/
/-- Rows of rows in memory. -/
structure RowsN (w : World) (A : Option Addr) (R : List RowI) : Prop where
  at_ : ∀ (i : Nat) (r : RowI), R[i]? = some r → ∃ b off, A = some ⟨b, off, none⟩ ∧ b < w.heap.size ∧ w.cell? ⟨b, off + i, none⟩ = some (.slice r.a r.l.length r.cap)
  each : ∀ r, r ∈ R → Nums w r.a r.l
theorem RowsN.call {w w' : World} {A : Option Addr} {R : List RowI} (h : RowsN w A R) (hb : Below w.heap.size w w') : RowsN w' A R :=
  ⟨fun i r hi => by
    obtain ⟨b, off, hA, hlt, c⟩ := h.at_ i r hi
    exact ⟨b, off, hA, Nat.lt_of_lt_of_le hlt hb.size, cell_later hb c⟩, fun r hr => (h.each r hr).call hb⟩
theorem RefT.rowsN {w : World} {M : Nat} {B word : Int} {u g n cap : Nat} {R : List RowI} (h : RefT w M B word u (.slice (some ⟨g, 0, none⟩) n cap) R) (hn : R.length = n) : RowsN w (some ⟨g, 0, none⟩) R :=
  ⟨fun i r hi => ⟨g, 0, rfl, (h.head.lt g rfl).2, by rw [Nat.zero_add]; exact h.head.at_ hn hi⟩, fun r hr => (h.row r hr).1⟩

set_option maxRecDepth 100000 in
set_option maxHeartbeats 2000000 in
theorem rsame21_any (w : World) (A1 A2 : Option Addr) (n k1 k2 : Nat) (R1 R2 : List RowI) (h1 : RowsN w A1 R1) (h2 : RowsN w A2 R2) (e1 : R1.length = n) (hls : lsI R1 = lsI R2) (hn : n ≤ 100000) (hl : ∀ r, r ∈ R1 → r.l.length ≤ 50000) :
    Calls Try.prog 34 #[.slice A1 n k1, .slice A2 n k2] w fun e w' => e = .returned (.bool true) ∧ Below w.heap.size w w' := by
  have H1 := Lib.hid h1
  have H2 := Lib.hid h2
  have E1 := Lib.hid e1
  have HLS := Lib.hid hls
  have HL := Lib.hid hl
  clear h1 h2 e1 hls hl
  go_enter Try.func34, Try.ntmps34
  go_wp2_with fail
  go_loopw [13] (fun iv wr => ∃ (j : Nat), j ≤ n ∧ iv = .int .i64 j ∧ Below w.heap.size w wr) (fun iv _ => n - (intOf iv).toNat)
  case atStart => exact ⟨0, Nat.zero_le _, rfl, Below.refl _ _⟩
  case round =>
    obtain ⟨j, hj, rfl, hb⟩ := hrel
    have HB := Lib.hid hb
    clear hb
    by_cases hlt : j < n
    · have kk : (j : Int) < n := by omega
      obtain ⟨r, hr⟩ : ∃ r, R1[j]? = some r := ⟨_, List.getElem?_eq_getElem (by rw [E1.out]; exact hlt)⟩
      have hl1 := ls_at hr
      rw [HLS.out] at hl1
      unfold lsI at hl1
      rw [List.getElem?_map] at hl1
      cases hq : R2[j]? with
      | none => rw [hq] at hl1; cases hl1
      | some q =>
        rw [hq] at hl1
        have eq : q.l = r.l := Option.some.inj hl1
        obtain ⟨Ar, Lr, kr⟩ := r
        obtain ⟨Aq, Lq, kq⟩ := q
        simp only at eq
        subst eq
        obtain ⟨b1, o1, rfl, _, d1⟩ := (H1.out.call HB.out).at_ j _ hr
        obtain ⟨b2, o2, rfl, _, d2⟩ := (H2.out.call HB.out).at_ j _ hq
        simp only at d1 d2
        have hll := HL.out _ (List.mem_of_getElem? hr)
        simp only at hll
        have HN1 := Lib.hid (((H1.out.call HB.out).each _ (List.mem_of_getElem? hr)))
        have HN2 := Lib.hid (((H2.out.call HB.out).each _ (List.mem_of_getElem? hq)))
        obtain ⟨l, hle⟩ : ∃ l, Lq.length = l := ⟨_, rfl⟩
        rw [hle] at d1 d2 hll
        have CS := Lib.hid (fun W (hb : Below wr.heap.size wr W) => rsame20_any W Ar Aq l l kr kq Lq (HN1.out.call hb) (HN2.out.call hb) hle hle (by omega))
        have HD1 := Lib.hid d1
        have HD2 := Lib.hid d2
        have BD : Hid (Below wr.heap.size wr wr.drew) := Lib.hid (Below.refl _ _).drew
        clear hr hl1 hq hle
        go_wp2_with fail
        go_region_with (go_at_call 56; (with_reducible (refine (CS.out _ ?_).mono ?_)); (exact (Below.refl _ _).drew); rintro e wA ⟨rfl, hbA⟩)
        all_goals
          have hbB : Below wr.heap.size wr wA := by first | exact hbA | exact (Below.refl _ _).drew.trans hbA
          have HB2 := Lib.hid (HB.out.trans (hbB.mono HB.out.size))
          clear hbA hbB
          go_wp2_with fail
          go_roundw
          case rel => exact ⟨j + 1, by omega, by go_num, HB2.out⟩
          case measure => simp [intOf]; omega
    · have kk : ¬ (j : Int) < n := by omega
      go_wp2_with fail
      go_ret
      exact ⟨rfl, HB.out⟩
end Go.Proofs.Ytbdfmnlfdhhnjaa

/-
  Plain mathematics of parts: greatest divisors, places, digits, texts: no program in sight.
-/
namespace Go.Proofs.Ytbdfmnlfdhhnjaa
set_option linter.unusedVariables false
set_option linter.unusedSimpArgs false

/-- The greatest common divisor. -/
def gcdI (a b : Int) : Int := (Nat.gcd a.toNat b.toNat : Nat)
theorem gcd_zero {a : Int} (h : 0 ≤ a) : gcdI a 0 = a := by
  unfold gcdI; simp; omega
theorem gcd_step {a b : Int} (ha : 0 ≤ a) (hb : 0 ≤ b) (h : ¬ b = 0) : gcdI b (a % b) = gcdI a b := by
  obtain ⟨m, rfl⟩ := Int.eq_ofNat_of_zero_le ha
  obtain ⟨n, rfl⟩ := Int.eq_ofNat_of_zero_le hb
  unfold gcdI
  rw [← Int.natCast_emod]
  simp only [Int.toNat_natCast]
  rw [Nat.gcd_comm n, ← Nat.gcd_rec, Nat.gcd_comm]
theorem gcd_word {a b : Int} (wa : Word a) (wb : Word b) : Word (gcdI a b) := by
  obtain ⟨a0, a1⟩ := wa; obtain ⟨b0, b1⟩ := wb
  obtain ⟨m, rfl⟩ := Int.eq_ofNat_of_zero_le a0
  obtain ⟨n, rfl⟩ := Int.eq_ofNat_of_zero_le b0
  unfold gcdI Word
  simp only [Int.toNat_natCast]
  refine ⟨by omega, ?_⟩
  rcases Nat.eq_zero_or_pos n with h | h
  · subst h; simp; omega
  · have := Nat.gcd_le_right m h; omega
theorem gcd_none {a b : Int} (ha : 0 ≤ a) (hb : 0 ≤ b) : gcdI a b = 0 ↔ a = 0 ∧ b = 0 := by
  unfold gcdI
  rw [Int.natCast_eq_zero, Nat.gcd_eq_zero_iff]; omega
theorem gcd_fst {a b : Int} (ha : 0 ≤ a) : ∃ q, 0 ≤ q ∧ a = q * gcdI a b := by
  obtain ⟨m, rfl⟩ := Int.eq_ofNat_of_zero_le ha
  obtain ⟨q, h⟩ := Nat.gcd_dvd_left m b.toNat
  refine ⟨q, by omega, ?_⟩
  unfold gcdI
  simp only [Int.toNat_natCast]
  rw [Int.mul_comm, ← Int.natCast_mul, ← h]
theorem gcd_snd {a b : Int} (hb : 0 ≤ b) : ∃ q, 0 ≤ q ∧ b = q * gcdI a b := by
  obtain ⟨m, rfl⟩ := Int.eq_ofNat_of_zero_le hb
  obtain ⟨q, h⟩ := Nat.gcd_dvd_right a.toNat m
  refine ⟨q, by omega, ?_⟩
  unfold gcdI
  simp only [Int.toNat_natCast]
  rw [Int.mul_comm, ← Int.natCast_mul, ← h]
/-- Whatever divides both divides it. -/
theorem gcd_all {a b k : Int} (ha : 0 ≤ a) (hb : 0 ≤ b) (hk : 0 ≤ k) (h1 : a % k = 0) (h2 : b % k = 0) : gcdI a b % k = 0 := by
  obtain ⟨m, rfl⟩ := Int.eq_ofNat_of_zero_le ha
  obtain ⟨n, rfl⟩ := Int.eq_ofNat_of_zero_le hb
  obtain ⟨j, rfl⟩ := Int.eq_ofNat_of_zero_le hk
  unfold gcdI
  simp only [Int.toNat_natCast]
  rw [← Int.natCast_emod, Int.natCast_eq_zero] at h1 h2 ⊢
  exact Nat.mod_eq_zero_of_dvd (Nat.dvd_gcd (Nat.dvd_of_mod_eq_zero h1) (Nat.dvd_of_mod_eq_zero h2))
/-- The numbers that are left have no divisor in common. -/
theorem gcd_left {a b : Int} (ha : 0 ≤ a) (hb : 0 ≤ b) (h : ¬ gcdI a b = 0) : gcdI (a / gcdI a b) (b / gcdI a b) = 1 := by
  obtain ⟨m, rfl⟩ := Int.eq_ofNat_of_zero_le ha
  obtain ⟨n, rfl⟩ := Int.eq_ofNat_of_zero_le hb
  unfold gcdI at *
  simp only [Int.toNat_natCast] at *
  rw [← Int.natCast_ediv, ← Int.natCast_ediv]
  simp only [Int.toNat_natCast]
  have hp : 0 < Nat.gcd m n := by omega
  rw [Nat.gcd_div (Nat.gcd_dvd_left m n) (Nat.gcd_dvd_right m n), Nat.div_self hp]
  rfl
theorem div_exact {a b : Int} {g : Int} (hg : g = gcdI a b) (ha : 0 ≤ a) (h : ¬ g = 0) : a / g * g = a ∧ a % g = 0 := by
  subst hg
  obtain ⟨q, q0, e⟩ := gcd_fst (b := b) ha
  generalize gcdI a b = g at *
  subst e
  exact ⟨by rw [Int.mul_ediv_cancel _ h], by simp⟩
theorem div_exact2 {a b : Int} {g : Int} (hg : g = gcdI a b) (hb : 0 ≤ b) (h : ¬ g = 0) : b / g * g = b ∧ b % g = 0 := by
  subst hg
  obtain ⟨q, q0, e⟩ := gcd_snd (a := a) hb
  generalize gcdI a b = g at *
  subst e
  exact ⟨by rw [Int.mul_ediv_cancel _ h], by simp⟩

/-- Whether a part can be. -/
def gdB (a b : Int) : Bool := (b != 0) && decide (a ≤ b)
theorem gd_iff {a b : Int} : gdB a b = true ↔ ¬ b = 0 ∧ a ≤ b := by
  unfold gdB; simp

/-- A digit. -/
def digB (b : UInt8) : Bool := decide (48 ≤ b.toNat) && decide (b.toNat ≤ 57)
/-- The number that digits tell. -/
def valN : List UInt8 → Int → Int
  | [], n => n
  | b :: l, n => valN l (10 * n + ((b.toNat : Int) - 48))
theorem valN_app (l m : List UInt8) (n : Int) : valN (l ++ m) n = valN m (valN l n) := by
  induction l generalizing n with
  | nil => rfl
  | cons b l ih => simp only [List.cons_append, valN, ih]
theorem valN_take {l : List UInt8} {k : Nat} {x : UInt8} (h : l[k]? = some x) : valN (l.take (k + 1)) 0 = 10 * valN (l.take k) 0 + ((x.toNat : Int) - 48) := by
  have hk : k < l.length := by
    rcases Nat.lt_or_ge k l.length with h' | h'
    · exact h'
    · rw [List.getElem?_eq_none h'] at h; cases h
  rw [List.take_succ_eq_append_getElem hk, valN_app]
  have : l[k] = x := by rw [List.getElem?_eq_getElem hk] at h; exact Option.some.inj h
  rw [this]; simp [valN]
theorem all_take {l : List UInt8} {k : Nat} {x : UInt8} (h : l[k]? = some x) : (l.take (k + 1)).all digB = ((l.take k).all digB && digB x) := by
  have hk : k < l.length := by
    rcases Nat.lt_or_ge k l.length with h' | h'
    · exact h'
    · rw [List.getElem?_eq_none h'] at h; cases h
  rw [List.take_succ_eq_append_getElem hk, List.all_append]
  have : l[k] = x := by rw [List.getElem?_eq_getElem hk] at h; exact Option.some.inj h
  rw [this]; simp
theorem all_not {l : List UInt8} {k : Nat} {x : UInt8} (h : l[k]? = some x) (hx : digB x = false) : l.all digB = false := by
  rw [List.all_eq_false]
  exact ⟨x, List.mem_of_getElem? h, by simp [hx]⟩
/-- So many digits tell no more than so much. -/
theorem valN_bd {l : List UInt8} (h : l.all digB = true) : 0 ≤ valN l 0 ∧ valN l 0 < (10 : Int) ^ l.length := by
  have key : ∀ (l : List UInt8) (n : Int), l.all digB = true → 0 ≤ n → n * 10 ^ l.length ≤ valN l n ∧ valN l n < (n + 1) * (10 : Int) ^ l.length := by
    intro l
    induction l with
    | nil => intro n _ h0; simp [valN]; omega
    | cons b l ih =>
      intro n h h0
      simp only [List.all_cons, Bool.and_eq_true] at h
      obtain ⟨hb, hl⟩ := h
      unfold digB at hb
      simp only [Bool.and_eq_true, decide_eq_true_eq] at hb
      have h1 := ih (10 * n + ((b.toNat : Int) - 48)) hl (by omega)
      simp only [valN, List.length_cons]
      have p : (0 : Int) < 10 ^ l.length := Int.pow_pos (by omega)
      have e : (10 : Int) ^ (l.length + 1) = 10 * 10 ^ l.length := by rw [Int.pow_succ, Int.mul_comm]
      rw [e]
      generalize (10 : Int) ^ l.length = P at *
      have e1 : n * (10 * P) ≤ (10 * n + ((b.toNat : Int) - 48)) * P := by
        have : n * (10 * P) = (10 * n) * P := by rw [← Int.mul_assoc, Int.mul_comm n 10]
        rw [this]
        exact Int.mul_le_mul_of_nonneg_right (by omega) (by omega)
      have e2 : (10 * n + ((b.toNat : Int) - 48) + 1) * P ≤ (n + 1) * (10 * P) := by
        have : (n + 1) * (10 * P) = (10 * n + 10) * P := by
          rw [← Int.mul_assoc]; congr 1; omega
        rw [this]
        exact Int.mul_le_mul_of_nonneg_right (by omega) (by omega)
      omega
  have h2 := key l 0 h (by omega)
  simp at h2
  omega
theorem valN_small {l : List UInt8} {k : Nat} (h : (l.take k).all digB = true) (hk : k ≤ 18) : 0 ≤ valN (l.take k) 0 ∧ valN (l.take k) 0 < 1000000000000000000 := by
  have h1 := valN_bd h
  refine ⟨h1.1, Int.lt_of_lt_of_le h1.2 ?_⟩
  have h2 : (l.take k).length ≤ 18 := by rw [List.length_take]; omega
  have h3 : (10 : Int) ^ (l.take k).length ≤ 10 ^ 18 := by
    have := Nat.pow_le_pow_right (show 0 < 10 by omega) h2
    exact_mod_cast this
  simpa using h3

/-- Whether a text is a number's; the number. -/
def numH (l : List UInt8) : Bool := (l.length == 0) || decide (18 < l.length) || (decide (1 < l.length) && (l.getD 0 0 == 48))
def numO (l : List UInt8) : Bool := !numH l && l.all digB
def numV (l : List UInt8) : Int := if numO l = true then valN l 0 else 0
theorem num_head {l : List UInt8} (h : numH l = true) : numO l = false ∧ numV l = 0 := by
  have e : numO l = false := by unfold numO; rw [h]; rfl
  exact ⟨e, by unfold numV; rw [e]; rfl⟩
theorem num_not {l : List UInt8} (h : l.all digB = false) : numO l = false ∧ numV l = 0 := by
  have e : numO l = false := by unfold numO; rw [h]; simp
  exact ⟨e, by unfold numV; rw [e]; rfl⟩
theorem num_all {l : List UInt8} (h : numH l = false) (h' : l.all digB = true) : numO l = true ∧ numV l = valN l 0 := by
  have e : numO l = true := by unfold numO; rw [h, h']; rfl
  exact ⟨e, by unfold numV; rw [if_pos e]⟩
theorem num_len {l : List UInt8} (h : numH l = false) : 1 ≤ l.length ∧ l.length ≤ 18 := by
  unfold numH at h
  simp only [Bool.or_eq_false_iff, beq_eq_false_iff_ne, decide_eq_false_iff_not] at h
  omega
theorem num_word (l : List UInt8) : Word (numV l) := by
  unfold numV
  split
  · rename_i h
    unfold numO at h
    simp only [Bool.and_eq_true, Bool.not_eq_true'] at h
    have h1 := valN_small (l := l) (k := l.length) (by rw [List.take_length]; exact h.2) (num_len h.1).2
    rw [List.take_length] at h1
    exact ⟨h1.1, by omega⟩
  · exact ⟨by omega, by omega⟩
end Go.Proofs.Ytbdfmnlfdhhnjaa

/-
  Walks: share.Good and its reference, share.Divisor, share.Least.
-/
namespace Go.Proofs.Ytbdfmnlfdhhnjaa
set_option linter.unusedVariables false
set_option linter.unusedSimpArgs false
open Go.RowKit

theorem ret_pair3 {k : IntKind} {a b : Int} {c d : Bool} (h : a = b) (h' : c = d) : Ending.returned (.tuple #[.int k a, .bool c]) = .returned (.tuple #[.int k b, .bool d]) := by rw [h, h']

set_option maxHeartbeats 400000 in
theorem good_any (a b : Int) (wa : Word a) (wb : Word b) (w : World) :
    Calls Try.prog 57 #[.agg #[.int .u64 a, .int .u64 b]] w fun e w' =>
      e = .returned (.bool (gdB a b)) ∧ Below w.heap.size w w' := by
  by_cases h : b = 0
  · subst h
    have E : Hid (false = gdB a 0) := Lib.hid rfl
    go_enter Try.func57, Try.ntmps57
    go_wp2_with fail
    go_ret
    exact ⟨ret_bool E.out, (Below.refl _ _).alloc (Nat.le_refl _) _⟩
  · have hb0 : (b != 0) = true := by simp [h]
    have hb1 : (!b == 0) = true := by simp [h]
    have E : Hid (decide (a ≤ b) = gdB a b) := Lib.hid (by unfold gdB; simp [h])
    go_enter Try.func57, Try.ntmps57
    go_wp2_with fail
    go_ret
    exact ⟨ret_bool E.out, (Below.refl _ _).alloc (Nat.le_refl _) _⟩

set_option maxHeartbeats 400000 in
theorem rgood_any (a b : Int) (wa : Word a) (wb : Word b) (w : World) :
    Calls Try.prog 50 #[.agg #[.int .u64 a, .int .u64 b]] w fun e w' =>
      e = .returned (.bool (gdB a b)) ∧ Below w.heap.size w w' := by
  by_cases h : b = 0
  · subst h
    have E : Hid (false = gdB a 0) := Lib.hid rfl
    go_enter Try.func50, Try.ntmps50
    go_wp2_with fail
    go_ret
    exact ⟨ret_bool E.out, (Below.refl _ _).alloc (Nat.le_refl _) _⟩
  · have hb0 : (b != 0) = true := by simp [h]
    have hb1 : (!b == 0) = true := by simp [h]
    have E : Hid ((!decide (b < a)) = gdB a b) := Lib.hid (by unfold gdB; rw [hb0, Bool.true_and, Bool.eq_iff_iff]; simp)
    go_enter Try.func50, Try.ntmps50
    go_wp2_with fail
    go_ret
    exact ⟨ret_bool E.out, (Below.refl _ _).alloc (Nat.le_refl _) _⟩

theorem mod_word {a b : Int} (wa : Word a) (wb : Word b) (h : ¬ b = 0) : Word (a % b) ∧ a % b < b := by
  obtain ⟨a0, a1⟩ := wa; obtain ⟨b0, b1⟩ := wb
  have h1 := Int.emod_nonneg a h
  have h2 := Int.emod_lt_of_pos a (show 0 < b by omega)
  exact ⟨⟨h1, by omega⟩, h2⟩
theorem div_u64 {a g : Int} (wa : Word a) (wg : Word g) : IntKind.u64.wrap (a.tdiv g) = a / g := by
  rw [Int.tdiv_eq_ediv_of_nonneg wa.1, IntKind.wrap_u64]
  have h1 := Int.ediv_nonneg wa.1 wg.1
  have h2 := Int.ediv_le_self g wa.1
  have := wa.2
  exact Int.emod_eq_of_lt h1 (by omega)
def intU : Value → Nat | .int _ q => q.toNat | _ => 0

end Go.Proofs.Ytbdfmnlfdhhnjaa
/-
  The library contracts that the proofs lean on, laid at this translation by program.
-/
namespace Go.Proofs
open Go.Shelf
def Try.lays128_ren : Go.Shelf.Ren := ⟨fun | 128 => 99 | n => n, fun | 51 => 134 | 3 => 3 | 4 => 4 | 46 => 66 | 5 => 5 | 9 => 9 | n => n, fun | n => n⟩
theorem Try.lays128 : Go.Proofs.Lays.n128 Try.prog Try.lays128_ren := {
  mixed := by kernel_rfl
  f128 := Try.func99.trans (congrArg some (by kernel_rfl))
  t3 := Try.underlying3
  a3 := Try.isAgg3
  z3 := Try.sizeOf3
  v3 := Try.zeroValue3
  t4 := Try.underlying4
  a4 := Try.isAgg4
  z4 := Try.sizeOf4
  v4 := Try.zeroValue4
  t5 := Try.underlying5
  a5 := Try.isAgg5
  z5 := Try.sizeOf5
  v5 := Try.zeroValue5
  t9 := Try.underlying9
  a9 := Try.isAgg9
  z9 := Try.sizeOf9
  v9 := Try.zeroValue9
  t46 := Try.underlying66
  a46 := Try.isAgg66
  z46 := Try.sizeOf66
  v46 := Try.zeroValue66
  t51 := Try.underlying134
  a51 := Try.isAgg134
  z51 := Try.sizeOf134
  v51 := Try.zeroValue134 }
theorem Try.bits_Len32 (x : Int) (w : World) (h0 : 0 ≤ x) (h1 : x ≤ 4294967295) :
    Calls Try.prog 99 #[.int .u32 x] w fun e w' => e = .returned (.int .i64 (Lib.bitLen x.toNat)) ∧ w' = w := Any.bits_Len32 Try.lays128 x w h0 h1
def Try.lays125_ren : Go.Shelf.Ren := ⟨fun | 125 => 80 | 128 => 99 | 129 => 100 | n => n, fun | 46 => 66 | 3 => 3 | 51 => 134 | 53 => 22 | 4 => 4 | 5 => 5 | 9 => 9 | n => n, fun | n => n⟩
theorem Try.lays125 : Go.Proofs.Lays.n125 Try.prog Try.lays125_ren := {
  mixed := by kernel_rfl
  f125 := Try.func80.trans (congrArg some (by kernel_rfl))
  f128 := Try.func99.trans (congrArg some (by kernel_rfl))
  f129 := Try.func100.trans (congrArg some (by kernel_rfl))
  t3 := Try.underlying3
  a3 := Try.isAgg3
  z3 := Try.sizeOf3
  v3 := Try.zeroValue3
  t4 := Try.underlying4
  a4 := Try.isAgg4
  z4 := Try.sizeOf4
  v4 := Try.zeroValue4
  t5 := Try.underlying5
  a5 := Try.isAgg5
  z5 := Try.sizeOf5
  v5 := Try.zeroValue5
  t9 := Try.underlying9
  a9 := Try.isAgg9
  z9 := Try.sizeOf9
  v9 := Try.zeroValue9
  t46 := Try.underlying66
  a46 := Try.isAgg66
  z46 := Try.sizeOf66
  v46 := Try.zeroValue66
  t51 := Try.underlying134
  a51 := Try.isAgg134
  z51 := Try.sizeOf134
  v51 := Try.zeroValue134
  t53 := Try.underlying22
  a53 := Try.isAgg22
  z53 := Try.sizeOf22
  v53 := Try.zeroValue22 }
theorem Try.bits_Len (x : Int) (w : World) (h0 : 0 ≤ x) (h1 : x ≤ 18446744073709551615) :
    Calls Try.prog 80 #[.int .u64 x] w fun e w' => e = .returned (.int .i64 (Lib.bitLen x.toNat)) ∧ w' = w := Any.bits_Len Try.lays125 x w h0 h1
def Try.lays134_ren : Go.Shelf.Ren := ⟨fun | 134 => 101 | 129 => 100 | n => n, fun | 53 => 22 | 3 => 3 | 4 => 4 | 46 => 66 | 5 => 5 | 9 => 9 | n => n, fun | n => n⟩
theorem Try.lays134 : Go.Proofs.Lays.n134 Try.prog Try.lays134_ren := {
  mixed := by kernel_rfl
  f129 := Try.func100.trans (congrArg some (by kernel_rfl))
  f134 := Try.func101.trans (congrArg some (by kernel_rfl))
  t3 := Try.underlying3
  a3 := Try.isAgg3
  z3 := Try.sizeOf3
  v3 := Try.zeroValue3
  t4 := Try.underlying4
  a4 := Try.isAgg4
  z4 := Try.sizeOf4
  v4 := Try.zeroValue4
  t5 := Try.underlying5
  a5 := Try.isAgg5
  z5 := Try.sizeOf5
  v5 := Try.zeroValue5
  t9 := Try.underlying9
  a9 := Try.isAgg9
  z9 := Try.sizeOf9
  v9 := Try.zeroValue9
  t46 := Try.underlying66
  a46 := Try.isAgg66
  z46 := Try.sizeOf66
  v46 := Try.zeroValue66
  t53 := Try.underlying22
  a53 := Try.isAgg22
  z53 := Try.sizeOf22
  v53 := Try.zeroValue22 }
theorem Try.bits_LeadingZeros64 (x : Int) (w : World) (h0 : 0 ≤ x) (h1 : x ≤ 18446744073709551615) :
    Calls Try.prog 101 #[.int .u64 x] w fun e w' => e = .returned (.int .i64 (64 - (Lib.bitLen x.toNat : Int))) ∧ w' = w := Any.bits_LeadingZeros64 Try.lays134 x w h0 h1
def Try.lays129_ren : Go.Shelf.Ren := ⟨fun | 129 => 100 | n => n, fun | 53 => 22 | 3 => 3 | 4 => 4 | 46 => 66 | 5 => 5 | 9 => 9 | n => n, fun | n => n⟩
theorem Try.lays129 : Go.Proofs.Lays.n129 Try.prog Try.lays129_ren := {
  mixed := by kernel_rfl
  f129 := Try.func100.trans (congrArg some (by kernel_rfl))
  t3 := Try.underlying3
  a3 := Try.isAgg3
  z3 := Try.sizeOf3
  v3 := Try.zeroValue3
  t4 := Try.underlying4
  a4 := Try.isAgg4
  z4 := Try.sizeOf4
  v4 := Try.zeroValue4
  t5 := Try.underlying5
  a5 := Try.isAgg5
  z5 := Try.sizeOf5
  v5 := Try.zeroValue5
  t9 := Try.underlying9
  a9 := Try.isAgg9
  z9 := Try.sizeOf9
  v9 := Try.zeroValue9
  t46 := Try.underlying66
  a46 := Try.isAgg66
  z46 := Try.sizeOf66
  v46 := Try.zeroValue66
  t53 := Try.underlying22
  a53 := Try.isAgg22
  z53 := Try.sizeOf22
  v53 := Try.zeroValue22 }
theorem Try.bits_Len64 (x : Int) (w : World) (h0 : 0 ≤ x) (h1 : x ≤ 18446744073709551615) :
    Calls Try.prog 100 #[.int .u64 x] w fun e w' => e = .returned (.int .i64 (Lib.bitLen x.toNat)) ∧ w' = w := Any.bits_Len64 Try.lays129 x w h0 h1
def Try.lays264_ren : Go.Shelf.Ren := ⟨fun | 264 => 89 | n => n, fun | 53 => 22 | 46 => 66 | n => n, fun | n => n⟩
theorem Try.lays264 : Go.Proofs.Lays.n264 Try.prog Try.lays264_ren := {
  mixed := by kernel_rfl
  f264 := Try.func89.trans (congrArg some (by kernel_rfl))
  t46 := Try.underlying66
  a46 := Try.isAgg66
  z46 := Try.sizeOf66
  v46 := Try.zeroValue66
  t53 := Try.underlying22
  a53 := Try.isAgg22
  z53 := Try.sizeOf22
  v53 := Try.zeroValue22 }
open Go.RowKit Go.Lib in
theorem Try.bits_Mul64 (x y : Nat) (hx : x < 18446744073709551616) (hy : y < 18446744073709551616) (w : World) :
    Calls Try.prog 89 #[.int .u64 x, .int .u64 y] w fun e w' => e = .returned (.tuple #[.int .u64 ((x * y / 18446744073709551616 : Nat) : Int), .int .u64 ((x * y % 18446744073709551616 : Nat) : Int)]) ∧ w' = w := Any.bits_Mul64 Try.lays264 x y hx hy w
end Go.Proofs

/-
  math/bits.Add64 and Sub64 at this translation: equations on a call, over whole numbers; Mul64 and Len64 likewise as contracts over whole numbers.
-/
namespace Go.Proofs.Ytbdfmnlfdhhnjaa
set_option linter.unusedVariables false
open Go.RowKit Go.Shelf

theorem add64 (x y c : Int) (hx : 0 ≤ x) (hy : 0 ≤ y) (hc0 : 0 ≤ c) (hc : c ≤ 1) (w : World) : (callFunc 77 #[.int .u64 x, .int .u64 y, .int .u64 c]).run Try.prog w =
    .ok (.value (.tuple #[.int .u64 ((x + y + c) % 18446744073709551616), .int .u64 ((x + y + c) / 18446744073709551616)])) w := by
  rw [run_callFunc_extern Try.func77 (by kernel_rfl) (by kernel_rfl) (by kernel_rfl) (e := add64Entry) (by kernel_rfl), run_add64 x y c hx hy hc0 hc]
  rfl
theorem add64_0 (x y : Int) (hx : 0 ≤ x) (hy : 0 ≤ y) (w : World) : (callFunc 77 #[.int .u64 x, .int .u64 y, .int .u64 0]).run Try.prog w =
    .ok (.value (.tuple #[.int .u64 ((x + y) % 18446744073709551616), .int .u64 ((x + y) / 18446744073709551616)])) w := by
  simpa using add64 x y 0 hx hy (Int.le_refl 0) (by decide) w
theorem mul64_any (x y : Int) (wx : Word x) (wy : Word y) (w : World) :
    Calls Try.prog 89 #[.int .u64 x, .int .u64 y] w fun e w' => e = .returned (.tuple #[.int .u64 (hiW (x * y)), .int .u64 (loW (x * y))]) ∧ w' = w := by
  obtain ⟨hx, hx'⟩ := wx; obtain ⟨hy, hy'⟩ := wy
  obtain ⟨x, rfl⟩ := Int.eq_ofNat_of_zero_le hx
  obtain ⟨y, rfl⟩ := Int.eq_ofNat_of_zero_le hy
  have hb : x * y < 18446744073709551616 * 18446744073709551616 := Nat.mul_lt_mul'' (by omega) (by omega)
  refine (Try.bits_Mul64 x y (by omega) (by omega) w).mono fun e w' h => ?_
  rw [h.1]
  refine ⟨?_, h.2⟩
  have e1 : hiW ((x : Int) * y) = ((x * y / 18446744073709551616 : Nat) : Int) := by
    unfold hiW; rw [← Int.natCast_mul]; generalize x * y = n at *; omega
  have e2 : loW ((x : Int) * y) = ((x * y % 18446744073709551616 : Nat) : Int) := by
    unfold loW; rw [← Int.natCast_mul]; generalize x * y = n at *; omega
  rw [e1, e2]
end Go.Proofs.Ytbdfmnlfdhhnjaa

/-
  Walks: wide.Times, Compare, Sub; the reference's Less and Add.
-/
namespace Go.Proofs.Ytbdfmnlfdhhnjaa
set_option linter.unusedVariables false
open Go.RowKit Go.Shelf

set_option maxHeartbeats 400000 in
theorem times_any (a b : Int) (wa : Word a) (wb : Word b) (w : World) :
    Calls Try.prog 76 #[.int .u64 a, .int .u64 b] w fun e w' =>
      e = .returned (.agg #[.int .u64 (hiW (a * b)), .int .u64 (loW (a * b))]) ∧ Below w.heap.size w w' := by
  go_enter Try.func76, Try.ntmps76
  go_wp2_with (go_at_call 89; refine (mul64_any _ _ wa wb _).mono ?_; rintro e w' ⟨rfl, rfl⟩)
  refine bodyPost_ret (v := .agg #[.int .u64 (hiW (a * b)), .int .u64 (loW (a * b))]) (by simp [results, Try.results76, go_sem]) rfl ⟨rfl, ?_⟩
  exact (Below.refl _ _).alloc (Nat.le_refl _) _

set_option maxHeartbeats 400000 in
theorem less_any (ah al bh bl : Int) (w1 : Word ah) (w2 : Word al) (w3 : Word bh) (w4 : Word bl) (w : World) :
    Calls Try.prog 84 #[.agg #[.int .u64 ah, .int .u64 al], .agg #[.int .u64 bh, .int .u64 bl]] w fun e w' =>
      e = .returned (.bool (belowB (wval ah al - wval bh bl))) ∧ Below w.heap.size w w' := by
  by_cases h : ah = bh
  · subst h
    have e1 := less_lo ah al bl
    have hb : (!(ah == ah)) = false := by simp
    go_enter Try.func84, Try.ntmps84
    go_wp2
    refine bodyPost_ret (v := .bool (decide (al < bl))) (by simp [results, Try.results84, go_sem]) rfl ⟨by rw [e1], ?_⟩
    exact ((Below.refl _ _).alloc (Nat.le_refl _) _).alloc (by simp) _
  · have e1 := less_hi ah al bh bl w2 w4 h
    have hb' : (ah != bh) = true := by simp [h]
    clear h
    go_enter Try.func84, Try.ntmps84
    go_wp2
    refine bodyPost_ret (v := .bool (decide (ah < bh))) (by simp [results, Try.results84, go_sem]) rfl ⟨by rw [e1], ?_⟩
    exact ((Below.refl _ _).alloc (Nat.le_refl _) _).alloc (by simp) _

set_option maxHeartbeats 400000 in
theorem rwadd_any (ah al bh bl : Int) (w1 : Word ah) (w2 : Word al) (w3 : Word bh) (w4 : Word bl) (w : World) :
    Calls Try.prog 86 #[.agg #[.int .u64 ah, .int .u64 al], .agg #[.int .u64 bh, .int .u64 bl]] w fun e w' =>
      e = .returned (.tuple #[.agg #[.int .u64 (hiW (wval ah al + wval bh bl)), .int .u64 (loW (wval ah al + wval bh bl))], .bool (carryB (wval ah al + wval bh bl))]) ∧ Below w.heap.size w w' := by
  have EL := Lib.hid (radd_lo ah al bh bl)
  by_cases h : IntKind.u64.wrap (al + bl) < al
  · have EH := Lib.hid (radd_hiB (ah := ah) (bh := bh) w2 w4 h)
    by_cases h2 : IntKind.u64.wrap (ah + bh) < ah
    · have EC := Lib.hid (radd_cB1 w1 w2 w3 w4 h h2)
      clear w1 w2 w3 w4
      go_enter Try.func86, Try.ntmps86
      go_wp2
      refine bodyPost_ret (v := .tuple #[.agg #[.int .u64 (IntKind.u64.wrap (IntKind.u64.wrap (ah + bh) + 1)), .int .u64 (IntKind.u64.wrap (al + bl))], .bool true]) (by simp [results, Try.results86, go_sem]) rfl ⟨by rw [EL.out, EH.out, EC.out], ?_⟩
      exact (((Below.refl _ _).alloc (Nat.le_refl _) _).alloc (by simp) _).alloc (by simp; omega) _
    · have EC := Lib.hid (radd_cB2 w1 w2 w3 w4 h h2)
      clear w1 w2 w3 w4
      go_enter Try.func86, Try.ntmps86
      go_wp2
      refine bodyPost_ret (v := .tuple #[.agg #[.int .u64 (IntKind.u64.wrap (IntKind.u64.wrap (ah + bh) + 1)), .int .u64 (IntKind.u64.wrap (al + bl))], .bool (IntKind.u64.wrap (IntKind.u64.wrap (ah + bh) + 1) == 0)]) (by simp [results, Try.results86, go_sem]) rfl ⟨by rw [EC.out, EL.out, EH.out], ?_⟩
      exact (((Below.refl _ _).alloc (Nat.le_refl _) _).alloc (by simp) _).alloc (by simp; omega) _
  · have EH := Lib.hid (radd_hiA (ah := ah) (bh := bh) w2 w4 h)
    have EC := Lib.hid (radd_cA w1 w2 w3 w4 h)
    clear w1 w2 w3 w4
    go_enter Try.func86, Try.ntmps86
    go_wp2
    refine bodyPost_ret (v := .tuple #[.agg #[.int .u64 (IntKind.u64.wrap (ah + bh)), .int .u64 (IntKind.u64.wrap (al + bl))], .bool (decide (IntKind.u64.wrap (ah + bh) < ah))]) (by simp [results, Try.results86, go_sem]) rfl ⟨by rw [EC.out, EL.out, EH.out], ?_⟩
    exact (((Below.refl _ _).alloc (Nat.le_refl _) _).alloc (by simp) _).alloc (by simp; omega) _
end Go.Proofs.Ytbdfmnlfdhhnjaa

/-
  Plain mathematics of a long division by two digits of 32 bits (Knuth's, of a divisor that fills 64 bits).
-/
namespace Go.Proofs.Ytbdfmnlfdhhnjaa
set_option linter.unusedVariables false
open Go.RowKit

/-- The divisor's parts. -/
theorem digit_le_iff {u v1 v0 d q r : Int} (hr : r = u - q * v1) (hv : 0 < v1 * 4294967296 + v0) :
    q ≤ (u * 4294967296 + d) / (v1 * 4294967296 + v0) ↔ q * v0 ≤ 4294967296 * r + d := by
  rw [Int.le_ediv_iff_mul_le hv, Int.mul_add, ← Int.mul_assoc]
  subst hr
  generalize q * v1 = a
  generalize q * v0 = b
  omega
theorem digit_lt {u v d : Int} (hu : u < v) (h0 : 0 ≤ u) (hd : d < 4294967296) : (u * 4294967296 + d) / v < 4294967296 := by
  refine Int.ediv_lt_of_lt_mul (by omega) ?_
  omega
theorem digit_nonneg {u v d : Int} (hu : 0 ≤ u) (hv : 0 < v) (hd : 0 ≤ d) : 0 ≤ (u * 4294967296 + d) / v := Int.ediv_nonneg (by omega) (by omega)

/-- The first guess. -/
theorem digit_start {u v1 v0 d : Int} (hu : 0 ≤ u) (hv1 : 0 < v1) (hv0 : 0 ≤ v0) (hd : d < 4294967296) (hd0 : 0 ≤ d) :
    (u * 4294967296 + d) / (v1 * 4294967296 + v0) ≤ u / v1 := by
  rw [Int.le_ediv_iff_mul_le hv1]
  have hv : 0 < v1 * 4294967296 + v0 := by omega
  have h1 := Int.ediv_mul_le (u * 4294967296 + d) (b := v1 * 4294967296 + v0) (by omega)
  have hq := digit_nonneg (u := u) (v := v1 * 4294967296 + v0) (d := d) hu hv hd0
  generalize (u * 4294967296 + d) / (v1 * 4294967296 + v0) = q at *
  rw [Int.mul_add, ← Int.mul_assoc] at h1
  have h2 := Int.mul_nonneg hq hv0
  generalize q * v1 = a at *
  generalize q * v0 = b at *
  omega
theorem digit_most {u v1 v0 : Int} (hu : u < v1 * 4294967296 + v0) (hv1 : 2147483648 ≤ v1) (hv0 : v0 < 4294967296) : u / v1 ≤ 4294967297 := by
  have h := Int.ediv_lt_of_lt_mul (a := u) (b := 4294967298) (c := v1) (by omega) (by omega)
  omega
/-- The guess is too great: one less will do. -/
theorem digit_down {u v1 v0 d q r : Int} (hr : r = u - q * v1) (hv : 0 < v1 * 4294967296 + v0) (hlt : (u * 4294967296 + d) / (v1 * 4294967296 + v0) < 4294967296)
    (h : 4294967296 ≤ q ∨ 4294967296 * r + d < q * v0) : (u * 4294967296 + d) / (v1 * 4294967296 + v0) ≤ q - 1 := by
  rcases h with h | h
  · omega
  · have := (not_congr (digit_le_iff (d := d) hr hv)).2 (by omega)
    omega
/-- The guess is right: what is left is great enough. -/
theorem digit_done {u v1 v0 d q r : Int} (hr : r = u - q * v1) (hv : 0 < v1 * 4294967296 + v0) (hq : (u * 4294967296 + d) / (v1 * 4294967296 + v0) ≤ q)
    (h : q * v0 ≤ 4294967296 * r + d) : q = (u * 4294967296 + d) / (v1 * 4294967296 + v0) := by
  have := (digit_le_iff (d := d) hr hv).2 h
  omega
theorem digit_break {u v1 v0 d q r : Int} (hr : r = u - q * v1) (hv : 0 < v1 * 4294967296 + v0) (hv0 : 0 ≤ v0) (hv0' : v0 < 4294967296) (hd : 0 ≤ d) (hq : (u * 4294967296 + d) / (v1 * 4294967296 + v0) ≤ q)
    (h0 : 0 ≤ q) (h1 : q ≤ 4294967296) (h2 : 4294967296 ≤ r) : q = (u * 4294967296 + d) / (v1 * 4294967296 + v0) := by
  refine digit_done hr hv hq ?_
  have := Int.mul_le_mul h1 (show v0 ≤ 4294967295 by omega) hv0 (by omega)
  omega
theorem step_left {u v1 q r : Int} (hr : r = u - q * v1) : r + v1 = u - (q - 1) * v1 := by
  rw [Int.sub_mul]; omega

/-- What is left behind a digit, by numbers that go round. -/
theorem left_over {u d v : Int} (hv : 0 < v) (hv' : v < 18446744073709551616) :
    (u * 4294967296 + d - (u * 4294967296 + d) / v * v) % 18446744073709551616 = (u * 4294967296 + d) % v := by
  have h1 := Int.ediv_mul_add_emod (u * 4294967296 + d) v
  have h2 := Int.emod_nonneg (u * 4294967296 + d) (show v ≠ 0 by omega)
  have h3 := Int.emod_lt_of_pos (u * 4294967296 + d) hv
  generalize (u * 4294967296 + d) / v * v = a at *
  omega

/-- Two digits are the whole quotient. -/
theorem two_digits {u d1 d0 v : Int} (hv : 0 < v) :
    (u * 4294967296 + d1) / v * 4294967296 + ((u * 4294967296 + d1) % v * 4294967296 + d0) / v = (u * 18446744073709551616 + d1 * 4294967296 + d0) / v ∧
    ((u * 4294967296 + d1) % v * 4294967296 + d0) % v = (u * 18446744073709551616 + d1 * 4294967296 + d0) % v := by
  have h1 := Int.ediv_mul_add_emod (u * 4294967296 + d1) v
  generalize (u * 4294967296 + d1) / v = q1 at *
  generalize (u * 4294967296 + d1) % v = r1 at *
  have h4 := Int.ediv_mul_add_emod (r1 * 4294967296 + d0) v
  have h5 := Int.emod_nonneg (r1 * 4294967296 + d0) (show v ≠ 0 by omega)
  have h6 := Int.emod_lt_of_pos (r1 * 4294967296 + d0) hv
  generalize (r1 * 4294967296 + d0) / v = q0 at *
  generalize (r1 * 4294967296 + d0) % v = r0 at *
  have h := (Int.ediv_emod_unique (a := u * 18446744073709551616 + d1 * 4294967296 + d0) (r := r0) (q := q1 * 4294967296 + q0) hv).2 ⟨by
    rw [Int.mul_add, ← Int.mul_assoc, Int.mul_comm v q1, Int.mul_comm v q0]
    generalize q1 * v = a at *
    generalize q0 * v = b at *
    omega, h5, h6⟩
  exact ⟨h.1.symm, h.2.symm⟩

/-- The divisor is moved up till it fills 64 bits. -/
theorem div_norm {y : Int} (h0 : 0 < y) (h1 : y < 18446744073709551616) :
    ∃ s : Nat, s < 64 ∧ 64 - (Lib.bitLen y.toNat : Int) = s ∧ 9223372036854775808 ≤ y * 2 ^ s ∧ y * 2 ^ s < 18446744073709551616 := by
  obtain ⟨Y, rfl⟩ := Int.eq_ofNat_of_zero_le (show 0 ≤ y by omega)
  obtain ⟨a, b, c⟩ := Lib.bitLenAux_bounds 64 Y (by omega) (by omega)
  have hL : Lib.bitLenAux 64 Y ≤ 64 := Lib.bitLen_le Y 64 (Nat.le_refl _) (by omega)
  simp only [Int.toNat_natCast]
  unfold Lib.bitLen
  generalize Lib.bitLenAux 64 Y = L at a b c hL ⊢
  refine ⟨64 - L, by omega, by omega, ?_, ?_⟩
  · have h := Nat.mul_le_mul_right (2 ^ (64 - L)) b
    rw [← Nat.pow_add, show L - 1 + (64 - L) = 63 by omega] at h
    have e : ((Y : Int) * 2 ^ (64 - L)) = ((Y * 2 ^ (64 - L) : Nat) : Int) := by simp
    rw [e]; omega
  · have h := Nat.mul_lt_mul_of_pos_right c (Nat.pow_pos (n := 64 - L) (show 0 < 2 by omega))
    rw [← Nat.pow_add, show L + (64 - L) = 64 by omega] at h
    have e : ((Y : Int) * 2 ^ (64 - L)) = ((Y * 2 ^ (64 - L) : Nat) : Int) := by simp
    rw [e]; omega

theorem pow_parts {s : Nat} (h : s < 64) : ((2 : Int) ^ s) * 2 ^ (64 - s) = 18446744073709551616 ∧ 1 ≤ (2 : Int) ^ s ∧ 1 ≤ (2 : Int) ^ (64 - s) := by
  refine ⟨?_, ?_, ?_⟩
  · rw [← Int.pow_add, show s + (64 - s) = 64 by omega]; rfl
  · have : 0 < (2 : Int) ^ s := Int.pow_pos (by omega); omega
  · have : 0 < (2 : Int) ^ (64 - s) := Int.pow_pos (by omega); omega
/-- The lower half of a word. -/
theorem mask32 {a : Int} (h0 : 0 ≤ a) (h1 : a < 18446744073709551616) : bits .and .u64 a 4294967295 = a % 4294967296 := by
  obtain ⟨n, rfl⟩ := Int.eq_ofNat_of_zero_le h0
  have h := bits_and_u64_nat n 4294967295 (by omega) (by omega)
  have e : n &&& 4294967295 = n % 4294967296 := Nat.and_two_pow_sub_one_eq_mod n 32
  rw [e] at h
  exact h
/-- Two parts that don't meet. -/
theorem or_parts {a b : Int} {s : Nat} (ha : 0 ≤ a) (hb : 0 ≤ b) (hb' : b < 2 ^ s) (h1 : a * 2 ^ s + b < 18446744073709551616) :
    bits .or .u64 (a * 2 ^ s) b = a * 2 ^ s + b := by
  obtain ⟨a, rfl⟩ := Int.eq_ofNat_of_zero_le ha
  obtain ⟨b, rfl⟩ := Int.eq_ofNat_of_zero_le hb
  have e1 : (a : Int) * 2 ^ s = ((a * 2 ^ s : Nat) : Int) := by simp
  have e2 : b < 2 ^ s := by
    have e : ((2 : Int) ^ s) = ((2 ^ s : Nat) : Int) := by simp
    rw [e] at hb'; omega
  rw [e1] at h1 ⊢
  rw [bits_or_u64_nat _ _ (by omega) (by omega), Nat.mul_comm a, ← Nat.two_pow_add_eq_or_of_lt e2 a]
  simp
/-- A number moved up by so many bits, in words. -/
theorem norm_parts {hi lo y : Int} {s : Nat} (hs : s < 64) (h0 : 0 ≤ hi) (hy : hi < y) (l0 : 0 ≤ lo) (l1 : lo < 18446744073709551616) (hv : y * 2 ^ s < 18446744073709551616) :
    IntKind.u64.wrap (y * 2 ^ s) = y * 2 ^ s ∧ IntKind.u64.wrap (hi * 2 ^ s) = hi * 2 ^ s ∧ bits .or .u64 (hi * 2 ^ s) (lo / 2 ^ (64 - s)) = hi * 2 ^ s + lo / 2 ^ (64 - s) ∧
    0 ≤ hi * 2 ^ s + lo / 2 ^ (64 - s) ∧ hi * 2 ^ s + lo / 2 ^ (64 - s) < y * 2 ^ s ∧
    (hi * 2 ^ s + lo / 2 ^ (64 - s)) * 18446744073709551616 + IntKind.u64.wrap (lo * 2 ^ s) = wval hi lo * 2 ^ s := by
  obtain ⟨p1, p2, p3⟩ := pow_parts hs
  have q1 : lo / 2 ^ (64 - s) < 2 ^ s := Int.ediv_lt_of_lt_mul (by omega) (by rw [p1]; exact l1)
  have q0 : 0 ≤ lo / 2 ^ (64 - s) := Int.ediv_nonneg l0 (by omega)
  have g0 : 0 ≤ hi * 2 ^ s := Int.mul_nonneg h0 (by omega)
  have g1 : hi * 2 ^ s + 2 ^ s ≤ y * 2 ^ s := by
    have := Int.mul_le_mul_of_nonneg_right (show hi + 1 ≤ y by omega) (show (0 : Int) ≤ 2 ^ s by omega)
    rw [Int.add_mul] at this; omega
  have e6 : (hi * 2 ^ s + lo / 2 ^ (64 - s)) * 18446744073709551616 + IntKind.u64.wrap (lo * 2 ^ s) = wval hi lo * 2 ^ s := by
    have d1 : lo * 2 ^ s / 18446744073709551616 = lo / 2 ^ (64 - s) := by
      rw [← p1, Int.mul_comm ((2 : Int) ^ s), Int.mul_ediv_mul_of_pos_left _ _ (by omega)]
    rw [IntKind.wrap_u64, ← d1]
    unfold wval
    rw [Int.add_mul (hi * 18446744073709551616), Int.mul_assoc hi, Int.mul_comm 18446744073709551616, ← Int.mul_assoc hi]
    generalize hi * 2 ^ s = a
    generalize lo * 2 ^ s = b
    omega
  refine ⟨?_, ?_, or_parts h0 q0 q1 (by omega), by omega, by omega, e6⟩
  · rw [IntKind.wrap_u64]; omega
  · rw [IntKind.wrap_u64]; omega
/-- The quotient, and what is left, of numbers that were both moved up. -/
theorem moved_back {n y : Int} {s : Nat} (hs : s < 64) : n * 2 ^ s / (y * 2 ^ s) = n / y ∧ n * 2 ^ s % (y * 2 ^ s) / 2 ^ s = n % y := by
  obtain ⟨p1, p2, p3⟩ := pow_parts hs
  refine ⟨Int.mul_ediv_mul_of_pos_left _ _ (by omega), ?_⟩
  have e : n * 2 ^ s % (y * 2 ^ s) = n % y * 2 ^ s := by
    rw [Int.mul_comm n, Int.mul_comm y, Int.mul_emod_mul_of_pos _ _ (by omega), Int.mul_comm]
  rw [e, Int.mul_ediv_cancel _ (by omega)]
/-- The first loop's and the second loop's relation: the guess, and what is left by it. -/
structure DigRel (u v v1 v0 d a b : Int) : Prop where
  low : (u * 4294967296 + d) / v ≤ a
  high : a ≤ 4294967297
  left : b = u - a * v1
  b0 : 0 ≤ b
  b1 : b < 4294967296
/-- What the loop is over: a divisor of two halves, an upper part that is less, one more half. -/
structure DigOver (u v v1 v0 d : Int) : Prop where
  u0 : 0 ≤ u
  uv : u < v
  parts : v = v1 * 4294967296 + v0
  v1lo : 2147483648 ≤ v1
  v1hi : v1 < 4294967296
  v0lo : 0 ≤ v0
  v0hi : v0 < 4294967296
  d0 : 0 ≤ d
  d1 : d < 4294967296
theorem DigOver.start {u v v1 v0 d : Int} (o : DigOver u v v1 v0 d) : DigRel u v v1 v0 d (u / v1) (u - u / v1 * v1) := by
  obtain ⟨u0, uv, rfl, v1lo, v1hi, v0lo, v0hi, d0, d1⟩ := o
  have h1 := Int.ediv_mul_le u (b := v1) (by omega)
  have h2 := Int.ediv_mul_add_emod u v1
  have h3 := Int.emod_lt_of_pos u (show 0 < v1 by omega)
  exact ⟨digit_start u0 (by omega) v0lo d1 d0, digit_most uv v1lo v0hi, rfl, by omega, by omega⟩
theorem DigOver.pos {u v v1 v0 d : Int} (o : DigOver u v v1 v0 d) : 0 ≤ (u * 4294967296 + d) / v ∧ (u * 4294967296 + d) / v < 4294967296 := by
  have hp := o.parts; have h1 := o.v1lo; have h2 := o.v0lo
  exact ⟨digit_nonneg o.u0 (by omega) o.d0, digit_lt o.uv o.u0 o.d1⟩
theorem DigOver.prod {u v v1 v0 d a b : Int} (o : DigOver u v v1 v0 d) (r : DigRel u v v1 v0 d a b) : 0 ≤ a * v0 ∧ a * v0 ≤ 18446744073709551615 := by
  have h0 := o.pos.1; have h1 := r.low; have h2 := o.v0lo; have h3 := o.v0hi
  refine ⟨Int.mul_nonneg (by omega) h2, ?_⟩
  have := Int.mul_le_mul r.high (show v0 ≤ 4294967295 by omega) h2 (by omega)
  omega
theorem DigOver.next {u v v1 v0 d a b : Int} (o : DigOver u v v1 v0 d) (r : DigRel u v v1 v0 d a b) (h : 4294967296 ≤ a ∨ 4294967296 * b + d < a * v0) (g : ¬ 4294967296 ≤ b + v1) : DigRel u v v1 v0 d (a - 1) (b + v1) := by
  obtain ⟨u0, uv, rfl, v1lo, v1hi, v0lo, v0hi, d0, d1⟩ := o
  obtain ⟨low, high, left, b0, b1⟩ := r
  exact ⟨digit_down left (by omega) (digit_lt uv u0 d1) h, by omega, step_left left, by omega, by omega⟩
theorem DigOver.brk {u v v1 v0 d a b : Int} (o : DigOver u v v1 v0 d) (r : DigRel u v v1 v0 d a b) (h : 4294967296 ≤ a ∨ 4294967296 * b + d < a * v0) (g : 4294967296 ≤ b + v1) : a - 1 = (u * 4294967296 + d) / v := by
  have hp := o.pos.1
  obtain ⟨u0, uv, rfl, v1lo, v1hi, v0lo, v0hi, d0, d1⟩ := o
  obtain ⟨low, high, left, b0, b1⟩ := r
  have := digit_down left (by omega) (digit_lt uv u0 d1) h
  exact digit_break (step_left left) (by omega) v0lo v0hi d0 this (by omega) (by omega) g
theorem DigOver.done {u v v1 v0 d a b : Int} (o : DigOver u v v1 v0 d) (r : DigRel u v v1 v0 d a b) (h : ¬ 4294967296 * b + d < a * v0) : a = (u * 4294967296 + d) / v := by
  obtain ⟨u0, uv, rfl, v1lo, v1hi, v0lo, v0hi, d0, d1⟩ := o
  obtain ⟨low, high, left, b0, b1⟩ := r
  exact digit_done left (by omega) low (by omega)
theorem DigOver.one {u v v1 v0 d a b : Int} (o : DigOver u v v1 v0 d) (r : DigRel u v v1 v0 d a b) (h : 4294967296 ≤ a ∨ 4294967296 * b + d < a * v0) : 1 ≤ a := by
  have hp := o.pos.1
  obtain ⟨u0, uv, rfl, v1lo, v1hi, v0lo, v0hi, d0, d1⟩ := o
  have := digit_down r.left (by omega) (digit_lt uv u0 d1) h
  omega
theorem DigOver.guess {u v v1 v0 d : Int} (o : DigOver u v v1 v0 d) : 0 ≤ u / v1 ∧ u / v1 ≤ 4294967297 ∧ u / v1 * v1 ≤ u ∧ 0 ≤ u / v1 * v1 ∧ u - u / v1 * v1 < v1 := by
  obtain ⟨u0, uv, rfl, v1lo, v1hi, v0lo, v0hi, d0, d1⟩ := o
  have k0 : 0 ≤ u / v1 := Int.ediv_nonneg u0 (by omega)
  have h2 := Int.ediv_mul_add_emod u v1
  have h3 := Int.emod_lt_of_pos u (show 0 < v1 by omega)
  exact ⟨k0, digit_most uv v1lo v0hi, Int.ediv_mul_le u (by omega), Int.mul_nonneg k0 (by omega), by omega⟩
/-- What is left behind a digit, as the program reckons it. -/
theorem DigOver.wraps {u v v1 v0 d : Int} (o : DigOver u v v1 v0 d) (hv : v < 18446744073709551616) :
    IntKind.u64.wrap (IntKind.u64.wrap (IntKind.u64.wrap (u * 4294967296) + d) - IntKind.u64.wrap ((u * 4294967296 + d) / v * v)) = (u * 4294967296 + d) % v := by
  have hp := o.parts; have h1 := o.v1lo; have h2 := o.v0lo
  have h := left_over (u := u) (d := d) (v := v) (by omega) hv
  rw [← h]
  simp only [IntKind.wrap_u64]
  generalize (u * 4294967296 + d) / v * v = a
  omega
theorem DigOver.left {u v v1 v0 d : Int} (o : DigOver u v v1 v0 d) : 0 ≤ (u * 4294967296 + d) % v ∧ (u * 4294967296 + d) % v < v := by
  have hp := o.parts; have h1 := o.v1lo; have h2 := o.v0lo
  exact ⟨Int.emod_nonneg _ (by omega), Int.emod_lt_of_pos _ (by omega)⟩

end Go.Proofs.Ytbdfmnlfdhhnjaa

/-
  Walks: bits.Div64.
-/
namespace Go.Proofs.Ytbdfmnlfdhhnjaa
set_option linter.unusedVariables false
open Go.RowKit Go.Shelf

theorem lz_any (y : Int) (s : Nat) (h0 : 0 ≤ y) (h1 : y ≤ 18446744073709551615) (hs : 64 - (Lib.bitLen y.toNat : Int) = s) (w : World) :
    Calls Try.prog 101 #[.int .u64 y] w fun e w' => e = .returned (.int .i64 s) ∧ w = w' := by
  rw [← hs]; exact (Try.bits_LeadingZeros64 y w h0 h1).mono fun e w' h => ⟨h.1, h.2.symm⟩

set_option maxHeartbeats 400000 in
theorem div64_zero (lo y : Int) (wl : Word lo) (wy : Word y) (hy : 0 < y) (w : World) :
    Calls Try.prog 88 #[.int .u64 0, .int .u64 lo, .int .u64 y] w fun e w' =>
      e = .returned (.tuple #[.int .u64 (lo / y), .int .u64 (lo % y)]) ∧ Below w.heap.size w w' := by
  obtain ⟨l1, l2⟩ := wl
  obtain ⟨y1, y2⟩ := wy
  have hy0 : (y == 0) = false := by simp; omega
  have hy0' : ¬ y = 0 := by omega
  go_enter Try.func88, Try.ntmps88
  go_wp2_with fail
  go_quiet (fail)
  go_wp2
  refine bodyPost_ret (v := .tuple #[.int .u64 (lo / y), .int .u64 (lo % y)]) (by simp [results, Try.results88, go_sem]) rfl ⟨rfl, ?_⟩
  exact below_drewN (Below.refl _ _) _

set_option maxHeartbeats 400000 in
theorem div64_more (hi lo y : Int) (wh : Word hi) (wl : Word lo) (wy : Word y) (hh : 0 < hi) (hy : hi < y) (w : World) :
    Calls Try.prog 88 #[.int .u64 hi, .int .u64 lo, .int .u64 y] w fun e w' =>
      e = .returned (.tuple #[.int .u64 (wval hi lo / y), .int .u64 (wval hi lo % y)]) ∧ Below w.heap.size w w' := by
  obtain ⟨l1, l2⟩ := wl
  obtain ⟨y1, y2⟩ := wy
  obtain ⟨h1, h2⟩ := wh
  have hy0 : (y == 0) = false := by simp; omega
  have hh0 : (hi == 0) = false := by simp; omega
  obtain ⟨s, hs, hz, n1, n2⟩ := div_norm (show 0 < y by omega) y2
  obtain ⟨R1, R4, R5, u0, uv, HN⟩ := norm_parts (lo := lo) hs h1 hy l1 l2 n2
  have RES := Lib.hid (moved_back (n := wval hi lo) (y := y) hs)
  rw [← HN] at RES
  have HZ := Lib.hid hz
  clear hz HN
  have ll0 : 0 ≤ IntKind.u64.wrap (lo * 2 ^ s) ∧ IntKind.u64.wrap (lo * 2 ^ s) < 18446744073709551616 := by rw [IntKind.wrap_u64]; omega
  generalize hl : IntKind.u64.wrap (lo * 2 ^ s) = l at *
  generalize hu : hi * 2 ^ s + lo / 2 ^ (64 - s) = u at *
  generalize hv : y * 2 ^ s = v at *
  generalize hh' : hi * 2 ^ s = h' at *
  have hu' : bits .or .u64 h' (lo / 2 ^ (64 - s)) = u := by rw [R5]
  go_enter Try.func88, Try.ntmps88
  go_wp2_with fail
  refine (lz_any y s y1 (by omega) HZ.out _).mono ?_
  rintro e w' ⟨rfl, rfl⟩
  clear hu R5 HZ hh
  obtain ⟨ll1, ll2⟩ := ll0
  have M1 := mask32 (a := v) (by omega) n2
  have M2 := mask32 ll1 ll2
  have S1 := Lib.hid (Int.ediv_mul_add_emod v 4294967296)
  have S2 := Lib.hid (Int.ediv_mul_add_emod l 4294967296)
  have b1 : v / 4294967296 < 4294967296 := by omega
  have b2 : 2147483648 ≤ v / 4294967296 := by omega
  have b3 : 0 ≤ v % 4294967296 := by omega
  have b4 : v % 4294967296 < 4294967296 := by omega
  have c1 : l / 4294967296 < 4294967296 := by omega
  have c2 : 0 ≤ l / 4294967296 := by omega
  have c3 : 0 ≤ l % 4294967296 := by omega
  have c4 : l % 4294967296 < 4294967296 := by omega
  generalize v % 4294967296 = v0 at *
  generalize l % 4294967296 = d0 at *
  generalize hv1 : v / 4294967296 = v1 at *
  generalize hd1 : l / 4294967296 = d1 at *
  have o1 : DigOver u v v1 v0 d1 := ⟨u0, uv, S1.out.symm, b2, b1, b3, b4, c2, c1⟩
  have st_o1 := DigOver.start o1
  obtain ⟨k0, k1, k2, k3, k4⟩ := DigOver.guess o1
  go_upto_block 0 with fail
  go_cut [15, 16] (fun q r wx => ∃ z : Int, q = .int .u64 ((u * 4294967296 + d1) / v) ∧ r = .int .u64 z ∧ w = wx)
  case first =>
    go_wp2_with fail
    go_loop [15, 16] (fun q r => ∃ a b : Int, DigRel u v v1 v0 d1 a b ∧ q = .int .u64 a ∧ r = .int .u64 b) (fun q _ => (intOf q).toNat)
    case atStart => exact ⟨_, _, st_o1, rfl, rfl⟩
    case round =>
      obtain ⟨a, b, hr, rfl, rfl⟩ := hrel
      have a0 := hr.low; have a1 := hr.high; have bb0 := hr.b0; have bb1 := hr.b1
      obtain ⟨p0, p1⟩ := DigOver.prod o1 hr
      obtain ⟨z0, z1⟩ := DigOver.pos o1
      clear k0 k1 k2 k3 k4 st_o1
      generalize hQ : (u * 4294967296 + d1) / v = Q at a0 z0 z1
      have HQ := Lib.hid hQ
      clear hQ
      by_cases g1 : 4294967296 ≤ a
      · have a2 := DigOver.one o1 hr (.inl g1)
        by_cases g3 : 4294967296 ≤ b + v1
        · have HE := Lib.hid (DigOver.brk o1 hr (.inl g1) g3)
          go_wp2_with fail
          go_meet
          exact ⟨_, by rw [HE.out], rfl, rfl⟩
        · have HN := DigOver.next o1 hr (.inl g1) g3
          go_wp2_with fail
          go_round
          case rel => exact ⟨_, _, HN, rfl, rfl⟩
          case measure => simp [intOf]; omega
      · by_cases g2 : 4294967296 * b + d1 < a * v0
        · have a2 := DigOver.one o1 hr (.inr g2)
          by_cases g3 : 4294967296 ≤ b + v1
          · have HE := Lib.hid (DigOver.brk o1 hr (.inr g2) g3)
            go_wp2_with fail
            go_meet
            exact ⟨_, by rw [HE.out], rfl, rfl⟩
          · have HN := DigOver.next o1 hr (.inr g2) g3
            go_wp2_with fail
            go_round
            case rel => exact ⟨_, _, HN, rfl, rfl⟩
            case measure => simp [intOf]; omega
        · have HE := Lib.hid (DigOver.done o1 hr g2)
          go_wp2_with fail
          go_meet
          exact ⟨_, by rw [HE.out], rfl, rfl⟩
  case rest =>
    obtain ⟨z, rfl, rfl, rfl⟩ := hcut
    clear st_o1 k0 k1 k2 k3 k4
    have WR := DigOver.wraps o1 n2
    obtain ⟨e0, e1⟩ := DigOver.left o1
    obtain ⟨z0, z1⟩ := DigOver.pos o1
    have T := Lib.hid (two_digits (u := u) (d1 := d1) (d0 := d0) (v := v) (by omega))
    generalize (u * 4294967296 + d1) % v = u2 at *
    generalize (u * 4294967296 + d1) / v = Q1 at *
    have o2 : DigOver u2 v v1 v0 d0 := ⟨e0, e1, S1.out.symm, b2, b1, b3, b4, c3, c4⟩
    have st_o2 := DigOver.start o2
    obtain ⟨k0, k1, k2, k3, k4⟩ := DigOver.guess o2
    go_upto_block 2 with fail
    go_cut [18, 16] (fun q r wx => ∃ z : Int, q = .int .u64 ((u2 * 4294967296 + d0) / v) ∧ r = .int .u64 z ∧ w = wx)
    case first =>
      go_wp2_with fail
      go_loop [18, 16] (fun q r => ∃ a b : Int, DigRel u2 v v1 v0 d0 a b ∧ q = .int .u64 a ∧ r = .int .u64 b) (fun q _ => (intOf q).toNat)
      case atStart => exact ⟨_, _, st_o2, rfl, rfl⟩
      case round =>
        obtain ⟨a, b, hr, rfl, rfl⟩ := hrel
        have a0 := hr.low; have a1 := hr.high; have bb0 := hr.b0; have bb1 := hr.b1
        obtain ⟨p0, p1⟩ := DigOver.prod o2 hr
        obtain ⟨z0, z1⟩ := DigOver.pos o2
        clear k0 k1 k2 k3 k4 st_o2
        generalize hQ : (u2 * 4294967296 + d0) / v = Q at a0 z0 z1
        have HQ := Lib.hid hQ
        clear hQ
        by_cases g1 : 4294967296 ≤ a
        · have a2 := DigOver.one o2 hr (.inl g1)
          by_cases g3 : 4294967296 ≤ b + v1
          · have HE := Lib.hid (DigOver.brk o2 hr (.inl g1) g3)
            go_wp2_with fail
            go_meet
            exact ⟨_, by rw [HE.out], rfl, rfl⟩
          · have HN := DigOver.next o2 hr (.inl g1) g3
            go_wp2_with fail
            go_round
            case rel => exact ⟨_, _, HN, rfl, rfl⟩
            case measure => simp [intOf]; omega
        · by_cases g2 : 4294967296 * b + d0 < a * v0
          · have a2 := DigOver.one o2 hr (.inr g2)
            by_cases g3 : 4294967296 ≤ b + v1
            · have HE := Lib.hid (DigOver.brk o2 hr (.inr g2) g3)
              go_wp2_with fail
              go_meet
              exact ⟨_, by rw [HE.out], rfl, rfl⟩
            · have HN := DigOver.next o2 hr (.inr g2) g3
              go_wp2_with fail
              go_round
              case rel => exact ⟨_, _, HN, rfl, rfl⟩
              case measure => simp [intOf]; omega
          · have HE := Lib.hid (DigOver.done o2 hr g2)
            go_wp2_with fail
            go_meet
            exact ⟨_, by rw [HE.out], rfl, rfl⟩
    case rest =>
      obtain ⟨z, rfl, rfl, rfl⟩ := hcut
      clear st_o2 k0 k1 k2 k3 k4
      have WR2 := DigOver.wraps o2 n2
      obtain ⟨f0, f1⟩ := DigOver.left o2
      obtain ⟨y0, y1⟩ := DigOver.pos o2
      generalize (u2 * 4294967296 + d0) % v = r2 at *
      generalize (u2 * 4294967296 + d0) / v = Q2 at *
      go_wp2_with fail
      have e : u * 18446744073709551616 + d1 * 4294967296 + d0 = u * 18446744073709551616 + l := by have := S2.out; omega
      obtain ⟨t1, t2⟩ := T.out
      obtain ⟨r1, r3⟩ := RES.out
      rw [e] at t1 t2
      rw [← t1] at r1
      rw [← t2] at r3
      refine bodyPost_ret (v := .tuple #[.int .u64 (Q1 * 4294967296 + Q2), .int .u64 (r2 / 2 ^ s)]) (by simp [results, Try.results88, go_sem]) rfl ⟨by rw [r1, r3], ?_⟩
      exact Below.refl _ _

/-- math/bits.Div64, wherever it doesn't panic. -/
theorem div64_any (hi lo y : Int) (wh : Word hi) (wl : Word lo) (wy : Word y) (hy : hi < y) (w : World) :
    Calls Try.prog 88 #[.int .u64 hi, .int .u64 lo, .int .u64 y] w fun e w' =>
      e = .returned (.tuple #[.int .u64 (wval hi lo / y), .int .u64 (wval hi lo % y)]) ∧ Below w.heap.size w w' := by
  by_cases h : hi = 0
  · subst h
    have e : wval 0 lo = lo := by unfold wval; omega
    rw [e]
    exact div64_zero lo y wl wy hy w
  · exact div64_more hi lo y wh wl wy (by have := wh.1; omega) hy w
end Go.Proofs.Ytbdfmnlfdhhnjaa

/-
  Walks: wide.Over, Floor and Ceil.
-/
namespace Go.Proofs.Ytbdfmnlfdhhnjaa
set_option linter.unusedVariables false
open Go.RowKit Go.Shelf

/-- A number divided, where the quotient has room; noughts, where it hasn't. -/
def ovB (n by' : Int) : Bool := decide (0 < by' ∧ n / by' < 18446744073709551616)
def ovQ (n by' : Int) : Int := if ovB n by' = true then n / by' else 0
def ovR (n by' : Int) : Int := if ovB n by' = true then n % by' else 0
theorem ov_iff {h l y : Int} (wh : Word h) (wl : Word l) (wy : Word y) : ovB (wval h l) y = true ↔ h < y := by
  unfold ovB Word at *
  rw [decide_eq_true_iff]
  constructor
  · rintro ⟨a, b⟩
    rw [Int.ediv_lt_iff_lt_mul a] at b
    unfold wval at b; omega
  · intro a
    refine ⟨by omega, ?_⟩
    rw [Int.ediv_lt_iff_lt_mul (by omega)]
    unfold wval; omega
theorem ov_yes {h l y : Int} (wh : Word h) (wl : Word l) (wy : Word y) (hy : h < y) : ovB (wval h l) y = true ∧ ovQ (wval h l) y = wval h l / y ∧ ovR (wval h l) y = wval h l % y := by
  have e := (ov_iff (l := l) wh wl wy).2 hy
  refine ⟨e, ?_, ?_⟩
  · unfold ovQ; rw [if_pos e]
  · unfold ovR; rw [if_pos e]
theorem ov_no {h l y : Int} (wh : Word h) (wl : Word l) (wy : Word y) (hy : ¬ h < y) : ovB (wval h l) y = false ∧ ovQ (wval h l) y = 0 ∧ ovR (wval h l) y = 0 := by
  have e : ovB (wval h l) y = false := by
    cases hb : ovB (wval h l) y with
    | false => rfl
    | true => exact absurd ((ov_iff wh wl wy).1 hb) hy
  refine ⟨e, ?_, ?_⟩
  · unfold ovQ; rw [e]; rfl
  · unfold ovR; rw [e]; rfl
theorem ov_word {n y : Int} (h0 : 0 ≤ n) (wy : Word y) : Word (ovQ n y) ∧ Word (ovR n y) := by
  unfold ovQ ovR Word at *
  split
  · rename_i h
    unfold ovB at h
    rw [decide_eq_true_iff] at h
    obtain ⟨a, b⟩ := h
    have h1 := Int.ediv_nonneg h0 (show 0 ≤ y by omega)
    have h2 := Int.emod_nonneg n (show y ≠ 0 by omega)
    have h3 := Int.emod_lt_of_pos n a
    omega
  · omega

set_option maxHeartbeats 400000 in
theorem over_any (h l y : Int) (wh : Word h) (wl : Word l) (wy : Word y) (w : World) :
    Calls Try.prog 75 #[.agg #[.int .u64 h, .int .u64 l], .int .u64 y] w fun e w' =>
      e = .returned (.tuple #[.int .u64 (ovQ (wval h l) y), .int .u64 (ovR (wval h l) y), .bool (ovB (wval h l) y)]) ∧ Below w.heap.size w w' := by
  by_cases hy : h < y
  · obtain ⟨e1, e2, e3⟩ := ov_yes wh wl wy hy
    have E1 := Lib.hid e1; have E2 := Lib.hid e2; have E3 := Lib.hid e3
    clear e1 e2 e3
    go_enter Try.func75, Try.ntmps75
    go_wp2_with fail
    refine (div64_any h l y wh wl wy hy _).mono ?_
    rintro e wA ⟨rfl, hbA⟩
    go_wp2_with fail
    refine bodyPost_ret (v := .tuple #[.int .u64 (wval h l / y), .int .u64 (wval h l % y), .bool true]) (by simp [results, Try.results75, go_sem]) rfl ⟨by rw [E1.out, E2.out, E3.out], ?_⟩
    exact ((Below.refl _ _).alloc (Nat.le_refl _) _).trans (hbA.mono (by simp))
  · obtain ⟨e1, e2, e3⟩ := ov_no (l := l) wh wl wy hy
    have E1 := Lib.hid e1; have E2 := Lib.hid e2; have E3 := Lib.hid e3
    clear e1 e2 e3
    go_enter Try.func75, Try.ntmps75
    go_wp2_with fail
    refine bodyPost_ret (v := .tuple #[.int .u64 0, .int .u64 0, .bool false]) (by simp [results, Try.results75, go_sem]) rfl ⟨by rw [E1.out, E2.out, E3.out], ?_⟩
    exact (Below.refl _ _).alloc (Nat.le_refl _) _

/-- The same, of a number that two words tell. -/
theorem over_num (n y : Int) (h0 : 0 ≤ n) (h1 : n < 340282366920938463463374607431768211456) (wy : Word y) (w : World) :
    Calls Try.prog 75 #[.agg #[.int .u64 (hiW n), .int .u64 (loW n)], .int .u64 y] w fun e w' =>
      e = .returned (.tuple #[.int .u64 (ovQ n y), .int .u64 (ovR n y), .bool (ovB n y)]) ∧ Below w.heap.size w w' := by
  have h := over_any (hiW n) (loW n) y (word_hi n) (word_lo n) wy w
  rw [wval_split h0 h1] at h
  exact h

/-- A product divided, rounded up. -/
def clB (n y : Int) : Bool := ovB n y && !(decide (0 < ovR n y) && ovQ n y == 18446744073709551615)
def clQ (n y : Int) : Int := if clB n y = true then (if 0 < ovR n y then ovQ n y + 1 else ovQ n y) else 0
theorem cl_zero {n y : Int} (h : ovR n y = 0) : clB n y = ovB n y ∧ clQ n y = ovQ n y := by
  have e : clB n y = ovB n y := by unfold clB; rw [h]; simp
  refine ⟨e, ?_⟩
  unfold clQ; rw [e, h]; simp only [Int.lt_irrefl, if_false]
  split
  · rfl
  · rename_i hn; unfold ovQ; rw [if_neg hn]
theorem ovR_pos {n y : Int} (h0 : 0 ≤ n) (wy : Word y) (h : ¬ ovR n y = 0) : 0 < ovR n y ∧ ovB n y = true := by
  have := (ov_word h0 wy).2.1
  refine ⟨by omega, ?_⟩
  cases hb : ovB n y with
  | true => rfl
  | false => exfalso; apply h; unfold ovR; rw [hb]; rfl
theorem cl_more {n y : Int} (h0 : 0 ≤ n) (wy : Word y) (h : ¬ ovR n y = 0) : ((ovQ n y + 1) / 18446744073709551616 == 0) = clB n y ∧ (ovQ n y + 1) % 18446744073709551616 = clQ n y := by
  obtain ⟨hp, hb⟩ := ovR_pos h0 wy h
  obtain ⟨q0, q1⟩ := (ov_word h0 wy).1
  have e : clB n y = ((ovQ n y + 1) / 18446744073709551616 == 0) := by
    unfold clB; rw [hb, decide_eq_true hp, Bool.true_and, Bool.true_and, Bool.eq_iff_iff]
    simp only [Bool.not_eq_true', beq_eq_false_iff_ne, beq_iff_eq, ne_eq]; omega
  refine ⟨e.symm, ?_⟩
  unfold clQ; rw [if_pos hp, e]
  split <;> simp_all <;> omega

set_option maxHeartbeats 400000 in
theorem ceil_any (a b y : Int) (wa : Word a) (wb : Word b) (wy : Word y) (w : World) :
    Calls Try.prog 58 #[.int .u64 a, .int .u64 b, .int .u64 y] w fun e w' =>
      e = .returned (.tuple #[.int .u64 (clQ (a * b) y), .bool (clB (a * b) y)]) ∧ Below w.heap.size w w' := by
  obtain ⟨n0, n1⟩ := mul_bd wa wb
  by_cases hr : ovR (a * b) y = 0
  · obtain ⟨e1, e2⟩ := cl_zero hr
    have E1 := Lib.hid e1; have E2 := Lib.hid e2
    have hr0 : (ovR (a * b) y == 0) = true := by simp [hr]
    clear e1 e2 hr
    go_enter Try.func58, Try.ntmps58
    go_wp2_with fail
    refine (times_any a b wa wb _).mono ?_
    rintro e wA ⟨rfl, hbA⟩
    go_wp2_with fail
    refine (over_num (a * b) y n0 n1 wy _).mono ?_
    rintro e wB ⟨rfl, hbB⟩
    go_wp2_with fail
    refine bodyPost_ret (v := .tuple #[.int .u64 (ovQ (a * b) y), .bool (ovB (a * b) y)]) (by simp [results, Try.results58, go_sem]) rfl ⟨by rw [E1.out, E2.out], ?_⟩
    exact hbA.trans (hbB.mono hbA.size)
  · obtain ⟨e1, e2⟩ := cl_more n0 wy hr
    obtain ⟨q0, q1⟩ := (ov_word (n := a * b) n0 wy).1
    have E1 := Lib.hid e1; have E2 := Lib.hid e2
    have hr0 : (ovR (a * b) y == 0) = false := by simp [hr]
    clear e1 e2 hr
    go_enter Try.func58, Try.ntmps58
    go_wp2_with fail
    refine (times_any a b wa wb _).mono ?_
    rintro e wA ⟨rfl, hbA⟩
    go_wp2_with fail
    refine (over_num (a * b) y n0 n1 wy _).mono ?_
    rintro e wB ⟨rfl, hbB⟩
    go_wp2_with (simp only [add64_0 (ovQ (a * b) y) 1 q0 (by decide)])
    refine bodyPost_ret (v := .tuple #[.int .u64 ((ovQ (a * b) y + 1) % 18446744073709551616), .bool ((ovQ (a * b) y + 1) / 18446744073709551616 == 0)]) (by simp [results, Try.results58, go_sem]) rfl ⟨by rw [E1.out, E2.out], ?_⟩
    exact hbA.trans (hbB.mono hbA.size)
end Go.Proofs.Ytbdfmnlfdhhnjaa

/-
  Walks: the reference's Sub.
-/
namespace Go.Proofs.Ytbdfmnlfdhhnjaa
set_option linter.unusedVariables false
open Go.RowKit Go.Shelf

set_option maxHeartbeats 400000 in
theorem rsub_any (ah al bh bl : Int) (w1 : Word ah) (w2 : Word al) (w3 : Word bh) (w4 : Word bl) (w : World) :
    Calls Try.prog 85 #[.agg #[.int .u64 ah, .int .u64 al], .agg #[.int .u64 bh, .int .u64 bl]] w fun e w' =>
      e = .returned (.tuple #[.agg #[.int .u64 (hiW (wval ah al - wval bh bl)), .int .u64 (loW (wval ah al - wval bh bl))], .bool (belowB (wval ah al - wval bh bl))]) ∧ Below w.heap.size w w' := by
  have n3 := word_comp w3; have n4 := word_comp w4
  have hq := w3.1; have hq' := w3.2; have hr := w4.1; have hr' := w4.2
  go_enter Try.func85, Try.ntmps85
  go_wp2_with fail
  refine (rwadd_any ah al _ _ w1 w2 n3 n4 _).mono ?_
  rintro e wA ⟨rfl, hbA⟩
  obtain ⟨hcA, hfA⟩ := bcell hbA
  have hzA : w.heap.size + 1 + 1 + 1 + 1 ≤ wA.heap.size := by have := hbA.size; simp at this; omega
  have g0 : w.heap.size < wA.heap.size := by omega
  have g1 : w.heap.size + 1 < wA.heap.size := by omega
  have g2 : w.heap.size + 1 + 1 < wA.heap.size := by omega
  have g0' : w.heap.size ≤ wA.heap.size := by omega
  have g1' : w.heap.size + 1 ≤ wA.heap.size := by omega
  have g2' : w.heap.size + 1 + 1 ≤ wA.heap.size := by omega
  go_wp2_with fail
  refine (rwadd_any _ _ 0 1 (word_hi _) (word_lo _) (by unfold Word; omega) (by unfold Word; omega) _).mono ?_
  rintro e wB ⟨rfl, hbB⟩
  obtain ⟨hcB, hfB⟩ := bcell hbB
  have hzB : wA.heap.size + 1 ≤ wB.heap.size := by have := hbB.size; simp at this; omega
  go_wp2_with fail
  simp only [comp_wval, rsub_hi, rsub_lo]
  generalize hx : hiW (wval ah al - wval bh bl) = x
  generalize hy : loW (wval ah al - wval bh bl) = y
  have HX := Lib.hid hx; have HY := Lib.hid hy
  clear hx hy
  have ne1 : wA.heap.size ≠ w.heap.size := by omega
  have ne2 : wA.heap.size ≠ w.heap.size + 1 := by omega
  have ne3 : wA.heap.size ≠ w.heap.size + 1 + 1 := by omega
  have ne3' : w.heap.size + 1 + 1 ≠ wA.heap.size := by omega
  obtain ⟨W, hW⟩ : ∃ W : World, W = (wB.setCell ⟨wA.heap.size, 0, none⟩ (.int .u64 x)).setCell ⟨wA.heap.size, 1, none⟩ (.int .u64 y) := ⟨_, rfl⟩
  have s1 : W.cell? ⟨wA.heap.size, 0, none⟩ = some (.int .u64 x) := by subst hW; go_simp
  have s2 : W.cell? ⟨wA.heap.size, 1, none⟩ = some (.int .u64 y) := by subst hW; go_simp
  have s3 : W.cell? ⟨w.heap.size, 0, none⟩ = some (.int .u64 ah) := by subst hW; go_simp
  have s4 : W.cell? ⟨w.heap.size, 1, none⟩ = some (.int .u64 al) := by subst hW; go_simp
  have s5 : W.cell? ⟨w.heap.size + 1, 0, none⟩ = some (.int .u64 bh) := by subst hW; go_simp
  have s6 : W.cell? ⟨w.heap.size + 1, 1, none⟩ = some (.int .u64 bl) := by subst hW; go_simp
  have s7 : (W.cell? ⟨w.heap.size + 1 + 1, 0, none⟩) = some (.int .u64 0) := by subst hW; go_simp
  have s8 : (W.cell? ⟨w.heap.size + 1 + 1, 1, none⟩) = some (.int .u64 0) := by subst hW; go_simp
  have f7 : (W.frozen? ⟨w.heap.size + 1 + 1, 0, none⟩) = false := by subst hW; go_simp
  have f8 : (W.frozen? ⟨w.heap.size + 1 + 1, 1, none⟩) = false := by subst hW; go_simp
  have hz : wA.heap.size < W.heap.size := by subst hW; simp; omega
  have hBel : Below w.heap.size w W := by
    subst hW
    refine Below.setCell (Below.setCell ?_ (by simp; omega) _) (by simp; omega) _
    refine Below.trans ?_ (hbB.mono (by simp; omega))
    refine Below.alloc ?_ (by omega) _
    refine Below.trans ?_ (hbA.mono (by simp; omega))
    refine Below.alloc ?_ (by simp; omega) _
    refine Below.alloc ?_ (by simp; omega) _
    refine Below.alloc ?_ (by simp) _
    exact Below.alloc (Below.refl _ _) (Nat.le_refl _) _
  rw [← hW]
  clear hW hcA hfA hcB hfB hbA hbB
  go_region_held3 (fun w' => w'.cell? ⟨wA.heap.size, 0, none⟩ = some (.int .u64 x) ∧ w'.cell? ⟨wA.heap.size, 1, none⟩ = some (.int .u64 y) ∧ w'.cell? ⟨w.heap.size, 0, none⟩ = some (.int .u64 ah) ∧ w'.cell? ⟨w.heap.size, 1, none⟩ = some (.int .u64 al) ∧ w'.cell? ⟨w.heap.size + 1, 0, none⟩ = some (.int .u64 bh) ∧ w'.cell? ⟨w.heap.size + 1, 1, none⟩ = some (.int .u64 bl)) (go_simp)
    (first
      | (go_at_call 84; refine (less_any ah al bh bl w1 w2 w3 w4 _).mono ?_; rintro e wC ⟨rfl, hbC⟩; have t1 := cell_later hbC s1; have t2 := cell_later hbC s2; have t3 := cell_later hbC s3; have t4 := cell_later hbC s4; have t5 := cell_later hbC s5; have t6 := cell_later hbC s6; have t7 := cell_later hbC s7; have t8 := cell_later hbC s8; have u7 := (bcell hbC).2 (w.heap.size + 1 + 1) 0 (by simp; omega); have u8 := (bcell hbC).2 (w.heap.size + 1 + 1) 1 (by simp; omega)))
  go_wp2
  refine bodyPost_ret (v := .tuple #[.agg #[.int .u64 x, .int .u64 y], .bool (belowB (wval ah al - wval bh bl))]) (by simp [results, Try.results85, go_sem, t7, t8]) rfl ⟨by rw [HX.out, HY.out], ?_⟩
  exact Below.setCell (Below.setCell ((Below.drew hBel).trans (hbC.mono (by simp; omega))) (by simp; omega) _) (by simp; omega) _
end Go.Proofs.Ytbdfmnlfdhhnjaa

/-
  Walks: the reference's Times.
-/
namespace Go.Proofs.Ytbdfmnlfdhhnjaa
set_option linter.unusedVariables false
open Go.RowKit Go.Shelf

/-- What the reference's product has come to, behind so many of its two middle parts. -/
def tmsTo (a b : Int) (k : Nat) : Int :=
  if k = 0 then wval (a / 4294967296 * (b / 4294967296)) (a % 4294967296 * (b % 4294967296))
  else if k = 1 then wval (a / 4294967296 * (b / 4294967296)) (a % 4294967296 * (b % 4294967296)) + (a / 4294967296 * (b % 4294967296)) * 4294967296
  else a * b
theorem tms0 (a b : Int) : tmsTo a b 0 = wval (a / 4294967296 * (b / 4294967296)) (a % 4294967296 * (b % 4294967296)) := rfl
theorem tms1 (a b : Int) : tmsTo a b 0 + (a / 4294967296 * (b % 4294967296)) * 4294967296 = tmsTo a b 1 := rfl
theorem tms2 (a b : Int) : tmsTo a b 1 + (a % 4294967296 * (b / 4294967296)) * 4294967296 = tmsTo a b 2 := times_parts a b
theorem tmsE (a b : Int) : tmsTo a b 2 = a * b := rfl

set_option maxHeartbeats 400000 in
theorem rtimes_any (a b : Int) (wa : Word a) (wb : Word b) (w : World) :
    Calls Try.prog 72 #[.int .u64 a, .int .u64 b] w fun e w' =>
      e = .returned (.agg #[.int .u64 (hiW (a * b)), .int .u64 (loW (a * b))]) ∧ Below w.heap.size w w' := by
  obtain ⟨a1, a2⟩ := wa
  obtain ⟨b1, b2⟩ := wb
  obtain ⟨p1, p2⟩ := half_mul (x := a / 4294967296) (y := b / 4294967296) (by omega) (by omega) (by omega) (by omega)
  obtain ⟨q1, q2⟩ := half_mul (x := a % 4294967296) (y := b % 4294967296) (by omega) (by omega) (by omega) (by omega)
  obtain ⟨r1, r2⟩ := half_mul (x := a / 4294967296) (y := b % 4294967296) (by omega) (by omega) (by omega) (by omega)
  obtain ⟨s1, s2⟩ := half_mul (x := a % 4294967296) (y := b / 4294967296) (by omega) (by omega) (by omega) (by omega)
  have E0 := Lib.hid (tms0 a b); have E1 := Lib.hid (tms1 a b); have E2 := Lib.hid (tms2 a b)
  go_enter Try.func72, Try.ntmps72
  go_wp2_with fail
  generalize a / 4294967296 * (b % 4294967296) = m0 at *
  generalize a % 4294967296 * (b / 4294967296) = m1 at *
  generalize a / 4294967296 * (b / 4294967296) = x0 at *
  generalize a % 4294967296 * (b % 4294967296) = y0 at *
  have X0 : hiW (tmsTo a b 0) = x0 := by rw [E0.out]; exact hi_wval ⟨by omega, by omega⟩ ⟨by omega, by omega⟩
  have Y0 : loW (tmsTo a b 0) = y0 := by rw [E0.out]; exact lo_wval ⟨by omega, by omega⟩
  have HX0 := Lib.hid X0; have HY0 := Lib.hid Y0
  clear X0 Y0 E0
  go_loopw [35] (fun i wr => ∃ k : Nat, k ≤ 2 ∧ i = .int .i64 k ∧
      wr.cell? ⟨w.heap.size + 1, 0, none⟩ = some (.int .u64 (hiW (tmsTo a b k))) ∧ wr.cell? ⟨w.heap.size + 1, 1, none⟩ = some (.int .u64 (loW (tmsTo a b k))) ∧
      wr.cell? ⟨w.heap.size, 0, none⟩ = some (.int .u64 0) ∧ wr.cell? ⟨w.heap.size, 1, none⟩ = some (.int .u64 0) ∧
      wr.cell? ⟨w.heap.size + 1 + 1, 0, none⟩ = some (.int .u64 m0) ∧ wr.cell? ⟨w.heap.size + 1 + 1, 1, none⟩ = some (.int .u64 m1) ∧
      wr.frozen? ⟨w.heap.size + 1, 0, none⟩ = false ∧ wr.frozen? ⟨w.heap.size + 1, 1, none⟩ = false ∧ wr.frozen? ⟨w.heap.size, 0, none⟩ = false ∧ wr.frozen? ⟨w.heap.size, 1, none⟩ = false ∧
      w.heap.size + 1 + 1 < wr.heap.size ∧ Below w.heap.size w wr) (fun i _ => 2 - (intOf i).toNat)
  case atStart => exact ⟨0, Nat.zero_le _, rfl, by go_simp; rw [HX0.out], by go_simp; rw [HY0.out], by go_simp, by go_simp, by go_simp, by go_simp, by go_simp, by go_simp, by go_simp, by go_simp, by simp, (((Below.refl _ _).alloc (Nat.le_refl _) _).alloc (by simp) _).alloc (by simp; omega) _⟩
  case round =>
    obtain ⟨k, hk, rfl, c1, c2, c3, c4, c5, c6, f1, f2, f3, f4, hz, hb⟩ := hrel
    have hz0 : w.heap.size < wr.heap.size := by omega
    have hz1 : w.heap.size + 1 < wr.heap.size := by omega
    have k3 : k = 0 ∨ k = 1 ∨ k = 2 := by omega
    rcases k3 with rfl | rfl | rfl
    · clear E2
      go_wp2_with fail
      refine (rwadd_any (hiW (tmsTo a b 0)) (loW (tmsTo a b 0)) _ _ (word_hi _) (word_lo _) ⟨by omega, by omega⟩ ⟨by omega, by omega⟩ _).mono ?_
      rintro e wA ⟨rfl, hbA⟩
      have d1 := cell_later hbA c1; have d2 := cell_later hbA c2; have d3 := cell_later hbA c3; have d4 := cell_later hbA c4; have d5 := cell_later hbA c5; have d6 := cell_later hbA c6
      have g1 := ((bcell hbA).2 (w.heap.size + 1) 0 (by omega)).trans f1; have g2 := ((bcell hbA).2 (w.heap.size + 1) 1 (by omega)).trans f2; have g3 := ((bcell hbA).2 w.heap.size 0 (by omega)).trans f3; have g4 := ((bcell hbA).2 w.heap.size 1 (by omega)).trans f4
      have hbS := hbA.size
      clear c1 c2 c3 c4 c5 c6 f1 f2 f3 f4
      go_wp2_with fail
      go_roundw
      case rel =>
        refine ⟨1, by omega, rfl, by go_simp; rw [shift_wval, hi_add, E1.out], by go_simp; rw [shift_wval, lo_add, E1.out], by go_simp, by go_simp, by go_simp, by go_simp, by go_simp, by go_simp, by go_simp, by go_simp, by simp; omega, ?_⟩
        exact (((hb.trans (hbA.mono (by omega))).setCell (p := ⟨w.heap.size + 1, 0, none⟩) (Nat.le_succ _) _).setCell (p := ⟨w.heap.size + 1, 1, none⟩) (Nat.le_succ _) _)
      case measure => simp [intOf]
    · clear E1
      go_wp2_with fail
      refine (rwadd_any (hiW (tmsTo a b 1)) (loW (tmsTo a b 1)) _ _ (word_hi _) (word_lo _) ⟨by omega, by omega⟩ ⟨by omega, by omega⟩ _).mono ?_
      rintro e wA ⟨rfl, hbA⟩
      have d1 := cell_later hbA c1; have d2 := cell_later hbA c2; have d3 := cell_later hbA c3; have d4 := cell_later hbA c4; have d5 := cell_later hbA c5; have d6 := cell_later hbA c6
      have g1 := ((bcell hbA).2 (w.heap.size + 1) 0 (by omega)).trans f1; have g2 := ((bcell hbA).2 (w.heap.size + 1) 1 (by omega)).trans f2; have g3 := ((bcell hbA).2 w.heap.size 0 (by omega)).trans f3; have g4 := ((bcell hbA).2 w.heap.size 1 (by omega)).trans f4
      have hbS := hbA.size
      clear c1 c2 c3 c4 c5 c6 f1 f2 f3 f4
      go_wp2_with fail
      go_roundw
      case rel =>
        refine ⟨2, by omega, rfl, by go_simp; rw [shift_wval, hi_add, E2.out], by go_simp; rw [shift_wval, lo_add, E2.out], by go_simp, by go_simp, by go_simp, by go_simp, by go_simp, by go_simp, by go_simp, by go_simp, by simp; omega, ?_⟩
        exact (((hb.trans (hbA.mono (by omega))).setCell (p := ⟨w.heap.size + 1, 0, none⟩) (Nat.le_succ _) _).setCell (p := ⟨w.heap.size + 1, 1, none⟩) (Nat.le_succ _) _)
      case measure => simp [intOf]
    · go_wp2_with fail
      refine bodyPost_ret (v := .agg #[.int .u64 (hiW (tmsTo a b 2)), .int .u64 (loW (tmsTo a b 2))]) (by simp [results, Try.results72, go_sem, c3, c4]) rfl ⟨by rw [tmsE], ?_⟩
      exact (hb.setCell (p := ⟨w.heap.size, 0, none⟩) (Nat.le_refl _) _).setCell (p := ⟨w.heap.size, 1, none⟩) (Nat.le_refl _) _
end Go.Proofs.Ytbdfmnlfdhhnjaa

/-
  Walks: the reference's Double, Bit, Over, Ceil.
-/
namespace Go.Proofs.Ytbdfmnlfdhhnjaa
set_option linter.unusedVariables false
open Go.RowKit Go.Shelf

set_option maxHeartbeats 400000 in
theorem double_any (h l : Int) (wh : Word h) (wl : Word l) (w : World) :
    Calls Try.prog 82 #[.agg #[.int .u64 h, .int .u64 l]] w fun e w' =>
      e = .returned (.tuple #[.agg #[.int .u64 (hiW (wval h l + wval h l)), .int .u64 (loW (wval h l + wval h l))], .bool (carryB (wval h l + wval h l))]) ∧ Below w.heap.size w w' := by
  go_enter Try.func82, Try.ntmps82
  go_wp2_with fail
  refine (rwadd_any h l h l wh wl wh wl _).mono ?_
  rintro e wA ⟨rfl, hbA⟩
  have d1 := (bcell hbA).1 (w.heap.size + 1) 0 (by simp)
  have d2 := (bcell hbA).1 (w.heap.size + 1) 1 (by simp)
  have f1 := (bcell hbA).2 (w.heap.size + 1) 0 (by simp)
  have f2 := (bcell hbA).2 (w.heap.size + 1) 1 (by simp)
  have hz : w.heap.size + 1 + 1 ≤ wA.heap.size := by have := hbA.size; simp at this; omega
  go_wp2_with fail
  refine bodyPost_ret (v := .tuple #[.agg #[.int .u64 (hiW (wval h l + wval h l)), .int .u64 (loW (wval h l + wval h l))], .bool (carryB (wval h l + wval h l))]) (by simp [results, Try.results82, go_sem, d1, d2]) rfl ⟨rfl, ?_⟩
  have k := ((((Below.refl w.heap.size w).alloc (Nat.le_refl _) (.cells #[.int .u64 h, .int .u64 l] 107)).alloc (by simp) (.cells #[.int .u64 0, .int .u64 0] 107)).trans (hbA.mono (by simp; omega)))
  exact (k.setCell (p := ⟨w.heap.size + 1, 0, none⟩) (Nat.le_succ _) _).setCell (p := ⟨w.heap.size + 1, 1, none⟩) (Nat.le_succ _) _

/-- The same, of a number that two words tell. -/
theorem double_num (n : Int) (h0 : 0 ≤ n) (h1 : n < 340282366920938463463374607431768211456) (w : World) :
    Calls Try.prog 82 #[.agg #[.int .u64 (hiW n), .int .u64 (loW n)]] w fun e w' =>
      e = .returned (.tuple #[.agg #[.int .u64 (hiW (n + n)), .int .u64 (loW (n + n))], .bool (carryB (n + n))]) ∧ Below w.heap.size w w' := by
  have h := double_any (hiW n) (loW n) (word_hi n) (word_lo n) w
  rw [wval_split h0 h1] at h
  exact h
theorem less_num (n y : Int) (h0 : 0 ≤ n) (h1 : n < 340282366920938463463374607431768211456) (wy : Word y) (w : World) :
    Calls Try.prog 84 #[.agg #[.int .u64 (hiW n), .int .u64 (loW n)], .agg #[.int .u64 0, .int .u64 y]] w fun e w' =>
      e = .returned (.bool (decide (n < y))) ∧ Below w.heap.size w w' := by
  have h := less_any (hiW n) (loW n) 0 y (word_hi n) (word_lo n) (by unfold Word; omega) wy w
  have e : belowB (wval (hiW n) (loW n) - wval 0 y) = decide (n < y) := by
    rw [wval_split h0 h1]; unfold belowB wval; apply decide_eq_decide.2; omega
  rw [e] at h
  exact h
theorem rsub_num (n y : Int) (h0 : 0 ≤ n) (h1 : n < 340282366920938463463374607431768211456) (wy : Word y) (w : World) :
    Calls Try.prog 85 #[.agg #[.int .u64 (hiW n), .int .u64 (loW n)], .agg #[.int .u64 0, .int .u64 y]] w fun e w' =>
      e = .returned (.tuple #[.agg #[.int .u64 (hiW (n - y)), .int .u64 (loW (n - y))], .bool (belowB (n - y))]) ∧ Below w.heap.size w w' := by
  have h := rsub_any (hiW n) (loW n) 0 y (word_hi n) (word_lo n) (by unfold Word; omega) wy w
  have e : wval (hiW n) (loW n) - wval 0 y = n - y := by
    rw [wval_split h0 h1]; unfold wval; omega
  rw [e] at h
  exact h
/-- A step of the long division, bit by bit. -/
theorem ov_step {M y : Int} (hy : 0 < y) :
    (M / 2 % y + M / 2 % y + M % 2 < y → M % y = M / 2 % y + M / 2 % y + M % 2 ∧ M / y = M / 2 / y + M / 2 / y) ∧
    (¬ M / 2 % y + M / 2 % y + M % 2 < y → M % y = M / 2 % y + M / 2 % y + M % 2 - y ∧ M / y = M / 2 / y + M / 2 / y + 1) := by
  have h1 := Int.ediv_mul_add_emod (M / 2) y
  have h2 := Int.emod_nonneg (M / 2) (show y ≠ 0 by omega)
  have h3 := Int.emod_lt_of_pos (M / 2) hy
  generalize M / 2 % y = R at *
  generalize M / 2 / y = Q at *
  constructor
  · intro h
    have := (Int.ediv_emod_unique (a := M) (r := R + R + M % 2) (q := Q + Q) hy).2 ⟨by
      rw [Int.mul_add, Int.mul_comm y Q]; generalize Q * y = a at *; omega, by omega, h⟩
    exact ⟨this.2, this.1⟩
  · intro h
    have := (Int.ediv_emod_unique (a := M) (r := R + R + M % 2 - y) (q := Q + Q + 1) hy).2 ⟨by
      rw [Int.mul_add, Int.mul_add, Int.mul_comm y Q]; generalize Q * y = a at *; omega, by omega, by omega⟩
    exact ⟨this.2, this.1⟩
theorem ov_big {n y : Int} (h0 : 0 ≤ n) (h1 : n < 340282366920938463463374607431768211456) (hy : 0 < y) (h : 0 < hiW (n / y)) : ovQ n y = 0 ∧ ovR n y = 0 ∧ ovB n y = false := by
  have a := Int.ediv_nonneg h0 (show 0 ≤ y by omega)
  have b := Int.ediv_le_self y h0
  have e : ovB n y = false := by
    unfold ovB; apply decide_eq_false; unfold hiW at h; omega
  refine ⟨?_, ?_, e⟩
  · unfold ovQ; rw [e]; rfl
  · unfold ovR; rw [e]; rfl
theorem ov_small {n y : Int} (h0 : 0 ≤ n) (h1 : n < 340282366920938463463374607431768211456) (hy : 0 < y) (hy1 : y < 18446744073709551616) (h : ¬ 0 < hiW (n / y)) : ovQ n y = loW (n / y) ∧ ovR n y = loW (n % y) ∧ ovB n y = true := by
  have a := Int.ediv_nonneg h0 (show 0 ≤ y by omega)
  have b := Int.ediv_le_self y h0
  have c := Int.emod_nonneg n (show y ≠ 0 by omega)
  have d := Int.emod_lt_of_pos n hy
  have e : ovB n y = true := by
    unfold ovB; apply decide_eq_true; unfold hiW at h; omega
  refine ⟨?_, ?_, e⟩
  · unfold ovQ; rw [if_pos e]; unfold hiW at h; unfold loW; omega
  · unfold ovR; rw [if_pos e]; unfold loW; omega
theorem hi_bit {n b : Int} (hb : 0 ≤ b) (hb' : b ≤ 1) : hiW (n + n) = hiW (n + n + b) := by unfold hiW; omega
theorem lo_bit {n b : Int} (hb : 0 ≤ b) (hb' : b ≤ 1) : loW (n + n) + b = loW (n + n + b) := by unfold loW; omega
theorem lo_even (n : Int) : loW (n + n) ≤ 18446744073709551614 := by unfold loW; omega

theorem bit_lo {h l : Int} {k : Nat} (hk : k < 64) (wh : Word h) : l / 2 ^ k % 2 = wval h l / 2 ^ k % 2 := by
  unfold wval
  have e : (18446744073709551616 : Int) = 2 * 2 ^ (63 - k) * 2 ^ k := by
    rw [Int.mul_assoc, ← Int.pow_add, show 63 - k + k = 63 by omega]; rfl
  have hp : (0 : Int) < 2 ^ k := Int.pow_pos (by omega)
  rw [e, ← Int.mul_assoc, Int.add_comm, Int.add_mul_ediv_right _ _ (by omega), ← Int.mul_assoc, Int.mul_comm h 2, Int.mul_assoc]
  omega
theorem bit_hi {h l : Int} {k : Nat} (hk : ¬ k < 64) (wl : Word l) : h / 2 ^ (k - 64) % 2 = wval h l / 2 ^ k % 2 := by
  have e : (2 : Int) ^ k = 18446744073709551616 * 2 ^ (k - 64) := by
    have : (2 : Int) ^ (64 + (k - 64)) = 2 ^ 64 * 2 ^ (k - 64) := Int.pow_add ..
    rw [show 64 + (k - 64) = k by omega, show (2 : Int) ^ 64 = 18446744073709551616 by rfl] at this
    exact this
  have e2 : wval h l / 18446744073709551616 = h := by unfold wval; unfold Word at wl; omega
  rw [e, ← Int.ediv_ediv_of_nonneg (by omega), e2]

set_option maxHeartbeats 400000 in
theorem bit_any (h l : Int) (k : Nat) (wh : Word h) (wl : Word l) (hk : k < 128) (w : World) :
    Calls Try.prog 83 #[.agg #[.int .u64 h, .int .u64 l], .int .i64 (k : Int)] w fun e w' =>
      e = .returned (.int .u64 (wval h l / 2 ^ k % 2)) ∧ Below w.heap.size w w' := by
  by_cases h64 : k < 64
  · have E := Lib.hid (bit_lo (l := l) h64 wh)
    obtain ⟨l0, l1⟩ := wl
    have hp : (0 : Int) < 2 ^ k := Int.pow_pos (by omega)
    have g0 : 0 ≤ l / 2 ^ k := Int.ediv_nonneg l0 (by omega)
    go_enter Try.func83, Try.ntmps83
    go_wp2_with fail
    refine bodyPost_ret (v := .int .u64 (l / 2 ^ k % 2)) (by simp [results, Try.results83, go_sem]) rfl ⟨by rw [E.out], ?_⟩
    exact (Below.refl _ _).alloc (Nat.le_refl _) _
  · have E := Lib.hid (bit_hi (h := h) h64 wl)
    obtain ⟨h0, h1⟩ := wh
    have hp : (0 : Int) < 2 ^ (k - 64) := Int.pow_pos (by omega)
    have g0 : 0 ≤ h / 2 ^ (k - 64) := Int.ediv_nonneg h0 (by omega)
    go_enter Try.func83, Try.ntmps83
    go_wp2_with fail
    refine bodyPost_ret (v := .int .u64 (h / 2 ^ (k - 64) % 2)) (by simp [results, Try.results83, go_sem]) rfl ⟨by rw [E.out], ?_⟩
    exact (Below.refl _ _).alloc (Nat.le_refl _) _

/-- The memory of the reference's Over: the number, the divisor, what rests, the quotient. -/
structure OvW (B : Nat) (W w : World) (h l y rh rl qh ql : Int) : Prop where
  a0 : w.cell? ⟨B, 0, none⟩ = some (.int .u64 h)
  a1 : w.cell? ⟨B, 1, none⟩ = some (.int .u64 l)
  d0 : w.cell? ⟨B + 1, 0, none⟩ = some (.int .u64 0)
  d1 : w.cell? ⟨B + 1, 1, none⟩ = some (.int .u64 y)
  r0 : w.cell? ⟨B + 1 + 1, 0, none⟩ = some (.int .u64 rh)
  r1 : w.cell? ⟨B + 1 + 1, 1, none⟩ = some (.int .u64 rl)
  q0 : w.cell? ⟨B + 1 + 1 + 1, 0, none⟩ = some (.int .u64 qh)
  q1 : w.cell? ⟨B + 1 + 1 + 1, 1, none⟩ = some (.int .u64 ql)
  fr0 : w.frozen? ⟨B + 1 + 1, 0, none⟩ = false
  fr1 : w.frozen? ⟨B + 1 + 1, 1, none⟩ = false
  fq0 : w.frozen? ⟨B + 1 + 1 + 1, 0, none⟩ = false
  fq1 : w.frozen? ⟨B + 1 + 1 + 1, 1, none⟩ = false
  sz : B + 1 + 1 + 1 < w.heap.size
  bel : Below B W w
theorem OvW.call {B : Nat} {W w w' : World} {h l y rh rl qh ql : Int} (s : OvW B W w h l y rh rl qh ql) (hb : Below w.heap.size w w') : OvW B W w' h l y rh rl qh ql := by
  have hz := s.sz
  have hs := hb.size
  exact ⟨cell_later hb s.a0, cell_later hb s.a1, cell_later hb s.d0, cell_later hb s.d1, cell_later hb s.r0, cell_later hb s.r1, cell_later hb s.q0, cell_later hb s.q1,
    ((bcell hb).2 _ _ (by omega)).trans s.fr0, ((bcell hb).2 _ _ (by omega)).trans s.fr1, ((bcell hb).2 _ _ (by omega)).trans s.fq0, ((bcell hb).2 _ _ (by omega)).trans s.fq1, by omega, s.bel.trans (hb.mono (by omega))⟩
theorem addr_far {b o b' o' : Nat} (h : b ≠ b') : (⟨b, o, none⟩ : Addr) ≠ ⟨b', o', none⟩ := fun e => h (Addr.mk.inj e).1
theorem addr_off {b o o' : Nat} (h : o ≠ o') : (⟨b, o, none⟩ : Addr) ≠ ⟨b, o', none⟩ := fun e => h (Addr.mk.inj e).2.1
theorem OvW.restLo {B : Nat} {W w : World} {h l y rh rl qh ql : Int} (s : OvW B W w h l y rh rl qh ql) (x : Int) : OvW B W (w.setCell ⟨B + 1 + 1, 1, none⟩ (.int .u64 x)) h l y rh x qh ql := by
  have hz := s.sz
  refine ⟨?_, ?_, ?_, ?_, ?_, ?_, ?_, ?_, ?_, ?_, ?_, ?_, ?_, ?_⟩
  · rw [World.cell?_setCell_other _ _ _ _ (addr_far (by omega))]; exact s.a0
  · rw [World.cell?_setCell_other _ _ _ _ (addr_far (by omega))]; exact s.a1
  · rw [World.cell?_setCell_other _ _ _ _ (addr_far (by omega))]; exact s.d0
  · rw [World.cell?_setCell_other _ _ _ _ (addr_far (by omega))]; exact s.d1
  · rw [World.cell?_setCell_other _ _ _ _ (addr_off (by omega))]; exact s.r0
  · exact World.cell?_setCell_same _ _ _ s.r1
  · rw [World.cell?_setCell_other _ _ _ _ (addr_far (by omega))]; exact s.q0
  · rw [World.cell?_setCell_other _ _ _ _ (addr_far (by omega))]; exact s.q1
  · rw [World.frozen?_setCell]; exact s.fr0
  · rw [World.frozen?_setCell]; exact s.fr1
  · rw [World.frozen?_setCell]; exact s.fq0
  · rw [World.frozen?_setCell]; exact s.fq1
  · simp [World.setCell]; omega
  · exact s.bel.setCell (p := ⟨B + 1 + 1, 1, none⟩) (by show B ≤ B + 1 + 1; omega) _
theorem OvW.restHi {B : Nat} {W w : World} {h l y rh rl qh ql : Int} (s : OvW B W w h l y rh rl qh ql) (x : Int) : OvW B W (w.setCell ⟨B + 1 + 1, 0, none⟩ (.int .u64 x)) h l y x rl qh ql := by
  have hz := s.sz
  refine ⟨?_, ?_, ?_, ?_, ?_, ?_, ?_, ?_, ?_, ?_, ?_, ?_, ?_, ?_⟩
  · rw [World.cell?_setCell_other _ _ _ _ (addr_far (by omega))]; exact s.a0
  · rw [World.cell?_setCell_other _ _ _ _ (addr_far (by omega))]; exact s.a1
  · rw [World.cell?_setCell_other _ _ _ _ (addr_far (by omega))]; exact s.d0
  · rw [World.cell?_setCell_other _ _ _ _ (addr_far (by omega))]; exact s.d1
  · exact World.cell?_setCell_same _ _ _ s.r0
  · rw [World.cell?_setCell_other _ _ _ _ (addr_off (by omega))]; exact s.r1
  · rw [World.cell?_setCell_other _ _ _ _ (addr_far (by omega))]; exact s.q0
  · rw [World.cell?_setCell_other _ _ _ _ (addr_far (by omega))]; exact s.q1
  · rw [World.frozen?_setCell]; exact s.fr0
  · rw [World.frozen?_setCell]; exact s.fr1
  · rw [World.frozen?_setCell]; exact s.fq0
  · rw [World.frozen?_setCell]; exact s.fq1
  · simp [World.setCell]; omega
  · exact s.bel.setCell (p := ⟨B + 1 + 1, 0, none⟩) (by show B ≤ B + 1 + 1; omega) _
theorem OvW.quoLo {B : Nat} {W w : World} {h l y rh rl qh ql : Int} (s : OvW B W w h l y rh rl qh ql) (x : Int) : OvW B W (w.setCell ⟨B + 1 + 1 + 1, 1, none⟩ (.int .u64 x)) h l y rh rl qh x := by
  have hz := s.sz
  refine ⟨?_, ?_, ?_, ?_, ?_, ?_, ?_, ?_, ?_, ?_, ?_, ?_, ?_, ?_⟩
  · rw [World.cell?_setCell_other _ _ _ _ (addr_far (by omega))]; exact s.a0
  · rw [World.cell?_setCell_other _ _ _ _ (addr_far (by omega))]; exact s.a1
  · rw [World.cell?_setCell_other _ _ _ _ (addr_far (by omega))]; exact s.d0
  · rw [World.cell?_setCell_other _ _ _ _ (addr_far (by omega))]; exact s.d1
  · rw [World.cell?_setCell_other _ _ _ _ (addr_far (by omega))]; exact s.r0
  · rw [World.cell?_setCell_other _ _ _ _ (addr_far (by omega))]; exact s.r1
  · rw [World.cell?_setCell_other _ _ _ _ (addr_off (by omega))]; exact s.q0
  · exact World.cell?_setCell_same _ _ _ s.q1
  · rw [World.frozen?_setCell]; exact s.fr0
  · rw [World.frozen?_setCell]; exact s.fr1
  · rw [World.frozen?_setCell]; exact s.fq0
  · rw [World.frozen?_setCell]; exact s.fq1
  · simp [World.setCell]; omega
  · exact s.bel.setCell (p := ⟨B + 1 + 1 + 1, 1, none⟩) (by show B ≤ B + 1 + 1 + 1; omega) _
theorem OvW.quoHi {B : Nat} {W w : World} {h l y rh rl qh ql : Int} (s : OvW B W w h l y rh rl qh ql) (x : Int) : OvW B W (w.setCell ⟨B + 1 + 1 + 1, 0, none⟩ (.int .u64 x)) h l y rh rl x ql := by
  have hz := s.sz
  refine ⟨?_, ?_, ?_, ?_, ?_, ?_, ?_, ?_, ?_, ?_, ?_, ?_, ?_, ?_⟩
  · rw [World.cell?_setCell_other _ _ _ _ (addr_far (by omega))]; exact s.a0
  · rw [World.cell?_setCell_other _ _ _ _ (addr_far (by omega))]; exact s.a1
  · rw [World.cell?_setCell_other _ _ _ _ (addr_far (by omega))]; exact s.d0
  · rw [World.cell?_setCell_other _ _ _ _ (addr_far (by omega))]; exact s.d1
  · rw [World.cell?_setCell_other _ _ _ _ (addr_far (by omega))]; exact s.r0
  · rw [World.cell?_setCell_other _ _ _ _ (addr_far (by omega))]; exact s.r1
  · exact World.cell?_setCell_same _ _ _ s.q0
  · rw [World.cell?_setCell_other _ _ _ _ (addr_off (by omega))]; exact s.q1
  · rw [World.frozen?_setCell]; exact s.fr0
  · rw [World.frozen?_setCell]; exact s.fr1
  · rw [World.frozen?_setCell]; exact s.fq0
  · rw [World.frozen?_setCell]; exact s.fq1
  · simp [World.setCell]; omega
  · exact s.bel.setCell (p := ⟨B + 1 + 1 + 1, 0, none⟩) (by show B ≤ B + 1 + 1 + 1; omega) _
theorem OvW.drew {B : Nat} {W w : World} {h l y rh rl qh ql : Int} (s : OvW B W w h l y rh rl qh ql) : OvW B W w.drew h l y rh rl qh ql :=
  ⟨s.a0, s.a1, s.d0, s.d1, s.r0, s.r1, s.q0, s.q1, s.fr0, s.fr1, s.fq0, s.fq1, s.sz, s.bel.drew⟩

set_option maxHeartbeats 400000 in
theorem rover_zero (h l : Int) (w : World) :
    Calls Try.prog 71 #[.agg #[.int .u64 h, .int .u64 l], .int .u64 0] w fun e w' =>
      e = .returned (.tuple #[.int .u64 0, .int .u64 0, .bool false]) ∧ Below w.heap.size w w' := by
  go_enter Try.func71, Try.ntmps71
  go_wp2_with fail
  refine bodyPost_ret (v := .tuple #[.int .u64 0, .int .u64 0, .bool false]) (by simp [results, Try.results71, go_sem]) rfl ⟨rfl, ?_⟩
  exact (Below.refl _ _).alloc (Nat.le_refl _) _

set_option maxHeartbeats 400000 in
theorem rover_more (h l y : Int) (wh : Word h) (wl : Word l) (wy : Word y) (hy : 0 < y) (w : World) :
    Calls Try.prog 71 #[.agg #[.int .u64 h, .int .u64 l], .int .u64 y] w fun e w' =>
      e = .returned (.tuple #[.int .u64 (ovQ (wval h l) y), .int .u64 (ovR (wval h l) y), .bool (ovB (wval h l) y)]) ∧ Below w.heap.size w w' := by
  have hy0 : (y == 0) = false := by simp; omega
  have hy1 := wy.2
  go_enter Try.func71, Try.ntmps71
  go_wp2_with fail
  go_loopw [10] (fun i wr => ∃ k : Nat, k ≤ 128 ∧ i = .int .i64 ((k : Int) - 1) ∧ OvW w.heap.size w wr h l y (hiW (wval h l / 2 ^ k % y)) (loW (wval h l / 2 ^ k % y)) (hiW (wval h l / 2 ^ k / y)) (loW (wval h l / 2 ^ k / y))) (fun i _ => (intOf i + 1).toNat)
  case atStart =>
    have hn := wval_bd wh wl
    have e : wval h l / 2 ^ 128 = 0 := by
      rw [show (2 : Int) ^ 128 = 340282366920938463463374607431768211456 by rfl]; omega
    have e1 : (0 : Int) % y = 0 := Int.zero_emod y
    have e2 : (0 : Int) / y = 0 := Int.zero_ediv y
    refine ⟨128, Nat.le_refl _, rfl, ?_⟩
    rw [e, e1, e2]
    exact ⟨by go_simp, by go_simp, by go_simp, by go_simp, by go_simp; decide, by go_simp; decide, by go_simp; decide, by go_simp; decide, by go_simp, by go_simp, by go_simp, by go_simp, by simp, ((((Below.refl _ _).alloc (Nat.le_refl _) _).alloc (by simp) _).alloc (by simp; omega) _).alloc (by simp; omega) _⟩
  case round =>
    obtain ⟨k, hk, rfl, S⟩ := hrel
    cases k with
    | zero =>
      obtain ⟨a0, a1, d0, d1, r0, r1, q0, q1, fr0, fr1, fq0, fq1, sz, bel⟩ := id S
      have e : wval h l / 2 ^ 0 = wval h l := by rw [Int.pow_zero, Int.ediv_one]
      rw [e] at *
      have hn := wval_bd wh wl
      have sz1 : w.heap.size + 1 < wr.heap.size := by omega
      have sz2 : w.heap.size + 1 + 1 < wr.heap.size := by omega
      clear S e
      by_cases hq : 0 < hiW (wval h l / y)
      · have E := Lib.hid (ov_big (n := wval h l) hn.1 hn.2 hy hq)
        go_wp2_with fail
        refine bodyPost_ret (v := .tuple #[.int .u64 0, .int .u64 0, .bool false]) (by simp [results, Try.results71, go_sem]) rfl ⟨by rw [E.out.1, E.out.2.1, E.out.2.2], ?_⟩
        exact bel
      · have E := Lib.hid (ov_small (n := wval h l) hn.1 hn.2 hy hy1 hq)
        go_wp2_with fail
        go_quiet (fail)
        go_wp2
        refine bodyPost_ret (v := .tuple #[.int .u64 (loW (wval h l / y)), .int .u64 (loW (wval h l % y)), .bool true]) (by simp [results, Try.results71, go_sem]) rfl ⟨by rw [E.out.1, E.out.2.1, E.out.2.2], ?_⟩
        exact below_drewN bel _
    | succ j =>
      have ej : ((j + 1 : Nat) : Int) - 1 = j := by omega
      rw [ej]
      have hn := wval_bd wh wl
      have hp : (0 : Int) < 2 ^ j := Int.pow_pos (by omega)
      have M0 : 0 ≤ wval h l / 2 ^ j := Int.ediv_nonneg hn.1 (by omega)
      have M1 : wval h l / 2 ^ j ≤ wval h l := Int.ediv_le_self _ hn.1
      have M2 : wval h l / 2 ^ j < 340282366920938463463374607431768211456 := by omega
      have hm : wval h l / 2 ^ (j + 1) = wval h l / 2 ^ j / 2 := by rw [Int.pow_succ, Int.ediv_ediv_of_nonneg (by omega)]
      rw [hm] at S
      clear hm M1 hn hp
      obtain ⟨t1, t2⟩ := ov_step (M := wval h l / 2 ^ j) hy
      have T1 := Lib.hid t1; have T2 := Lib.hid t2
      clear t1 t2
      have bit := bit_any h l j wh wl (by omega)
      generalize hM : wval h l / 2 ^ j = M at *
      have HM := Lib.hid hM
      clear hM
      have R0 := Int.emod_nonneg (M / 2) (show y ≠ 0 by omega)
      have R1 := Int.emod_lt_of_pos (M / 2) hy
      have Q0 := Int.ediv_nonneg (show 0 ≤ M / 2 by omega) (show 0 ≤ y by omega)
      have Q1 := Int.ediv_le_self y (show 0 ≤ M / 2 by omega)
      have b0 : 0 ≤ M % 2 := by omega
      have b1 : M % 2 ≤ 1 := by omega
      have Q2 : M / 2 / y < 170141183460469231731687303715884105728 := by omega
      clear M0 M2 Q1
      generalize M / 2 % y = R at *
      generalize M / 2 / y = Q at *
      generalize M % 2 = b at *
      have ev := lo_even R
      have ev0 := (word_lo (R + R)).1
      obtain ⟨a0, a1, d0, d1, r0, r1, q0, q1, fr0, fr1, fq0, fq1, sz, bel⟩ := id S
      have sz1 : w.heap.size + 1 < wr.heap.size := by omega
      have sz2 : w.heap.size + 1 + 1 < wr.heap.size := by omega
      have Bit := Lib.hid bit
      have hwr : IntKind.u64.wrap (loW (R + R) + b) = loW (R + R) + b := by rw [IntKind.wrap_u64]; omega
      have HW := Lib.hid hwr
      clear hwr
      clear bit
      go_wp2_with fail
      refine (double_num R R0 (by omega) _).mono ?_
      rintro e wA ⟨rfl, hbA⟩
      have SA := S.call hbA
      clear a0 a1 d0 d1 r0 r1 q0 q1 fr0 fr1 fq0 fq1 sz bel S hbA
      obtain ⟨a0, a1, d0, d1, r0, r1, q0, q1, fr0, fr1, fq0, fq1, sz, bel⟩ := id SA
      go_upto_region 10 with fail
      have SB := (SA.restHi (hiW (R + R))).restLo (loW (R + R))
      generalize (wA.setCell ⟨w.heap.size + 1 + 1, 0, none⟩ (.int .u64 (hiW (R + R)))).setCell ⟨w.heap.size + 1 + 1, 1, none⟩ (.int .u64 (loW (R + R))) = wB at *
      clear a0 a1 d0 d1 r0 r1 q0 q1 fr0 fr1 fq0 fq1 sz bel SA
      obtain ⟨a0, a1, d0, d1, r0, r1, q0, q1, fr0, fr1, fq0, fq1, sz, bel⟩ := id SB
      go_cut [31] (fun s wx => OvW w.heap.size w wx h l y (hiW (R + R)) (loW (R + R) + b) (hiW Q) (loW Q))
      case first =>
        go_region_with (go_at_call 83; refine (Bit.out _).mono ?_; rintro e wC ⟨rfl, hbC⟩; have SC := OvW.call SB.drew hbC; obtain ⟨a0, a1, d0, d1, r0, r1, q0, q1, fr0, fr1, fq0, fq1, sz, bel⟩ := id SC)
        all_goals (go_wp2_with fail; go_meet; rw [HW.out]; exact SC.restLo _)
      case rest =>
        clear a0 a1 d0 d1 r0 r1 q0 q1 fr0 fr1 fq0 fq1 sz bel SB Bit
        rename_i wC _
        have SC := hcut
        rw [lo_bit b0 b1, hi_bit b0 b1] at SC
        clear hcut ev ev0
        obtain ⟨a0, a1, d0, d1, r0, r1, q0, q1, fr0, fr1, fq0, fq1, sz, bel⟩ := id SC
        go_wp2_with fail
        refine (double_num Q Q0 (by omega) _).mono ?_
        rintro e wD ⟨rfl, hbD⟩
        have SD := SC.call hbD
        clear a0 a1 d0 d1 r0 r1 q0 q1 fr0 fr1 fq0 fq1 sz bel SC hbD
        obtain ⟨a0, a1, d0, d1, r0, r1, q0, q1, fr0, fr1, fq0, fq1, sz, bel⟩ := id SD
        go_upto_region 12 with fail
        have SE := (SD.quoHi (hiW (Q + Q))).quoLo (loW (Q + Q))
        generalize (wD.setCell ⟨w.heap.size + 1 + 1 + 1, 0, none⟩ (.int .u64 (hiW (Q + Q)))).setCell ⟨w.heap.size + 1 + 1 + 1, 1, none⟩ (.int .u64 (loW (Q + Q))) = wE at *
        clear a0 a1 d0 d1 r0 r1 q0 q1 fr0 fr1 fq0 fq1 sz bel SD
        obtain ⟨a0, a1, d0, d1, r0, r1, q0, q1, fr0, fr1, fq0, fq1, sz, bel⟩ := id SE
        go_wp2_with fail
        refine (less_num (R + R + b) y (by omega) (by omega) wy _).mono ?_
        rintro e wF ⟨rfl, hbF⟩
        have SF := SE.call hbF
        clear a0 a1 d0 d1 r0 r1 q0 q1 fr0 fr1 fq0 fq1 sz bel SE hbF
        obtain ⟨a0, a1, d0, d1, r0, r1, q0, q1, fr0, fr1, fq0, fq1, sz, bel⟩ := id SF
        by_cases hX : R + R + b < y
        · obtain ⟨g1, g2⟩ := T1.out (by omega)
          have G1 := Lib.hid g1; have G2 := Lib.hid g2
          clear g1 g2
          go_wp2_with fail
          go_roundw
          case rel => 
            refine ⟨j, by omega, rfl, ?_⟩
            rw [HM.out, G1.out, G2.out]
            exact SF
          case measure => simp [intOf]
        · obtain ⟨g1, g2⟩ := T2.out (by omega)
          have G1 := Lib.hid g1; have G2 := Lib.hid g2
          clear g1 g2
          have hXf : decide (R + R + b < y) = false := decide_eq_false hX
          go_wp2_with fail
          refine (rsub_num (R + R + b) y (by omega) (by omega) wy _).mono ?_
          rintro e wG ⟨rfl, hbG⟩
          have SG := SF.call hbG
          clear a0 a1 d0 d1 r0 r1 q0 q1 fr0 fr1 fq0 fq1 sz bel SF hbG
          obtain ⟨a0, a1, d0, d1, r0, r1, q0, q1, fr0, fr1, fq0, fq1, sz, bel⟩ := id SG
          have ev := lo_even Q
          have ev0 := (word_lo (Q + Q)).1
          have SH := ((SG.restHi (hiW (R + R + b - y))).restLo (loW (R + R + b - y))).quoLo (loW (Q + Q) + 1)
          rw [lo_bit (n := Q) (b := 1) (by omega) (by omega), hi_bit (n := Q) (b := 1) (by omega) (by omega)] at SH
          have HL := Lib.hid (lo_bit (n := Q) (b := 1) (by omega) (by omega))
          go_wp2_with fail
          go_roundw
          case rel =>
            refine ⟨j, by omega, rfl, ?_⟩
            rw [HM.out, G1.out, G2.out]
            rw [HL.out]
            exact SH
          case measure => simp [intOf]

/-- The reference's Over, of all numbers. -/
theorem rover_any (h l y : Int) (wh : Word h) (wl : Word l) (wy : Word y) (w : World) :
    Calls Try.prog 71 #[.agg #[.int .u64 h, .int .u64 l], .int .u64 y] w fun e w' =>
      e = .returned (.tuple #[.int .u64 (ovQ (wval h l) y), .int .u64 (ovR (wval h l) y), .bool (ovB (wval h l) y)]) ∧ Below w.heap.size w w' := by
  by_cases hy : y = 0
  · subst hy
    have e : ovB (wval h l) 0 = false := by unfold ovB; apply decide_eq_false; omega
    have e1 : ovQ (wval h l) 0 = 0 := by unfold ovQ; rw [e]; rfl
    have e2 : ovR (wval h l) 0 = 0 := by unfold ovR; rw [e]; rfl
    rw [e, e1, e2]
    exact rover_zero h l w
  · exact rover_more h l y wh wl wy (by have := wy.1; omega) w
theorem rover_num (n y : Int) (h0 : 0 ≤ n) (h1 : n < 340282366920938463463374607431768211456) (wy : Word y) (w : World) :
    Calls Try.prog 71 #[.agg #[.int .u64 (hiW n), .int .u64 (loW n)], .int .u64 y] w fun e w' =>
      e = .returned (.tuple #[.int .u64 (ovQ n y), .int .u64 (ovR n y), .bool (ovB n y)]) ∧ Below w.heap.size w w' := by
  have h := rover_any (hiW n) (loW n) y (word_hi n) (word_lo n) wy w
  rw [wval_split h0 h1] at h
  exact h

end Go.Proofs.Ytbdfmnlfdhhnjaa

/-
  wide.Compare and the reference's Less, of numbers below 2^128; what a held region keeps.
-/
namespace Go.Proofs.Ytbdfmnlfdhhnjaa
set_option linter.unusedVariables false
open Go.RowKit Go.Shelf

theorem less_two (x y : Int) (x0 : 0 ≤ x) (x1 : x < 340282366920938463463374607431768211456) (y0 : 0 ≤ y) (y1 : y < 340282366920938463463374607431768211456) (w : World) :
    Calls Try.prog 84 #[.agg #[.int .u64 (hiW x), .int .u64 (loW x)], .agg #[.int .u64 (hiW y), .int .u64 (loW y)]] w fun e w' =>
      e = .returned (.bool (decide (x < y))) ∧ Below w.heap.size w w' := by
  have h := less_any (hiW x) (loW x) (hiW y) (loW y) (word_hi x) (word_lo x) (word_hi y) (word_lo y) w
  rw [wval_split x0 x1, wval_split y0 y1] at h
  have e : belowB (x - y) = decide (x < y) := by unfold belowB; apply decide_eq_decide.2; omega
  rw [e] at h
  exact h

theorem cmp_neg (x y : Int) : decide (cmpW x y < 0) = decide (x < y) := by
  unfold cmpW; apply decide_eq_decide.2; split <;> (try split) <;> omega

/-- Two cells of one block, and the world below, behind a callee that makes memory. -/
theorem keep2 {B : Nat} {W w w' : World} {x y : Value} (h : w.cell? ⟨B, 0, none⟩ = some x ∧ w.cell? ⟨B, 1, none⟩ = some y ∧ Below W.heap.size W w) (hb : Below w.heap.size w w') :
    w'.cell? ⟨B, 0, none⟩ = some x ∧ w'.cell? ⟨B, 1, none⟩ = some y ∧ Below W.heap.size W w' :=
  ⟨cell_later hb h.1, cell_later hb h.2.1, h.2.2.trans (hb.mono h.2.2.size)⟩
theorem keep2_bel {B : Nat} {W w : World} {x y : Value} (h : w.cell? ⟨B, 0, none⟩ = some x ∧ w.cell? ⟨B, 1, none⟩ = some y ∧ Below W.heap.size W w) : Below W.heap.size W w := h.2.2
end Go.Proofs.Ytbdfmnlfdhhnjaa

/-
  Walks: wide.Less, the reference's Fewer.
-/
namespace Go.Proofs.Ytbdfmnlfdhhnjaa
set_option linter.unusedVariables false
open Go.RowKit Go.Shelf

/-- Whether a fraction is less than another one. -/
def fewB (an ad bn bd : Int) : Bool := if ad = 0 then false else if bd = 0 then true else decide (an * bd < bn * ad)
theorem few_a {an bn bd : Int} : fewB an 0 bn bd = false := by unfold fewB; rw [if_pos rfl]
theorem few_b {an ad bn : Int} (h : ¬ ad = 0) : fewB an ad bn 0 = true := by unfold fewB; rw [if_neg h, if_pos rfl]
theorem few_c {an ad bn bd : Int} (h : ¬ ad = 0) (h' : ¬ bd = 0) : fewB an ad bn bd = decide (an * bd < bn * ad) := by unfold fewB; rw [if_neg h, if_neg h']

theorem held_keep {B : Nat} {W w w' : World} {an ad bn bd : Int} (h : w.cell? ⟨B, 0, none⟩ = some (.int .u64 an) ∧ w.cell? ⟨B, 1, none⟩ = some (.int .u64 ad) ∧ w.cell? ⟨B + 1, 0, none⟩ = some (.int .u64 bn) ∧ w.cell? ⟨B + 1, 1, none⟩ = some (.int .u64 bd) ∧ Below W.heap.size W w) (hb : Below w.heap.size w w') :
    w'.cell? ⟨B, 0, none⟩ = some (.int .u64 an) ∧ w'.cell? ⟨B, 1, none⟩ = some (.int .u64 ad) ∧ w'.cell? ⟨B + 1, 0, none⟩ = some (.int .u64 bn) ∧ w'.cell? ⟨B + 1, 1, none⟩ = some (.int .u64 bd) ∧ Below W.heap.size W w' :=
  ⟨cell_later hb h.1, cell_later hb h.2.1, cell_later hb h.2.2.1, cell_later hb h.2.2.2.1, h.2.2.2.2.trans (hb.mono h.2.2.2.2.size)⟩

theorem held_bel {B : Nat} {W w : World} {an ad bn bd : Int} (h : w.cell? ⟨B, 0, none⟩ = some (.int .u64 an) ∧ w.cell? ⟨B, 1, none⟩ = some (.int .u64 ad) ∧ w.cell? ⟨B + 1, 0, none⟩ = some (.int .u64 bn) ∧ w.cell? ⟨B + 1, 1, none⟩ = some (.int .u64 bd) ∧ Below W.heap.size W w) : Below W.heap.size W w := h.2.2.2.2

/-! What the law says of the order. -/
theorem few_self (an ad : Int) : fewB an ad an ad = false := by
  unfold fewB
  split
  · rfl
  · simp
theorem few_anti {an ad bn bd : Int} (wad : Word ad) (wbd : Word bd) (h : fewB an ad bn bd = true) : fewB bn bd an ad = false := by
  unfold fewB at *
  by_cases h1 : ad = 0
  · rw [if_pos h1] at h; cases h
  · rw [if_neg h1] at h
    by_cases h2 : bd = 0
    · rw [if_pos h2]
    · rw [if_neg h2] at h ⊢
      rw [if_neg h1]
      rw [decide_eq_true_iff] at h
      apply decide_eq_false
      omega
theorem few_trans {an ad bn bd cn cd : Int} (wa : Word an) (wad : Word ad) (wb : Word bn) (wbd : Word bd) (wc : Word cn) (wcd : Word cd) (h : fewB an ad bn bd = true) (k : fewB bn bd cn cd = true) : fewB an ad cn cd = true := by
  unfold fewB at *
  by_cases h1 : ad = 0
  · rw [if_pos h1] at h; cases h
  · rw [if_neg h1] at h ⊢
    by_cases h3 : cd = 0
    · rw [if_pos h3]
    · rw [if_neg h3] at k ⊢
      by_cases h2 : bd = 0
      · rw [if_pos h2] at k; cases k
      · rw [if_neg h2] at h k
        rw [decide_eq_true_iff] at *
        have pa : 0 < ad := by have := wad.1; omega
        have pb : 0 < bd := by have := wbd.1; omega
        have pc : 0 < cd := by have := wcd.1; omega
        have e1 := Int.mul_lt_mul_of_pos_right h pc
        have e2 := Int.mul_lt_mul_of_pos_right k pa
        have e3 : an * cd * bd < cn * ad * bd := by
          have x1 : an * bd * cd = an * cd * bd := by rw [Int.mul_assoc, Int.mul_comm bd, ← Int.mul_assoc]
          have x2 : bn * ad * cd = bn * cd * ad := by rw [Int.mul_assoc, Int.mul_comm ad, ← Int.mul_assoc]
          have x3 : cn * bd * ad = cn * ad * bd := by rw [Int.mul_assoc, Int.mul_comm bd, ← Int.mul_assoc]
          rw [x1, x2] at e1; rw [x3] at e2; omega
        exact Int.lt_of_mul_lt_mul_right e3 (by omega)
end Go.Proofs.Ytbdfmnlfdhhnjaa

/-
  Walks: the reference's Ceil, wide.Log, wide.Plus, the laws' alive.
-/
namespace Go.Proofs.Ytbdfmnlfdhhnjaa
set_option linter.unusedVariables false
open Go.RowKit Go.Shelf

theorem cl_no {n y : Int} (h : ovB n y = false) : clB n y = false ∧ clQ n y = 0 := by
  have e : clB n y = false := by unfold clB; rw [h]; rfl
  exact ⟨e, by unfold clQ; rw [e]; rfl⟩
theorem cl_full {n y : Int} (h : ovB n y = true) (hr : 0 < ovR n y) (hq : ovQ n y = 18446744073709551615) : clB n y = false ∧ clQ n y = 0 := by
  have e : clB n y = false := by unfold clB; rw [h, decide_eq_true hr, hq]; rfl
  exact ⟨e, by unfold clQ; rw [e]; rfl⟩
theorem cl_up {n y : Int} (h : ovB n y = true) (hr : 0 < ovR n y) (hq : ¬ ovQ n y = 18446744073709551615) : clB n y = true ∧ clQ n y = ovQ n y + 1 := by
  have e : clB n y = true := by unfold clB; rw [h, decide_eq_true hr]; simp [hq]
  exact ⟨e, by unfold clQ; rw [if_pos e, if_pos hr]⟩

set_option maxHeartbeats 1000000 in
theorem rceil_any (a b y : Int) (wa : Word a) (wb : Word b) (wy : Word y) (w : World) :
    Calls Try.prog 51 #[.int .u64 a, .int .u64 b, .int .u64 y] w fun e w' =>
      e = .returned (.tuple #[.int .u64 (clQ (a * b) y), .bool (clB (a * b) y)]) ∧ Below w.heap.size w w' := by
  obtain ⟨n0, n1⟩ := mul_bd wa wb
  obtain ⟨⟨q0, q1⟩, ⟨r0, r1⟩⟩ := ov_word (n := a * b) n0 wy
  by_cases ho : ovB (a * b) y = true
  · by_cases hr : 0 < ovR (a * b) y
    · by_cases hq : ovQ (a * b) y = 18446744073709551615
      · have E := Lib.hid (cl_full ho hr hq)
        have hq0 : (ovQ (a * b) y == 18446744073709551615) = true := by simp [hq]
        clear hq
        go_enter Try.func51, Try.ntmps51
        go_wp2_with fail
        refine (rtimes_any a b wa wb _).mono ?_
        rintro e wA ⟨rfl, hbA⟩
        go_wp2_with fail
        refine (rover_num (a * b) y n0 n1 wy _).mono ?_
        rintro e wB ⟨rfl, hbB⟩
        go_wp2_with fail
        refine bodyPost_ret (v := .tuple #[.int .u64 0, .bool false]) (by simp [results, Try.results51, go_sem]) rfl ⟨by rw [E.out.1, E.out.2], ?_⟩
        exact hbA.trans (hbB.mono hbA.size)
      · have E := Lib.hid (cl_up ho hr hq)
        have hq0 : (ovQ (a * b) y == 18446744073709551615) = false := by simp [hq]
        have hq1 : ovQ (a * b) y + 1 < 18446744073709551616 := by omega
        clear hq
        go_enter Try.func51, Try.ntmps51
        go_wp2_with fail
        refine (rtimes_any a b wa wb _).mono ?_
        rintro e wA ⟨rfl, hbA⟩
        go_wp2_with fail
        refine (rover_num (a * b) y n0 n1 wy _).mono ?_
        rintro e wB ⟨rfl, hbB⟩
        go_wp2_with fail
        refine bodyPost_ret (v := .tuple #[.int .u64 (ovQ (a * b) y + 1), .bool true]) (by simp [results, Try.results51, go_sem]) rfl ⟨by rw [E.out.1, E.out.2], ?_⟩
        exact hbA.trans (hbB.mono hbA.size)
    · have E := Lib.hid (cl_zero (n := a * b) (y := y) (by omega))
      go_enter Try.func51, Try.ntmps51
      go_wp2_with fail
      refine (rtimes_any a b wa wb _).mono ?_
      rintro e wA ⟨rfl, hbA⟩
      go_wp2_with fail
      refine (rover_num (a * b) y n0 n1 wy _).mono ?_
      rintro e wB ⟨rfl, hbB⟩
      go_wp2_with fail
      refine bodyPost_ret (v := .tuple #[.int .u64 (ovQ (a * b) y), .bool true]) (by simp [results, Try.results51, go_sem]) rfl ⟨by rw [E.out.1, E.out.2, ho], ?_⟩
      exact hbA.trans (hbB.mono hbA.size)
  · have ho' : ovB (a * b) y = false := by simpa using ho
    have E := Lib.hid (cl_no ho')
    clear ho
    go_enter Try.func51, Try.ntmps51
    go_wp2_with fail
    refine (rtimes_any a b wa wb _).mono ?_
    rintro e wA ⟨rfl, hbA⟩
    go_wp2_with fail
    refine (rover_num (a * b) y n0 n1 wy _).mono ?_
    rintro e wB ⟨rfl, hbB⟩
    go_wp2_with fail
    refine bodyPost_ret (v := .tuple #[.int .u64 0, .bool false]) (by simp [results, Try.results51, go_sem]) rfl ⟨by rw [E.out.1, E.out.2], ?_⟩
    exact hbA.trans (hbB.mono hbA.size)

theorem ceil_712 (w : World) : Calls Try.prog 58 #[.int .u64 7, .int .u64 1, .int .u64 2] w fun e w' =>
      e = .returned (.tuple #[.int .u64 4, .bool true]) ∧ Below w.heap.size w w' := by
  have h := ceil_any 7 1 2 (by unfold Word; omega) (by unfold Word; omega) (by unfold Word; omega) w
  rw [show clQ (7 * 1) 2 = 4 by decide, show clB (7 * 1) 2 = true by decide] at h
  exact h
theorem times_634 (w : World) : Calls Try.prog 76 #[.int .u64 9223372036854775808, .int .u64 4] w fun e w' =>
      e = .returned (.agg #[.int .u64 2, .int .u64 0]) ∧ Below w.heap.size w w' := by
  have h := times_any 9223372036854775808 4 (by unfold Word; omega) (by unfold Word; omega) w
  rw [show hiW (9223372036854775808 * 4) = 2 by decide, show loW (9223372036854775808 * 4) = 0 by decide] at h
  exact h

set_option maxHeartbeats 400000 in
theorem plus_nil (cap : Nat) (w : World) : Calls Try.prog 63 #[.slice none 0 cap] w fun e w' =>
      e = .returned (.tuple #[.int .u64 0, .bool true]) ∧ w = w' := by
  go_enter Try.func63, Try.ntmps63
  go_wp2_with fail
  go_loop [4, 9] (fun s i => s = .int .u64 0 ∧ i = .int .i64 0) (fun _ _ => 0)
  case atStart => exact ⟨rfl, rfl⟩
  case round =>
    obtain ⟨rfl, rfl⟩ := hrel
    go_wp2_with fail
    exact bodyPost_ret (v := .tuple #[.int .u64 0, .bool true]) (by simp [results, Try.results63, go_sem]) rfl ⟨rfl, rfl⟩

set_option maxHeartbeats 400000 in
theorem plus_any (xs : List Int) (b off cap : Nat) (w : World) (hm : xs.length ≤ maxLen) (hw : ∀ x ∈ xs, Word x)
    (hcell : ∀ i x, xs[i]? = some x → w.cell? ⟨b, off + i, none⟩ = some (.int .u64 x)) :
    Calls Try.prog 63 #[.slice (some ⟨b, off, none⟩) xs.length cap] w fun e w' =>
      e = .returned (.tuple #[.int .u64 (plQ xs), .bool (plB xs)]) ∧ w = w' := by
  unfold maxLen at hm
  have hpos : ∀ x ∈ xs, 0 ≤ x := fun x hx => (hw x hx).1
  have Hpos := Lib.hid hpos
  have Hw := Lib.hid hw
  have Hcell := Lib.hid hcell
  clear hpos hw hcell
  go_enter Try.func63, Try.ntmps63
  go_wp2_with fail
  go_loop [4, 9] (fun s i => ∃ k : Nat, k ≤ xs.length ∧ i = .int .i64 k ∧ s = .int .u64 (sumI (xs.take k)) ∧ sumI (xs.take k) ≤ 9223372036854775807) (fun _ i => xs.length - (intOf i).toNat)
  case atStart => exact ⟨0, Nat.zero_le _, rfl, rfl, by simp [sumI]⟩
  case round =>
    obtain ⟨k, hk, rfl, rfl, hs⟩ := hrel
    have s0 : 0 ≤ sumI (xs.take k) := sumI_nonneg (fun x hx => Hpos.out x (List.mem_of_mem_take hx))
    by_cases hlt : k < xs.length
    · obtain ⟨x, hx⟩ : ∃ x, xs[k]? = some x := ⟨_, List.getElem?_eq_getElem hlt⟩
      have e1 := Hcell.out k x hx
      have HS := Lib.hid (sumI_take hx)
      obtain ⟨x0, x1⟩ := Hw.out x (List.mem_of_getElem? hx)
      have HM := Lib.hid (sumI_mono Hpos.out (k + 1))
      clear hx
      generalize sumI (xs.take k) = s at *
      by_cases hg : 9223372036854775807 - s < x
      · have e : plB xs = false := by
          have a := HS.out; have b := HM.out
          unfold plB; apply decide_eq_false; omega
        have e2 : plQ xs = 0 := by unfold plQ; rw [e]; rfl
        have E := Lib.hid e; have E2 := Lib.hid e2
        clear e e2
        go_wp2_with fail
        exact bodyPost_ret (v := .tuple #[.int .u64 0, .bool false]) (by simp [results, Try.results63, go_sem]) rfl ⟨by rw [E.out, E2.out], rfl⟩
      · go_wp2_with fail
        go_round
        case rel => exact ⟨k + 1, by omega, by go_num, by rw [HS.out], by rw [HS.out]; omega⟩
        case measure => simp [intOf]; omega
    · obtain rfl : k = xs.length := by omega
      rw [List.take_length] at *
      have e : plB xs = true := by unfold plB; exact decide_eq_true hs
      have e2 : plQ xs = sumI xs := by unfold plQ; rw [if_pos e]
      have E := Lib.hid e; have E2 := Lib.hid e2
      clear e e2
      go_wp2_with fail
      exact bodyPost_ret (v := .tuple #[.int .u64 (sumI xs), .bool true]) (by simp [results, Try.results63, go_sem]) rfl ⟨by rw [E.out, E2.out], rfl⟩
end Go.Proofs.Ytbdfmnlfdhhnjaa

/-
  Walks: share.Place and the reference's; what places are.
-/
namespace Go.Proofs.Ytbdfmnlfdhhnjaa
set_option linter.unusedVariables false
set_option linter.unusedSimpArgs false
open Go.RowKit

/-- The place that a part asks for, of so many; the error's number. -/
def plV (a b n : Int) : Int := if gdB a b = true ∧ ¬ n = 0 then (if clQ (a * n) b < 1 then 1 else clQ (a * n) b) else 0
def plE (a b n : Int) : Int := if gdB a b = true then (if n = 0 then 5 else 0) else 1
theorem pl_bad {a b n : Int} (h : gdB a b = false) : plV a b n = 0 ∧ plE a b n = 1 := by
  unfold plV plE; rw [h]; simp
theorem pl_none {a b : Int} (h : gdB a b = true) : plV a b 0 = 0 ∧ plE a b 0 = 5 := by
  unfold plV plE; rw [h]; simp
theorem pl_good {a b n : Int} (h : gdB a b = true) (hn : ¬ n = 0) : plV a b n = (if clQ (a * n) b < 1 then 1 else clQ (a * n) b) ∧ plE a b n = 0 := by
  unfold plV plE; rw [h]; simp [hn]

/-- Rounded up, of a part that can be. -/
theorem cl_spec {a b n : Int} (wa : Word a) (wb : Word b) (wn : Word n) (h : gdB a b = true) :
    a * n ≤ clQ (a * n) b * b ∧ (clQ (a * n) b - 1) * b < a * n ∧ 0 ≤ clQ (a * n) b ∧ clQ (a * n) b ≤ n := by
  obtain ⟨hb, hab⟩ := gd_iff.1 h
  obtain ⟨a0, a1⟩ := wa; obtain ⟨b0, b1⟩ := wb; obtain ⟨n0, n1⟩ := wn
  have bp : 0 < b := by omega
  have N0 : 0 ≤ a * n := Int.mul_nonneg a0 n0
  have hle : a * n ≤ n * b := by rw [Int.mul_comm n b]; exact Int.mul_le_mul_of_nonneg_right hab n0
  have hd := Int.ediv_mul_add_emod (a * n) b
  have hr0 := Int.emod_nonneg (a * n) hb
  have hr1 := Int.emod_lt_of_pos (a * n) bp
  have hq0 := Int.ediv_nonneg N0 (show 0 ≤ b by omega)
  have hqn : a * n / b ≤ n := Int.ediv_le_of_le_mul bp hle
  have hov : ovB (a * n) b = true := by unfold ovB; apply decide_eq_true; exact ⟨bp, by omega⟩
  have eQ : ovQ (a * n) b = a * n / b := by unfold ovQ; rw [if_pos hov]
  have eR : ovR (a * n) b = a * n % b := by unfold ovR; rw [if_pos hov]
  by_cases hz : a * n % b = 0
  · have e : clQ (a * n) b = a * n / b := by rw [(cl_zero (by rw [eR]; exact hz)).2, eQ]
    rw [e]
    generalize a * n / b = q at *
    generalize a * n % b = r at *
    rw [Int.sub_mul]
    omega
  · have hlt : a * n / b < n := by
      rcases Int.lt_or_eq_of_le hqn with h1 | h1
      · exact h1
      · rw [h1] at hd; omega
    have e : clQ (a * n) b = a * n / b + 1 := by
      rw [(cl_up hov (by rw [eR]; omega) (by rw [eQ]; omega)).2, eQ]
    rw [e]
    generalize a * n / b = q at *
    generalize a * n % b = r at *
    rw [Int.sub_mul, Int.add_mul]
    omega

/-- Places are from 1 to n. -/
theorem pl_spec {a b n : Int} (wa : Word a) (wb : Word b) (wn : Word n) (h : gdB a b = true) (hn : ¬ n = 0) :
    1 ≤ plV a b n ∧ plV a b n ≤ n ∧ a * n ≤ plV a b n * b ∧ (plV a b n = 1 ∨ (plV a b n - 1) * b < a * n) := by
  obtain ⟨h1, h2, h3, h4⟩ := cl_spec wa wb wn h
  obtain ⟨hb, hab⟩ := gd_iff.1 h
  rw [(pl_good h hn).1]
  have n0 := wn.1
  have bp : 0 < b := by have := wb.1; omega
  generalize clQ (a * n) b = c at *
  split
  · rename_i hc
    have : c = 0 := by omega
    subst this
    refine ⟨by omega, by omega, by omega, Or.inl rfl⟩
  · exact ⟨by omega, h4, h1, Or.inr h2⟩
theorem pl_word {a b n : Int} (wa : Word a) (wb : Word b) (wn : Word n) : Word (plV a b n) := by
  by_cases h : gdB a b = true ∧ ¬ n = 0
  · have := pl_spec wa wb wn h.1 h.2
    exact ⟨by omega, by have := wn.2; omega⟩
  · unfold plV; rw [if_neg h]; exact ⟨by omega, by omega⟩
/-- The whole asks for the last one. -/
theorem pl_whole {a b n : Int} (wb : Word b) (wn : Word n) (h : gdB a b = true) (hn : ¬ n = 0) : plV b b n = n := by
  obtain ⟨hb, hab⟩ := gd_iff.1 h
  have hg : gdB b b = true := gd_iff.2 ⟨hb, Int.le_refl _⟩
  obtain ⟨h1, h2, h3, h4⟩ := pl_spec wb wb wn hg hn
  have bp : 0 < b := by have := wb.1; omega
  rw [Int.mul_comm b n] at h3
  have := Int.le_of_mul_le_mul_right h3 bp
  omega
/-- They rise with the part. -/
theorem pl_rise {a b c d n : Int} (wa : Word a) (wb : Word b) (wc : Word c) (wd : Word d) (wn : Word n) (h : gdB a b = true) (h' : gdB c d = true) (hn : ¬ n = 0) (hlt : plV a b n < plV c d n) : fewB a b c d = true := by
  obtain ⟨hb, hab⟩ := gd_iff.1 h
  obtain ⟨hd, hcd⟩ := gd_iff.1 h'
  obtain ⟨p1, p2, p3, p4⟩ := pl_spec wa wb wn h hn
  obtain ⟨q1, q2, q3, q4⟩ := pl_spec wc wd wn h' hn
  have bp : 0 < b := by have := wb.1; omega
  have dp : 0 < d := by have := wd.1; omega
  have np : 0 < n := by have := wn.1; omega
  have q5 : (plV c d n - 1) * d < c * n := by
    rcases q4 with q4 | q4
    · omega
    · exact q4
  rw [few_c hb hd]
  apply decide_eq_true
  generalize plV a b n = t at *
  generalize plV c d n = u at *
  have e1 : a * n * d ≤ t * b * d := Int.mul_le_mul_of_nonneg_right p3 (by omega)
  have e2 : t * (b * d) ≤ (u - 1) * (b * d) := Int.mul_le_mul_of_nonneg_right (by omega) (Int.mul_nonneg (by omega) (by omega))
  have e3 : (u - 1) * d * b < c * n * b := Int.mul_lt_mul_of_pos_right q5 bp
  have e4 : a * d * n < c * b * n := by
    have x1 : a * n * d = a * d * n := by rw [Int.mul_assoc, Int.mul_comm n, ← Int.mul_assoc]
    have x2 : t * b * d = t * (b * d) := Int.mul_assoc ..
    have x3 : (u - 1) * d * b = (u - 1) * (b * d) := by rw [Int.mul_assoc, Int.mul_comm d]
    have x4 : c * n * b = c * b * n := by rw [Int.mul_assoc, Int.mul_comm n, ← Int.mul_assoc]
    omega
  exact Int.lt_of_mul_lt_mul_right e4 (by omega)
/-- Fewer than the part of all lie ahead of the place. -/
theorem pl_ahead {a b n : Int} (wa : Word a) (wb : Word b) (wn : Word n) (h : gdB a b = true) (hn : ¬ n = 0) (ht : ¬ plV a b n = 1) : fewB (plV a b n - 1) n a b = true := by
  obtain ⟨hb, hab⟩ := gd_iff.1 h
  obtain ⟨p1, p2, p3, p4⟩ := pl_spec wa wb wn h hn
  rw [few_c hn hb]
  apply decide_eq_true
  rcases p4 with p4 | p4
  · omega
  · exact p4
theorem pl_upto {a b n : Int} (wa : Word a) (wb : Word b) (wn : Word n) (h : gdB a b = true) (hn : ¬ n = 0) : fewB (plV a b n) n a b = false := by
  obtain ⟨hb, hab⟩ := gd_iff.1 h
  obtain ⟨p1, p2, p3, p4⟩ := pl_spec wa wb wn h hn
  rw [few_c hn hb]
  apply decide_eq_false
  omega
/-- The same part in its least numbers asks for the same place. -/
theorem cl_least {a b n g : Int} (wa : Word a) (wb : Word b) (wn : Word n) (hg : g = gcdI a b) (h : gdB a b = true) : gdB (a / g) (b / g) = true ∧ plV (a / g) (b / g) n = plV a b n ∧ plE (a / g) (b / g) n = plE a b n := by
  obtain ⟨hb, hab⟩ := gd_iff.1 h
  have hg0 : ¬ g = 0 := by
    intro e; rw [hg] at e
    exact hb ((gcd_none wa.1 wb.1).1 e).2
  have gw := gcd_word wa wb
  rw [← hg] at gw
  have gp : 0 < g := by have := gw.1; omega
  have e1 := (div_exact hg wa.1 hg0).1
  have e2 := (div_exact2 hg wb.1 hg0).1
  have w1 : Word (a / g) := ⟨Int.ediv_nonneg wa.1 gw.1, by have := Int.ediv_le_self g wa.1; have := wa.2; omega⟩
  have w2 : Word (b / g) := ⟨Int.ediv_nonneg wb.1 gw.1, by have := Int.ediv_le_self g wb.1; have := wb.2; omega⟩
  have hG : gdB (a / g) (b / g) = true := by
    refine gd_iff.2 ⟨?_, Int.ediv_le_ediv gp hab⟩
    intro e; rw [e] at e2; omega
  refine ⟨hG, ?_, ?_⟩
  · by_cases hn : n = 0
    · subst hn; rw [(pl_none hG).1, (pl_none h).1]
    · have c1 := cl_spec wa wb wn h
      have c2 := cl_spec w1 w2 wn hG
      have E : clQ (a / g * n) (b / g) = clQ (a * n) b := by
        obtain ⟨x1, x2, x3, x4⟩ := c1
        obtain ⟨y1, y2, y3, y4⟩ := c2
        generalize clQ (a / g * n) (b / g) = u at *
        generalize clQ (a * n) b = t at *
        have f1 : a / g * n * g = a * n := by rw [Int.mul_assoc, Int.mul_comm n, ← Int.mul_assoc, e1]
        have f2 : u * (b / g) * g = u * b := by rw [Int.mul_assoc, e2]
        have f3 : (u - 1) * (b / g) * g = (u - 1) * b := by rw [Int.mul_assoc, e2]
        have z1 := Int.mul_le_mul_of_nonneg_right y1 (show 0 ≤ g by omega)
        have z2 := Int.mul_lt_mul_of_pos_right y2 gp
        rw [f1, f2] at z1
        rw [f1, f3] at z2
        have bp : 0 < b := by have := wb.1; omega
        have k1 : u - 1 < t := Int.lt_of_mul_lt_mul_right (show (u - 1) * b < t * b by omega) (by omega)
        have k2 : t - 1 < u := Int.lt_of_mul_lt_mul_right (show (t - 1) * b < u * b by omega) (by omega)
        omega
      rw [(pl_good hG hn).1, (pl_good h hn).1, E]
  · unfold plE; rw [hG, h]

theorem ret_place {x y a b : Int} (h : a = x) (h' : b = y) : Ending.returned (.tuple #[.int .u64 a, .int .i64 b]) = .returned (.tuple #[.int .u64 x, .int .i64 y]) := by rw [h, h']

set_option maxHeartbeats 1000000 in
theorem place_any (a b n : Int) (wa : Word a) (wb : Word b) (wn : Word n) (w : World) :
    Calls Try.prog 36 #[.agg #[.int .u64 a, .int .u64 b], .int .u64 n] w fun e w' =>
      e = .returned (.tuple #[.int .u64 (plV a b n), .int .i64 (plE a b n)]) ∧ Below w.heap.size w w' := by
  cases hg : gdB a b with
  | false =>
    have E := Lib.hid (pl_bad (n := n) hg)
    have G := Lib.hid hg
    clear hg
    go_enter Try.func36, Try.ntmps36
    go_wp2_with fail
    refine (good_any a b wa wb _).mono ?_
    rw [G.out]
    rintro e wA ⟨rfl, hbA⟩
    go_wp2_with fail
    go_ret2
    exact ⟨ret_place E.out.1.symm E.out.2.symm, ((Below.refl _ _).alloc (Nat.le_refl _) _).trans (hbA.mono (by simp))⟩
  | true =>
    by_cases hn : n = 0
    · subst hn
      have E := Lib.hid (pl_none hg)
      have G := Lib.hid hg
      clear hg
      go_enter Try.func36, Try.ntmps36
      go_wp2_with fail
      refine (good_any a b wa wb _).mono ?_
      rw [G.out]
      rintro e wA ⟨rfl, hbA⟩
      go_wp2_with fail
      go_ret2
      exact ⟨ret_place E.out.1.symm E.out.2.symm, ((Below.refl _ _).alloc (Nat.le_refl _) _).trans (hbA.mono (by simp))⟩
    · have E := Lib.hid (pl_good hg hn)
      have hn0 : (n == 0) = false := by simp [hn]
      have G := Lib.hid hg
      have c0 := (cl_spec wa wb wn hg).2.2.1
      clear hg hn
      go_enter Try.func36, Try.ntmps36
      go_wp2_with fail
      have c1 : (w.alloc (.cells #[.int .u64 a, .int .u64 b] 27)).cell? ⟨w.heap.size, 0, none⟩ = some (.int .u64 a) := by go_simp
      have c2 : (w.alloc (.cells #[.int .u64 a, .int .u64 b] 27)).cell? ⟨w.heap.size, 1, none⟩ = some (.int .u64 b) := by go_simp
      refine (good_any a b wa wb _).mono ?_
      rw [G.out]
      rintro e wA ⟨rfl, hbA⟩
      have d1 := cell_later hbA c1
      have d2 := cell_later hbA c2
      have hBA := ((Below.refl _ _).alloc (Nat.le_refl _) _).trans (hbA.mono (by simp))
      clear c1 c2 hbA
      go_wp2_with fail
      refine (ceil_any a n b wa wn wb _).mono ?_
      rintro e wB ⟨rfl, hbB⟩
      generalize clQ (a * n) b = c at *
      go_wp2_with fail
      go_ret2
      refine ⟨ret_place ?_ E.out.2.symm, hBA.trans (hbB.mono hBA.size)⟩
      rw [E.out.1]
      split <;> omega

set_option maxHeartbeats 1000000 in
theorem rplace_any (a b n : Int) (wa : Word a) (wb : Word b) (wn : Word n) (w : World) :
    Calls Try.prog 31 #[.agg #[.int .u64 a, .int .u64 b], .int .u64 n] w fun e w' =>
      e = .returned (.tuple #[.int .u64 (plV a b n), .int .i64 (plE a b n)]) ∧ Below w.heap.size w w' := by
  cases hg : gdB a b with
  | false =>
    have E := Lib.hid (pl_bad (n := n) hg)
    have G := Lib.hid hg
    clear hg
    go_enter Try.func31, Try.ntmps31
    go_wp2_with fail
    refine (rgood_any a b wa wb _).mono ?_
    rw [G.out]
    rintro e wA ⟨rfl, hbA⟩
    go_wp2_with fail
    go_ret2
    exact ⟨ret_place E.out.1.symm E.out.2.symm, ((Below.refl _ _).alloc (Nat.le_refl _) _).trans (hbA.mono (by simp))⟩
  | true =>
    by_cases hn : n = 0
    · subst hn
      have E := Lib.hid (pl_none hg)
      have G := Lib.hid hg
      clear hg
      go_enter Try.func31, Try.ntmps31
      go_wp2_with fail
      refine (rgood_any a b wa wb _).mono ?_
      rw [G.out]
      rintro e wA ⟨rfl, hbA⟩
      go_wp2_with fail
      go_ret2
      exact ⟨ret_place E.out.1.symm E.out.2.symm, ((Below.refl _ _).alloc (Nat.le_refl _) _).trans (hbA.mono (by simp))⟩
    · have E := Lib.hid (pl_good hg hn)
      have hn0 : (n == 0) = false := by simp [hn]
      have G := Lib.hid hg
      have c0 := (cl_spec wa wb wn hg).2.2.1
      clear hg hn
      go_enter Try.func31, Try.ntmps31
      go_wp2_with fail
      have c1 : (w.alloc (.cells #[.int .u64 a, .int .u64 b] 27)).cell? ⟨w.heap.size, 0, none⟩ = some (.int .u64 a) := by go_simp
      have c2 : (w.alloc (.cells #[.int .u64 a, .int .u64 b] 27)).cell? ⟨w.heap.size, 1, none⟩ = some (.int .u64 b) := by go_simp
      refine (rgood_any a b wa wb _).mono ?_
      rw [G.out]
      rintro e wA ⟨rfl, hbA⟩
      have d1 := cell_later hbA c1
      have d2 := cell_later hbA c2
      have hBA := ((Below.refl _ _).alloc (Nat.le_refl _) _).trans (hbA.mono (by simp))
      clear c1 c2 hbA
      go_wp2_with fail
      refine (rceil_any a n b wa wn wb _).mono ?_
      rintro e wB ⟨rfl, hbB⟩
      generalize clQ (a * n) b = c at *
      by_cases hc : c = 0
      · subst hc
        go_wp2_with fail
        go_ret2
        exact ⟨ret_place (by rw [E.out.1]; rfl) E.out.2.symm, hBA.trans (hbB.mono hBA.size)⟩
      · have hc0 : (c == 0) = false := by simp [hc]
        go_wp2_with fail
        go_ret2
        exact ⟨ret_place (by rw [E.out.1, if_neg (by omega)]) E.out.2.symm, hBA.trans (hbB.mono hBA.size)⟩
end Go.Proofs.Ytbdfmnlfdhhnjaa

/-
  The reference's Quantile of layer 21.
-/
namespace Go.Proofs.Ytbdfmnlfdhhnjaa
set_option linter.unusedVariables false
set_option linter.unusedSimpArgs false
open Go.RowKit

/-! ### Plain -/
/-- A better value, or not. -/
def stepQ (R : List (List Int)) (pl b x : Int) : Int := if x < b ∧ pl ≤ rankR x R then x else b
def bestQ (R : List (List Int)) (pl : Int) : Int := R.flatten.foldl (stepQ R pl) 9223372036854775807
/-- What Quantile answers, and the error's number. -/
def quanT (pa pb : Int) (R : List (List Int)) : Int × Int := if plE pa pb (wtR R) = 0 then (bestQ R (plV pa pb (wtR R)), 0) else (0, plE pa pb (wtR R))
theorem flat_take {R : List (List Int)} {i : Nat} {r : List Int} (h : R[i]? = some r) : (R.take (i + 1)).flatten = (R.take i).flatten ++ r := by
  rw [List.take_add_one, h, List.flatten_append]; simp
theorem take_one {L : List Int} {j : Nat} {x : Int} (h : L[j]? = some x) : L.take (j + 1) = L.take j ++ [x] := by rw [List.take_add_one, h]; rfl
theorem plE_nn (a b n : Int) : 0 ≤ plE a b n := by unfold plE; split; split <;> omega; omega

set_option maxRecDepth 100000 in
set_option maxHeartbeats 8000000 in
theorem rquan21_any (w : World) (M : Nat) (B word : Int) (u : Nat) (hv : Value) (R : List RowI) (pa pb : Int) (ht : RefT w M B word u hv R) (wa : Word pa) (wb : Word pb) (hR : R.length ≤ 20) (hne : R ≠ []) (hl : ∀ r, r ∈ R → r.l.length ≤ 20000) :
    Calls Try.prog 14 #[.pointer (some ⟨M, 0, none⟩), .agg #[.int .u64 pa, .int .u64 pb]] w fun e w' => e = .returned (.tuple #[.int .i64 (quanT pa pb (lsI R)).1, .int .i64 (quanT pa pb (lsI R)).2]) ∧ Below w.heap.size w w' := by
  have HT := Lib.hid ht
  have HL := Lib.hid hl
  have HNE := Lib.hid hne
  obtain ⟨n, hn⟩ : ∃ n, R.length = n := ⟨_, rfl⟩
  have hn1 : 1 ≤ n := by
    cases R with
    | nil => exact absurd rfl hne
    | cons a b => rw [← hn]; simp
  obtain ⟨G, cap, rfl, _, _, hcap⟩ := ht.head.some_ (by rw [hn]; exact hn1)
  rw [hn] at HT hcap
  have HN := Lib.hid hn
  have HC3 := Lib.hid HT.out.c3
  obtain ⟨T, hT⟩ : ∃ T, wtR (lsI R) = T := ⟨_, rfl⟩
  have hTb : 0 ≤ T ∧ T ≤ 20971520000 := by
    obtain ⟨r1, r2⟩ := rank_bd 9223372036854775807 20000 (R := lsI R) fun r hr => by
      obtain ⟨q, hq, rfl⟩ := List.mem_map.1 hr
      have := hl q hq
      omega
    have e : rankR 9223372036854775807 (lsI R) = wtR (lsI R) := rank_all fun r hr y hy => by
      obtain ⟨q, hq, rfl⟩ := List.mem_map.1 hr
      exact ((ht.row q hq).1.ok y hy).2
    have hp : 2 ^ (lsI R).length ≤ 2 ^ 20 := Nat.pow_le_pow_right (by decide) (by rw [ls_len]; omega)
    rw [e, hT] at r1 r2
    refine ⟨r1, ?_⟩
    omega
  have CT := Lib.hid (fun W (hb : Below w.heap.size w W) => rtotal21_any W M B word u _ R (HT.out.call hb) hR hne hl)
  rw [hT] at CT
  have HPL := Lib.hid (fun W => rplace_any pa pb T wa wb (by unfold Word; omega) W)
  have hwt := pl_word (n := T) wa wb (by unfold Word; omega)
  have hc' := plE_nn pa pb T
  have HQ : Hid (quanT pa pb (lsI R) = if plE pa pb T = 0 then (bestQ (lsI R) (plV pa pb T), 0) else (0, plE pa pb T)) := Lib.hid (by unfold quanT; rw [hT])
  obtain ⟨t, htt⟩ : ∃ t, plV pa pb T = t := ⟨_, rfl⟩
  obtain ⟨ec, hec⟩ : ∃ ec, plE pa pb T = ec := ⟨_, rfl⟩
  rw [htt, hec] at HQ HPL
  rw [htt] at hwt
  rw [hec] at hc'
  have CR := Lib.hid (fun W (hb : Below w.heap.size w W) x hx => rrank21_any W M B word u _ R x (HT.out.call hb) hx hR hne hl)
  have HBW := Lib.hid (((Below.refl w.heap.size w).alloc (Nat.le_refl _) (.cells #[.int .u64 pa, .int .u64 pb] 27)).drew)
  have HS0 : Hid ((w.alloc (.cells #[.int .u64 pa, .int .u64 pb] 27)).drew.cell? ⟨w.heap.size, 0, none⟩ = some (.int .u64 pa) ∧ (w.alloc (.cells #[.int .u64 pa, .int .u64 pb] 27)).drew.cell? ⟨w.heap.size, 1, none⟩ = some (.int .u64 pb) ∧ Below w.heap.size w (w.alloc (.cells #[.int .u64 pa, .int .u64 pb] 27)).drew) := Lib.hid ⟨by go_simp, by go_simp, HBW.out⟩
  have HST := Lib.hid (fun (W W' : World) (h : W.cell? ⟨w.heap.size, 0, none⟩ = some (.int .u64 pa) ∧ W.cell? ⟨w.heap.size, 1, none⟩ = some (.int .u64 pb) ∧ Below w.heap.size w W) (hb : Below W.heap.size W W') => (⟨cell_later hb h.1, cell_later hb h.2.1, h.2.2.trans (hb.mono h.2.2.size)⟩ : W'.cell? ⟨w.heap.size, 0, none⟩ = some (.int .u64 pa) ∧ W'.cell? ⟨w.heap.size, 1, none⟩ = some (.int .u64 pb) ∧ Below w.heap.size w W'))
  obtain ⟨F, hF⟩ : ∃ F, lsI R = F := ⟨_, rfl⟩
  have HF := Lib.hid hF
  have HFL : Hid (F.length = n) := Lib.hid (by rw [← hF, ls_len, hn])
  have hn20 : n ≤ 20 := by omega
  clear ht hl hne hn hT hTb htt hec hcap hn1 hR
  by_cases z : ec = 0
  case neg =>
    have hq := HQ.out
    rw [if_neg z] at hq
    have HQ2 := Lib.hid hq
    have zp : 0 < ec := by omega
    clear hq HQ hF
    go_enter Try.func14, Try.ntmps14
    go_wp2_with fail
    go_region_held3 (fun w' => w'.cell? ⟨w.heap.size, 0, none⟩ = some (.int .u64 pa) ∧ w'.cell? ⟨w.heap.size, 1, none⟩ = some (.int .u64 pb) ∧ Below w.heap.size w w')
      (first | exact HS0.out | exact HST.out _ _ (by assumption) hbA | assumption)
      ((first
        | (go_at_call 38; with_reducible refine (CT.out _ (And.right (And.right (by assumption)))).mono ?_; rintro e wA ⟨rfl, rfl⟩)
        | (go_at_call 31; with_reducible refine (HPL.out _).mono ?_; rintro e wA ⟨rfl, hbA⟩)))
    all_goals
      rename_i hHeld
      obtain ⟨_, _, b3⟩ := hHeld
      go_wp2_with fail
      go_ret2
      exact ⟨by rw [HQ2.out]; rfl, b3⟩
  case pos =>
    subst z
    have hq := HQ.out
    rw [if_pos rfl, hF] at hq
    rw [hF] at CR
    have HQ2 : Hid (quanT pa pb (lsI R) = (bestQ F t, 0)) := Lib.hid (by rw [hF]; exact hq)
    obtain ⟨t0, t1⟩ := hwt
    clear hq HQ hc' hF
    go_enter Try.func14, Try.ntmps14
    go_wp2_with fail
    go_region_held3 (fun w' => w'.cell? ⟨w.heap.size, 0, none⟩ = some (.int .u64 pa) ∧ w'.cell? ⟨w.heap.size, 1, none⟩ = some (.int .u64 pb) ∧ Below w.heap.size w w')
      (first | exact HS0.out | exact HST.out _ _ (by assumption) hbA | assumption)
      ((first
        | (go_at_call 38; with_reducible refine (CT.out _ (And.right (And.right (by assumption)))).mono ?_; rintro e wA ⟨rfl, rfl⟩)
        | (go_at_call 31; with_reducible refine (HPL.out _).mono ?_; rintro e wA ⟨rfl, hbA⟩)))
    rename_i hHeld
    have HB3 := Lib.hid hHeld.2.2
    have d3 := cell_later hHeld.2.2 HC3.out
    clear hHeld
    go_wp2_with fail
    go_loopw [8, 28] (fun bv iv wr => ∃ (i : Nat) (b : Int), i ≤ n ∧ iv = .int .i64 i ∧ bv = .int .i64 b ∧ I64 b ∧ b = ((F.take i).flatten).foldl (stepQ F t) 9223372036854775807 ∧ wA = wr) (fun _ iv _ => n - (intOf iv).toNat)
    case atStart => exact ⟨0, 9223372036854775807, Nat.zero_le _, rfl, rfl, ⟨by decide, by decide⟩, rfl, rfl⟩
    case round =>
      obtain ⟨i, b, hi, rfl, rfl, hbi, hb, rfl⟩ := hrel
      have HBI := Lib.hid hbi
      have HBE := Lib.hid hb
      clear hbi hb
      by_cases hlt : i < n
      · have kk : (i : Int) < n := by omega
        obtain ⟨r, hr⟩ : ∃ r, R[i]? = some r := ⟨_, List.getElem?_eq_getElem (by rw [HN.out]; exact hlt)⟩
        obtain ⟨A, L, k⟩ := r
        obtain ⟨l, hle⟩ : ∃ l, L.length = l := ⟨_, rfl⟩
        have HLE := Lib.hid hle
        have hl2 : l ≤ 20000 := by have := HL.out _ (List.mem_of_getElem? hr); simp only at this; omega
        have g0 : wA.cell? ⟨G, i, none⟩ = some (.slice A l k) := by
          have := HT.out.head.at_ HN.out hr
          rw [show (⟨A, L, k⟩ : RowI).v = .slice A l k by unfold RowI.v; rw [hle]] at this
          exact cell_later HB3.out this
        have HNU := Lib.hid ((HT.out.row _ (List.mem_of_getElem? hr)).1.call HB3.out)
        have HFT : Hid ((F.take (i + 1)).flatten = (F.take i).flatten ++ L) := Lib.hid (flat_take (by rw [← HF.out]; exact ls_at hr))
        clear hr hle
        go_wp2_with fail
        go_loopw [8, 34] (fun bv jv wr => ∃ (j : Nat) (b' : Int), j ≤ l ∧ jv = .int .i64 j ∧ bv = .int .i64 b' ∧ I64 b' ∧ b' = (L.take j).foldl (stepQ F t) b ∧ wA = wr) (fun _ jv _ => l - (intOf jv).toNat)
        case atStart => exact ⟨0, b, Nat.zero_le _, rfl, rfl, HBI.out, rfl, rfl⟩
        case round =>
          obtain ⟨j, b', hj, rfl, rfl, hbi', hb', rfl⟩ := hrel
          have HBI' := Lib.hid hbi'
          have HBE' := Lib.hid hb'
          clear hbi' hb'
          by_cases hlj : j < l
          · have kj : (j : Int) < l := by omega
            have hxk := List.getElem?_eq_getElem (l := L) (i := j) (by rw [HLE.out]; exact hlj)
            generalize L[j]'(by rw [HLE.out]; exact hlj) = x at hxk
            obtain ⟨ba, oa, rfl, _, x0⟩ := HNU.out.at_ j x hxk
            have hxi := HNU.out.ok x (List.mem_of_getElem? hxk)
            have HXI := Lib.hid hxi
            have HSN : Hid ((L.take (j + 1)).foldl (stepQ F t) b = stepQ F t b' x) := Lib.hid (by rw [take_one hxk, List.foldl_append, ← HBE'.out]; rfl)
            have CRX := Lib.hid (CR.out wA HB3.out x hxi)
            obtain ⟨rk, hrk⟩ : ∃ rk, rankR x F = rk := ⟨_, rfl⟩
            rw [hrk] at CRX
            have HRK := Lib.hid hrk
            clear hxk hxi hrk
            by_cases q1 : x < b'
            · by_cases q2 : t ≤ rk
              · have HE : Hid (stepQ F t b' x = x) := Lib.hid (by unfold stepQ; rw [if_pos ⟨q1, by rw [HRK.out]; exact q2⟩])
                have q3 : ¬ rk < t := by omega
                go_wp2_with fail
                with_reducible (refine CRX.out.mono ?_)
                rintro e w5 ⟨rfl, rfl⟩
                go_wp2_with fail
                go_roundw
                case rel => exact ⟨j + 1, x, by omega, by go_num, rfl, HXI.out, by rw [HSN.out, HE.out], by first | rfl | trivial⟩
                case measure => simp [intOf]; omega
              · have HE : Hid (stepQ F t b' x = b') := Lib.hid (by unfold stepQ; rw [if_neg (fun h => q2 (by rw [← HRK.out]; exact h.2))])
                have q3 : rk < t := by omega
                go_wp2_with fail
                with_reducible (refine CRX.out.mono ?_)
                rintro e w5 ⟨rfl, rfl⟩
                go_wp2_with fail
                go_roundw
                case rel => exact ⟨j + 1, b', by omega, by go_num, rfl, HBI'.out, by rw [HSN.out, HE.out], by first | rfl | trivial⟩
                case measure => simp [intOf]; omega
            · have HE : Hid (stepQ F t b' x = b') := Lib.hid (by unfold stepQ; rw [if_neg (fun h => q1 h.1)])
              go_wp2_with fail
              go_roundw
              case rel => exact ⟨j + 1, b', by omega, by go_num, rfl, HBI'.out, by rw [HSN.out, HE.out], by first | rfl | trivial⟩
              case measure => simp [intOf]; omega
          · have kj : ¬ (j : Int) < l := by omega
            have HFN : Hid (b' = ((F.take (i + 1)).flatten).foldl (stepQ F t) 9223372036854775807) := Lib.hid (by
              rw [HFT.out, List.foldl_append, ← HBE.out, HBE'.out, List.take_of_length_le (by rw [HLE.out]; omega)])
            go_wp2_with fail
            go_roundw
            case rel => exact ⟨i + 1, b', by omega, by go_num, rfl, HBI'.out, HFN.out, by first | rfl | trivial⟩
            case measure => simp [intOf]; omega
      · have kk : ¬ (i : Int) < n := by omega
        have HE : Hid (b = bestQ F t) := Lib.hid (by rw [HBE.out, List.take_of_length_le (by rw [HFL.out]; omega)]; rfl)
        go_wp2_with fail
        go_ret2
        exact ⟨by rw [HQ2.out, ← HE.out]; rfl, HB3.out⟩
end Go.Proofs.Ytbdfmnlfdhhnjaa

/-
  Plain mathematics of a tree over values, by numbers: no program in sight.
-/
namespace Go.Proofs.Ytbdfmnlfdhhnjaa
set_option linter.unusedVariables false
set_option linter.unusedSimpArgs false

/-- How many nodes lie above one: v's level; 2 ^ level ≤ v < 2 ^ (level + 1). -/
def lvlT (v : Nat) : Nat := Nat.log2 v
theorem lvl_bd {v : Nat} (h : 1 ≤ v) : 2 ^ lvlT v ≤ v ∧ v < 2 ^ (lvlT v + 1) := ⟨Nat.log2_self_le (by omega), Nat.lt_log2_self⟩
theorem lvl_is {v l : Nat} (h1 : 2 ^ l ≤ v) (h2 : v < 2 ^ (l + 1)) : lvlT v = l := by
  have hv : 1 ≤ v := Nat.le_trans (Nat.pos_of_ne_zero (by have := Nat.pow_pos (n := l) (show 0 < 2 by omega); omega)) h1
  obtain ⟨a, b⟩ := lvl_bd hv
  have c1 : ¬ l < lvlT v := fun h => by
    have := Nat.pow_le_pow_right (show 0 < 2 by omega) (show l + 1 ≤ lvlT v by omega); omega
  have c2 : ¬ lvlT v < l := fun h => by
    have := Nat.pow_le_pow_right (show 0 < 2 by omega) (show lvlT v + 1 ≤ l by omega); omega
  omega
theorem lvl_le {v b : Nat} (h : 1 ≤ v) (h2 : v < 2 ^ (b + 1)) : lvlT v ≤ b := by
  obtain ⟨a, _⟩ := lvl_bd h
  by_cases c : lvlT v ≤ b
  · exact c
  · have := Nat.pow_le_pow_right (show 0 < 2 by omega) (show b + 1 ≤ lvlT v by omega); omega
theorem lvl_one : lvlT 1 = 0 := lvl_is (by decide) (by decide)
theorem lvl_up {v : Nat} (h : 2 ≤ v) : lvlT v = lvlT (v / 2) + 1 := by
  obtain ⟨a, b⟩ := lvl_bd (show 1 ≤ v / 2 by omega)
  refine lvl_is ?_ ?_
  · rw [Nat.pow_succ]; omega
  · rw [Nat.pow_succ]; omega
theorem lvl_down {v : Nat} (h : 1 ≤ v) : lvlT (2 * v) = lvlT v + 1 ∧ lvlT (2 * v + 1) = lvlT v + 1 := by
  have a := lvl_up (v := 2 * v) (by omega)
  have b := lvl_up (v := 2 * v + 1) (by omega)
  rw [show 2 * v / 2 = v by omega] at a
  rw [show (2 * v + 1) / 2 = v by omega] at b
  exact ⟨a, b⟩
theorem lvl_div {v : Nat} (k : Nat) (h : 1 ≤ v) (hk : k ≤ lvlT v) : 1 ≤ v / 2 ^ k ∧ lvlT (v / 2 ^ k) = lvlT v - k := by
  obtain ⟨a, b⟩ := lvl_bd h
  have hp := Nat.pow_pos (n := k) (show 0 < 2 by omega)
  have e1 : 2 ^ (lvlT v - k) * 2 ^ k = 2 ^ lvlT v := by rw [← Nat.pow_add]; congr 1; omega
  have e2 : 2 ^ (lvlT v - k + 1) * 2 ^ k = 2 ^ (lvlT v + 1) := by rw [← Nat.pow_add]; congr 1; omega
  have l1 : 2 ^ (lvlT v - k) ≤ v / 2 ^ k := (Nat.le_div_iff_mul_le hp).2 (by rw [e1]; exact a)
  have l2 : v / 2 ^ k < 2 ^ (lvlT v - k + 1) := (Nat.div_lt_iff_lt_mul hp).2 (by rw [e2]; exact b)
  have p1 := Nat.pow_pos (n := lvlT v - k) (show 0 < 2 by omega)
  exact ⟨by omega, lvl_is l1 l2⟩

/-- The least and the greatest of the values below a node, counted on from 2 ^ b (the values' own nodes). -/
def loT (b v : Nat) : Nat := v * 2 ^ (b - lvlT v)
def upT (b v : Nat) : Nat := (v + 1) * 2 ^ (b - lvlT v)
theorem range_in {b v : Nat} (h : 1 ≤ v) (h2 : v < 2 ^ (b + 1)) : 2 ^ b ≤ loT b v ∧ loT b v < upT b v ∧ upT b v ≤ 2 ^ (b + 1) := by
  have hl := lvl_le h h2
  obtain ⟨a, c⟩ := lvl_bd h
  have hp := Nat.pow_pos (n := b - lvlT v) (show 0 < 2 by omega)
  have e1 : 2 ^ lvlT v * 2 ^ (b - lvlT v) = 2 ^ b := by rw [← Nat.pow_add]; congr 1; omega
  have e2 : 2 ^ (lvlT v + 1) * 2 ^ (b - lvlT v) = 2 ^ (b + 1) := by rw [← Nat.pow_add]; congr 1; omega
  unfold loT upT
  refine ⟨by rw [← e1]; exact Nat.mul_le_mul_right _ a, by rw [Nat.add_mul]; omega, by rw [← e2]; exact Nat.mul_le_mul_right _ (by omega)⟩
/-- A node that lies above another one, or is it. -/
def aboveT (v w : Nat) : Prop := lvlT v ≤ lvlT w ∧ w / 2 ^ (lvlT w - lvlT v) = v
instance (v w : Nat) : Decidable (aboveT v w) := by unfold aboveT; infer_instance
theorem above_self (v : Nat) : aboveT v v := ⟨Nat.le_refl _, by simp⟩
/-- What lies at a level: below it the same values. -/
theorem range_div {b w k : Nat} (h : 1 ≤ w) (h2 : w < 2 ^ (b + 1)) (hk : k ≤ lvlT w) : loT b (w / 2 ^ k) ≤ loT b w ∧ upT b w ≤ upT b (w / 2 ^ k) := by
  obtain ⟨u1, u2⟩ := lvl_div k h hk
  have hl := lvl_le h h2
  have hp := Nat.pow_pos (n := k) (show 0 < 2 by omega)
  have e : 2 ^ (b - lvlT (w / 2 ^ k)) = 2 ^ k * 2 ^ (b - lvlT w) := by rw [u2, ← Nat.pow_add]; congr 1; omega
  have d1 := Nat.div_mul_le_self w (2 ^ k)
  have d2 : w < (w / 2 ^ k + 1) * 2 ^ k := by
    have := Nat.lt_div_mul_add (a := w) hp
    rw [Nat.add_mul]; omega
  unfold loT upT
  rw [e]
  constructor
  · rw [← Nat.mul_assoc]; exact Nat.mul_le_mul_right _ d1
  · rw [← Nat.mul_assoc]; exact Nat.mul_le_mul_right _ d2
theorem above_range {b v w : Nat} (hw : 1 ≤ w) (hw2 : w < 2 ^ (b + 1)) (h : aboveT v w) : loT b v ≤ loT b w ∧ upT b w ≤ upT b v := by
  have := range_div (k := lvlT w - lvlT v) hw hw2 (by omega)
  rwa [h.2] at this
/-- Of one level: apart, or the same. -/
theorem same_level {b v w : Nat} (he : lvlT v = lvlT w) (h : v < w) : upT b v ≤ loT b w := by
  unfold upT loT; rw [he]; exact Nat.mul_le_mul_right _ h
/-- Of two nodes one lies above the other one, or no value lies below both. -/
theorem above_or {b v w : Nat} (hv : 1 ≤ v) (hv2 : v < 2 ^ (b + 1)) (hw : 1 ≤ w) (hw2 : w < 2 ^ (b + 1)) :
    (upT b v ≤ loT b w ∨ upT b w ≤ loT b v) ↔ ¬ (aboveT v w ∨ aboveT w v) := by
  obtain ⟨a1, a2, a3⟩ := range_in hv hv2
  obtain ⟨b1, b2, b3⟩ := range_in hw hw2
  constructor
  · rintro h (k | k)
    · have := above_range hw hw2 k; omega
    · have := above_range hv hv2 k; omega
  · intro h
    have key : ∀ x y : Nat, 1 ≤ x → x < 2 ^ (b + 1) → 1 ≤ y → y < 2 ^ (b + 1) → lvlT x ≤ lvlT y → ¬ aboveT x y → upT b x ≤ loT b y ∨ upT b y ≤ loT b x := by
      intro x y hx hx2 hy hy2 hl hn
      obtain ⟨u1, u2⟩ := lvl_div (lvlT y - lvlT x) hy (by omega)
      have hr := range_div (b := b) (k := lvlT y - lvlT x) hy hy2 (by omega)
      have hne : y / 2 ^ (lvlT y - lvlT x) ≠ x := fun e => hn ⟨hl, e⟩
      have hle : lvlT (y / 2 ^ (lvlT y - lvlT x)) = lvlT x := by omega
      rcases Nat.lt_or_gt_of_ne hne with c | c
      · have := same_level (b := b) hle c; exact Or.inr (by omega)
      · have := same_level (b := b) hle.symm c; exact Or.inl (by omega)
    rcases Nat.le_total (lvlT v) (lvlT w) with c | c
    · exact key v w hv hv2 hw hw2 c (fun k => h (Or.inl k))
    · rcases key w v hw hw2 hv hv2 c (fun k => h (Or.inr k)) with k | k
      · exact Or.inr k
      · exact Or.inl k
/-- Told ahead. -/
def beforeT (b v w : Nat) : Bool := decide (upT b v < upT b w) || (decide (upT b v = upT b w) && decide (lvlT w < lvlT v))
theorem before_or {b v w : Nat} (hv : 1 ≤ v) (hw : 1 ≤ w) : (beforeT b v w || beforeT b w v) = !(v == w) ∧ (beforeT b v w && beforeT b w v) = false := by
  by_cases e : v = w
  · subst e; unfold beforeT; simp
  · have hne : (v == w) = false := by simp [e]
    rw [hne]
    unfold beforeT
    rcases Nat.lt_trichotomy (upT b v) (upT b w) with c | c | c
    · have : ¬ upT b w < upT b v := by omega
      have d : ¬ upT b w = upT b v := by omega
      simp [c, this, d]
    · have hl : lvlT v ≠ lvlT w := fun hl => by
        rcases Nat.lt_or_gt_of_ne e with k | k
        · have := same_level (b := b) hl k
          have hp := Nat.pow_pos (n := b - lvlT w) (show 0 < 2 by omega)
          have : loT b w < upT b w := by unfold loT upT; rw [Nat.add_mul]; omega
          omega
        · have := same_level (b := b) hl.symm k
          have hp := Nat.pow_pos (n := b - lvlT v) (show 0 < 2 by omega)
          have : loT b v < upT b v := by unfold loT upT; rw [Nat.add_mul]; omega
          omega
      rcases Nat.lt_or_gt_of_ne hl with k | k
      · have : ¬ lvlT w < lvlT v := by omega
        simp [c, k, this]
      · have : ¬ lvlT v < lvlT w := by omega
        simp [c, k, this]
    · have : ¬ upT b v < upT b w := by omega
      have d : ¬ upT b v = upT b w := by omega
      simp [c, this, d]
theorem before_trans {b v w x : Nat} (h : beforeT b v w = true) (k : beforeT b w x = true) : beforeT b v x = true := by
  unfold beforeT at *
  simp only [Bool.or_eq_true, Bool.and_eq_true, decide_eq_true_eq] at *
  omega
/-- Both nodes below one. -/
theorem halves {b v : Nat} (h : 1 ≤ v) (hb : lvlT v < b) : loT b (2 * v) = loT b v ∧ upT b (2 * v) = loT b (2 * v + 1) ∧ upT b (2 * v + 1) = upT b v := by
  obtain ⟨d1, d2⟩ := lvl_down h
  have e : 2 ^ (b - lvlT v) = 2 * 2 ^ (b - (lvlT v + 1)) := by rw [← Nat.pow_succ']; congr 1; omega
  unfold loT upT
  rw [d1, d2, e]
  refine ⟨?_, rfl, ?_⟩
  · rw [Nat.mul_comm 2 v, Nat.mul_assoc]
  · rw [show 2 * v + 1 + 1 = (v + 1) * 2 by omega, Nat.mul_assoc]
/-- A value's own node. -/
theorem leaf_is {b x : Nat} (h : x < 2 ^ b) : lvlT (2 ^ b + x) = b ∧ loT b (2 ^ b + x) = 2 ^ b + x ∧ upT b (2 ^ b + x) = 2 ^ b + x + 1 := by
  have hl : lvlT (2 ^ b + x) = b := lvl_is (by omega) (by rw [Nat.pow_succ]; omega)
  unfold loT upT
  rw [hl, Nat.sub_self, Nat.pow_zero, Nat.mul_one, Nat.mul_one]
  exact ⟨rfl, rfl, rfl⟩
/-- The nodes down to one: the last k of them. -/
def pathT (v k : Nat) : List Nat := (List.range k).map fun i => v / 2 ^ (k - 1 - i)
theorem path_len (v k : Nat) : (pathT v k).length = k := by unfold pathT; simp
theorem path_succ (v k : Nat) : pathT v (k + 1) = (v / 2 ^ k) :: pathT v k := by
  unfold pathT
  rw [List.range_succ_eq_map, List.map_cons, List.map_map]
  congr 1
  refine List.map_congr_left fun i hi => ?_
  show v / 2 ^ (k + 1 - 1 - (i + 1)) = v / 2 ^ (k - 1 - i)
  congr 2
  omega
theorem path_at (v k i : Nat) (h : i < k) : (pathT v k)[i]? = some (v / 2 ^ (k - 1 - i)) := by
  unfold pathT
  rw [List.getElem?_map, List.getElem?_range h]; rfl
theorem path_above {v w : Nat} (hw : 1 ≤ w) : v ∈ pathT w (lvlT w + 1) ↔ aboveT v w := by
  unfold pathT
  rw [List.mem_map]
  constructor
  · rintro ⟨i, hi, rfl⟩
    have hi := List.mem_range.1 hi
    obtain ⟨a, b⟩ := lvl_div (lvlT w + 1 - 1 - i) hw (by omega)
    refine ⟨by omega, ?_⟩
    rw [b, show lvlT w - (lvlT w - (lvlT w + 1 - 1 - i)) = lvlT w + 1 - 1 - i by omega]
  · rintro ⟨hl, e⟩
    refine ⟨lvlT v, List.mem_range.2 (by omega), ?_⟩
    rw [show lvlT w + 1 - 1 - lvlT v = lvlT w - lvlT v by omega]; exact e
theorem path_ends {v : Nat} (h : 1 ≤ v) {k : Nat} : 1 ≤ v / 2 ^ k ↔ k ≤ lvlT v := by
  obtain ⟨a, b⟩ := lvl_bd h
  constructor
  · intro hk
    by_cases c : k ≤ lvlT v
    · exact c
    · exfalso
      have := Nat.pow_le_pow_right (show 0 < 2 by omega) (show lvlT v + 1 ≤ k by omega)
      rw [Nat.div_eq_of_lt (by omega)] at hk; omega
  · intro hk; exact (lvl_div k h hk).1
/-- One node further down: the least value below it. -/
theorem range_step {b i u t : Nat} (h : i < b) : (2 * u + t) * 2 ^ (b - (i + 1)) = u * 2 ^ (b - i) + t * 2 ^ (b - (i + 1)) := by
  have e : 2 ^ (b - i) = 2 * 2 ^ (b - (i + 1)) := by rw [← Nat.pow_succ']; congr 1; omega
  rw [e, Nat.add_mul, ← Nat.mul_assoc, Nat.mul_comm u 2]
theorem div_step (v k : Nat) : v / 2 ^ k = 2 * (v / 2 ^ (k + 1)) + v / 2 ^ k % 2 := by
  have : v / 2 ^ (k + 1) = v / 2 ^ k / 2 := by rw [Nat.pow_succ, Nat.div_div_eq_div_mul]
  omega
end Go.Proofs.Ytbdfmnlfdhhnjaa

/-
  Plain mathematics of a digest by a tree: no program in sight.
-/
namespace Go.Proofs.Ytbdfmnlfdhhnjaa
set_option linter.unusedVariables false
set_option linter.unusedSimpArgs false

/-- What a row counts where a test holds. -/
def whereP (f : Int → Bool) (L : List PairV) : Int := sumP (L.filter fun p => f p.1)
theorem where_nil (f : Int → Bool) : whereP f [] = 0 := rfl
theorem where_cons (f : Int → Bool) (p : PairV) (r : List PairV) : whereP f (p :: r) = (if f p.1 = true then p.2 else 0) + whereP f r := by
  unfold whereP
  cases h : f p.1 with
  | true => rw [List.filter_cons_of_pos (by simpa using h), sumP_cons]; simp
  | false => rw [List.filter_cons_of_neg (by simp [h])]; simp
theorem where_app (f : Int → Bool) (A B : List PairV) : whereP f (A ++ B) = whereP f A + whereP f B := by unfold whereP; rw [List.filter_append, sumP_app]
theorem where_one (L : List PairV) (i : Int) : whereP (fun j => j == i) L = countP L i := rfl
theorem where_all (L : List PairV) : whereP (fun _ => true) L = sumP L := by
  unfold whereP; rw [List.filter_eq_self.2 (fun p _ => rfl)]
theorem where_pos {f : Int → Bool} {L : List PairV} (h : ∀ p, p ∈ L → 0 ≤ p.2) : 0 ≤ whereP f L := sumP_pos fun p hp => h p (List.mem_filter.1 hp).1
theorem where_le {f g : Int → Bool} {L : List PairV} (h : ∀ p, p ∈ L → 0 ≤ p.2) (k : ∀ p, p ∈ L → f p.1 = true → g p.1 = true) : whereP f L ≤ whereP g L := by
  induction L with
  | nil => exact Int.le_refl _
  | cons p r ih =>
    rw [where_cons, where_cons]
    have h1 := ih (fun q hq => h q (List.mem_cons_of_mem _ hq)) (fun q hq => k q (List.mem_cons_of_mem _ hq))
    have h2 := h p List.mem_cons_self
    have h3 := k p List.mem_cons_self
    cases hf : f p.1 with
    | true => rw [h3 hf]; simp; omega
    | false => simp only [Bool.false_eq_true, if_false]; split <;> omega
theorem where_sum {f : Int → Bool} {L : List PairV} (h : ∀ p, p ∈ L → 0 ≤ p.2) : whereP f L ≤ sumP L := by
  rw [← where_all]; exact where_le h fun _ _ _ => rfl
theorem where_add {L : List PairV} (f : Int → Bool) {i c : Int} (h : GoodP L) (h0 : 0 ≤ c) : whereP f (addP L i c) = whereP f L + if f i = true then c else 0 := by
  unfold addP
  rw [where_app, where_app]
  have hm : ∀ n : Int, 0 ≤ n → whereP f (midP i n) = if f i = true then n else 0 := fun n hn => by
    unfold midP
    by_cases c0 : 0 < n
    · rw [if_pos c0, where_cons, where_nil]; simp
    · rw [if_neg c0, where_nil]; split <;> omega
  rcases good_part i h with ⟨n, e, hc, h1⟩ | ⟨e, hc⟩
  · rw [hc, hm _ (by omega)]
    conv => rhs; rw [← e]
    rw [where_app, where_cons]
    split <;> omega
  · rw [hc, hm _ (by omega)]
    conv => rhs; rw [← e]
    rw [where_app]
    split <;> omega
/-- Three indices put aside. -/
def restD (L : List PairV) (a b c : Int) : List PairV := L.filter fun p => !(p.1 == a) && !(p.1 == b) && !(p.1 == c)
theorem where_rest (f : Int → Bool) {a b c : Int} (hab : a ≠ b) (hac : a ≠ c) (hbc : b ≠ c) (L : List PairV) :
    whereP f L = whereP f (restD L a b c) + (if f a = true then countP L a else 0) + (if f b = true then countP L b else 0) + (if f c = true then countP L c else 0) := by
  induction L with
  | nil => simp [restD, where_nil, countP, sumP_nil]
  | cons p r ih =>
    obtain ⟨i, n⟩ := p
    rw [where_cons, count_cons, count_cons, count_cons, ih]
    unfold restD
    simp only
    by_cases ea : i = a
    · subst ea
      rw [List.filter_cons_of_neg (by simp)]
      rw [if_pos rfl, if_neg hab, if_neg hac]
      cases f i <;> cases f b <;> cases f c <;> simp <;> omega
    · by_cases eb : i = b
      · subst eb
        rw [List.filter_cons_of_neg (by simp)]
        rw [if_neg ea, if_pos rfl, if_neg hbc]
        cases f i <;> cases f a <;> cases f c <;> simp <;> omega
      · by_cases ec : i = c
        · subst ec
          rw [List.filter_cons_of_neg (by simp)]
          rw [if_neg ea, if_neg eb, if_pos rfl]
          cases f i <;> cases f a <;> cases f b <;> simp <;> omega
        · rw [List.filter_cons_of_pos (by simp [ea, eb, ec]), where_cons, if_neg ea, if_neg eb, if_neg ec]
          simp only
          cases f i <;> cases f a <;> cases f b <;> cases f c <;> simp <;> omega
/-- The node beside one. -/
def sibD (v : Int) : Int := if v % 2 = 1 then v - 1 else v + 1
theorem sib_apart {v : Int} (h : 2 ≤ v) : v ≠ sibD v ∧ v ≠ v / 2 ∧ sibD v ≠ v / 2 ∧ sibD v / 2 = v / 2 ∧ 2 ≤ sibD v := by unfold sibD; split <;> omega
/-- A node, the one beside it, the one above: their counts. -/
def triD (R : List PairV) (v : Int) : Int := countP R v + countP R (sibD v) + countP R (v / 2)
def liftB (q : Int) (R : List PairV) (v : Int) : Bool := !(v == 1) && !(countP R v == 0) && decide (triD R v ≤ q)
/-- Counts that go up from a node. -/
def liftD (q : Int) (R : List PairV) (v : Int) : List PairV := if liftB q R v = true then addP (restD R v (sibD v) (v / 2)) (v / 2) (triD R v) else R
theorem lift_no {q : Int} {R : List PairV} {v : Int} (h : liftB q R v = false) : liftD q R v = R := by unfold liftD; rw [h]; rfl
theorem count_posD {L : List PairV} (h : GoodP L) (i : Int) : 0 ≤ countP L i := sumP_pos fun p hp => by have := h.1 p (List.mem_filter.1 hp).1; omega
theorem tri_pos {L : List PairV} (h : GoodP L) (v : Int) : 0 ≤ triD L v := by
  unfold triD
  have := count_posD h v; have := count_posD h (sibD v); have := count_posD h (v / 2); omega
theorem count_rest (L : List PairV) {a b c : Int} : countP (restD L a b c) c = 0 := by
  unfold countP restD
  rw [List.filter_filter, List.filter_eq_nil_iff.2, sumP_nil]
  intro p _
  simp
  intro h; simp [h]
theorem liftB_is {q : Int} {R : List PairV} {v : Int} (h : liftB q R v = true) : v ≠ 1 ∧ countP R v ≠ 0 ∧ triD R v ≤ q := by
  unfold liftB at h
  simpa [and_assoc] using h
/-- What a lift does to a sum. -/
theorem lift_where {q : Int} {R : List PairV} {v : Int} (f : Int → Bool) (hg : GoodP R) (hv : 1 ≤ v) (h : liftB q R v = true) :
    whereP f (liftD q R v) = whereP f R + ((if f (v / 2) = true then countP R v else 0) - (if f v = true then countP R v else 0)) + ((if f (v / 2) = true then countP R (sibD v) else 0) - (if f (sibD v) = true then countP R (sibD v) else 0)) := by
  obtain ⟨h1, _, _⟩ := liftB_is h
  obtain ⟨a, b, c, _, _⟩ := sib_apart (show 2 ≤ v by omega)
  unfold liftD
  rw [if_pos h, where_add f (show GoodP (restD R v (sibD v) (v / 2)) from good_filter _ hg) (tri_pos hg v), where_rest f a b c R]
  unfold triD
  cases f v <;> cases f (sibD v) <;> cases f (v / 2) <;> simp <;> omega
theorem lift_sum {q : Int} {R : List PairV} {v : Int} (hg : GoodP R) (hv : 1 ≤ v) : sumP (liftD q R v) = sumP R := by
  cases h : liftB q R v with
  | false => rw [lift_no h]
  | true => rw [← where_all, lift_where _ hg hv h, where_all]; simp
theorem lift_up {q : Int} {R : List PairV} {v : Int} {f : Int → Bool} (hg : GoodP R) (hv : 1 ≤ v) (h1 : f v = true → f (v / 2) = true) (h2 : f (sibD v) = true → f (v / 2) = true) : whereP f R ≤ whereP f (liftD q R v) := by
  cases h : liftB q R v with
  | false => rw [lift_no h]; exact Int.le_refl _
  | true =>
    rw [lift_where _ hg hv h]
    have c1 := count_posD hg v
    have c2 := count_posD hg (sibD v)
    cases e : f (v / 2) with
    | true => simp; split <;> split <;> omega
    | false =>
      have n1 : f v = false := by cases k : f v with | false => rfl | true => rw [h1 k] at e; cases e
      have n2 : f (sibD v) = false := by cases k : f (sibD v) with | false => rfl | true => rw [h2 k] at e; cases e
      rw [n1, n2]; simp
theorem lift_down {q : Int} {R : List PairV} {v : Int} {f : Int → Bool} (hg : GoodP R) (hv : 1 ≤ v) (h1 : f (v / 2) = true → f v = true ∧ f (sibD v) = true) : whereP f (liftD q R v) ≤ whereP f R := by
  cases h : liftB q R v with
  | false => rw [lift_no h]; exact Int.le_refl _
  | true =>
    rw [lift_where _ hg hv h]
    have c1 := count_posD hg v
    have c2 := count_posD hg (sibD v)
    cases e : f (v / 2) with
    | true => rw [(h1 e).1, (h1 e).2]; simp
    | false => simp; split <;> split <;> omega
theorem lift_good {q : Int} {R : List PairV} {v : Int} (hg : GoodP R) (hs : sumP R ≤ 9223372036854775807) (hv : 1 ≤ v) : GoodP (liftD q R v) := by
  cases h : liftB q R v with
  | false => rw [lift_no h]; exact hg
  | true =>
    obtain ⟨h1, _, _⟩ := liftB_is h
    obtain ⟨a, b, c, _, _⟩ := sib_apart (show 2 ≤ v by omega)
    unfold liftD
    rw [if_pos h]
    refine add_good (good_filter _ hg) ?_
    have hw := where_rest (fun _ => true) a b c R
    rw [where_all, where_all] at hw
    have hp : 0 ≤ sumP (restD R v (sibD v) (v / 2)) := sumP_pos fun p hp => by have := hg.1 p (List.mem_filter.1 hp).1; omega
    have hc := count_rest R (a := v) (b := sibD v) (c := v / 2)
    simp at hw
    show countP (restD R v (sibD v) (v / 2)) (v / 2) + triD R v ≤ _
    rw [hc]
    unfold triD; omega
theorem add_memD {L : List PairV} {i c : Int} {p : PairV} (h : p ∈ addP L i c) : p ∈ L ∨ (p.1 = i ∧ p.2 = countP L i + c) := by
  unfold addP at h
  rcases List.mem_append.1 h with h | h
  · exact Or.inl (lowP_mem h).1
  · rcases List.mem_append.1 h with h | h
    · unfold midP at h
      split at h
      · have := List.mem_singleton.1 h; subst this; exact Or.inr ⟨rfl, rfl⟩
      · cases h
    · exact Or.inl (highP_mem h).1
/-- Where a lift's pairs come from. -/
theorem lift_mem {q : Int} {R : List PairV} {v : Int} {p : PairV} (h : p ∈ liftD q R v) : p ∈ R ∨ (p.1 = v / 2 ∧ p.2 ≤ q ∧ liftB q R v = true) := by
  cases hb : liftB q R v with
  | false => rw [lift_no hb] at h; exact Or.inl h
  | true =>
    unfold liftD at h
    rw [if_pos hb] at h
    rcases add_memD h with h | ⟨h1, h2⟩
    · exact Or.inl (List.mem_filter.1 h).1
    · have := count_rest R (a := v) (b := sibD v) (c := v / 2)
      rw [this] at h2
      exact Or.inr ⟨h1, by have := (liftB_is hb).2.2; omega, rfl⟩
/-- What goes down with each lift. -/
def idxSum (L : List PairV) : Int := (L.map fun p => p.1).sum
theorem idx_cons (p : PairV) (r : List PairV) : idxSum (p :: r) = p.1 + idxSum r := by unfold idxSum; simp
theorem idx_app (A B : List PairV) : idxSum (A ++ B) = idxSum A + idxSum B := by unfold idxSum; rw [List.map_append, List.sum_append]
theorem idx_pos {L : List PairV} (h : ∀ p, p ∈ L → 0 ≤ p.1) : 0 ≤ idxSum L := by
  induction L with
  | nil => exact Int.le_refl _
  | cons p r ih => rw [idx_cons]; have := h p List.mem_cons_self; have := ih fun q hq => h q (List.mem_cons_of_mem _ hq); omega
theorem idx_le {L : List PairV} (f : PairV → Bool) (h : ∀ p, p ∈ L → 0 ≤ p.1) : idxSum (L.filter f) ≤ idxSum L := by
  induction L with
  | nil => exact Int.le_refl _
  | cons p r ih =>
    have h0 := h p List.mem_cons_self
    have h1 := ih fun q hq => h q (List.mem_cons_of_mem _ hq)
    rw [List.filter_cons]
    split
    · rw [idx_cons, idx_cons]; omega
    · rw [idx_cons]; omega
theorem idx_filter {L : List PairV} (f : PairV → Bool) (h : ∀ p, p ∈ L → 0 ≤ p.1) {v : PairV} (hv : v ∈ L) (hf : f v = false) : idxSum (L.filter f) + v.1 ≤ idxSum L := by
  induction L with
  | nil => cases hv
  | cons p r ih =>
    have h' := fun q hq => h q (List.mem_cons_of_mem p hq)
    have h0 := h p List.mem_cons_self
    have hle := idx_le (L := r) f h'
    rcases List.mem_cons.1 hv with e | e
    · subst e
      rw [List.filter_cons_of_neg (by simp [hf]), idx_cons]; omega
    · have := ih h' e
      rw [List.filter_cons]
      split
      · rw [idx_cons, idx_cons]; omega
      · rw [idx_cons]; omega
theorem idx_low (L : List PairV) (i : Int) (hc : ∀ p, p ∈ L → p.1 ≠ i) : idxSum (lowP L i) + idxSum (highP L i) = idxSum L := by
  induction L with
  | nil => rfl
  | cons p r ih =>
    have h := ih fun q hq => hc q (List.mem_cons_of_mem _ hq)
    have h0 := hc p List.mem_cons_self
    unfold lowP highP at *
    by_cases c : p.1 < i
    · rw [List.filter_cons_of_pos (by simpa using c), List.filter_cons_of_neg (by simp; omega), idx_cons, idx_cons]; omega
    · rw [List.filter_cons_of_neg (by simpa using c), List.filter_cons_of_pos (by simp; omega), idx_cons, idx_cons]; omega
theorem count_memD {L : List PairV} {i : Int} (h : countP L i ≠ 0) : ∃ p, p ∈ L ∧ p.1 = i := by
  unfold countP at h
  cases e : L.filter fun p => p.1 == i with
  | nil => rw [e] at h; exact absurd rfl h
  | cons p r =>
    have : p ∈ L.filter fun p => p.1 == i := by rw [e]; exact List.mem_cons_self
    obtain ⟨a, b⟩ := List.mem_filter.1 this
    exact ⟨p, a, by simpa using b⟩
theorem lift_idx {q : Int} {R : List PairV} {v : Int} (hi : ∀ p, p ∈ R → 1 ≤ p.1) (hv : 1 ≤ v) (h : liftB q R v = true) : idxSum (liftD q R v) < idxSum R := by
  obtain ⟨h1, h2, _⟩ := liftB_is h
  obtain ⟨⟨i, n⟩, hp, e⟩ := count_memD h2
  simp only at e
  subst e
  have hf := idx_filter (fun p : PairV => !(p.1 == i) && !(p.1 == sibD i) && !(p.1 == i / 2)) (fun p hp => by have := hi p hp; omega) hp (by simp)
  unfold liftD
  rw [if_pos h]
  unfold addP
  have hr := idx_low (restD R i (sibD i) (i / 2)) (i / 2) (fun p hp => by
    have := (List.mem_filter.1 hp).2
    simp at this
    exact this.2)
  have hm : idxSum (midP (i / 2) (countP (restD R i (sibD i) (i / 2)) (i / 2) + triD R i)) ≤ i / 2 := by
    unfold midP; split
    · rw [idx_cons]; show i / 2 + 0 ≤ i / 2; omega
    · show (0 : Int) ≤ i / 2; omega
  rw [idx_app, idx_app]
  have hf' : idxSum (restD R i (sibD i) (i / 2)) + i ≤ idxSum R := hf
  omega
end Go.Proofs.Ytbdfmnlfdhhnjaa

/-
  Rows of pairs in memory, as they are read: what hangs on no type of the program (taken out of PairS).
-/
namespace Go.Proofs.Ytbdfmnlfdhhnjaa
set_option linter.unusedVariables false
set_option linter.unusedSimpArgs false
open Go.RowKit

/-- A row of pairs in memory. -/
structure Pairs (w : World) (A : Option Addr) (L : List PairV) : Prop where
  ok : ∀ p, p ∈ L → okP p
  at_ : ∀ (i : Nat) (p : PairV), L[i]? = some p → ∃ b off, A = some ⟨b, off, none⟩ ∧ b < w.heap.size ∧ w.cell? ⟨b, off + i * 2, none⟩ = some (.int .i64 p.1) ∧ w.cell? ⟨b, off + i * 2 + 1, none⟩ = some (.int .u64 p.2)
theorem Pairs.call {w w' : World} {A : Option Addr} {L : List PairV} (h : Pairs w A L) (hb : Below w.heap.size w w') : Pairs w' A L :=
  ⟨h.ok, fun i it hi => by
    obtain ⟨b, off, hA, hlt, c0, c1⟩ := h.at_ i it hi
    exact ⟨b, off, hA, Nat.lt_of_lt_of_le hlt hb.size, cell_later hb c0, cell_later hb c1⟩⟩
theorem Pairs.nil (w : World) : Pairs w none [] := ⟨fun p h => (by cases h), fun i p h => by simp at h⟩
/-- A row's cells. -/
def cellsP (p : PairV) : List Value := [.int .i64 p.1, .int .u64 p.2]
def cellsQ (L : List PairV) : List Value := L.flatMap cellsP
theorem cellsQ_cons (p : PairV) (r : List PairV) : cellsQ (p :: r) = cellsP p ++ cellsQ r := by unfold cellsQ; rw [List.flatMap_cons]
theorem cellsQ_app (a b : List PairV) : cellsQ (a ++ b) = cellsQ a ++ cellsQ b := by unfold cellsQ; rw [List.flatMap_append]
theorem cellsQ_one' (p : PairV) : cellsQ [p] = [.int .i64 p.1, .int .u64 p.2] := by unfold cellsQ cellsP; simp
theorem cellsQ_len (L : List PairV) : (cellsQ L).length = L.length * 2 := by
  induction L with
  | nil => rfl
  | cons p r ih => rw [cellsQ_cons, List.length_append, ih, List.length_cons]; simp [cellsP]; omega
theorem cellsQ_one (L : List PairV) : ∀ u ∈ cellsQ L, u.oneCell' = true := by
  intro u hu
  unfold cellsQ at hu
  obtain ⟨p, _, h⟩ := List.mem_flatMap.1 hu
  simp only [cellsP, List.mem_cons, List.not_mem_nil, or_false] at h
  rcases h with rfl | rfl <;> rfl
theorem cellsQ_at : ∀ (L : List PairV) (i : Nat) (p : PairV), L[i]? = some p → (cellsQ L)[i * 2]? = some (.int .i64 p.1) ∧ (cellsQ L)[i * 2 + 1]? = some (.int .u64 p.2) := by
  intro L
  induction L with
  | nil => intro i p h; simp at h
  | cons q r ih =>
    intro i p h
    rw [cellsQ_cons]
    cases i with
    | zero => simp at h; subst h; simp [cellsP]
    | succ i =>
      have hr := ih i p (by simpa using h)
      have e : ∀ j, (cellsP q ++ cellsQ r)[(i + 1) * 2 + j]? = (cellsQ r)[i * 2 + j]? := by
        intro j
        rw [List.getElem?_append_right (by simp [cellsP]; omega)]
        congr 1
        simp [cellsP]; omega
      exact ⟨(e 0).trans hr.1, (e 1).trans hr.2⟩
theorem add_flat (b off j : Nat) : (⟨b, off, none⟩ : Addr).add j = ⟨b, off + j, none⟩ := by unfold Addr.add; split <;> simp_all
theorem ok_pos {L : List PairV} (h : ∀ p, p ∈ L → okP p) : ∀ p, p ∈ L → 0 ≤ p.2 := fun p hp => (h p hp).2.1
end Go.Proofs.Ytbdfmnlfdhhnjaa
