/-
  The reference of layer 18: Spots, Row, Total, Same; the laws' own plain, up, under.
-/
import Derived.Test.YtjmkkglmckiknaaTupC
namespace Go.Proofs.Ytjmkkglmckiknaa
set_option linter.unusedVariables false
set_option linter.unusedSimpArgs false
open Go.RowKit

theorem three_new (w : World) (x y z : Value) (t : TypeId) : (w.alloc (.cells #[x, y, z] t)).cell? ⟨w.heap.size, 0, none⟩ = some x ∧ (w.alloc (.cells #[x, y, z] t)).cell? ⟨w.heap.size, 1, none⟩ = some y ∧ (w.alloc (.cells #[x, y, z] t)).cell? ⟨w.heap.size, 2, none⟩ = some z :=
  ⟨(Three.new w x y z t).c0, (Three.new w x y z t).c1, (Three.new w x y z t).c2⟩
theorem grown_new {w w1 : World} {r : Option Nat} {o1 o2 : Obj} {j : Nat} {v : Value} (hg : ((w.alloc o1).alloc o2).grownBy w1 r) (hr : ∀ g, r = some g → g < w.heap.size) (hc : (w.alloc o1).cell? ⟨w.heap.size, j, none⟩ = some v) : w1.cell? ⟨w.heap.size, j, none⟩ = some v := by
  have h1 := cell_later ((Below.refl _ _).alloc (Nat.le_refl _) o2) hc
  exact (World.cell?_of_block (a := ⟨w.heap.size, j, none⟩) (hg.block _ (World.block_lt_of_cell? (a := ⟨w.heap.size, j, none⟩) _ h1) (fun e => Nat.lt_irrefl _ (hr _ e.symm)))).trans h1
/-- Spots of places that have room. -/
theorem good_at {L : List TupV} (hg : GoodT L) {k : Nat} {p : TupV} (h : L[k]? = some p) : 0 < sumT (L.take k) + p.st ∧ sumT (L.take k) + p.st + p.sl ≤ 9223372036854775807 ∧ 0 < p.st ∧ 0 ≤ p.sl ∧ 0 ≤ sumT (L.take k) := by
  have hs := spots_step h
  have hls := last_sum (L.take k) 0
  have hm : (⟨p.x, lastLo 0 (spotsT 0 (L.take k)) + p.st, lastLo 0 (spotsT 0 (L.take k)) + p.st + p.sl⟩ : SpotV) ∈ spotsT 0 L := by
    have : spotsT 0 L = spotsT 0 (L.take (k + 1)) ++ spotsT (lastLo 0 (spotsT 0 (L.take (k + 1)))) (L.drop (k + 1)) := by rw [← spots_app, List.take_append_drop]
    rw [this, hs.1]
    exact List.mem_append_left _ (List.mem_append_right _ List.mem_cons_self)
  have hb := hg.can.mem _ hm
  have hmx := hg.max
  simp only at hb
  have hr := hg.can
  have hL : L = L.take k ++ p :: L.drop (k + 1) := by
    have : L.drop k = p :: L.drop (k + 1) := drop_is h
    rw [← this, List.take_append_drop]
  rw [hL, spots_app] at hr
  have h2 := hr.right
  have h3 : lastLo 0 (spotsT 0 (L.take k)) < lastLo 0 (spotsT 0 (L.take k)) + p.st := h2.1
  have h4 : lastLo 0 (spotsT 0 (L.take k)) + p.st ≤ lastLo 0 (spotsT 0 (L.take k)) + p.st + p.sl := h2.2.1
  have h5 : 0 ≤ lastLo 0 (spotsT 0 (L.take k)) := by
    have hp : ∀ q, q ∈ L.take k → 0 ≤ q.st := fun q hq => by
      have := row_bd hg.can (Int.le_refl 0) q (by rw [row_spots]; exact List.mem_of_mem_take hq)
      omega
    have := sumT_pos hp
    omega
  omega

set_option maxRecDepth 100000 in
set_option maxHeartbeats 2000000 in
theorem rspots_any (w : World) (A : Option Addr) (cap : Nat) (L : List TupV) (h : Tups w A L) (hl : L.length ≤ 200) (hg : GoodT L) :
    Calls Try.prog 16 #[.slice A L.length cap] w fun e w' => ∃ v, e = .returned v ∧ OwnSp w' w.heap.size v (spotsT 0 L) ∧ Below w.heap.size w w' := by
  have HI := Lib.hid h
  have HG := Lib.hid hg
  have HL := Lib.hid hl
  clear h hg
  go_enter Try.func16, Try.ntmps16
  go_wp2_with fail
  go_loopw [3, 4, 9] (fun s a j wr => ∃ (k : Nat) (n : Int), k ≤ L.length ∧ j = .int .i64 k ∧ a = .int .u64 n ∧ n = sumT (L.take k) ∧ OwnSp wr w.heap.size s (spotsT 0 (L.take k)) ∧ Below w.heap.size w wr) (fun _ _ j _ => L.length - (intOf j).toNat)
  case atStart => exact ⟨0, 0, Nat.zero_le _, rfl, rfl, rfl, OwnSp.nil _ _, Below.refl _ _⟩
  case round =>
    obtain ⟨k, n, hk, rfl, rfl, hn, hown, hb2⟩ := hrel
    have hbs := hb2.size
    by_cases hlt : k < L.length
    · have kk : (k : Int) < L.length := by omega
      have hxk : L[k]? = some L[k] := List.getElem?_eq_getElem hlt
      generalize hit : L[k] = p at *
      obtain ⟨px, ps, pl⟩ := p
      obtain ⟨b0, off, rfl, hbl, c0, c1, c2⟩ := (HI.out.call hb2).at_ k _ hxk
      have HS := Lib.hid (spots_step hxk)
      have HT := Lib.hid (sumT_step hxk)
      have HLS := Lib.hid (last_sum (L.take k) 0)
      obtain ⟨g1, g2, g3, g4, g5⟩ := good_at HG.out hxk
      have hok := HI.out.ok _ (List.mem_of_getElem? hxk)
      simp only at c0 c1 c2 HS HT g1 g2 g3 g4
      rw [← hn] at g1 g2 g5
      have HN := Lib.hid hn
      obtain ⟨vA, vk, rfl⟩ := hown.form
      have HO := Lib.hid hown
      have HB := Lib.hid hb2
      clear hxk hit hown hn
      go_wp2_with (at_builtin; refine wpList_append_sp rfl _ _ rfl w.heap.size _ _ _ rfl (wr.heap.size + 1) ⟨px, n + ps, n + ps + pl⟩ rfl ((HO.out.alloc _).alloc _) rfl ?c1 ?c2 ?c3 ?c4 ?c5 ?_)
      case c4 => have := HL.out; rw [spots_len, List.length_take]; omega
      case c5 => have := HB.out.size; simp; omega
      intro g' cp w1 hown' hgrow _
      have hb4 := OwnSp.below ((HO.out.alloc _).alloc _) ((HB.out.alloc HB.out.size _).alloc (by have := HB.out.size; simp; omega) _) hgrow (by have := HB.out.size; simp; omega)
      rw [show spotsT 0 (L.take k) ++ [⟨px, n + ps, n + ps + pl⟩] = spotsT 0 (L.take (k + 1)) by rw [HS.out.1, HLS.out, HN.out]; simp only [Int.zero_add]] at hown'
      clear hgrow
      go_wp2_with fail
      go_roundw
      case rel => exact ⟨k + 1, n + ps, by omega, by go_num, rfl, by rw [HT.out, HN.out], hown', hb4⟩
      case measure => simp [intOf]; omega
    · obtain rfl : k = L.length := by omega
      rw [List.take_length] at hown
      have kk : ¬ (L.length : Int) < L.length := by omega
      obtain ⟨vA, vk, rfl⟩ := hown.form
      have HO := Lib.hid hown
      clear hown
      go_wp2_with fail
      go_ret
      exact ⟨_, rfl, HO.out, hb2⟩
/-- Where a spot of such a list lies. -/
theorem spots_at {n : Int} {S : List SpotV} (h : SpotsP 0 n S) {k : Nat} {s : SpotV} (hk : S[k]? = some s) : 0 ≤ lastLo 0 (S.take k) ∧ lastLo 0 (S.take k) < s.lo ∧ s.lo ≤ s.hi ∧ s.hi ≤ n := by
  have e : S = S.take k ++ s :: S.drop (k + 1) := by rw [← drop_is hk, List.take_append_drop]
  have h' := h
  rw [e] at h'
  have h2 := h'.right
  have h3 : lastLo 0 (S.take k) < s.lo := h2.1
  have h4 := h2.2.1
  have h5 : s.hi ≤ n := h2.2.2.1
  refine ⟨?_, h3, h4, h5⟩
  unfold lastLo
  cases hl : (S.take k).getLast? with
  | none => exact Int.le_refl _
  | some p =>
    have := (h.mem p (List.mem_of_mem_take (List.mem_of_getLast? hl))).1
    simp only
    omega

set_option maxRecDepth 100000 in
set_option maxHeartbeats 2000000 in
theorem rrow18_any (w : World) (A : Option Addr) (cap : Nat) (S : List SpotV) (n : Int) (h : Spts w A S) (hl : S.length ≤ 200) (hs : SpotsP 0 n S) (hn : n ≤ 9223372036854775807) :
    Calls Try.prog 13 #[.slice A S.length cap] w fun e w' => ∃ v, e = .returned v ∧ OwnTr w' w.heap.size v (rowT 0 S) ∧ Below w.heap.size w w' := by
  have HI := Lib.hid h
  have HG := Lib.hid hs
  have HL := Lib.hid hl
  clear h hs
  go_enter Try.func13, Try.ntmps13
  go_wp2_with fail
  go_loopw [3, 4, 9] (fun s a j wr => ∃ (k : Nat) (m : Int), k ≤ S.length ∧ j = .int .i64 k ∧ a = .int .u64 m ∧ m = lastLo 0 (S.take k) ∧ OwnTr wr w.heap.size s (rowT 0 (S.take k)) ∧ Below w.heap.size w wr) (fun _ _ j _ => S.length - (intOf j).toNat)
  case atStart => exact ⟨0, 0, Nat.zero_le _, rfl, rfl, rfl, OwnTr.nil _ _, Below.refl _ _⟩
  case round =>
    obtain ⟨k, m, hk, rfl, rfl, hm, hown, hb2⟩ := hrel
    have hbs := hb2.size
    by_cases hlt : k < S.length
    · have kk : (k : Int) < S.length := by omega
      have hxk : S[k]? = some S[k] := List.getElem?_eq_getElem hlt
      generalize hit : S[k] = p at *
      obtain ⟨px, pl, ph⟩ := p
      obtain ⟨b0, off, rfl, hbl, c0, c1, c2⟩ := (HI.out.call hb2).at_ k _ hxk
      have HS := Lib.hid (row_step hxk)
      obtain ⟨g1, g2, g3, g4⟩ := spots_at HG.out hxk
      simp only at c0 c1 c2 HS g1 g2 g3 g4
      rw [← hm] at g1 g2
      have HM := Lib.hid hm
      have u1 : IntKind.u64.wrap (pl - m) = pl - m := by rw [IntKind.wrap_u64]; omega
      have u2 : IntKind.u64.wrap (ph - pl) = ph - pl := by rw [IntKind.wrap_u64]; omega
      obtain ⟨vA, vk, rfl⟩ := hown.form
      have HO := Lib.hid hown
      have HB := Lib.hid hb2
      clear hxk hit hown hm
      go_wp2_with (at_builtin; refine wpList_append_tr rfl _ _ rfl w.heap.size _ _ _ rfl (wr.heap.size + 1) ⟨px, pl - m, ph - pl⟩ rfl ((HO.out.alloc _).alloc _) rfl ?c1 ?c2 ?c3 ?c4 ?c5 ?_)
      case c4 => have := HL.out; rw [row_len, List.length_take]; omega
      case c5 => have := HB.out.size; simp; omega
      intro g' cp w1 hown' hgrow _
      have c9 := grown_new hgrow (fun g hg => (HO.out.lt g hg).2) (three_new wr _ _ _ _).2.1
      have hb4 := OwnTr.below ((HO.out.alloc _).alloc _) ((HB.out.alloc HB.out.size _).alloc (by have := HB.out.size; simp; omega) _) hgrow (by have := HB.out.size; simp; omega)
      rw [show rowT 0 (S.take k) ++ [⟨px, pl - m, ph - pl⟩] = rowT 0 (S.take (k + 1)) by rw [HS.out.1, HM.out]] at hown'
      go_wp2_with fail
      go_roundw
      case rel => exact ⟨k + 1, pl, by omega, by go_num, rfl, HS.out.2.symm, hown', hb4⟩
      case measure => simp [intOf]; omega
    · obtain rfl : k = S.length := by omega
      rw [List.take_length] at hown
      have kk : ¬ (S.length : Int) < S.length := by omega
      obtain ⟨vA, vk, rfl⟩ := hown.form
      have HO := Lib.hid hown
      clear hown
      go_wp2_with fail
      go_ret
      exact ⟨_, rfl, HO.out, hb2⟩

theorem tot_at (S : List SpotV) (hn : S.length ≠ 0) : ∃ s, S[S.length - 1]? = some s ∧ totS S = s.lo := by
  have hx := List.getElem?_eq_getElem (l := S) (i := S.length - 1) (by omega)
  refine ⟨_, hx, ?_⟩
  unfold totS
  rw [List.getLast?_eq_getElem?, hx]

set_option maxRecDepth 100000 in
set_option maxHeartbeats 1000000 in
theorem rtot18_any (w : World) (A : Option Addr) (cap : Nat) (S : List SpotV) (t : Int) (h : Spts w A S) (hl : S.length ≤ 200) (ht : totS S = t) :
    Calls Try.prog 24 #[.slice A S.length cap] w fun e w' => e = .returned (.int .u64 t) ∧ w' = w := by
  have HT := Lib.hid ht
  by_cases hz : S.length = 0
  · have e1 : ((S.length : Int) == 0) = true := by simp [hz]
    have HE : Hid (t = 0) := Lib.hid (by rw [← ht, List.eq_nil_of_length_eq_zero hz]; rfl)
    clear h hl ht hz
    go_enter Try.func24, Try.ntmps24
    go_wp2_with fail
    go_ret
    exact ⟨by rw [HE.out]; rfl, rfl⟩
  · have e1 : ((S.length : Int) == 0) = false := by rw [beq_eq_false_iff_ne]; omega
    obtain ⟨s, hx, hs⟩ := tot_at S hz
    obtain ⟨b0, off, rfl, hbl, c0, c1, c2⟩ := h.at_ _ s hx
    have hw : IntKind.i64.wrap ((S.length : Int) - 1) = ((S.length - 1 : Nat) : Int) := by rw [IntKind.wrap_i64]; omega
    have kk : ((S.length - 1 : Nat) : Int) < S.length := by omega
    have HE : Hid (s.lo = t) := Lib.hid (by rw [← ht, hs])
    clear h ht hx hs
    go_enter Try.func24, Try.ntmps24
    go_wp2_with fail
    go_ret
    exact ⟨ret_int HE.out, rfl⟩

set_option maxRecDepth 100000 in
set_option maxHeartbeats 2000000 in
theorem plain18_any (w : World) (A : Option Addr) (cap : Nat) (L : List TupV) (h : Tups w A L) (hl : L.length ≤ 200) :
    Calls Try.prog 12 #[.slice A L.length cap] w fun e w' => ∃ v, e = .returned v ∧ OwnTr w' w.heap.size v L ∧ Below w.heap.size w w' := by
  have HI := Lib.hid h
  have HL := Lib.hid hl
  clear h
  go_enter Try.func12, Try.ntmps12
  go_wp2_with fail
  go_loopw [3, 8] (fun s j wr => ∃ (k : Nat), k ≤ L.length ∧ j = .int .i64 k ∧ OwnTr wr w.heap.size s (L.take k) ∧ Below w.heap.size w wr) (fun _ j _ => L.length - (intOf j).toNat)
  case atStart => exact ⟨0, Nat.zero_le _, rfl, OwnTr.nil _ _, Below.refl _ _⟩
  case round =>
    obtain ⟨k, hk, rfl, hown, hb2⟩ := hrel
    have hbs := hb2.size
    by_cases hlt : k < L.length
    · have kk : (k : Int) < L.length := by omega
      have hxk : L[k]? = some L[k] := List.getElem?_eq_getElem hlt
      generalize hit : L[k] = p at *
      obtain ⟨px, ps, pl⟩ := p
      obtain ⟨b0, off, rfl, hbl, c0, c1, c2⟩ := (HI.out.call hb2).at_ k _ hxk
      have HS := Lib.hid (snocS hxk)
      simp only at c0 c1 c2 HS
      obtain ⟨vA, vk, hv⟩ := hown.form
      rw [show (L.take k).length = k by rw [List.length_take]; omega] at hv
      subst hv
      have HO := Lib.hid hown
      have HB := Lib.hid hb2
      clear hxk hit hown
      go_wp2_with (at_builtin; refine wpList_append_tr rfl _ _ rfl w.heap.size _ _ _ rfl (wr.heap.size + 1) ⟨px, ps, pl⟩ rfl ((HO.out.alloc _).alloc _) rfl ?c1 ?c2 ?c3 ?c4 ?c5 ?_)
      case c4 => have := HL.out; rw [List.length_take]; omega
      case c5 => have := HB.out.size; simp; omega
      intro g' cp w1 hown' hgrow _
      have hb4 := OwnTr.below ((HO.out.alloc _).alloc _) ((HB.out.alloc HB.out.size _).alloc (by have := HB.out.size; simp; omega) _) hgrow (by have := HB.out.size; simp; omega)
      rw [← HS.out] at hown'
      clear hgrow
      go_wp2_with fail
      go_roundw
      case rel => exact ⟨k + 1, by omega, by go_num, hown', hb4⟩
      case measure => simp [intOf]; omega
    · obtain rfl : k = L.length := by omega
      rw [List.take_length] at hown
      have kk : ¬ (L.length : Int) < L.length := by omega
      obtain ⟨vA, vk, rfl⟩ := hown.form
      have HO := Lib.hid hown
      clear hown
      go_wp2_with fail
      go_ret
      exact ⟨_, rfl, HO.out, hb2⟩

set_option maxRecDepth 100000 in
set_option maxHeartbeats 1000000 in
theorem up18_any (w : World) (A : Option Addr) (cap : Nat) (L : List Int) (x n : Int) (h : Nums w A L) (hl : L.length ≤ 400) (hx : I64 x) (hn : upV L x = n) :
    Calls Try.prog 21 #[.slice A L.length cap, .int .i64 x] w fun e w' => e = .returned (.int .u64 n) ∧ w' = w := by
  have HI := Lib.hid h
  have HN := Lib.hid hn
  have HBD := Lib.hid (fun k => upV_bd (L.take k) x)
  obtain ⟨x0, x1⟩ := hx
  clear h hn
  go_enter Try.func21, Try.ntmps21
  go_wp2_with fail
  go_loopw [5, 10] (fun s j wr => ∃ (k : Nat) (m : Int), k ≤ L.length ∧ j = .int .i64 k ∧ s = .int .u64 m ∧ m = upV (L.take k) x ∧ w = wr) (fun _ j _ => L.length - (intOf j).toNat)
  case atStart => exact ⟨0, 0, Nat.zero_le _, rfl, rfl, rfl, rfl⟩
  case round =>
    obtain ⟨k, m, hk, rfl, rfl, hm, rfl⟩ := hrel
    have HM := Lib.hid hm
    by_cases hlt : k < L.length
    · have kk : (k : Int) < L.length := by omega
      have hxk : L[k]? = some L[k] := List.getElem?_eq_getElem hlt
      generalize hit : L[k] = y at *
      obtain ⟨b, off, rfl, hbl, c0⟩ := HI.out.at_ k _ hxk
      have HS := Lib.hid (upV_step hxk x)
      have hok := HI.out.ok _ (List.mem_of_getElem? hxk)
      have hmb := HBD.out k
      rw [← hm, List.length_take] at hmb
      have hm9 : 0 ≤ m ∧ m ≤ 400 := by omega
      obtain ⟨m0, m1⟩ := hm9
      obtain ⟨o1, o2⟩ := hok
      clear hxk hit hm hmb
      by_cases hc : y ≤ x
      · rw [if_pos hc] at HS
        go_wp2_with fail
        go_roundw
        case rel => exact ⟨k + 1, m + 1, by omega, by go_num, rfl, by rw [HS.out, HM.out], by first | rfl | trivial⟩
        case measure => simp [intOf]; omega
      · rw [if_neg hc] at HS
        go_wp2_with fail
        go_roundw
        case rel => exact ⟨k + 1, m, by omega, by go_num, rfl, by rw [HS.out, HM.out, Int.add_zero], by first | rfl | trivial⟩
        case measure => simp [intOf]; omega
    · obtain rfl : k = L.length := by omega
      rw [List.take_length, HN.out] at HM
      have kk : ¬ (L.length : Int) < L.length := by omega
      clear hm
      go_wp2_with fail
      go_ret
      exact ⟨ret_int HM.out, rfl⟩

set_option maxRecDepth 100000 in
set_option maxHeartbeats 1000000 in
theorem un18_any (w : World) (A : Option Addr) (cap : Nat) (L : List Int) (x n : Int) (h : Nums w A L) (hl : L.length ≤ 400) (hx : I64 x) (hn : unV L x = n) :
    Calls Try.prog 20 #[.slice A L.length cap, .int .i64 x] w fun e w' => e = .returned (.int .u64 n) ∧ w' = w := by
  have HI := Lib.hid h
  have HN := Lib.hid hn
  have HBD := Lib.hid (fun k => unV_bd (L.take k) x)
  obtain ⟨x0, x1⟩ := hx
  clear h hn
  go_enter Try.func20, Try.ntmps20
  go_wp2_with fail
  go_loopw [5, 10] (fun s j wr => ∃ (k : Nat) (m : Int), k ≤ L.length ∧ j = .int .i64 k ∧ s = .int .u64 m ∧ m = unV (L.take k) x ∧ w = wr) (fun _ j _ => L.length - (intOf j).toNat)
  case atStart => exact ⟨0, 0, Nat.zero_le _, rfl, rfl, rfl, rfl⟩
  case round =>
    obtain ⟨k, m, hk, rfl, rfl, hm, rfl⟩ := hrel
    have HM := Lib.hid hm
    by_cases hlt : k < L.length
    · have kk : (k : Int) < L.length := by omega
      have hxk : L[k]? = some L[k] := List.getElem?_eq_getElem hlt
      generalize hit : L[k] = y at *
      obtain ⟨b, off, rfl, hbl, c0⟩ := HI.out.at_ k _ hxk
      have HS := Lib.hid (unV_step hxk x)
      have hok := HI.out.ok _ (List.mem_of_getElem? hxk)
      have hmb := HBD.out k
      rw [← hm, List.length_take] at hmb
      have hm9 : 0 ≤ m ∧ m ≤ 400 := by omega
      obtain ⟨m0, m1⟩ := hm9
      obtain ⟨o1, o2⟩ := hok
      clear hxk hit hm hmb
      by_cases hc : y < x
      · rw [if_pos hc] at HS
        go_wp2_with fail
        go_roundw
        case rel => exact ⟨k + 1, m + 1, by omega, by go_num, rfl, by rw [HS.out, HM.out], by first | rfl | trivial⟩
        case measure => simp [intOf]; omega
      · rw [if_neg hc] at HS
        go_wp2_with fail
        go_roundw
        case rel => exact ⟨k + 1, m, by omega, by go_num, rfl, by rw [HS.out, HM.out, Int.add_zero], by first | rfl | trivial⟩
        case measure => simp [intOf]; omega
    · obtain rfl : k = L.length := by omega
      rw [List.take_length, HN.out] at HM
      have kk : ¬ (L.length : Int) < L.length := by omega
      clear hm
      go_wp2_with fail
      go_ret
      exact ⟨ret_int HM.out, rfl⟩

end Go.Proofs.Ytjmkkglmckiknaa
