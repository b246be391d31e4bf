/-
  The law TreeLeaves, walked from the contract.
-/
import Derived.Test.YtmfbcbaomfkdiaaTreeT
import Derived.Laws.Shifts
import Derived.Deep.RegionHeld3
namespace Go.Proofs.Ytmfbcbaomfkdiaa
set_option linter.unusedVariables false
set_option linter.unusedSimpArgs false
open Go.RowKit Go.Joins

theorem wrap_leaf {b lv : Nat} (hb : b ≤ 24) (h : 2 ^ b = lv) : ((lv : Int) == IntKind.i64.wrap ((2 : Int) ^ b)) = true := by
  have hl : lv ≤ 16777216 := by rw [← h]; exact (pow_bd hb).2
  have e2 : (2 : Int) ^ b = (lv : Int) := by rw [← h, Int.natCast_pow]; rfl
  rw [e2, IntWalk.i64_in (lv : Int) (by omega)]
  simp

set_option maxRecDepth 100000 in
set_option maxHeartbeats 4000000 in
theorem tree_leaves_walk (D : TreeDoes) (d x : Int) (hd : I64 d) (hx : I64 x) (w : World) :
    Calls Try.prog 4 #[.int .i64 d, .int .i64 x] w fun e w' => e = .returned (.bool true) ∧ Below w.heap.size w w' := by
  have HAL := Lib.hid (alive16_any D w)
  by_cases hin : 1 ≤ d ∧ d ≤ 24
  case neg =>
    have HN := Lib.hid (fun W => D.new_no W d hd hin)
    clear D hin hx hd
    go_enter Try.func4, Try.ntmps4
    go_wp2_with fail
    refine HAL.out.mono ?_
    rintro e w1 ⟨rfl, b1⟩
    go_wp2_with fail
    refine (HN.out _).mono ?_
    rintro e w2 ⟨y, rfl, b2'⟩
    have b2 := b1.trans (b2'.mono b1.size)
    have hb3 : Below w2.heap.size w2 (w2.alloc (.cells #[.int .i64 y] 24)) := (Below.refl _ _).alloc (Nat.le_refl _) _
    have b3 := b2.trans (hb3.mono b2.size)
    go_wp2_with fail
    go_ret
    exact ⟨rfl, b3⟩
  case pos =>
    obtain ⟨b, rfl⟩ : ∃ b : Nat, d = b := ⟨d.toNat, by omega⟩
    have hb1 : 1 ≤ b := by omega
    have hb2 : b ≤ 24 := by omega
    have HN := Lib.hid (fun W => D.new_ok W b hb1 hb2)
    have HLV := Lib.hid (fun W => D.leaves W b hb1 hb2)
    obtain ⟨lv, hlv⟩ : ∃ lv : Nat, 2 ^ b = lv := ⟨_, rfl⟩
    have hlv1 : lv ≤ 16777216 := by rw [← hlv]; exact (pow_bd hb2).2
    by_cases hr : 0 ≤ x ∧ x < (lv : Int)
    case neg =>
      have HLF := Lib.hid (fun W => D.leaf_out W b x hb1 hb2 hx (by rw [hlv]; exact hr))
      rw [hlv] at HLV
      have hr2 : x < 0 ∨ (lv : Int) ≤ x := by omega
      obtain ⟨x0, x1⟩ := hx
      clear D hin hd hlv
      by_cases hx1 : x < 0
      · go_enter Try.func4, Try.ntmps4
        go_wp2_with fail
        refine HAL.out.mono ?_
        rintro e w1 ⟨rfl, b1⟩
        go_wp2_with fail
        refine (HN.out _).mono ?_
        rintro e w2 ⟨rfl, b2'⟩
        have b2 := b1.trans (b2'.mono b1.size)
        have hb3 : Below w2.heap.size w2 (w2.alloc (.cells #[.int .i64 b] 24)) := (Below.refl _ _).alloc (Nat.le_refl _) _
        have c3 := tree_cell w2 (.int .i64 b)
        have b3 := b2.trans (hb3.mono b2.size)
        clear b1 b2' b2 hb3
        go_wp2_with fail
        refine (HLF.out _).mono ?_
        rintro e w4 ⟨rfl, b4'⟩
        have b4 := b3.trans (b4'.mono b3.size)
        clear b3 b4'
        go_wp2_with fail
        go_ret
        exact ⟨rfl, b4⟩
      · have hx2 : (lv : Int) ≤ x := by omega
        go_enter Try.func4, Try.ntmps4
        go_wp2_with fail
        refine HAL.out.mono ?_
        rintro e w1 ⟨rfl, b1⟩
        go_wp2_with fail
        refine (HN.out _).mono ?_
        rintro e w2 ⟨rfl, b2'⟩
        have b2 := b1.trans (b2'.mono b1.size)
        have hb3 : Below w2.heap.size w2 (w2.alloc (.cells #[.int .i64 b] 24)) := (Below.refl _ _).alloc (Nat.le_refl _) _
        have c3 := tree_cell w2 (.int .i64 b)
        have b3 := b2.trans (hb3.mono b2.size)
        clear b1 b2' b2 hb3
        go_wp2_with fail
        refine (HLF.out _).mono ?_
        rintro e w4 ⟨rfl, b4'⟩
        have b4 := b3.trans (b4'.mono b3.size)
        have c4 := cell_later b4' c3
        clear b3 b4'
        go_wp2_with fail
        refine (HLV.out _).mono ?_
        rintro e w5 ⟨rfl, b5'⟩
        have b5 := b4.trans (b5'.mono b4.size)
        clear b4 b5'
        go_wp2_with fail
        go_ret
        exact ⟨rfl, b5⟩
    case pos =>
      have HLF := Lib.hid (fun W => D.leaf_in W b x hb1 hb2 hr.1 (by rw [hlv]; exact hr.2))
      rw [hlv] at HLF HLV
      obtain ⟨xn, rfl⟩ : ∃ xn : Nat, x = xn := ⟨x.toNat, by omega⟩
      have hxn : xn < 2 ^ b := by rw [hlv]; omega
      obtain ⟨l1, l2, l3⟩ := leaf_is hxn
      have e4 : 2 ^ (b + 1) = 2 * 2 ^ b := by rw [Nat.pow_succ]; omega
      have e3 : ((2 ^ b : Nat) : Int) = 2 ^ b := by rw [Int.natCast_pow]; rfl
      have hp1 := (pow_bd hb2).1
      have RR := Lib.hid (fun W => rrange_any W b (2 ^ b + xn) hb2 (by omega) (by omega) (xn : Int) (xn : Int) (by unfold loI; rw [l2]; omega) (by unfold hiI; rw [l3]; omega))
      have hgd : goodT b (((2 ^ b + xn : Nat)) : Int) = true := nat_good (by omega) (by omega)
      have LV := Lib.hid (fun W => D.level W b ((2 ^ b + xn : Nat) : Int) hb1 hb2 ⟨by omega, by omega⟩)
      have e5 : lvI b ((2 ^ b + xn : Nat) : Int) = (b : Int) := by unfold lvI; rw [if_pos hgd]; simp only [Int.toNat_natCast]; rw [l1]
      rw [e5] at LV
      rw [hlv] at RR LV
      have e6 : ((lv + xn : Nat) : Int) = (lv : Int) + xn := by omega
      rw [e6] at RR LV
      have HSH := Lib.hid (wrap_leaf hb2 hlv)
      have x0 : ¬ ((xn : Int) < 0) := by omega
      have x1 : ¬ ((lv : Int) ≤ (xn : Int)) := by omega
      have b0 : (0 : Int) ≤ b := by omega
      clear D hin hd hlv hx hxn l1 l2 l3 e3 e4 e5 e6 hp1 hgd hr
      go_enter Try.func4, Try.ntmps4
      go_wp2_with fail
      refine HAL.out.mono ?_
      rintro e w1 ⟨rfl, b1⟩
      go_wp2_with fail
      refine (HN.out _).mono ?_
      rintro e w2 ⟨rfl, b2'⟩
      have b2 := b1.trans (b2'.mono b1.size)
      have hb3 : Below w2.heap.size w2 (w2.alloc (.cells #[.int .i64 b] 24)) := (Below.refl _ _).alloc (Nat.le_refl _) _
      have c3 := tree_cell w2 (.int .i64 b)
      have b3 := b2.trans (hb3.mono b2.size)
      clear b1 b2' b2 hb3
      go_wp2_with fail
      refine (HLF.out _).mono ?_
      rintro e w4 ⟨rfl, b4'⟩
      have b4 := b3.trans (b4'.mono b3.size)
      have c4 := cell_later b4' c3
      clear b3 b4'
      go_wp2_with fail
      refine (HLV.out _).mono ?_
      rintro e w5 ⟨rfl, b5'⟩
      have b5 := b4.trans (b5'.mono b4.size)
      have c5 := cell_later b5' c4
      clear b4 b5' c4 c3
      go_wp2_with fail
      refine (RR.out _).mono ?_
      rintro e w6 ⟨rfl, b6'⟩
      have b6 := b5.trans (b6'.mono b5.size)
      have c6 := cell_later b6' c5
      clear b5 b6' c5
      have HS0 : Hid (w6.drew.cell? ⟨w2.heap.size, 0, none⟩ = some (.int .i64 b) ∧ Below w6.heap.size w6 w6.drew) := Lib.hid ⟨c6, (Below.refl _ _).drew⟩
      have HST := Lib.hid (fun (W W' : World) (h : W.cell? ⟨w2.heap.size, 0, none⟩ = some (.int .i64 b) ∧ Below w6.heap.size w6 W) (hb : Below W.heap.size W W') => (⟨cell_later hb h.1, h.2.trans (hb.mono h.2.size)⟩ : W'.cell? ⟨w2.heap.size, 0, none⟩ = some (.int .i64 b) ∧ Below w6.heap.size w6 W'))
      have HB6 := Lib.hid b6
      clear b6 c6
      go_wp2_with fail
      go_region_held3 (fun w' => w'.cell? ⟨w2.heap.size, 0, none⟩ = some (.int .i64 b) ∧ Below w6.heap.size w6 w')
        (first | exact HS0.out | exact HST.out _ _ (by assumption) hbA | exact HST.out _ _ (by assumption) hbB | assumption)
        ((first
          | (go_at_call 14; refine (LV.out _).mono ?_; rintro e wA ⟨rfl, hbA⟩)
          | (go_at_call 20; refine (HLV.out _).mono ?_; rintro e wB ⟨rfl, hbB⟩)))
      rename_i hHeld
      have b9 := HB6.out.trans (hHeld.2.mono HB6.out.size)
      go_wp2_with fail
      go_ret
      exact ⟨by show Ending.returned (.bool ((lv : Int) == IntKind.i64.wrap ((2 : Int) ^ b))) = _; rw [HSH.out], b9⟩
end Go.Proofs.Ytmfbcbaomfkdiaa
