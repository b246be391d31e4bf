/-
  The law TreeNodes, walked from the contract.
-/
import Derived.Test.YtmfbcbaomfkdiaaTreeT
import Derived.Deep.RegionHeld3
namespace Go.Proofs.Ytmfbcbaomfkdiaa
set_option linter.unusedVariables false
set_option linter.unusedSimpArgs false
open Go.RowKit Go.Joins

set_option maxRecDepth 100000 in
set_option maxHeartbeats 4000000 in
theorem tree_nodes_walk (D : TreeDoes) (d v : Int) (hd : I64 d) (hv : I64 v) (w : World) :
    Calls Try.prog 3 #[.int .i64 d, .int .i64 v] w fun e w' => e = .returned (.bool true) ∧ Below w.heap.size w w' := by
  have HD := Lib.hid D
  have HAL := Lib.hid (alive16_any D w)
  by_cases hin : 1 ≤ d ∧ d ≤ 24
  case neg =>
    have HN := Lib.hid (fun W => D.new_no W d hd hin)
    obtain ⟨x0, x1⟩ := hd
    have hin2 : d < 1 ∨ 24 < d := by omega
    clear D hin hv
    by_cases hd1 : d < 1
    all_goals
      first
      | (have hd2 : 24 < d := by omega)
      | skip
      clear hin2
      go_enter Try.func3, Try.ntmps3
      go_wp2_with fail
      refine HAL.out.mono ?_
      rintro e w1 ⟨rfl, b1⟩
      go_wp2_with fail
      refine (HN.out _).mono ?_
      rintro e w2 ⟨x, rfl, b2'⟩
      have b2 := b1.trans (b2'.mono b1.size)
      have hb3 : Below w2.heap.size w2 (w2.alloc (.cells #[.int .i64 x] 24)) := (Below.refl _ _).alloc (Nat.le_refl _) _
      have b3 := b2.trans (hb3.mono b2.size)
      go_wp2_with fail
      go_ret
      exact ⟨rfl, b3⟩
  case pos =>
    obtain ⟨b, rfl⟩ : ∃ b : Nat, d = b := ⟨d.toNat, by omega⟩
    have hb1 : 1 ≤ b := by omega
    have hb2 : b ≤ 24 := by omega
    have HN := Lib.hid (fun W => D.new_ok W b hb1 hb2)
    have HRG := Lib.hid (fun W => rgood16_any W b hb2 v hv _ rfl)
    have HGD := Lib.hid (fun W => D.good W b v hb1 hb2 hv)
    have HDP := Lib.hid (fun W => D.depth W b hb1 hb2)
    have R0 := Lib.hid (fun W => D.range W b v hb1 hb2 hv)
    have LV := Lib.hid (fun W => D.level W b v hb1 hb2 hv)
    have UP := Lib.hid (fun W => D.up W b v hb1 hb2 hv)
    have BS := Lib.hid (fun W => D.beside W b v hb1 hb2 hv)
    obtain ⟨g, hg⟩ : ∃ g, goodT b v = g := ⟨_, rfl⟩
    rw [hg] at HRG HGD
    obtain ⟨r0, hr0⟩ : ∃ r, rloI b v = r := ⟨_, rfl⟩
    obtain ⟨r1, hr1⟩ : ∃ r, rhiI b v = r := ⟨_, rfl⟩
    rw [hr0, hr1] at R0
    have HR0 := Lib.hid hr0
    have HR1 := Lib.hid hr1
    have HG := Lib.hid hg
    have HV := Lib.hid hv
    obtain ⟨v0, v1⟩ := hv
    have b0 : (1 : Int) ≤ b := by omega
    have b24 : (b : Int) ≤ 24 := by omega
    clear D hin hd hg hr0 hr1
    go_enter Try.func3, Try.ntmps3
    go_wp2_with fail
    refine HAL.out.mono ?_
    rintro e w1 ⟨rfl, b1⟩
    go_wp2_with fail
    refine (HN.out _).mono ?_
    rintro e w2 ⟨rfl, b2'⟩
    have b2 := b1.trans (b2'.mono b1.size)
    have hb3 : Below w2.heap.size w2 (w2.alloc (.cells #[.int .i64 b] 24)) := (Below.refl _ _).alloc (Nat.le_refl _) _
    have c3 := tree_cell w2 (.int .i64 b)
    have b3 := b2.trans (hb3.mono b2.size)
    clear b1 b2' b2 hb3 HN HAL
    go_wp2_with fail
    refine (R0.out _).mono ?_
    rintro e w4 ⟨rfl, b4'⟩
    have b4 := b3.trans (b4'.mono b3.size)
    have c4 := cell_later b4' c3
    clear b3 b4' R0 c3
    go_wp2_with fail
    refine (HDP.out _).mono ?_
    rintro e w5 ⟨rfl, b5'⟩
    have b5 := b4.trans (b5'.mono b4.size)
    have c5 := cell_later b5' c4
    clear b4 b5' HDP c4
    go_wp2_with fail
    refine (HGD.out _).mono ?_
    rintro e w6 ⟨rfl, b6'⟩
    have b6 := b5.trans (b6'.mono b5.size)
    have c6 := cell_later b6' c5
    clear b5 b6' c5
    go_wp2_with fail
    refine (HRG.out _).mono ?_
    rintro e w7 ⟨rfl, b7'⟩
    have b7 := b6.trans (b7'.mono b6.size)
    have c7 := cell_later b7' c6
    clear b6 b7' c6 HRG
    have gg : (g != g) = false := by cases g <;> rfl
    go_wp2_with fail
    refine (HGD.out _).mono ?_
    rintro e w8 ⟨rfl, b8'⟩
    have b8 := b7.trans (b8'.mono b7.size)
    have c8 := cell_later b8' c7
    clear b7 b8' c7 HGD gg
    cases g with
    | false =>
      have e1 : r0 = 0 := by rw [← HR0.out]; unfold rloI; rw [HG.out]; rfl
      have e2 : r1 = 0 := by rw [← HR1.out]; unfold rhiI; rw [HG.out]; rfl
      subst e1 e2
      have e3 : lvI b v = -1 := by unfold lvI; rw [HG.out]; rfl
      have e4 : upI b v = 0 := by unfold upI; rw [HG.out]; rfl
      have e5 : besI b v = 0 := by unfold besI; rw [HG.out]; rfl
      rw [e3] at LV
      rw [e4] at UP
      rw [e5] at BS
      clear e3 e4 e5 HR0 HR1
      have HS0 : Hid (w8.drew.cell? ⟨w2.heap.size, 0, none⟩ = some (.int .i64 b) ∧ Below w8.heap.size w8 w8.drew) := Lib.hid ⟨c8, (Below.refl _ _).drew⟩
      have HST := Lib.hid (fun (W W' : World) (h : W.cell? ⟨w2.heap.size, 0, none⟩ = some (.int .i64 b) ∧ Below w8.heap.size w8 W) (hb : Below W.heap.size W W') => (⟨cell_later hb h.1, h.2.trans (hb.mono h.2.size)⟩ : W'.cell? ⟨w2.heap.size, 0, none⟩ = some (.int .i64 b) ∧ Below w8.heap.size w8 W'))
      have HB8 := Lib.hid b8
      clear b8
      go_wp2_with fail
      go_region_held3 (fun w' => w'.cell? ⟨w2.heap.size, 0, none⟩ = some (.int .i64 b) ∧ Below w8.heap.size w8 w')
        (first | exact HS0.out | exact HST.out _ _ (by assumption) hbA | exact HST.out _ _ (by assumption) hbB | exact HST.out _ _ (by assumption) hbC | assumption)
        ((first
          | (go_at_call 14; refine (LV.out _).mono ?_; rintro e wA ⟨rfl, hbA⟩)
          | (go_at_call 15; refine (UP.out _).mono ?_; rintro e wB ⟨rfl, hbB⟩)
          | (go_at_call 16; refine (BS.out _).mono ?_; rintro e wC ⟨rfl, hbC⟩)))
      rename_i hHeld
      have b9 := HB8.out.trans (hHeld.2.mono HB8.out.size)
      go_wp2_with fail
      go_ret
      exact ⟨rfl, b9⟩
    | true =>
      obtain ⟨n, hn, n1, n2⟩ := good_nat HG.out
      subst hn
      have hn3 : n < 33554432 := by have := (pow_bd hb2).2; rw [Nat.pow_succ] at n2; omega
      have RR := Lib.hid (fun W => rrange_any W b n hb2 n1 n2 r0 r1 (by rw [← HR0.out]; unfold rloI; rw [if_pos HG.out]; simp) (by rw [← HR1.out]; unfold rhiI; rw [if_pos HG.out]; simp))
      have RP := Lib.hid (fun W => rpath_nat W n n1 hn3)
      have e3 : lvI b (n : Int) = (lvlT n : Int) := by unfold lvI; rw [if_pos HG.out]; simp
      have e4 : upI b (n : Int) = (n : Int) / 2 := by unfold upI; rw [if_pos HG.out]
      have hl : lvlT n ≤ 62 := lvl_le n1 (by omega)
      rw [e3] at LV
      rw [e4] at UP
      have HBE : Hid (∀ x, besI b (n : Int) = x → ∀ W, Calls Try.prog 16 #[.agg #[.int .i64 b], .int .i64 n] W fun e w' => e = .returned (.int .i64 x) ∧ Below W.heap.size W w') := Lib.hid fun x hx W => by rw [← hx]; exact BS.out W
      obtain ⟨l, hle⟩ : ∃ l, lvlT n = l := ⟨_, rfl⟩
      rw [hle] at LV RP hl
      clear e3 e4 HR0 HR1 BS hle n2
      go_wp2_with fail
      refine (RR.out _).mono ?_
      rintro e w9 ⟨rfl, b9'⟩
      have b9 := b8.trans (b9'.mono b8.size)
      have c9 := cell_later b9' c8
      clear b8 b9' RR c8
      have hcase : n = 1 ∨ (1 < n ∧ n % 2 = 0) ∨ (1 < n ∧ n % 2 = 1) := by omega
      rcases hcase with h | ⟨h, h2⟩ | ⟨h, h2⟩
      · subst h
        have HBX := Lib.hid (HBE.out 0 (by unfold besI; rw [if_neg (by simp)]))
        go_wp2_with fail
        refine (LV.out _).mono ?_
        rintro e w10 ⟨rfl, b10'⟩
        have b10 := b9.trans (b10'.mono b9.size)
        have c10 := cell_later b10' c9
        clear b9 b10' c9
        go_wp2_with fail
        refine (RP.out _).mono ?_
        rintro e w11 ⟨A, cap, rfl, b11', _⟩
        have b11 := b10.trans (b11'.mono b10.size)
        have c11 := cell_later b11' c10
        clear b10 b11' c10
        go_wp2_with fail
        refine (UP.out _).mono ?_
        rintro e w12 ⟨rfl, b12'⟩
        have b12 := b11.trans (b12'.mono b11.size)
        have c12 := cell_later b12' c11
        clear b11 b12' c11
        go_wp2_with fail
        refine (HBX.out _).mono ?_
        rintro e w13 ⟨rfl, b13'⟩
        have b13 := b12.trans (b13'.mono b12.size)
        clear b12 b13'
        go_wp2_with fail
        go_ret
        exact ⟨rfl, b13⟩
      · have HBX := Lib.hid (HBE.out ((n : Int) + 1) (by unfold besI; rw [if_pos ⟨HG.out, by omega⟩, if_pos (by omega)]))
        have k1 : (1 : Int) < n := by omega
        have k2 : ((n : Int) % 2 == 0) = true := by simp; omega
        clear h h2
        go_wp2_with fail
        refine (LV.out _).mono ?_
        rintro e w10 ⟨rfl, b10'⟩
        have b10 := b9.trans (b10'.mono b9.size)
        have c10 := cell_later b10' c9
        clear b9 b10' c9
        go_wp2_with fail
        refine (RP.out _).mono ?_
        rintro e w11 ⟨A, cap, rfl, b11', _⟩
        have b11 := b10.trans (b11'.mono b10.size)
        have c11 := cell_later b11' c10
        clear b10 b11' c10
        go_wp2_with fail
        refine (UP.out _).mono ?_
        rintro e w12 ⟨rfl, b12'⟩
        have b12 := b11.trans (b12'.mono b11.size)
        have c12 := cell_later b12' c11
        clear b11 b12' c11
        go_wp2_with fail
        refine (HBX.out _).mono ?_
        rintro e w13 ⟨rfl, b13'⟩
        have b13 := b12.trans (b13'.mono b12.size)
        clear b12 b13'
        go_wp2_with fail
        go_ret
        exact ⟨rfl, b13⟩
      · have HBX := Lib.hid (HBE.out ((n : Int) - 1) (by unfold besI; rw [if_pos ⟨HG.out, by omega⟩, if_neg (by omega)]))
        have k1 : (1 : Int) < n := by omega
        have k2 : ((n : Int) % 2 == 0) = false := by simp; omega
        clear h h2
        go_wp2_with fail
        refine (LV.out _).mono ?_
        rintro e w10 ⟨rfl, b10'⟩
        have b10 := b9.trans (b10'.mono b9.size)
        have c10 := cell_later b10' c9
        clear b9 b10' c9
        go_wp2_with fail
        refine (RP.out _).mono ?_
        rintro e w11 ⟨A, cap, rfl, b11', _⟩
        have b11 := b10.trans (b11'.mono b10.size)
        have c11 := cell_later b11' c10
        clear b10 b11' c10
        go_wp2_with fail
        refine (UP.out _).mono ?_
        rintro e w12 ⟨rfl, b12'⟩
        have b12 := b11.trans (b12'.mono b11.size)
        have c12 := cell_later b12' c11
        clear b11 b12' c11
        go_wp2_with fail
        refine (HBX.out _).mono ?_
        rintro e w13 ⟨rfl, b13'⟩
        have b13 := b12.trans (b13'.mono b12.size)
        clear b12 b13'
        go_wp2_with fail
        go_ret
        exact ⟨rfl, b13⟩
end Go.Proofs.Ytmfbcbaomfkdiaa
