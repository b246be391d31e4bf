/-
  The law TreePath, walked from the contract.
-/
import Derived.Test.YtmfbcbaomfkdiaaTreeT
import Derived.Deep.RegionHeld3
namespace Go.Proofs.Ytmfbcbaomfkdiaa
set_option linter.unusedVariables false
set_option linter.unusedSimpArgs false
open Go.RowKit Go.Joins

theorem path_facts {b xn k : Nat} (hb : b ≤ 24) (hx : xn < 2 ^ b) (hk : k < b) (v u : Nat) (hv : v = (2 ^ b + xn) / 2 ^ k) (hu : u = v / 2) :
    2 ≤ v ∧ goodT b (v : Int) = true ∧ goodT b (u : Int) = true ∧ upI b (v : Int) = u ∧ rloI b (u : Int) ≤ xn ∧ (xn : Int) ≤ rhiI b (u : Int) ∧
    abI b (u : Int) ((2 ^ b + xn : Nat) : Int) = true ∧ lvI b (u : Int) = (b : Int) - k - 1 ∧ lvI b (v : Int) = (b : Int) - k ∧ beforeT b (v : Int).toNat (u : Int).toNat = true := by
  obtain ⟨l1, l2, l3⟩ := leaf_is hx
  have hp := (pow_bd hb).2
  have e4 : 2 ^ (b + 1) = 2 * 2 ^ b := by rw [Nat.pow_succ]; omega
  have e3 : ((2 ^ b : Nat) : Int) = 2 ^ b := by rw [Int.natCast_pow]; rfl
  have hn : 1 ≤ 2 ^ b + xn := by have := Nat.two_pow_pos b; omega
  have hn2 : 2 ^ b + xn < 2 ^ (b + 1) := by omega
  obtain ⟨a1, a2⟩ := lvl_div k hn (by omega)
  obtain ⟨c1, c2⟩ := lvl_div (k + 1) hn (by omega)
  have hu2 : u = (2 ^ b + xn) / 2 ^ (k + 1) := by rw [hu, hv, Nat.pow_succ, Nat.div_div_eq_div_mul]
  obtain ⟨d1, d2⟩ := range_div (b := b) (k := k + 1) hn hn2 (by omega)
  rw [← hu2] at c1 c2 d1 d2
  rw [← hv] at a1 a2
  have hle : v ≤ 2 ^ b + xn := by rw [hv]; exact Nat.div_le_self _ _
  have hv2 : 2 ≤ v := by omega
  have gv : goodT b (v : Int) = true := nat_good (by omega) (by omega)
  have gu : goodT b (u : Int) = true := nat_good (by omega) (by omega)
  have gn : goodT b ((2 ^ b + xn : Nat) : Int) = true := nat_good hn hn2
  obtain ⟨f1, f2⟩ := range_div (b := b) (w := v) (k := 1) (by omega) (by omega) (by omega)
  rw [Nat.pow_one, ← hu] at f1 f2
  refine ⟨hv2, gv, gu, ?_, ?_, ?_, ?_, ?_, ?_, ?_⟩
  · unfold upI; rw [if_pos gv]; omega
  · unfold rloI loI; rw [if_pos gu, Int.toNat_natCast]; omega
  · unfold rhiI hiI; rw [if_pos gu, Int.toNat_natCast]; omega
  · unfold abI
    rw [gu, gn, Int.toNat_natCast, Int.toNat_natCast]
    simp only [Bool.and_self, Bool.true_and, decide_eq_true_eq]
    refine ⟨by omega, ?_⟩
    rw [c2, l1, show b - (b - (k + 1)) = k + 1 by omega, hu2]
  · unfold lvI; rw [if_pos gu, Int.toNat_natCast, c2, l1]; omega
  · unfold lvI; rw [if_pos gv, Int.toNat_natCast, a2, l1]; omega
  · unfold beforeT
    rw [Int.toNat_natCast, Int.toNat_natCast]
    simp only [Bool.or_eq_true, Bool.and_eq_true, decide_eq_true_eq]
    omega

set_option maxRecDepth 400000 in
set_option maxHeartbeats 4000000 in
theorem tree_path_walk (D : TreeDoes) (d x : Int) (hd : I64 d) (hx : I64 x) (w : World) :
    Calls Try.prog 7 #[.int .i64 d, .int .i64 x] w fun e w' => e = .returned (.bool true) ∧ Below w.heap.size w w' := by
  have HD := Lib.hid D
  have HAL := Lib.hid (alive16_any D w)
  by_cases hin : 1 ≤ d ∧ d ≤ 24
  case neg =>
    have HN := Lib.hid (fun W => D.new_no W d hd hin)
    clear D hin hx hd
    go_enter Try.func7, Try.ntmps7
    go_wp2_with fail
    refine HAL.out.mono ?_
    rintro e w1 ⟨rfl, b1⟩
    go_wp2_with fail
    refine (HN.out _).mono ?_
    rintro e w2 ⟨y, rfl, b2'⟩
    have b2 := b1.trans (b2'.mono b1.size)
    have hb3 : Below w2.heap.size w2 (w2.alloc (.cells #[.int .i64 y] 24)) := (Below.refl _ _).alloc (Nat.le_refl _) _
    have b3 := b2.trans (hb3.mono b2.size)
    go_wp2_with fail
    go_ret
    exact ⟨rfl, b3⟩
  case pos =>
    obtain ⟨b, rfl⟩ : ∃ b : Nat, d = b := ⟨d.toNat, by omega⟩
    have hb1 : 1 ≤ b := by omega
    have hb2 : b ≤ 24 := by omega
    have HN := Lib.hid (fun W => D.new_ok W b hb1 hb2)
    have HLV := Lib.hid (fun W => D.leaves W b hb1 hb2)
    obtain ⟨lv, hlv⟩ : ∃ lv : Nat, 2 ^ b = lv := ⟨_, rfl⟩
    have hlv1 : lv ≤ 16777216 := by rw [← hlv]; exact (pow_bd hb2).2
    by_cases hr : 0 ≤ x ∧ x < (lv : Int)
    case neg =>
      have HLF := Lib.hid (fun W => D.leaf_out W b x hb1 hb2 hx (by rw [hlv]; exact hr))
      rw [hlv] at HLV
      have hr2 : x < 0 ∨ (lv : Int) ≤ x := by omega
      obtain ⟨x0, x1⟩ := hx
      clear D hin hd hlv
      by_cases hx1 : x < 0
      · go_enter Try.func7, Try.ntmps7
        go_wp2_with fail
        refine HAL.out.mono ?_
        rintro e w1 ⟨rfl, b1⟩
        go_wp2_with fail
        refine (HN.out _).mono ?_
        rintro e w2 ⟨rfl, b2'⟩
        have b2 := b1.trans (b2'.mono b1.size)
        have hb3 : Below w2.heap.size w2 (w2.alloc (.cells #[.int .i64 b] 24)) := (Below.refl _ _).alloc (Nat.le_refl _) _
        have c3 := tree_cell w2 (.int .i64 b)
        have b3 := b2.trans (hb3.mono b2.size)
        clear b1 b2' b2 hb3
        go_wp2_with fail
        refine (HLF.out _).mono ?_
        rintro e w4 ⟨rfl, b4'⟩
        have b4 := b3.trans (b4'.mono b3.size)
        clear b3 b4'
        go_wp2_with fail
        go_ret
        exact ⟨rfl, b4⟩
      · have hx2 : (lv : Int) ≤ x := by omega
        go_enter Try.func7, Try.ntmps7
        go_wp2_with fail
        refine HAL.out.mono ?_
        rintro e w1 ⟨rfl, b1⟩
        go_wp2_with fail
        refine (HN.out _).mono ?_
        rintro e w2 ⟨rfl, b2'⟩
        have b2 := b1.trans (b2'.mono b1.size)
        have hb3 : Below w2.heap.size w2 (w2.alloc (.cells #[.int .i64 b] 24)) := (Below.refl _ _).alloc (Nat.le_refl _) _
        have c3 := tree_cell w2 (.int .i64 b)
        have b3 := b2.trans (hb3.mono b2.size)
        clear b1 b2' b2 hb3
        go_wp2_with fail
        refine (HLF.out _).mono ?_
        rintro e w4 ⟨rfl, b4'⟩
        have b4 := b3.trans (b4'.mono b3.size)
        have c4 := cell_later b4' c3
        clear b3 b4'
        go_wp2_with fail
        refine (HLV.out _).mono ?_
        rintro e w5 ⟨rfl, b5'⟩
        have b5 := b4.trans (b5'.mono b4.size)
        clear b4 b5'
        go_wp2_with fail
        go_ret
        exact ⟨rfl, b5⟩
    case pos =>
      have HLF := Lib.hid (fun W => D.leaf_in W b x hb1 hb2 hr.1 (by rw [hlv]; exact hr.2))
      rw [hlv] at HLF HLV
      obtain ⟨xn, rfl⟩ : ∃ xn : Nat, x = xn := ⟨x.toNat, by omega⟩
      have hxn : xn < 2 ^ b := by rw [hlv]; omega
      have HXN := Lib.hid hxn
      have HLE := Lib.hid hlv
      have xlv : xn < lv := by omega
      have lv1 : 1 ≤ lv := by omega
      clear D hin hd hlv hx hxn hr HLV
      go_enter Try.func7, Try.ntmps7
      go_wp2_with fail
      refine HAL.out.mono ?_
      rintro e w1 ⟨rfl, b1⟩
      go_wp2_with fail
      refine (HN.out _).mono ?_
      rintro e w2 ⟨rfl, b2'⟩
      have b2 := b1.trans (b2'.mono b1.size)
      have hb3 : Below w2.heap.size w2 (w2.alloc (.cells #[.int .i64 b] 24)) := (Below.refl _ _).alloc (Nat.le_refl _) _
      have c3 := tree_cell w2 (.int .i64 b)
      have b3 := b2.trans (hb3.mono b2.size)
      clear b1 b2' b2 hb3
      go_wp2_with fail
      refine (HLF.out _).mono ?_
      rintro e w4 ⟨rfl, b4'⟩
      have b4 := b3.trans (b4'.mono b3.size)
      have c4 := cell_later b4' c3
      clear b3 b4' c3 HLF HN HAL
      go_wp2_with fail
      go_loopg [9, 10] b (fun g kk vv wr => ∃ (k v : Nat), k ≤ b ∧ g = b - k ∧ v = (2 ^ b + xn) / 2 ^ k ∧ kk = .int .i64 k ∧ vv = .int .i64 v ∧ wr.cell? ⟨w2.heap.size, 0, none⟩ = some (.int .i64 b) ∧ Below w.heap.size w wr)
      case atStart => exact ⟨0, lv + xn, Nat.zero_le _, rfl, by rw [HLE.out, Nat.pow_zero, Nat.div_one], by first | rfl | go_num, by first | rfl | go_num | exact congrArg (Value.int .i64) (by omega), by assumption, by assumption⟩
      case round =>
        rename_i wr
        obtain ⟨k, v, hk, rfl, hv, rfl, rfl, hc, hb5⟩ := hrel
        have HVE := Lib.hid hv
        clear hv c4 b4
        by_cases hlt : k < b
        · obtain ⟨u, hu⟩ : ∃ u, u = v / 2 := ⟨_, rfl⟩
          obtain ⟨f1, f2, f3, f4, f5, f6, f7, f8, f9, f10⟩ := path_facts hb2 HXN.out hlt v u HVE.out hu
          have hvb : v < 33554432 := (good_nat f2).elim fun n hn => by
            obtain ⟨e, n1, n2⟩ := hn
            have := (pow_bd hb2).2
            rw [Nat.pow_succ] at n2; omega
          have UP := Lib.hid (fun W => HD.out.up W b v hb1 hb2 ⟨by omega, by omega⟩)
          have RG := Lib.hid (fun W => HD.out.range W b u hb1 hb2 ⟨by omega, by omega⟩)
          have AB := Lib.hid (fun W => HD.out.above W b u ((2 ^ b + xn : Nat) : Int) hb1 hb2 ⟨by omega, by omega⟩ (by rw [HLE.out]; exact ⟨by omega, by omega⟩))
          have LU := Lib.hid (fun W => HD.out.level W b u hb1 hb2 ⟨by omega, by omega⟩)
          have LV := Lib.hid (fun W => HD.out.level W b v hb1 hb2 ⟨by omega, by omega⟩)
          have BF := Lib.hid (fun W => HD.out.before W b v u hb1 hb2 f2 f3)
          obtain ⟨r0, hr0⟩ : ∃ r, rloI b (u : Int) = r := ⟨_, rfl⟩
          obtain ⟨r1, hr1⟩ : ∃ r, rhiI b (u : Int) = r := ⟨_, rfl⟩
          obtain ⟨l, hl⟩ : ∃ l : Int, (b : Int) - k = l := ⟨_, rfl⟩
          rw [f4] at UP
          rw [hr0, hr1] at RG
          rw [f7] at AB
          rw [HLE.out, show ((lv + xn : Nat) : Int) = (lv : Int) + xn by omega] at AB
          obtain ⟨m, hm⟩ : ∃ m : Int, l - 1 = m := ⟨_, rfl⟩
          rw [f8, hl, hm] at LU
          rw [f9, hl] at LV
          rw [f10] at BF
          rw [hr0] at f5
          rw [hr1] at f6
          have l0 : 1 ≤ l := by omega
          have l1 : l ≤ 24 := by omega
          have HU := Lib.hid hu
          have k1 : IntKind.i64.wrap (l - 1) = m := by rw [IntWalk.i64_in (l - 1) (by omega)]; exact hm
          have k2 : wrap64 (l - 1) = m := by rw [IntWalk.wrap64_in (l - 1) (by omega)]; exact hm
          have k3 : (!(m == m)) = false := by simp
          have k4 : (m == m) = true := by simp
          have k5 : (m != m) = false := by simp
          have g1 : (1 : Int) < v := by omega
          have g5 : decide ((xn : Int) < r0) = false := decide_eq_false (by omega)
          have g6 : decide (r1 < (xn : Int)) = false := decide_eq_false (by omega)
          clear f2 f3 f4 f7 f8 f9 f10 hr0 hr1 hl hu hm l0 l1
          go_wp2_with fail
          refine (UP.out _).mono ?_
          rintro e w6 ⟨rfl, b6'⟩
          have b6 := hb5.trans (b6'.mono hb5.size)
          have c6 := cell_later b6' hc
          clear hb5 b6' hc
          go_wp2_with fail
          refine (RG.out _).mono ?_
          rintro e w7 ⟨rfl, b7'⟩
          have b7 := b6.trans (b7'.mono b6.size)
          have c7 := cell_later b7' c6
          clear b6 b7' c6
          have HS0 : Hid (w7.drew.cell? ⟨w2.heap.size, 0, none⟩ = some (.int .i64 b) ∧ Below w7.heap.size w7 w7.drew) := Lib.hid ⟨c7, (Below.refl _ _).drew⟩
          have HST := Lib.hid (fun (W W' : World) (h : W.cell? ⟨w2.heap.size, 0, none⟩ = some (.int .i64 b) ∧ Below w7.heap.size w7 W) (hb : Below W.heap.size W W') => (⟨cell_later hb h.1, h.2.trans (hb.mono h.2.size)⟩ : W'.cell? ⟨w2.heap.size, 0, none⟩ = some (.int .i64 b) ∧ Below w7.heap.size w7 W'))
          have HB7 := Lib.hid b7
          clear b7 c7
          go_wp2_with fail
          refine wp_region_noPanic ?_
          refine wp_region_held_drew (S := (fun w' => w'.cell? ⟨w2.heap.size, 0, none⟩ = some (.int .i64 b) ∧ Below w7.heap.size w7 w')) (by kernel_rfl) (HS0.out) (fun hHeld => ?_)
          refine wpAnyH_take (i := 0) (oi := _) (v := ?v0) (by simp only [List.getElem?_toArray, List.getElem?_cons_succ, List.getElem?_cons_zero]; rfl) (by kernel_rfl) (by kernel_rfl) (by kernel_rfl) (fun _ _ _ h => h) (Or.inl ⟨by rfl, ?y0⟩) hHeld ?r0
          case y0 => (intro w hSw; (try dsimp only at hSw); go_simp; try with_reducible rfl)
          try simp only [Act.put, List.setIfInBounds_toArray, List.set_cons_zero, List.set_cons_succ]
          refine wpAnyH_take (i := 1) (oi := _) (v := ?v1) (by simp only [List.getElem?_toArray, List.getElem?_cons_succ, List.getElem?_cons_zero]; rfl) (by kernel_rfl) (by kernel_rfl) (by kernel_rfl) (fun _ _ _ h => h) (Or.inl ⟨by rfl, ?y1⟩) hHeld ?r1
          case y1 => (intro w hSw; (try dsimp only at hSw); go_simp; try with_reducible rfl)
          try simp only [Act.put, List.setIfInBounds_toArray, List.set_cons_zero, List.set_cons_succ]
          refine wpAnyH_take (i := 2) (oi := _) (v := ?v2) (by simp only [List.getElem?_toArray, List.getElem?_cons_succ, List.getElem?_cons_zero]; rfl) (by kernel_rfl) (by kernel_rfl) (by kernel_rfl) (fun _ _ _ h => h) (Or.inl ⟨by rfl, ?y2⟩) hHeld ?r2
          case y2 => (intro w hSw; (try dsimp only at hSw); go_simp; try with_reducible rfl)
          try simp only [Act.put, List.setIfInBounds_toArray, List.set_cons_zero, List.set_cons_succ]
          refine wpAnyH_ready (rs := [3]) (by kernel_rfl) (by simp) ?_
          refine AllReadyH.cons (o := _) (by simp only [List.getElem?_toArray, List.getElem?_cons_succ, List.getElem?_cons_zero]; rfl) (fun K hK => ?_) AllReadyH.nil
          go_simp
          with_reducible refine (AB.out _).mono ?_; rintro e wA ⟨rfl, hbA⟩
          try (go_wp2_with fail)
          refine hK.out _ _ (HST.out _ _ hHeld hbA) (fun hHeld => ?_)
          clear hK K
          try simp only [Act.put, List.setIfInBounds_toArray, List.set_cons_zero, List.set_cons_succ]
          refine wpAnyH_take (i := 4) (oi := _) (v := ?v4) (by simp only [List.getElem?_toArray, List.getElem?_cons_succ, List.getElem?_cons_zero]; rfl) (by kernel_rfl) (by kernel_rfl) (by kernel_rfl) (fun _ _ _ h => h) (Or.inl ⟨by rfl, ?y4⟩) hHeld ?r4
          case y4 => (intro w hSw; (try dsimp only at hSw); go_simp; try with_reducible rfl)
          try simp only [Act.put, List.setIfInBounds_toArray, List.set_cons_zero, List.set_cons_succ]
          refine wpAnyH_take (i := 5) (oi := _) (v := ?v5) (by simp only [List.getElem?_toArray, List.getElem?_cons_succ, List.getElem?_cons_zero]; rfl) (by kernel_rfl) (by kernel_rfl) (by kernel_rfl) (fun _ _ _ h => h) (Or.inl ⟨by rfl, ?y5⟩) hHeld ?r5
          case y5 => (intro w hSw; (try dsimp only at hSw); go_simp; try with_reducible rfl)
          try simp only [Act.put, List.setIfInBounds_toArray, List.set_cons_zero, List.set_cons_succ]
          refine wpAnyH_take (i := 6) (oi := _) (v := ?v6) (by simp only [List.getElem?_toArray, List.getElem?_cons_succ, List.getElem?_cons_zero]; rfl) (by kernel_rfl) (by kernel_rfl) (by kernel_rfl) (fun _ _ _ h => h) (Or.inl ⟨by rfl, ?y6⟩) hHeld ?r6
          case y6 => (intro w hSw; (try dsimp only at hSw); go_simp; try with_reducible rfl)
          try simp only [Act.put, List.setIfInBounds_toArray, List.set_cons_zero, List.set_cons_succ]
          refine wpAnyH_take (i := 7) (oi := _) (v := ?v7) (by simp only [List.getElem?_toArray, List.getElem?_cons_succ, List.getElem?_cons_zero]; rfl) (by kernel_rfl) (by kernel_rfl) (by kernel_rfl) (fun _ _ _ h => h) (Or.inl ⟨by rfl, ?y7⟩) hHeld ?r7
          case y7 => (intro w hSw; (try dsimp only at hSw); go_simp; try with_reducible rfl)
          try simp only [Act.put, List.setIfInBounds_toArray, List.set_cons_zero, List.set_cons_succ]
          refine wpAnyH_take (i := 8) (oi := _) (v := ?v8) (by simp only [List.getElem?_toArray, List.getElem?_cons_succ, List.getElem?_cons_zero]; rfl) (by kernel_rfl) (by kernel_rfl) (by kernel_rfl) (fun _ _ _ h => h) (Or.inl ⟨by rfl, ?y8⟩) hHeld ?r8
          case y8 => (intro w hSw; (try dsimp only at hSw); go_simp; try with_reducible rfl)
          try simp only [Act.put, List.setIfInBounds_toArray, List.set_cons_zero, List.set_cons_succ]
          refine wpAnyH_take (i := 9) (oi := _) (v := ?v9) (by simp only [List.getElem?_toArray, List.getElem?_cons_succ, List.getElem?_cons_zero]; rfl) (by kernel_rfl) (by kernel_rfl) (by kernel_rfl) (fun _ _ _ h => h) (Or.inl ⟨by rfl, ?y9⟩) hHeld ?r9
          case y9 => (intro w hSw; (try dsimp only at hSw); go_simp; try with_reducible rfl)
          try simp only [Act.put, List.setIfInBounds_toArray, List.set_cons_zero, List.set_cons_succ]
          refine wpAnyH_take (i := 10) (oi := _) (v := ?v10) (by simp only [List.getElem?_toArray, List.getElem?_cons_succ, List.getElem?_cons_zero]; rfl) (by kernel_rfl) (by kernel_rfl) (by kernel_rfl) (fun _ _ _ h => h) (Or.inl ⟨by rfl, ?y10⟩) hHeld ?r10
          case y10 => (intro w hSw; (try dsimp only at hSw); go_simp; try with_reducible rfl)
          try simp only [Act.put, List.setIfInBounds_toArray, List.set_cons_zero, List.set_cons_succ]
          refine wpAnyH_take (i := 11) (oi := _) (v := ?v11) (by simp only [List.getElem?_toArray, List.getElem?_cons_succ, List.getElem?_cons_zero]; rfl) (by kernel_rfl) (by kernel_rfl) (by kernel_rfl) (fun _ _ _ h => h) (Or.inl ⟨by rfl, ?y11⟩) hHeld ?r11
          case y11 => (intro w hSw; (try dsimp only at hSw); go_simp; try with_reducible rfl)
          try simp only [Act.put, List.setIfInBounds_toArray, List.set_cons_zero, List.set_cons_succ]
          refine wpAnyH_take (i := 12) (oi := _) (v := ?v12) (by simp only [List.getElem?_toArray, List.getElem?_cons_succ, List.getElem?_cons_zero]; rfl) (by kernel_rfl) (by kernel_rfl) (by kernel_rfl) (fun _ _ _ h => h) (Or.inl ⟨by rfl, ?y12⟩) hHeld ?r12
          case y12 => (intro w hSw; (try dsimp only at hSw); go_simp; try with_reducible rfl)
          try simp only [Act.put, List.setIfInBounds_toArray, List.set_cons_zero, List.set_cons_succ]
          refine wpAnyH_take (i := 13) (oi := _) (v := ?v13) (by simp only [List.getElem?_toArray, List.getElem?_cons_succ, List.getElem?_cons_zero]; rfl) (by kernel_rfl) (by kernel_rfl) (by kernel_rfl) (fun _ _ _ h => h) (Or.inl ⟨by rfl, ?y13⟩) hHeld ?r13
          case y13 => (intro w hSw; (try dsimp only at hSw); go_simp; try with_reducible rfl)
          try simp only [Act.put, List.setIfInBounds_toArray, List.set_cons_zero, List.set_cons_succ]
          refine wpAnyH_take (i := 14) (oi := _) (v := ?v14) (by simp only [List.getElem?_toArray, List.getElem?_cons_succ, List.getElem?_cons_zero]; rfl) (by kernel_rfl) (by kernel_rfl) (by kernel_rfl) (fun _ _ _ h => h) (Or.inl ⟨by rfl, ?y14⟩) hHeld ?r14
          case y14 => (intro w hSw; (try dsimp only at hSw); go_simp; try with_reducible rfl)
          try simp only [Act.put, List.setIfInBounds_toArray, List.set_cons_zero, List.set_cons_succ]
          refine wpAnyH_take (i := 15) (oi := _) (v := ?v15) (by simp only [List.getElem?_toArray, List.getElem?_cons_succ, List.getElem?_cons_zero]; rfl) (by kernel_rfl) (by kernel_rfl) (by kernel_rfl) (fun _ _ _ h => h) (Or.inl ⟨by rfl, ?y15⟩) hHeld ?r15
          case y15 => (intro w hSw; (try dsimp only at hSw); go_simp; try with_reducible rfl)
          try simp only [Act.put, List.setIfInBounds_toArray, List.set_cons_zero, List.set_cons_succ]
          refine wpAnyH_take (i := 16) (oi := _) (v := ?v16) (by simp only [List.getElem?_toArray, List.getElem?_cons_succ, List.getElem?_cons_zero]; rfl) (by kernel_rfl) (by kernel_rfl) (by kernel_rfl) (fun _ _ _ h => h) (Or.inl ⟨by rfl, ?y16⟩) hHeld ?r16
          case y16 => (intro w hSw; (try dsimp only at hSw); go_simp; try with_reducible rfl)
          try simp only [Act.put, List.setIfInBounds_toArray, List.set_cons_zero, List.set_cons_succ]
          refine wpAnyH_take (i := 17) (oi := _) (v := ?v17) (by simp only [List.getElem?_toArray, List.getElem?_cons_succ, List.getElem?_cons_zero]; rfl) (by kernel_rfl) (by kernel_rfl) (by kernel_rfl) (fun _ _ _ h => h) (Or.inl ⟨by rfl, ?y17⟩) hHeld ?r17
          case y17 => (intro w hSw; (try dsimp only at hSw); go_simp; try with_reducible rfl)
          try simp only [Act.put, List.setIfInBounds_toArray, List.set_cons_zero, List.set_cons_succ]
          refine wpAnyH_take (i := 19) (oi := _) (v := ?v19) (by simp only [List.getElem?_toArray, List.getElem?_cons_succ, List.getElem?_cons_zero]; rfl) (by kernel_rfl) (by kernel_rfl) (by kernel_rfl) (fun _ _ _ h => h) (Or.inl ⟨by rfl, ?y19⟩) hHeld ?r19
          case y19 => (intro w hSw; (try dsimp only at hSw); go_simp; try with_reducible rfl)
          try simp only [Act.put, List.setIfInBounds_toArray, List.set_cons_zero, List.set_cons_succ]
          refine wpAnyH_take (i := 20) (oi := _) (v := ?v20) (by simp only [List.getElem?_toArray, List.getElem?_cons_succ, List.getElem?_cons_zero]; rfl) (by kernel_rfl) (by kernel_rfl) (by kernel_rfl) (fun _ _ _ h => h) (Or.inl ⟨by rfl, ?y20⟩) hHeld ?r20
          case y20 => (intro w hSw; (try dsimp only at hSw); go_simp; try with_reducible rfl)
          try simp only [Act.put, List.setIfInBounds_toArray, List.set_cons_zero, List.set_cons_succ]
          refine wpAnyH_ready (rs := [18]) (by kernel_rfl) (by simp) ?_
          refine AllReadyH.cons (o := _) (by simp only [List.getElem?_toArray, List.getElem?_cons_succ, List.getElem?_cons_zero]; rfl) (fun K hK => ?_) AllReadyH.nil
          go_simp
          with_reducible refine (LU.out _).mono ?_; rintro e wA ⟨rfl, hbA⟩
          try (go_wp2_with fail)
          refine hK.out _ _ (HST.out _ _ hHeld hbA) (fun hHeld => ?_)
          clear hK K
          try simp only [Act.put, List.setIfInBounds_toArray, List.set_cons_zero, List.set_cons_succ]
          refine wpAnyH_ready (rs := [21]) (by kernel_rfl) (by simp) ?_
          refine AllReadyH.cons (o := _) (by simp only [List.getElem?_toArray, List.getElem?_cons_succ, List.getElem?_cons_zero]; rfl) (fun K hK => ?_) AllReadyH.nil
          go_simp
          with_reducible refine (LV.out _).mono ?_; rintro e wA ⟨rfl, hbA⟩
          try (go_wp2_with fail)
          refine hK.out _ _ (HST.out _ _ hHeld hbA) (fun hHeld => ?_)
          clear hK K
          try simp only [Act.put, List.setIfInBounds_toArray, List.set_cons_zero, List.set_cons_succ]
          refine wpAnyH_take (i := 22) (oi := _) (v := ?v22) (by simp only [List.getElem?_toArray, List.getElem?_cons_succ, List.getElem?_cons_zero]; rfl) (by kernel_rfl) (by kernel_rfl) (by kernel_rfl) (fun _ _ _ h => h) (Or.inl ⟨by rfl, ?y22⟩) hHeld ?r22
          case y22 => (intro w hSw; (try dsimp only at hSw); go_simp; try with_reducible rfl)
          try simp only [Act.put, List.setIfInBounds_toArray, List.set_cons_zero, List.set_cons_succ]
          refine wpAnyH_take (i := 23) (oi := _) (v := ?v23) (by simp only [List.getElem?_toArray, List.getElem?_cons_succ, List.getElem?_cons_zero]; rfl) (by kernel_rfl) (by kernel_rfl) (by kernel_rfl) (fun _ _ _ h => h) (Or.inl ⟨by rfl, ?y23⟩) hHeld ?r23
          case y23 => (intro w hSw; (try dsimp only at hSw); go_simp; try with_reducible rfl)
          try simp only [Act.put, List.setIfInBounds_toArray, List.set_cons_zero, List.set_cons_succ]
          refine wpAnyH_take (i := 24) (oi := _) (v := ?v24) (by simp only [List.getElem?_toArray, List.getElem?_cons_succ, List.getElem?_cons_zero]; rfl) (by kernel_rfl) (by kernel_rfl) (by kernel_rfl) (fun _ _ _ h => h) (Or.inl ⟨by rfl, ?y24⟩) hHeld ?r24
          case y24 => (intro w hSw; (try dsimp only at hSw); go_simp; try with_reducible rfl)
          try simp only [Act.put, List.setIfInBounds_toArray, List.set_cons_zero, List.set_cons_succ]
          refine wpAnyH_take (i := 25) (oi := _) (v := ?v25) (by simp only [List.getElem?_toArray, List.getElem?_cons_succ, List.getElem?_cons_zero]; rfl) (by kernel_rfl) (by kernel_rfl) (by kernel_rfl) (fun _ _ _ h => h) (Or.inl ⟨by rfl, ?y25⟩) hHeld ?r25
          case y25 => (intro w hSw; (try dsimp only at hSw); go_simp; try with_reducible rfl)
          try simp only [Act.put, List.setIfInBounds_toArray, List.set_cons_zero, List.set_cons_succ]
          refine wpAnyH_take (i := 26) (oi := _) (v := ?v26) (by simp only [List.getElem?_toArray, List.getElem?_cons_succ, List.getElem?_cons_zero]; rfl) (by kernel_rfl) (by kernel_rfl) (by kernel_rfl) (fun _ _ _ h => h) (Or.inl ⟨by rfl, ?y26⟩) hHeld ?r26
          case y26 => (intro w hSw; (try dsimp only at hSw); go_simp; try with_reducible rfl)
          try simp only [Act.put, List.setIfInBounds_toArray, List.set_cons_zero, List.set_cons_succ]
          refine wpAnyH_take (i := 27) (oi := _) (v := ?v27) (by simp only [List.getElem?_toArray, List.getElem?_cons_succ, List.getElem?_cons_zero]; rfl) (by kernel_rfl) (by kernel_rfl) (by kernel_rfl) (fun _ _ _ h => h) (Or.inl ⟨by rfl, ?y27⟩) hHeld ?r27
          case y27 => (intro w hSw; (try dsimp only at hSw); go_simp; try with_reducible rfl)
          try simp only [Act.put, List.setIfInBounds_toArray, List.set_cons_zero, List.set_cons_succ]
          refine wpAnyH_take (i := 28) (oi := _) (v := ?v28) (by simp only [List.getElem?_toArray, List.getElem?_cons_succ, List.getElem?_cons_zero]; rfl) (by kernel_rfl) (by kernel_rfl) (by kernel_rfl) (fun _ _ _ h => h) (Or.inl ⟨by rfl, ?y28⟩) hHeld ?r28
          case y28 => (intro w hSw; (try dsimp only at hSw); go_simp; try with_reducible rfl)
          try simp only [Act.put, List.setIfInBounds_toArray, List.set_cons_zero, List.set_cons_succ]
          refine wpAnyH_ready (rs := [29]) (by kernel_rfl) (by simp) ?_
          refine AllReadyH.cons (o := _) (by simp only [List.getElem?_toArray, List.getElem?_cons_succ, List.getElem?_cons_zero]; rfl) (fun K hK => ?_) AllReadyH.nil
          go_simp
          with_reducible refine (BF.out _).mono ?_; rintro e wA ⟨rfl, hbA⟩
          try (go_wp2_with fail)
          refine hK.out _ _ (HST.out _ _ hHeld hbA) (fun hHeld => ?_)
          clear hK K
          try simp only [Act.put, List.setIfInBounds_toArray, List.set_cons_zero, List.set_cons_succ]
          refine wpAnyH_take (i := 30) (oi := _) (v := ?v30) (by simp only [List.getElem?_toArray, List.getElem?_cons_succ, List.getElem?_cons_zero]; rfl) (by kernel_rfl) (by kernel_rfl) (by kernel_rfl) (fun _ _ _ h => h) (Or.inl ⟨by rfl, ?y30⟩) hHeld ?r30
          case y30 => (intro w hSw; (try dsimp only at hSw); go_simp; try with_reducible rfl)
          try simp only [Act.put, List.setIfInBounds_toArray, List.set_cons_zero, List.set_cons_succ]
          refine wpAnyH_take (i := 31) (oi := _) (v := ?v31) (by simp only [List.getElem?_toArray, List.getElem?_cons_succ, List.getElem?_cons_zero]; rfl) (by kernel_rfl) (by kernel_rfl) (by kernel_rfl) (fun _ _ _ h => h) (Or.inl ⟨by rfl, ?y31⟩) hHeld ?r31
          case y31 => (intro w hSw; (try dsimp only at hSw); go_simp; try with_reducible rfl)
          try simp only [Act.put, List.setIfInBounds_toArray, List.set_cons_zero, List.set_cons_succ]
          refine wpAnyH_take (i := 32) (oi := _) (v := _) (by simp only [List.getElem?_toArray, List.getElem?_cons_succ, List.getElem?_cons_zero]; rfl) (by kernel_rfl) (by kernel_rfl) (by kernel_rfl) (fun _ _ _ h => h) (Or.inr ⟨by rfl, rfl⟩) hHeld ?_
          try simp only [Act.put, List.setIfInBounds_toArray, List.set_cons_zero, List.set_cons_succ]
          refine wpAnyH_take (i := 33) (oi := _) (v := _) (by simp only [List.getElem?_toArray, List.getElem?_cons_succ, List.getElem?_cons_zero]; rfl) (by kernel_rfl) (by kernel_rfl) (by kernel_rfl) (fun _ _ _ h => h) (Or.inr ⟨by rfl, rfl⟩) hHeld ?_
          try simp only [Act.put, List.setIfInBounds_toArray, List.set_cons_zero, List.set_cons_succ]
          refine wpAnyH_take (i := 34) (oi := _) (v := _) (by simp only [List.getElem?_toArray, List.getElem?_cons_succ, List.getElem?_cons_zero]; rfl) (by kernel_rfl) (by kernel_rfl) (by kernel_rfl) (fun _ _ _ h => h) (Or.inr ⟨by rfl, rfl⟩) hHeld ?_
          try simp only [Act.put, List.setIfInBounds_toArray, List.set_cons_zero, List.set_cons_succ]
          refine wpAnyH_take (i := 35) (oi := _) (v := _) (by simp only [List.getElem?_toArray, List.getElem?_cons_succ, List.getElem?_cons_zero]; rfl) (by kernel_rfl) (by kernel_rfl) (by kernel_rfl) (fun _ _ _ h => h) (Or.inr ⟨by rfl, rfl⟩) hHeld ?_
          try simp only [Act.put, List.setIfInBounds_toArray, List.set_cons_zero, List.set_cons_succ]
          refine wpAnyH_take (i := 36) (oi := _) (v := _) (by simp only [List.getElem?_toArray, List.getElem?_cons_succ, List.getElem?_cons_zero]; rfl) (by kernel_rfl) (by kernel_rfl) (by kernel_rfl) (fun _ _ _ h => h) (Or.inr ⟨by rfl, rfl⟩) hHeld ?_
          try simp only [Act.put, List.setIfInBounds_toArray, List.set_cons_zero, List.set_cons_succ]
          refine wpAnyH_take (i := 37) (oi := _) (v := ?v37) (by simp only [List.getElem?_toArray, List.getElem?_cons_succ, List.getElem?_cons_zero]; rfl) (by kernel_rfl) (by kernel_rfl) (by kernel_rfl) (fun _ _ _ h => h) (Or.inl ⟨by rfl, ?y37⟩) hHeld ?r37
          case y37 => (intro w hSw; (try dsimp only at hSw); go_simp; try with_reducible rfl)
          try simp only [Act.put, List.setIfInBounds_toArray, List.set_cons_zero, List.set_cons_succ]
          refine wpAnyH_take (i := 38) (oi := _) (v := ?v38) (by simp only [List.getElem?_toArray, List.getElem?_cons_succ, List.getElem?_cons_zero]; rfl) (by kernel_rfl) (by kernel_rfl) (by kernel_rfl) (fun _ _ _ h => h) (Or.inl ⟨by rfl, ?y38⟩) hHeld ?r38
          case y38 => (intro w hSw; (try dsimp only at hSw); go_simp; try with_reducible rfl)
          try simp only [Act.put, List.setIfInBounds_toArray, List.set_cons_zero, List.set_cons_succ]
          refine wpAnyH_done (by kernel_rfl) ?_ _
          refine NoPanic.normal ?_
          have b9 := HB7.out.trans (hHeld.2.mono HB7.out.size)
          go_wp2_with fail
          go_roundg (b - (k + 1))
          case measure => omega
          case rel => exact ⟨k + 1, u, by omega, rfl, by rw [HU.out, HVE.out, Nat.pow_succ, Nat.div_div_eq_div_mul], by first | rfl | go_num, rfl, hHeld.1, b9⟩
        · obtain rfl : k = b := by omega
          have hv1 : v = 1 := by
            rw [HVE.out]
            refine Nat.div_eq_of_lt_le (by omega) ?_
            have := HXN.out
            omega
          subst hv1
          go_wp2_with fail
          go_ret
          exact ⟨by first | rfl | simp, hb5⟩
end Go.Proofs.Ytmfbcbaomfkdiaa
