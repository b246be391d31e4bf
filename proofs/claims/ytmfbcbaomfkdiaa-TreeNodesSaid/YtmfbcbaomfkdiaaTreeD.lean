/-
  Package tree as it landed: Range, Before, Above; all of it.
-/
import Derived.Test.YtmfbcbaomfkdiaaTreeC
namespace Go.Proofs.Ytmfbcbaomfkdiaa
set_option linter.unusedVariables false
set_option linter.unusedSimpArgs false
open Go.RowKit Go.Joins

theorem wrap_64 {r : Int} (h : I64 r) : wrap64 r = r ∧ IntKind.i64.wrap r = r := by
  obtain ⟨a, b⟩ := h
  exact ⟨IntWalk.wrap64_in r (by omega), IntWalk.i64_in r (by omega)⟩

set_option maxRecDepth 100000 in
set_option maxHeartbeats 2000000 in
theorem trange_any (w : World) (b : Nat) (v : Int) (hb1 : 1 ≤ b) (hb2 : b ≤ 24) (hv : I64 v) : Calls Try.prog 10 #[.agg #[.int .i64 b], .int .i64 v] w fun e w' => e = .returned (.tuple #[.int .i64 (rloI b v), .int .i64 (rhiI b v)]) ∧ Below w.heap.size w w' := by
  have HG := Lib.hid (fun W => tgood_any W b v hb1 hb2 hv)
  have HLV := Lib.hid (fun W => tlevel_any W b v hb1 hb2 hv)
  have HLE := Lib.hid (fun W => tleaves_any W b hb1 hb2)
  have c0 := tree_cell w (.int .i64 b)
  have hB := box_below w (.int .i64 b)
  cases hg : goodT b v with
  | false =>
    have HU : Hid (rloI b v = 0 ∧ rhiI b v = 0) := Lib.hid (by unfold rloI rhiI; rw [hg]; exact ⟨rfl, rfl⟩)
    rw [hg] at HG
    clear hg hv
    go_enter Try.func10, Try.ntmps10
    go_wp2_with fail
    refine (HG.out _).mono ?_
    rintro e w1 ⟨rfl, b1⟩
    have hb := hB.trans (b1.mono hB.size)
    go_wp2_with fail
    go_ret2
    exact ⟨by rw [HU.out.1, HU.out.2]; rfl, hb⟩
  | true =>
    have HU : Hid (rloI b v = loI b v.toNat ∧ rhiI b v = hiI b v.toNat) := Lib.hid (by unfold rloI rhiI; rw [if_pos hg, if_pos hg]; exact ⟨rfl, rfl⟩)
    have hlv : lvI b v = lvlT v.toNat := by unfold lvI; rw [if_pos hg]
    obtain ⟨n, rfl, n1, n2⟩ := good_nat hg
    have hpb := (pow_bd hb2).2
    have n3 : n < 33554432 := by rw [Nat.pow_succ] at n2; omega
    have hl := lvl_le n1 n2
    have hri := range_in n1 n2
    rw [hlv] at HLV
    rw [Int.toNat_natCast] at HU HLV
    obtain ⟨lv, hlve⟩ : ∃ lv : Nat, 2 ^ b = lv := ⟨_, rfl⟩
    have e3 : (2 : Int) ^ b = (lv : Int) := by rw [← hlve, Int.natCast_pow]; rfl
    rw [hlve] at HLE hri hpb
    rw [Nat.pow_succ, hlve] at hri
    have hlo : n * 2 ^ (b - lvlT n) = loT b n := rfl
    have hup : loT b n + 2 ^ (b - lvlT n) = upT b n := by unfold loT upT; rw [Nat.add_mul, Nat.one_mul]
    unfold loI hiI at HU
    rw [e3] at HU
    obtain ⟨l, hl2⟩ : ∃ l, lvlT n = l := ⟨_, rfl⟩
    obtain ⟨L, hL⟩ : ∃ L, loT b n = L := ⟨_, rfl⟩
    obtain ⟨U, hU⟩ : ∃ U, upT b n = U := ⟨_, rfl⟩
    obtain ⟨k, hk⟩ : ∃ k, b - l = k := ⟨_, rfl⟩
    rw [hl2] at HLV hl hlo hup
    rw [hL] at hlo hup hri HU
    rw [hU] at hup hri HU
    rw [hk] at hlo hup
    obtain ⟨p, hp⟩ : ∃ p : Nat, 2 ^ k = p := ⟨_, rfl⟩
    rw [hp] at hlo hup
    have hd : (b : Int) - (l : Int) = (k : Int) := by omega
    have k0 : (0 : Int) ≤ (k : Int) := by omega
    have ep : (2 : Int) ^ k = (p : Int) := by rw [← hp, Int.natCast_pow]; rfl
    have HY : Hid (IntKind.i64.wrap ((n : Int) * 2 ^ k) = L ∧ IntKind.i64.wrap ((2 : Int) ^ k) = p ∧ (L : Int) - (lv : Int) = rloI b n ∧ IntKind.i64.wrap ((L : Int) - (lv : Int)) = rloI b n ∧ IntKind.i64.wrap (rloI b n + p) = rhiI b n + 1 ∧ IntKind.i64.wrap (rhiI b n + 1 - 1) = rhiI b n) := Lib.hid (by
      rw [HU.out.1, HU.out.2, ep, ← Int.natCast_mul, hlo]
      refine ⟨(wrap_64 ⟨by omega, by omega⟩).2, (wrap_64 ⟨by omega, by omega⟩).2, rfl, (wrap_64 ⟨by omega, by omega⟩).2, ?_, ?_⟩
      · rw [(wrap_64 ⟨by omega, by omega⟩).2]; omega
      · rw [(wrap_64 ⟨by omega, by omega⟩).2]; omega)
    have x1 : IntKind.i64.wrap (k : Int) = (k : Int) := (wrap_64 ⟨by omega, by omega⟩).2
    rw [hg] at HG
    clear hg n1 n2 n3 hpb hl hri hlv hlve e3 hlo hup hl2 hL hU hk hp ep hv HU
    go_enter Try.func10, Try.ntmps10
    go_wp2_with fail
    refine (HG.out _).mono ?_
    rintro e w1 ⟨rfl, b1⟩
    have hb := hB.trans (b1.mono hB.size)
    have c1 := cell_later b1 c0
    clear hB b1 c0
    have HS0 : Hid (w1.drew.cell? ⟨w.heap.size, 0, none⟩ = some (.int .i64 b) ∧ Below w.heap.size w w1.drew) := Lib.hid ⟨c1, hb.drew⟩
    have HST := Lib.hid (fun (W W' : World) (h : W.cell? ⟨w.heap.size, 0, none⟩ = some (.int .i64 b) ∧ Below w.heap.size w W) (hb : Below W.heap.size W W') => (⟨cell_later hb h.1, h.2.trans (hb.mono h.2.size)⟩ : W'.cell? ⟨w.heap.size, 0, none⟩ = some (.int .i64 b) ∧ Below w.heap.size w W'))
    clear hb c1
    go_wp2_with fail
    go_region_held3 (fun w' => w'.cell? ⟨w.heap.size, 0, none⟩ = some (.int .i64 b) ∧ Below w.heap.size w w')
      (first | exact HS0.out | exact HST.out _ _ (by assumption) hbA | assumption)
      ((go_at_call 14; with_reducible refine (HLV.out _).mono ?_; rintro e wA ⟨rfl, hbA⟩))
    rename_i hHeld
    clear HS0
    have HS1 := Lib.hid hHeld
    clear hHeld
    go_wp2_with fail
    go_region_held3 (fun w' => w'.cell? ⟨w.heap.size, 0, none⟩ = some (.int .i64 b) ∧ Below w.heap.size w w')
      (first | exact ⟨HS1.out.1, HS1.out.2.drew⟩ | exact HST.out _ _ (by assumption) hbA | assumption)
      ((go_at_call 20; with_reducible refine (HLE.out _).mono ?_; rintro e wA ⟨rfl, hbA⟩))
    rename_i hHeld
    clear HS1
    have HS1 := Lib.hid hHeld
    clear hHeld
    go_wp2_with fail
    go_region_held3 (fun w' => w'.cell? ⟨w.heap.size, 0, none⟩ = some (.int .i64 b) ∧ Below w.heap.size w w')
      (first | exact ⟨HS1.out.1, HS1.out.2.drew⟩ | assumption)
      (fail)
    rename_i hHeld
    have hb := hHeld.2
    clear hHeld HS1
    go_wp2_with fail
    go_ret2
    obtain ⟨y1, y2, _, y3, y4, y5⟩ := HY.out
    exact ⟨by
      show Ending.returned (.tuple #[.int .i64 (IntKind.i64.wrap (IntKind.i64.wrap ((n : Int) * 2 ^ k) - (lv : Int))), .int .i64 (IntKind.i64.wrap (IntKind.i64.wrap (IntKind.i64.wrap (IntKind.i64.wrap ((n : Int) * 2 ^ k) - (lv : Int)) + IntKind.i64.wrap ((2 : Int) ^ k)) - 1))]) = _
      rw [y1, y2, y3, y4, y5], hb⟩

set_option maxRecDepth 100000 in
set_option maxHeartbeats 2000000 in
theorem tabove_any (w : World) (b : Nat) (v u : Int) (hb1 : 1 ≤ b) (hb2 : b ≤ 24) (hv : I64 v) (hu : I64 u) : Calls Try.prog 21 #[.agg #[.int .i64 b], .int .i64 v, .int .i64 u] w fun e w' => e = .returned (.bool (abI b v u)) ∧ Below w.heap.size w w' := by
  have GV := Lib.hid (fun W => tgood_any W b v hb1 hb2 hv)
  have GU := Lib.hid (fun W => tgood_any W b u hb1 hb2 hu)
  have LV := Lib.hid (fun W => tlevel_any W b v hb1 hb2 hv)
  have LU := Lib.hid (fun W => tlevel_any W b u hb1 hb2 hu)
  have c0 := tree_cell w (.int .i64 b)
  have hB := box_below w (.int .i64 b)
  cases gv : goodT b v with
  | false =>
    have HU : Hid (abI b v u = false) := Lib.hid (by unfold abI; rw [gv]; rfl)
    rw [gv] at GV
    clear gv hv hu LV LU GU
    go_enter Try.func21, Try.ntmps21
    go_wp2_with fail
    refine (GV.out _).mono ?_
    rintro e w1 ⟨rfl, b1⟩
    have hb := hB.trans (b1.mono hB.size)
    clear hB b1 c0
    go_wp2_with fail
    go_ret
    exact ⟨by rw [HU.out]; rfl, hb⟩
  | true =>
    cases gu : goodT b u with
    | false =>
      have HU : Hid (abI b v u = false) := Lib.hid (by unfold abI; rw [gv, gu]; rfl)
      rw [gv] at GV
      rw [gu] at GU
      clear gv gu hv hu LV LU
      go_enter Try.func21, Try.ntmps21
      go_wp2_with fail
      refine (GV.out _).mono ?_
      rintro e w1 ⟨rfl, b1⟩
      have hb := hB.trans (b1.mono hB.size)
      have c1 := cell_later b1 c0
      clear hB b1 c0
      go_wp2_with fail
      refine (GU.out _).mono ?_
      rintro e w2 ⟨rfl, b2⟩
      have hb2 := hb.trans (b2.mono hb.size)
      clear hb b2 c1
      go_wp2_with fail
      go_ret
      exact ⟨by rw [HU.out]; rfl, hb2⟩
    | true =>
      have hlv : lvI b v = lvlT v.toNat := by unfold lvI; rw [if_pos gv]
      have hlu : lvI b u = lvlT u.toNat := by unfold lvI; rw [if_pos gu]
      have hab : ∀ B : Bool, (B = true ↔ (lvlT v.toNat ≤ lvlT u.toNat ∧ u.toNat / 2 ^ (lvlT u.toNat - lvlT v.toNat) = v.toNat)) → abI b v u = B := by
        intro B hB
        unfold abI
        rw [gv, gu]
        simp only [Bool.and_self, Bool.true_and]
        cases B with
        | true => exact decide_eq_true (hB.1 rfl)
        | false => exact decide_eq_false fun h => by have := hB.2 h; cases this
      obtain ⟨n, rfl, n1, n2⟩ := good_nat gv
      obtain ⟨m, rfl, m1, m2⟩ := good_nat gu
      have hpb := (pow_bd hb2).2
      have ln := lvl_le n1 n2
      have lm := lvl_le m1 m2
      rw [hlv] at LV
      rw [hlu] at LU
      rw [Int.toNat_natCast] at LV LU
      rw [Int.toNat_natCast, Int.toNat_natCast] at hab
      obtain ⟨l, hl⟩ : ∃ l, lvlT n = l := ⟨_, rfl⟩
      obtain ⟨k, hk⟩ : ∃ k, lvlT m = k := ⟨_, rfl⟩
      rw [hl] at LV ln hab
      rw [hk] at LU lm hab
      have HU := Lib.hid hab
      obtain ⟨D, hD⟩ : ∃ D : Int, (k : Int) - (l : Int) = D := ⟨_, rfl⟩
      have x1 : IntKind.i64.wrap ((k : Int) - (l : Int)) = D := by rw [hD]; exact (wrap_64 ⟨by omega, by omega⟩).2
      have x2 : wrap64 ((k : Int) - (l : Int)) = D := by rw [hD]; exact (wrap_64 ⟨by omega, by omega⟩).1
      rw [gv] at GV
      rw [gu] at GU
      have n3 : n < 33554432 := by rw [Nat.pow_succ] at n2; omega
      have m3 : m < 33554432 := by rw [Nat.pow_succ] at m2; omega
      have HC : Hid ((∃ s : Nat, D = s ∧ s ≤ 24 ∧ k - l = s ∧ l ≤ k) ∨ (D < 0 ∧ ¬ l ≤ k)) := Lib.hid (by
        by_cases h : l ≤ k
        · exact Or.inl ⟨k - l, by omega, by omega, rfl, h⟩
        · exact Or.inr ⟨by omega, h⟩)
      clear gv gu hv hu n1 n2 m1 m2 hpb hlv hlu hl hk ln lm hD hab
      go_enter Try.func21, Try.ntmps21
      go_wp2_with fail
      refine (GV.out _).mono ?_
      rintro e w1 ⟨rfl, b1⟩
      have hb := hB.trans (b1.mono hB.size)
      have c1 := cell_later b1 c0
      clear hB b1 c0
      go_wp2_with fail
      refine (GU.out _).mono ?_
      rintro e w2 ⟨rfl, b2⟩
      have hb2 := hb.trans (b2.mono hb.size)
      have c2 := cell_later b2 c1
      clear hb b2 c1
      have HS0 : Hid (w2.drew.cell? ⟨w.heap.size, 0, none⟩ = some (.int .i64 b) ∧ Below w.heap.size w w2.drew) := Lib.hid ⟨c2, hb2.drew⟩
      have HST := Lib.hid (fun (W W' : World) (h : W.cell? ⟨w.heap.size, 0, none⟩ = some (.int .i64 b) ∧ Below w.heap.size w W) (hb : Below W.heap.size W W') => (⟨cell_later hb h.1, h.2.trans (hb.mono h.2.size)⟩ : W'.cell? ⟨w.heap.size, 0, none⟩ = some (.int .i64 b) ∧ Below w.heap.size w W'))
      clear hb2 c2
      go_wp2_with fail
      go_region_held3 (fun w' => w'.cell? ⟨w.heap.size, 0, none⟩ = some (.int .i64 b) ∧ Below w.heap.size w w')
        (first | exact HS0.out | exact HST.out _ _ (by assumption) hbA | exact HST.out _ _ (by assumption) hbB | assumption)
        ((first
          | (go_at_call 14; with_reducible refine (LU.out _).mono ?_; rintro e wA ⟨rfl, hbA⟩)
          | (go_at_call 14; with_reducible refine (LV.out _).mono ?_; rintro e wB ⟨rfl, hbB⟩)))
      all_goals
        rename_i hHeld
        have hb := hHeld.2
        clear hHeld HS0 HST
        rcases HC.out with ⟨s, rfl, hs, hkl, hle⟩ | ⟨hn, hle⟩
        · have hs0 : (0 : Int) ≤ (s : Int) := by omega
          obtain ⟨y, hy⟩ : ∃ y : Nat, m / 2 ^ s = y := ⟨_, rfl⟩
          have HS : Hid ((m : Int) / 2 ^ s = (y : Int)) := Lib.hid (by
            rw [← hy, Int.natCast_ediv, Int.natCast_pow]; rfl)
          have HF : Hid (abI b n m = ((y : Int) == (n : Int))) := Lib.hid (HU.out _ (by
            rw [hkl, hy, beq_iff_eq]
            constructor
            · intro e; exact ⟨hle, by omega⟩
            · rintro ⟨_, e⟩; omega))
          clear hkl hle hy
          go_wp2_with fail
          go_ret
          exact ⟨by rw [HF.out, ← HS.out]; rfl, hb⟩
        · have HF : Hid (abI b n m = false) := Lib.hid (HU.out false ⟨fun h => Bool.noConfusion h, fun h => absurd h.1 hle⟩)
          clear hle
          go_wp2_with fail
          go_ret
          exact ⟨by rw [HF.out]; rfl, hb⟩

set_option maxRecDepth 100000 in
set_option maxHeartbeats 2000000 in
theorem tbefore_any (w : World) (b : Nat) (v u : Int) (hb1 : 1 ≤ b) (hb2 : b ≤ 24) (gv : goodT b v = true) (gu : goodT b u = true) : Calls Try.prog 23 #[.agg #[.int .i64 b], .int .i64 v, .int .i64 u] w fun e w' => e = .returned (.bool (beforeT b v.toNat u.toNat)) ∧ Below w.heap.size w w' := by
  have hlv : lvI b v = lvlT v.toNat := by unfold lvI; rw [if_pos gv]
  have hlu : lvI b u = lvlT u.toNat := by unfold lvI; rw [if_pos gu]
  have hrv : rhiI b v = hiI b v.toNat := by unfold rhiI; rw [if_pos gv]
  have hru : rhiI b u = hiI b u.toNat := by unfold rhiI; rw [if_pos gu]
  have hv : I64 v := by
    obtain ⟨n, rfl, n1, n2⟩ := good_nat gv
    have hpb := (pow_bd hb2).2
    rw [Nat.pow_succ] at n2
    exact ⟨by omega, by omega⟩
  have hu : I64 u := by
    obtain ⟨n, rfl, n1, n2⟩ := good_nat gu
    have hpb := (pow_bd hb2).2
    rw [Nat.pow_succ] at n2
    exact ⟨by omega, by omega⟩
  have GV := Lib.hid (fun W => tgood_any W b v hb1 hb2 hv)
  have GU := Lib.hid (fun W => tgood_any W b u hb1 hb2 hu)
  have LV := Lib.hid (fun W => tlevel_any W b v hb1 hb2 hv)
  have LU := Lib.hid (fun W => tlevel_any W b u hb1 hb2 hu)
  have RV := Lib.hid (fun W => trange_any W b v hb1 hb2 hv)
  have RU := Lib.hid (fun W => trange_any W b u hb1 hb2 hu)
  have c0 := tree_cell w (.int .i64 b)
  have hB := box_below w (.int .i64 b)
  have hab : (if rhiI b v = rhiI b u then decide (lvlT u.toNat < lvlT v.toNat) else decide (rhiI b v < rhiI b u)) = beforeT b v.toNat u.toNat := by
    rw [hrv, hru]
    unfold hiI beforeT
    by_cases e : upT b v.toNat = upT b u.toNat
    · rw [if_pos (by rw [e]), e]; simp
    · rw [if_neg (by omega)]
      by_cases e2 : upT b v.toNat < upT b u.toNat
      · rw [decide_eq_true e2, decide_eq_true (by omega)]; rfl
      · rw [decide_eq_false e2, decide_eq_false (by omega), decide_eq_false e]; rfl
  rw [gv] at GV
  rw [gu] at GU
  rw [hlv] at LV
  rw [hlu] at LU
  obtain ⟨l, hl⟩ : ∃ l, lvlT v.toNat = l := ⟨_, rfl⟩
  obtain ⟨k, hk⟩ : ∃ k, lvlT u.toNat = k := ⟨_, rfl⟩
  obtain ⟨r0, hr0⟩ : ∃ r, rloI b v = r := ⟨_, rfl⟩
  obtain ⟨r1, hr1⟩ : ∃ r, rhiI b v = r := ⟨_, rfl⟩
  obtain ⟨s0, hs0⟩ : ∃ r, rloI b u = r := ⟨_, rfl⟩
  obtain ⟨s1, hs1⟩ : ∃ r, rhiI b u = r := ⟨_, rfl⟩
  rw [hl] at LV hab
  rw [hk] at LU hab
  rw [hr0, hr1] at RV
  rw [hs0, hs1] at RU
  rw [hr1, hs1] at hab
  have HAB := Lib.hid hab.symm
  clear gv gu hlv hlu hrv hru hv hu hl hk hr0 hr1 hs0 hs1 hab
  go_enter Try.func23, Try.ntmps23
  go_wp2_with fail
  refine (GV.out _).mono ?_
  rintro e w1 ⟨rfl, b1⟩
  have hb := hB.trans (b1.mono hB.size)
  have c1 := cell_later b1 c0
  clear hB b1 c0
  go_wp2_with fail
  refine (GU.out _).mono ?_
  rintro e w2 ⟨rfl, b2⟩
  have hbb := hb.trans (b2.mono hb.size)
  have c2 := cell_later b2 c1
  clear hb b2 c1
  go_wp2_with fail
  refine (RV.out _).mono ?_
  rintro e w3 ⟨rfl, b3⟩
  have hb3 := hbb.trans (b3.mono hbb.size)
  have c3 := cell_later b3 c2
  clear hbb b3 c2
  go_wp2_with fail
  refine (RU.out _).mono ?_
  rintro e w4 ⟨rfl, b4⟩
  have hb4 := hb3.trans (b4.mono hb3.size)
  have c4 := cell_later b4 c3
  clear hb3 b4 c3
  by_cases he : r1 = s1
  · have HF : Hid (beforeT b v.toNat u.toNat = decide (k < l)) := Lib.hid (by rw [HAB.out, if_pos he])
    have q1 : (!r1 == s1) = false := by simp [he]
    have q2 : (r1 != s1) = false := by simp [he]
    have HS0 : Hid (w4.drew.cell? ⟨w.heap.size, 0, none⟩ = some (.int .i64 b) ∧ Below w.heap.size w w4.drew) := Lib.hid ⟨c4, hb4.drew⟩
    have HST := Lib.hid (fun (W W' : World) (h : W.cell? ⟨w.heap.size, 0, none⟩ = some (.int .i64 b) ∧ Below w.heap.size w W) (hb : Below W.heap.size W W') => (⟨cell_later hb h.1, h.2.trans (hb.mono h.2.size)⟩ : W'.cell? ⟨w.heap.size, 0, none⟩ = some (.int .i64 b) ∧ Below w.heap.size w W'))
    clear he c4 hb4
    go_wp2_with fail
    go_region_held3 (fun w' => w'.cell? ⟨w.heap.size, 0, none⟩ = some (.int .i64 b) ∧ Below w.heap.size w w')
      (first | exact HS0.out | exact HST.out _ _ (by assumption) hbA | exact HST.out _ _ (by assumption) hbB | assumption)
      ((first
        | (go_at_call 14; with_reducible refine (LV.out _).mono ?_; rintro e wA ⟨rfl, hbA⟩)
        | (go_at_call 14; with_reducible refine (LU.out _).mono ?_; rintro e wB ⟨rfl, hbB⟩)))
    all_goals
      rename_i hHeld
      have hb := hHeld.2
      clear hHeld HS0 HST
      go_wp2_with fail
      go_ret
      exact ⟨by rw [HF.out]; first | rfl | (show Ending.returned (.bool (decide ((k : Int) < (l : Int)))) = _; congr 2; simp), hb⟩
  · have HF : Hid (beforeT b v.toNat u.toNat = decide (r1 < s1)) := Lib.hid (by rw [HAB.out, if_neg he])
    have q1 : (!r1 == s1) = true := by simp [he]
    have q2 : (r1 != s1) = true := by simp [he]
    clear he
    go_wp2_with fail
    go_ret
    exact ⟨by rw [HF.out]; rfl, hb4⟩

theorem tree_does : TreeDoes where
  new_ok := tnew_ok
  new_no := tnew_no
  leaves := tleaves_any
  depth := tdepth_any
  good := tgood_any
  leaf_in := tleaf_in
  leaf_out := tleaf_out
  up := tup_any
  beside := tbeside_any
  level := tlevel_any
  range := trange_any
  above := tabove_any
  before := tbefore_any
end Go.Proofs.Ytmfbcbaomfkdiaa
