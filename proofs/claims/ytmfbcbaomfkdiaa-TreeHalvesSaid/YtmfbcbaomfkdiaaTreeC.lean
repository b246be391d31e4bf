/-
  Package tree as it landed: what each of its functions does.
-/
import Derived.Test.YtmfbcbaomfkdiaaTreeT
import Derived.Test.YtmfbcbaomfkdiaaShelf
import Derived.Lib.ItoaNum
import Derived.Laws.Shifts
import Derived.Laws.BitsLemmas
import Derived.Deep.RegionHeld3
namespace Go.Proofs.Ytmfbcbaomfkdiaa
set_option linter.unusedVariables false
set_option linter.unusedSimpArgs false
open Go.RowKit Go.Joins

theorem bit_len {n : Nat} (h : 1 ≤ n) (h2 : n < 2 ^ 64) : Lib.bitLen n = lvlT n + 1 := by
  obtain ⟨a, b, c⟩ := Lib.bitLenAux_bounds 64 n h2 (by omega)
  have e : Lib.bitLen n = Lib.bitLenAux 64 n := rfl
  rw [e]
  generalize Lib.bitLenAux 64 n = L at *
  have := lvl_is (v := n) (l := L - 1) b (by rw [show L - 1 + 1 = L by omega]; exact c)
  omega

theorem xor_i64 (a b : Nat) (ha : a < 4611686018427387904) (hb : b < 4611686018427387904) : bits .xor .i64 (a : Int) (b : Int) = ((a ^^^ b : Nat) : Int) := by
  have ha' : a % 2 ^ IntKind.i64.bits = a := Nat.mod_eq_of_lt (Nat.lt_trans ha (by decide))
  have hb' : b % 2 ^ IntKind.i64.bits = b := Nat.mod_eq_of_lt (Nat.lt_trans hb (by decide))
  simp only [bits, BitVec.ofInt_natCast, BitVec.toNat_xor, BitVec.toNat_ofNat, ha', hb']
  have := Nat.xor_lt_two_pow (n := 62) ha hb
  rw [IntKind.wrap_i64]; omega

theorem xor_one (n : Nat) : n ^^^ 1 = if n % 2 = 0 then n + 1 else n - 1 := by
  have h1 : (n ^^^ 1) / 2 = n / 2 := by rw [Nat.xor_div_two]; exact Nat.xor_zero _
  have h2 : (n ^^^ 1) % 2 = 1 ↔ ¬ (n % 2 = 1 ↔ 1 % 2 = 1) := Nat.xor_mod_two_eq_one
  split <;> omega

theorem box_below (w : World) (x : Value) : Below w.heap.size w (w.alloc (.cells #[x] 24)) := (Below.refl _ _).alloc (Nat.le_refl _) _

theorem shl_pow (x : Int) (k : Nat) (hk : k ≤ 24) (r : Int) (hr : x * 2 ^ k = r) (hr1 : I64 r) : Op.shift .shl .i64 x .i64 (k : Int) = pure (.int .i64 r) := by
  rw [shift_shl_any _ _ _ _ (by omega)]
  have e : min (k : Int).toNat IntKind.i64.bits = k := by
    have : IntKind.i64.bits = 64 := rfl
    rw [this]; omega
  obtain ⟨r0, r1⟩ := hr1
  rw [e, hr, IntWalk.i64_in r (by omega)]

theorem pow64 {b lv : Nat} (hb : b ≤ 24) (h : 2 ^ b = lv) : wrap64 ((2 : Int) ^ b) = (lv : Int) := by
  have hl : lv ≤ 16777216 := by rw [← h]; exact (pow_bd hb).2
  have e2 : (2 : Int) ^ b = (lv : Int) := by rw [← h, Int.natCast_pow]; rfl
  rw [e2]; unfold wrap64; omega

theorem tnew_ok (w : World) (b : Nat) (hb1 : 1 ≤ b) (hb2 : b ≤ 24) : Calls Try.prog 9 #[.int .i64 b] w fun e w' => e = .returned (.tuple #[.agg #[.int .i64 b], .int .i64 0]) ∧ Below w.heap.size w w' := by
  have h1 : ¬ ((b : Int) < 1) := by omega
  have h2 : ¬ ((24 : Int) < (b : Int)) := by omega
  go_enter Try.func9, Try.ntmps9
  go_wp2_with fail
  refine bodyPost_ret (v := .tuple #[.agg #[.int .i64 b], .int .i64 0]) (by simp [results, Try.results9, go_sem]) rfl ⟨rfl, ?_⟩
  first | exact Below.refl _ _ | assumption | exact box_below _ _ | trace_state

theorem tdepth_any (w : World) (b : Nat) (hb1 : 1 ≤ b) (hb2 : b ≤ 24) : Calls Try.prog 11 #[.agg #[.int .i64 b]] w fun e w' => e = .returned (.int .i64 b) ∧ Below w.heap.size w w' := by
  have c0 := tree_cell w (.int .i64 b)
  have hB := box_below w (.int .i64 b)
  go_enter Try.func11, Try.ntmps11
  go_wp2_with fail
  go_ret
  exact ⟨rfl, by first | exact Below.refl _ _ | assumption⟩

theorem tleaves_any (w : World) (b : Nat) (hb1 : 1 ≤ b) (hb2 : b ≤ 24) : Calls Try.prog 20 #[.agg #[.int .i64 b]] w fun e w' => e = .returned (.int .i64 ((2 ^ b : Nat) : Int)) ∧ Below w.heap.size w w' := by
  obtain ⟨lv, hlv⟩ : ∃ lv : Nat, 2 ^ b = lv := ⟨_, rfl⟩
  have hlv1 : lv ≤ 16777216 := by rw [← hlv]; exact (pow_bd hb2).2
  have HW := Lib.hid (pow64 hb2 hlv)
  rw [hlv]
  have hz : ((b : Int) == 0) = false := by simp; omega
  have c0 := tree_cell w (.int .i64 b)
  have hB := box_below w (.int .i64 b)
  clear hlv
  go_enter Try.func20, Try.ntmps20
  go_wp2_with fail
  go_ret
  exact ⟨by show Ending.returned (Value.int .i64 (wrap64 (2 ^ b))) = _; rw [HW.out], by first | exact Below.refl _ _ | assumption⟩

theorem tree_later {w w' : World} {x : Value} (h : Below (w.alloc (.cells #[x] 24)).heap.size (w.alloc (.cells #[x] 24)) w') :
    w'.cell? ⟨w.heap.size, 0, none⟩ = some x ∧ Below w.heap.size w w' := ⟨cell_later h (tree_cell w x), (box_below w x).trans (h.mono (box_below w x).size)⟩

theorem tnew_no (w : World) (d : Int) (hd : I64 d) (h : ¬ (1 ≤ d ∧ d ≤ 24)) : Calls Try.prog 9 #[.int .i64 d] w fun e w' => ∃ x, e = .returned (.tuple #[.agg #[.int .i64 x], .int .i64 1]) ∧ Below w.heap.size w w' := by
  obtain ⟨d0, d1⟩ := hd
  by_cases h1 : d < 1
  · clear h
    go_enter Try.func9, Try.ntmps9
    go_wp2_with fail
    first
    | refine bodyPost_ret (v := .tuple #[.agg #[.int .i64 0], .int .i64 1]) (by simp [results, Try.results9, go_sem]) rfl ⟨0, rfl, ?_⟩
    | refine bodyPost_ret (v := .tuple #[.agg #[.int .i64 0], .int .i64 1]) (by simp [results, Try.results9, go_sem]) rfl ⟨⟨0, rfl⟩, ?_⟩
    first | exact Below.refl _ _ | assumption | exact box_below _ _ | trace_state
  · have h2 : 24 < d := by omega
    clear h
    go_enter Try.func9, Try.ntmps9
    go_wp2_with fail
    first
    | refine bodyPost_ret (v := .tuple #[.agg #[.int .i64 0], .int .i64 1]) (by simp [results, Try.results9, go_sem]) rfl ⟨0, rfl, ?_⟩
    | refine bodyPost_ret (v := .tuple #[.agg #[.int .i64 0], .int .i64 1]) (by simp [results, Try.results9, go_sem]) rfl ⟨⟨0, rfl⟩, ?_⟩
    first | exact Below.refl _ _ | assumption | exact box_below _ _ | trace_state

theorem tgood_any (w : World) (b : Nat) (v : Int) (hb1 : 1 ≤ b) (hb2 : b ≤ 24) (hv : I64 v) : Calls Try.prog 12 #[.agg #[.int .i64 b], .int .i64 v] w fun e w' => e = .returned (.bool (goodT b v)) ∧ Below w.heap.size w w' := by
  have HLV := Lib.hid (fun W => tleaves_any W b hb1 hb2)
  obtain ⟨lv, hlv⟩ : ∃ lv : Nat, 2 ^ b = lv := ⟨_, rfl⟩
  have hlv1 : lv ≤ 16777216 := by rw [← hlv]; exact (pow_bd hb2).2
  have e3 : (2 : Int) ^ (b + 1) = 2 * (lv : Int) := by
    have e : ((2 ^ (b + 1) : Nat) : Int) = 2 ^ (b + 1) := by rw [Int.natCast_pow]; rfl
    rw [← e, Nat.pow_succ, hlv]; omega
  rw [hlv] at HLV
  have HG : Hid (goodT b v = (decide (1 ≤ v) && decide (v < 2 * (lv : Int)))) := Lib.hid (by unfold goodT; rw [e3])
  have c0 := tree_cell w (.int .i64 b)
  have hB := box_below w (.int .i64 b)
  obtain ⟨v0, v1⟩ := hv
  clear hlv e3
  by_cases h1 : 0 < v
  · have HF : Hid (goodT b v = decide (v < 2 * (lv : Int))) := Lib.hid (by rw [HG.out, decide_eq_true (by omega : (1 : Int) ≤ v), Bool.true_and])
    go_enter Try.func12, Try.ntmps12
    go_wp2_with fail
    refine (HLV.out _).mono ?_
    rintro e w1 ⟨rfl, b1⟩
    have hb := hB.trans (b1.mono hB.size)
    go_wp2_with fail
    go_ret
    exact ⟨by rw [HF.out]; rfl, hb⟩
  · have HF : Hid (goodT b v = false) := Lib.hid (by rw [HG.out, decide_eq_false (by omega : ¬ (1 : Int) ≤ v), Bool.false_and])
    go_enter Try.func12, Try.ntmps12
    go_wp2_with fail
    go_ret
    exact ⟨by rw [HF.out]; rfl, hB⟩

theorem tleaf_in (w : World) (b : Nat) (x : Int) (hb1 : 1 ≤ b) (hb2 : b ≤ 24) (hx0 : 0 ≤ x) (hx1 : x < ((2 ^ b : Nat) : Int)) : Calls Try.prog 19 #[.agg #[.int .i64 b], .int .i64 x] w fun e w' => e = .returned (.tuple #[.int .i64 (((2 ^ b : Nat) : Int) + x), .bool true]) ∧ Below w.heap.size w w' := by
  have HLV := Lib.hid (fun W => tleaves_any W b hb1 hb2)
  obtain ⟨lv, hlv⟩ : ∃ lv : Nat, 2 ^ b = lv := ⟨_, rfl⟩
  have hlv1 : lv ≤ 16777216 := by rw [← hlv]; exact (pow_bd hb2).2
  rw [hlv] at HLV hx1 ⊢
  have n0 : ¬ (x < 0) := by omega
  have n1 : ¬ ((lv : Int) ≤ x) := by omega
  have c0 := tree_cell w (.int .i64 b)
  have hB := box_below w (.int .i64 b)
  clear hlv
  go_enter Try.func19, Try.ntmps19
  go_wp2_with fail
  refine (HLV.out _).mono ?_
  rintro e w1 ⟨rfl, b1⟩
  have hb := hB.trans (b1.mono hB.size)
  have c1 := cell_later b1 c0
  clear hB b1 c0
  go_wp2_with fail
  refine (HLV.out _).mono ?_
  rintro e w2 ⟨rfl, b2⟩
  have hb3 := hb.trans (b2.mono hb.size)
  clear hb b2 c1
  go_wp2_with fail
  go_ret2
  exact ⟨rfl, hb3⟩

theorem tleaf_out (w : World) (b : Nat) (x : Int) (hb1 : 1 ≤ b) (hb2 : b ≤ 24) (hx : I64 x) (h : ¬ (0 ≤ x ∧ x < ((2 ^ b : Nat) : Int))) : Calls Try.prog 19 #[.agg #[.int .i64 b], .int .i64 x] w fun e w' => e = .returned (.tuple #[.int .i64 0, .bool false]) ∧ Below w.heap.size w w' := by
  have HLV := Lib.hid (fun W => tleaves_any W b hb1 hb2)
  obtain ⟨lv, hlv⟩ : ∃ lv : Nat, 2 ^ b = lv := ⟨_, rfl⟩
  rw [hlv] at HLV h
  obtain ⟨x0, x1⟩ := hx
  have c0 := tree_cell w (.int .i64 b)
  have hB := box_below w (.int .i64 b)
  clear hlv
  by_cases n0 : x < 0
  · clear h
    go_enter Try.func19, Try.ntmps19
    go_wp2_with fail
    go_ret2
    exact ⟨rfl, hB⟩
  · have n1 : (lv : Int) ≤ x := by omega
    clear h
    go_enter Try.func19, Try.ntmps19
    go_wp2_with fail
    refine (HLV.out _).mono ?_
    rintro e w1 ⟨rfl, b1⟩
    have hb := hB.trans (b1.mono hB.size)
    clear hB b1 c0
    go_wp2_with fail
    go_ret2
    exact ⟨rfl, hb⟩

theorem tup_any (w : World) (b : Nat) (v : Int) (hb1 : 1 ≤ b) (hb2 : b ≤ 24) (hv : I64 v) : Calls Try.prog 15 #[.agg #[.int .i64 b], .int .i64 v] w fun e w' => e = .returned (.int .i64 (upI b v)) ∧ Below w.heap.size w w' := by
  have HG := Lib.hid (fun W => tgood_any W b v hb1 hb2 hv)
  have c0 := tree_cell w (.int .i64 b)
  have hB := box_below w (.int .i64 b)
  cases hg : goodT b v with
  | false =>
    have HU : Hid (upI b v = 0) := Lib.hid (by unfold upI; rw [hg]; rfl)
    rw [hg] at HG
    clear hg hv
    go_enter Try.func15, Try.ntmps15
    go_wp2_with fail
    refine (HG.out _).mono ?_
    rintro e w1 ⟨rfl, b1⟩
    have hb := hB.trans (b1.mono hB.size)
    go_wp2_with fail
    go_ret
    exact ⟨by rw [HU.out]; rfl, hb⟩
  | true =>
    have HU : Hid (upI b v = v / 2) := Lib.hid (by unfold upI; rw [if_pos hg])
    have v2 : 1 ≤ v := (good_nat hg).elim fun n hn => by omega
    rw [hg] at HG
    clear hg
    obtain ⟨v0, v1⟩ := hv
    go_enter Try.func15, Try.ntmps15
    go_wp2_with fail
    refine (HG.out _).mono ?_
    rintro e w1 ⟨rfl, b1⟩
    have hb := hB.trans (b1.mono hB.size)
    go_wp2_with fail
    go_ret
    exact ⟨by rw [HU.out]; rfl, hb⟩

theorem bes_is {n : Nat} (h : n < 4611686018427387904) : bits .xor .i64 (n : Int) 1 = if (n : Int) % 2 = 0 then (n : Int) + 1 else (n : Int) - 1 := by
  have e := xor_i64 n 1 h (by decide)
  rw [show ((1 : Nat) : Int) = 1 from rfl] at e
  rw [e, xor_one]
  by_cases c : n % 2 = 0
  · rw [if_pos c, if_pos (by omega)]; omega
  · rw [if_neg c, if_neg (by omega)]; omega

theorem tbeside_any (w : World) (b : Nat) (v : Int) (hb1 : 1 ≤ b) (hb2 : b ≤ 24) (hv : I64 v) : Calls Try.prog 16 #[.agg #[.int .i64 b], .int .i64 v] w fun e w' => e = .returned (.int .i64 (besI b v)) ∧ Below w.heap.size w w' := by
  have HG := Lib.hid (fun W => tup_any W b v hb1 hb2 hv)
  have c0 := tree_cell w (.int .i64 b)
  have hB := box_below w (.int .i64 b)
  by_cases hu : upI b v = 0
  · have HU : Hid (besI b v = 0) := Lib.hid (by
      unfold besI
      rw [if_neg]
      rintro ⟨g, h1⟩
      have v2 : 1 ≤ v := (good_nat g).elim fun n hn => by omega
      unfold upI at hu
      rw [if_pos g] at hu
      omega)
    rw [hu] at HG
    clear hu hv
    go_enter Try.func16, Try.ntmps16
    go_wp2_with fail
    refine (HG.out _).mono ?_
    rintro e w1 ⟨rfl, b1⟩
    have hb := hB.trans (b1.mono hB.size)
    go_wp2_with fail
    go_ret
    exact ⟨by rw [HU.out]; rfl, hb⟩
  · have hg : goodT b v = true := by
      cases hg : goodT b v with
      | true => rfl
      | false => exact absurd (by unfold upI; rw [hg]; rfl) hu
    have hg1 : upI b v = v / 2 := by unfold upI; rw [if_pos hg]
    obtain ⟨n, rfl, n1, n2⟩ := good_nat hg
    have n3 : n < 33554432 := by have := (pow_bd hb2).2; rw [Nat.pow_succ] at n2; omega
    have HU : Hid (bits .xor .i64 (n : Int) 1 = besI b n) := Lib.hid (by
      rw [bes_is (by omega)]
      unfold besI
      have h1 : (n : Int) ≠ 1 := fun h => hu (by rw [hg1, h]; rfl)
      rw [if_pos (c := goodT b (n : Int) = true ∧ (n : Int) ≠ 1) ⟨hg, h1⟩])
    obtain ⟨u, hu2⟩ : ∃ u, upI b n = u := ⟨_, rfl⟩
    rw [hu2] at HG hu
    have hz : (u == 0) = false := by simp; exact hu
    clear hg hg1 hu hu2 n1 n2 hv
    go_enter Try.func16, Try.ntmps16
    go_wp2_with fail
    refine (HG.out _).mono ?_
    rintro e w1 ⟨rfl, b1⟩
    have hb := hB.trans (b1.mono hB.size)
    go_wp2_with fail
    go_ret
    exact ⟨by show Ending.returned (Value.int .i64 (bits .xor .i64 (n : Int) 1)) = _; rw [HU.out], hb⟩

theorem tlevel_any (w : World) (b : Nat) (v : Int) (hb1 : 1 ≤ b) (hb2 : b ≤ 24) (hv : I64 v) : Calls Try.prog 14 #[.agg #[.int .i64 b], .int .i64 v] w fun e w' => e = .returned (.int .i64 (lvI b v)) ∧ Below w.heap.size w w' := by
  have HG := Lib.hid (fun W => tgood_any W b v hb1 hb2 hv)
  have c0 := tree_cell w (.int .i64 b)
  have hB := box_below w (.int .i64 b)
  cases hg : goodT b v with
  | false =>
    have HU : Hid (lvI b v = -1) := Lib.hid (by unfold lvI; rw [hg]; rfl)
    rw [hg] at HG
    clear hg hv
    go_enter Try.func14, Try.ntmps14
    go_wp2_with fail
    refine (HG.out _).mono ?_
    rintro e w1 ⟨rfl, b1⟩
    have hb := hB.trans (b1.mono hB.size)
    go_wp2_with fail
    go_ret
    exact ⟨by rw [HU.out]; rfl, hb⟩
  | true =>
    have HU : Hid (lvI b v = lvlT v.toNat) := Lib.hid (by unfold lvI; rw [if_pos hg])
    obtain ⟨n, rfl, n1, n2⟩ := good_nat hg
    have n3 : n < 33554432 := by have := (pow_bd hb2).2; rw [Nat.pow_succ] at n2; omega
    have hl := lvl_le n1 n2
    have HL : Hid (∀ W, Calls Try.prog 25 #[.int .u64 (n : Int)] W fun e w' => e = .returned (.int .i64 ((lvlT n : Int) + 1)) ∧ w' = W) := Lib.hid fun W => by
      have := Try.bits_Len (n : Int) W (by omega) (by omega)
      rw [Int.toNat_natCast, bit_len n1 (by omega)] at this
      exact this
    rw [Int.toNat_natCast] at HU
    obtain ⟨l, hl2⟩ : ∃ l, lvlT n = l := ⟨_, rfl⟩
    rw [hl2] at HU HL hl
    rw [hg] at HG
    clear hg n1 n2 hv hl2
    go_enter Try.func14, Try.ntmps14
    go_wp2_with fail
    refine (HG.out _).mono ?_
    rintro e w1 ⟨rfl, b1⟩
    have hb := hB.trans (b1.mono hB.size)
    go_wp2_with fail
    refine (HL.out _).mono ?_
    rintro e w2 ⟨rfl, rfl⟩
    go_wp2_with fail
    go_ret
    exact ⟨by rw [HU.out]; rfl, hb⟩
end Go.Proofs.Ytmfbcbaomfkdiaa
