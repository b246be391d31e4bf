/-
  The walk of the law SharePercent.
-/
import Derived.Test.YtbllnhkfnbadgaaShareV
import Derived.Test.YtbllnhkfnbadgaaSignM
import Derived.Laws.BytesString
namespace Go.Proofs.Ytbllnhkfnbadgaa
set_option linter.unusedVariables false
set_option linter.unusedSimpArgs false
open Go.RowKit Go.Shelf

/-- So many, told by digits. -/
def telK (k : Nat) : List UInt8 := if k < 10 then [UInt8.ofNat (48 + k)] else if k < 100 then [UInt8.ofNat (48 + k / 10), UInt8.ofNat (48 + k % 10)] else [49, 48, 48]
def tellK (k : Nat) : Bool :=
  (rdA (telK k ++ [37]) == k) && (rdB (telK k ++ [37]) == 100) && rdO (telK k ++ [37]) &&
  (rdA (telK k ++ [47, 49, 48, 48]) == k) && (rdB (telK k ++ [47, 49, 48, 48]) == 100) && rdO (telK k ++ [47, 49, 48, 48])
theorem tell_all : (List.range 101).all tellK = true := by decide +kernel
theorem tell_k {k : Nat} (h : k ≤ 100) : (rdA (telK k ++ [37]) = k ∧ rdB (telK k ++ [37]) = 100 ∧ rdO (telK k ++ [37]) = true) ∧ (rdA (telK k ++ [47, 49, 48, 48]) = k ∧ rdB (telK k ++ [47, 49, 48, 48]) = 100 ∧ rdO (telK k ++ [47, 49, 48, 48]) = true) := by
  have h1 := List.all_eq_true.1 tell_all k (by simp; omega)
  unfold tellK at h1
  simp only [Bool.and_eq_true, beq_iff_eq] at h1
  obtain ⟨⟨⟨⟨⟨a, b⟩, c⟩, d⟩, e⟩, f⟩ := h1
  exact ⟨⟨a, b, c⟩, ⟨d, e, f⟩⟩

theorem conv_two (w : World) (x y : Int) :
    (convert 44 9 (.slice (some ⟨w.heap.size, 0, none⟩) 2 2)).run Try.prog (w.alloc (.cells #[.int .u8 x, .int .u8 y] 5)) =
      .ok (.string ⟨#[UInt8.ofNat x.toNat, UInt8.ofNat y.toNat]⟩) (w.alloc (.cells #[.int .u8 x, .int .u8 y] 5)) := by
  rw [run_convert_bytes_string _ _ _ _ _ _ _ Try.underlying44 Try.underlying5 Try.underlying9]
  rw [run_bytesToString _ _ 2 2 [x, y] (by
    have c0 : (w.alloc (.cells #[.int .u8 x, .int .u8 y] 5)).cell? ⟨w.heap.size, 0, none⟩ = some (.int .u8 x) := by go_simp
    have c1 : (w.alloc (.cells #[.int .u8 x, .int .u8 y] 5)).cell? ⟨w.heap.size, 1, none⟩ = some (.int .u8 y) := by go_simp
    simp [go_sem, loadCells, c0, c1])]
  rfl
theorem read_of (s : ByteArray) (l : List UInt8) (h : s.data.toList = l) (hl : l.length ≤ 1000) (w : World) :
    Calls Try.prog 18 #[.string s] w fun e w' =>
      e = .returned (.tuple #[.agg #[.int .u64 (rdA l), .int .u64 (rdB l)], .bool (rdO l)]) ∧ Below w.heap.size w w' := by
  subst h
  exact read_any s (by rw [Lib.size_eq]; omega) w

/-- The texts that the law makes. -/
def txA (m : Nat) : ByteArray := (⟨#[48 + UInt8.ofNat (m / 10), 48 + UInt8.ofNat (m % 10)]⟩ : ByteArray).extract 1 2
def txB (m : Nat) : ByteArray := ⟨#[48 + UInt8.ofNat (m / 10), 48 + UInt8.ofNat (m % 10)]⟩
theorem tx_small : (List.range 10).all (fun m => ((txA m ++ ⟨#[37]⟩).data.toList == telK m ++ [37]) && ((txA m ++ ⟨#[47, 49, 48, 48]⟩).data.toList == telK m ++ [47, 49, 48, 48])) = true := by decide +kernel
theorem tx_two : (List.range 100).all (fun m => decide (m < 10) || (((txB m ++ ⟨#[37]⟩).data.toList == telK m ++ [37]) && ((txB m ++ ⟨#[47, 49, 48, 48]⟩).data.toList == telK m ++ [47, 49, 48, 48]))) = true := by decide +kernel
theorem tx_a {m : Nat} (h : m < 10) : (txA m ++ ⟨#[37]⟩).data.toList = telK m ++ [37] ∧ (txA m ++ ⟨#[47, 49, 48, 48]⟩).data.toList = telK m ++ [47, 49, 48, 48] := by
  have h1 := List.all_eq_true.1 tx_small m (by simp; omega)
  simp only [Bool.and_eq_true, beq_iff_eq] at h1
  exact h1
theorem tx_b {m : Nat} (h : ¬ m < 10) (h' : m < 100) : (txB m ++ ⟨#[37]⟩).data.toList = telK m ++ [37] ∧ (txB m ++ ⟨#[47, 49, 48, 48]⟩).data.toList = telK m ++ [47, 49, 48, 48] := by
  have h1 := List.all_eq_true.1 tx_two m (by simp; omega)
  simp only [Bool.or_eq_true, decide_eq_true_eq, Bool.and_eq_true, beq_iff_eq] at h1
  rcases h1 with h1 | h1
  · omega
  · exact h1
theorem tx_c : ((⟨#[49, 48, 48]⟩ : ByteArray) ++ ⟨#[37]⟩).data.toList = telK 100 ++ [37] ∧ ((⟨#[49, 48, 48]⟩ : ByteArray) ++ ⟨#[47, 49, 48, 48]⟩).data.toList = telK 100 ++ [47, 49, 48, 48] := by decide +kernel
theorem tel_len (m : Nat) : (telK m ++ [37]).length ≤ 1000 ∧ (telK m ++ [47, 49, 48, 48]).length ≤ 1000 := by
  unfold telK
  split
  · simp
  · split <;> simp

theorem read_one (s : ByteArray) (m : Nat) (hm : m ≤ 100) (h : s.data.toList = telK m ++ [37]) (w : World) :
    Calls Try.prog 18 #[.string s] w fun e w' =>
      e = .returned (.tuple #[.agg #[.int .u64 (m : Int), .int .u64 100], .bool true]) ∧ Below w.heap.size w w' := by
  have h1 := read_of s _ h (tel_len m).1 w
  rw [(tell_k hm).1.1, (tell_k hm).1.2.1, (tell_k hm).1.2.2] at h1
  exact h1
theorem read_two (s : ByteArray) (m : Nat) (hm : m ≤ 100) (h : s.data.toList = telK m ++ [47, 49, 48, 48]) (w : World) :
    Calls Try.prog 18 #[.string s] w fun e w' =>
      e = .returned (.tuple #[.agg #[.int .u64 (m : Int), .int .u64 100], .bool true]) ∧ Below w.heap.size w w' := by
  have h1 := read_of s _ h (tel_len m).2 w
  rw [(tell_k hm).2.1, (tell_k hm).2.2.1, (tell_k hm).2.2.2] at h1
  exact h1
theorem word_m {m : Nat} (h : m ≤ 100) : Word (m : Int) := ⟨by omega, by omega⟩
theorem word_c : Word 100 := ⟨by omega, by omega⟩
theorem good_m {m : Nat} (h : m ≤ 100) : gdB (m : Int) 100 = true := gd_iff.2 ⟨by omega, by omega⟩
theorem place_least (m : Nat) (n : Int) (hm : m ≤ 100) (wn : Word n) (w : World) :
    Calls Try.prog 10 #[.agg #[.int .u64 ((m : Int) / gcdI m 100), .int .u64 (100 / gcdI m 100)], .int .u64 n] w fun e w' =>
      e = .returned (.tuple #[.int .u64 (plV m 100 n), .int .i64 (plE m 100 n)]) ∧ Below w.heap.size w w' := by
  have wg := gcd_word (word_m hm) word_c
  have w1 : Word ((m : Int) / gcdI m 100) := ⟨Int.ediv_nonneg (word_m hm).1 wg.1, by have := Int.ediv_le_self (gcdI m 100) (word_m hm).1; omega⟩
  have w2 : Word (100 / gcdI m 100) := ⟨Int.ediv_nonneg word_c.1 wg.1, by have := Int.ediv_le_self (gcdI m 100) word_c.1; omega⟩
  have h := place_any _ _ n w1 w2 wn w
  obtain ⟨_, e1, e2⟩ := cl_least (word_m hm) word_c wn rfl (good_m hm)
  rw [e1, e2] at h
  exact h

set_option maxHeartbeats 4000000 in
theorem percent_walk (k n : Int) (hk : I64 k) (wn : Word n) (w : World) :
    Calls Try.prog 8 #[.int .i64 k, .int .u64 n] w fun e w' =>
      e = .returned (.bool true) ∧ Below w.heap.size w w' := by
  by_cases h0 : k < 0
  · go_enter Try.func8, Try.ntmps8
    go_wp2_with fail
    refine (alive3_any _).mono ?_
    rintro e wA ⟨rfl, hbA⟩
    go_wp2_with fail
    refine bodyPost_ret (v := .bool true) (by simp [results, Try.results8, go_sem]) rfl ⟨rfl, hbA⟩
  · by_cases h1 : 100 < k
    · go_enter Try.func8, Try.ntmps8
      go_wp2_with fail
      refine (alive3_any _).mono ?_
      rintro e wA ⟨rfl, hbA⟩
      go_wp2_with fail
      refine bodyPost_ret (v := .bool true) (by simp [results, Try.results8, go_sem]) rfl ⟨rfl, hbA⟩
    · obtain ⟨m, rfl⟩ := Int.eq_ofNat_of_zero_le (show 0 ≤ k by omega)
      have hT := tell_k (k := m) (by omega)
      have i1 : ¬ (m : Int) < 0 := h0
      have i2 : ¬ (100 : Int) < m := h1
      by_cases h2 : m < 10
      · have i3 : (m : Int) < 10 := by omega
        have i4 : ((m : Int) == 100) = false := by simp; omega
        go_enter Try.func8, Try.ntmps8
        go_wp2_with fail
        refine (alive3_any _).mono ?_
        rintro e wA ⟨rfl, hbA⟩
        have kc := conv_two wA (48 + (m : Int) / 10) (48 + (m : Int) % 10)
        have wm := word_m (m := m) (by omega)
        clear hT
        go_wp2_with fail
        have B0 := hbA.alloc hbA.size (.cells #[.int .u8 (48 + (m : Int) / 10), .int .u8 (48 + (m : Int) % 10)] 5)
        generalize (wA.alloc (.cells #[.int .u8 (48 + (m : Int) / 10), .int .u8 (48 + (m : Int) % 10)] 5)) = W0 at *
        refine (read_one _ m (by omega) (tx_a h2).1 _).mono ?_
        rintro e wB ⟨rfl, hbB⟩
        have BB := B0.trans (hbB.mono B0.size)
        have TC := Two.new wB (.int .u64 (m : Int)) (.int .u64 100) 24
        have BC := BB.alloc BB.size (.cells #[.int .u64 (m : Int), .int .u64 100] 24)
        clear B0 hbB BB
        go_wp2_with fail
        refine (read_two _ m (by omega) (tx_a h2).2 _).mono ?_
        rintro e wD ⟨rfl, hbD⟩
        have TD := TC.call hbD
        have BD := BC.trans (hbD.mono BC.size)
        have zD := TD.lt
        have TE := TD.alloc (.cells #[.int .u64 (m : Int), .int .u64 100] 24)
        have UE := Two.new wD (.int .u64 (m : Int)) (.int .u64 100) 24
        have BE := BD.alloc BD.size (.cells #[.int .u64 (m : Int), .int .u64 100] 24)
        clear TC BC hbD
        obtain ⟨c0, c1, c2, c3⟩ := id TD
        obtain ⟨e0, e1, e2, e3⟩ := id TE
        go_wp2_with fail
        refine (place_any m 100 n wm word_c wn _).mono ?_
        rintro e wF ⟨rfl, hbF⟩
        have TF := TE.call hbF
        have UF := UE.call hbF
        have BF := BE.trans (hbF.mono BE.size)
        clear TD TE UE BD BE hbF c0 c1 c2 c3 e0 e1 e2 e3
        obtain ⟨c0, c1, c2, c3⟩ := id UF
        go_wp2_with fail
        refine (least_any m 100 wm word_c _).mono ?_
        rintro e wG ⟨rfl, hbG⟩
        have TG := TF.call hbG
        have UG := UF.call hbG
        have BG := BF.trans (hbG.mono BF.size)
        clear TF UF BF hbG c0 c1 c2 c3
        go_wp2_with fail
        refine (place_least m n (by omega) wn _).mono ?_
        rintro e wH ⟨rfl, hbH⟩
        obtain ⟨c0, c1, c2, c3⟩ := TG.call hbH
        obtain ⟨e0, e1, e2, e3⟩ := UG.call hbH
        have BH := BG.trans (hbH.mono BG.size)
        clear TG UG BG hbH
        have q1 : (plV m 100 n == plV m 100 n) = true := by simp
        have q2 : (plE m 100 n == plE m 100 n) = true := by simp
        have q3 : ((m : Int) == m) = true := by simp
        go_wp2_with fail
        refine bodyPost_ret (v := .bool true) (by simp [results, Try.results8, go_sem]) rfl ⟨rfl, BH⟩
      · by_cases h3 : m < 100
        · have i3 : ¬ (m : Int) < 10 := by omega
          have i4 : ((m : Int) == 100) = false := by simp; omega
          go_enter Try.func8, Try.ntmps8
          go_wp2_with fail
          refine (alive3_any _).mono ?_
          rintro e wA ⟨rfl, hbA⟩
          have kc := conv_two wA (48 + (m : Int) / 10) (48 + (m : Int) % 10)
          have wm := word_m (m := m) (by omega)
          clear hT
          go_wp2_with fail
          have B0 := hbA.alloc hbA.size (.cells #[.int .u8 (48 + (m : Int) / 10), .int .u8 (48 + (m : Int) % 10)] 5)
          generalize (wA.alloc (.cells #[.int .u8 (48 + (m : Int) / 10), .int .u8 (48 + (m : Int) % 10)] 5)) = W0 at *
          refine (read_one _ m (by omega) (tx_b h2 h3).1 _).mono ?_
          rintro e wB ⟨rfl, hbB⟩
          have BB := B0.trans (hbB.mono B0.size)
          have TC := Two.new wB (.int .u64 (m : Int)) (.int .u64 100) 24
          have BC := BB.alloc BB.size (.cells #[.int .u64 (m : Int), .int .u64 100] 24)
          clear B0 hbB BB
          go_wp2_with fail
          refine (read_two _ m (by omega) (tx_b h2 h3).2 _).mono ?_
          rintro e wD ⟨rfl, hbD⟩
          have TD := TC.call hbD
          have BD := BC.trans (hbD.mono BC.size)
          have zD := TD.lt
          have TE := TD.alloc (.cells #[.int .u64 (m : Int), .int .u64 100] 24)
          have UE := Two.new wD (.int .u64 (m : Int)) (.int .u64 100) 24
          have BE := BD.alloc BD.size (.cells #[.int .u64 (m : Int), .int .u64 100] 24)
          clear TC BC hbD
          obtain ⟨c0, c1, c2, c3⟩ := id TD
          obtain ⟨e0, e1, e2, e3⟩ := id TE
          go_wp2_with fail
          refine (place_any m 100 n wm word_c wn _).mono ?_
          rintro e wF ⟨rfl, hbF⟩
          have TF := TE.call hbF
          have UF := UE.call hbF
          have BF := BE.trans (hbF.mono BE.size)
          clear TD TE UE BD BE hbF c0 c1 c2 c3 e0 e1 e2 e3
          obtain ⟨c0, c1, c2, c3⟩ := id UF
          go_wp2_with fail
          refine (least_any m 100 wm word_c _).mono ?_
          rintro e wG ⟨rfl, hbG⟩
          have TG := TF.call hbG
          have UG := UF.call hbG
          have BG := BF.trans (hbG.mono BF.size)
          clear TF UF BF hbG c0 c1 c2 c3
          go_wp2_with fail
          refine (place_least m n (by omega) wn _).mono ?_
          rintro e wH ⟨rfl, hbH⟩
          obtain ⟨c0, c1, c2, c3⟩ := TG.call hbH
          obtain ⟨e0, e1, e2, e3⟩ := UG.call hbH
          have BH := BG.trans (hbH.mono BG.size)
          clear TG UG BG hbH
          have q1 : (plV m 100 n == plV m 100 n) = true := by simp
          have q2 : (plE m 100 n == plE m 100 n) = true := by simp
          have q3 : ((m : Int) == m) = true := by simp
          go_wp2_with fail
          refine bodyPost_ret (v := .bool true) (by simp [results, Try.results8, go_sem]) rfl ⟨rfl, BH⟩
        · obtain rfl : m = 100 := by omega
          go_enter Try.func8, Try.ntmps8
          go_wp2_with fail
          refine (alive3_any _).mono ?_
          rintro e wA ⟨rfl, hbA⟩
          have kc := conv_two wA 58 48
          have wm := word_c
          clear hT
          go_wp2_with fail
          have B0 := hbA.alloc hbA.size (.cells #[.int .u8 58, .int .u8 48] 5)
          generalize (wA.alloc (.cells #[.int .u8 58, .int .u8 48] 5)) = W0 at *
          refine (read_one _ 100 (by omega) tx_c.1 _).mono ?_
          rintro e wB ⟨rfl, hbB⟩
          have BB := B0.trans (hbB.mono B0.size)
          have TC := Two.new wB (.int .u64 (100 : Int)) (.int .u64 100) 24
          have BC := BB.alloc BB.size (.cells #[.int .u64 (100 : Int), .int .u64 100] 24)
          clear B0 hbB BB
          go_wp2_with fail
          refine (read_two _ 100 (by omega) tx_c.2 _).mono ?_
          rintro e wD ⟨rfl, hbD⟩
          have TD := TC.call hbD
          have BD := BC.trans (hbD.mono BC.size)
          have zD := TD.lt
          have TE := TD.alloc (.cells #[.int .u64 (100 : Int), .int .u64 100] 24)
          have UE := Two.new wD (.int .u64 (100 : Int)) (.int .u64 100) 24
          have BE := BD.alloc BD.size (.cells #[.int .u64 (100 : Int), .int .u64 100] 24)
          clear TC BC hbD
          obtain ⟨c0, c1, c2, c3⟩ := id TD
          obtain ⟨e0, e1, e2, e3⟩ := id TE
          go_wp2_with fail
          refine (place_any 100 100 n wm word_c wn _).mono ?_
          rintro e wF ⟨rfl, hbF⟩
          have TF := TE.call hbF
          have UF := UE.call hbF
          have BF := BE.trans (hbF.mono BE.size)
          clear TD TE UE BD BE hbF c0 c1 c2 c3 e0 e1 e2 e3
          obtain ⟨c0, c1, c2, c3⟩ := id UF
          go_wp2_with fail
          refine (least_any 100 100 wm word_c _).mono ?_
          rintro e wG ⟨rfl, hbG⟩
          have TG := TF.call hbG
          have UG := UF.call hbG
          have BG := BF.trans (hbG.mono BF.size)
          clear TF UF BF hbG c0 c1 c2 c3
          go_wp2_with fail
          refine (place_least 100 n (by omega) wn _).mono ?_
          rintro e wH ⟨rfl, hbH⟩
          obtain ⟨c0, c1, c2, c3⟩ := TG.call hbH
          obtain ⟨e0, e1, e2, e3⟩ := UG.call hbH
          have BH := BG.trans (hbH.mono BG.size)
          clear TG UG BG hbH
          have q1 : (plV 100 100 n == plV 100 100 n) = true := by simp
          have q2 : (plE 100 100 n == plE 100 100 n) = true := by simp
          have q3 : ((100 : Int) == 100) = true := by simp
          go_wp2_with fail
          refine bodyPost_ret (v := .bool true) (by simp [results, Try.results8, go_sem]) rfl ⟨rfl, BH⟩
end Go.Proofs.Ytbllnhkfnbadgaa
