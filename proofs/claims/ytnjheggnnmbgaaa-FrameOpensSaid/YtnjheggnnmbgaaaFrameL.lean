/-
  The laws FrameUnlike, FrameCloses, FrameOpens, FrameCuts, walked.
-/
import Derived.Test.YtnjheggnnmbgaaaFrameC
import Derived.Test.YtnjheggnnmbgaaaFrameS
namespace Go.Proofs.Ytnjheggnnmbgaaa
set_option linter.unusedVariables false
set_option linter.unusedSimpArgs false
open Go.RowKit

theorem below_then {n : Nat} {a b c : World} (h : Below n a b) (k : Below b.heap.size b c) (hn : n ≤ a.heap.size) : Below n a c := h.trans (k.mono (Nat.le_trans hn h.size))
theorem sum_nine : sumN [49, 50, 51, 52, 53, 54, 55, 56, 57] = 3421780262 := by kernel_rfl
theorem frame_load : (frameB 7 [108, 111, 97, 100]).length = 13 := by kernel_rfl

set_option maxHeartbeats 400000 in
theorem falive_any (w : World) :
    Calls Try.prog 9 #[] w fun e w' => e = .returned (.bool true) ∧ Below w.heap.size w w' := by
  obtain ⟨f, hf⟩ : ∃ f : ByteArray, f.data.toList = frameB 7 [108, 111, 97, 100] := ⟨⟨(frameB 7 [108, 111, 97, 100]).toArray⟩, rfl⟩
  have hz : f.size = 13 := by rw [Lib.size_eq, hf]; exact frame_load
  have HF := Lib.hid hf
  have HZ := Lib.hid hz
  have hz' : ((f.size : Int) == 13) = true := by rw [hz]; rfl
  clear hf hz
  go_enter Try.func9, Try.ntmps9
  go_wp2_with fail
  refine (close_any 7 7 rfl ⟨#[108, 111, 97, 100]⟩ f (by decide) HF.out _).mono ?_
  rintro e w1 ⟨rfl, b1⟩
  go_wp2_with fail
  refine (sum_any ⟨#[49, 50, 51, 52, 53, 54, 55, 56, 57]⟩ (by decide) 3421780262 sum_nine _).mono ?_
  rintro e w' ⟨rfl, rfl⟩
  go_wp2_with fail
  go_ret
  exact ⟨rfl, b1⟩

/-- A byte by its number. -/
theorem byte_of {k : Int} (h0 : 0 ≤ k) (h1 : k < 256) : ∃ b : UInt8, k = (b.toNat : Int) := ⟨UInt8.ofNat k.toNat, by rw [ofNat_toNat (by omega)]; omega⟩
theorem bytes_ne {a b : ByteArray} : (a.toList == b.toList) = decide (a.data.toList = b.data.toList) := by
  rw [Lib.toList_data, Lib.toList_data]
  by_cases h : a.data.toList = b.data.toList
  · rw [decide_eq_true h, beq_iff_eq]; exact h
  · rw [decide_eq_false h, beq_eq_false_iff_ne]; exact h

set_option maxRecDepth 100000 in
set_option maxHeartbeats 1000000 in
theorem funlike_walk (a : Int) (x : ByteArray) (b : Int) (y : ByteArray) (ha : 0 ≤ a ∧ a < 256) (hx : x.size ≤ 140737488351232) (hb : 0 ≤ b ∧ b < 256) (hy : y.size ≤ 140737488351232) (w : World) :
    Calls Try.prog 8 #[.int .u8 a, .string x, .int .u8 b, .string y] w fun e w' => e = .returned (.bool true) ∧ Below w.heap.size w w' := by
  by_cases hl : x.size + y.size ≤ 2048
  · have q0 : ¬ (2048 : Int) < (x.size : Int) + (y.size : Int) := by omega
    obtain ⟨a', ea⟩ := byte_of ha.1 ha.2
    obtain ⟨b', eb⟩ := byte_of hb.1 hb.2
    obtain ⟨f, hf⟩ : ∃ f : ByteArray, f.data.toList = frameB a' x.data.toList := ⟨⟨(frameB a' x.data.toList).toArray⟩, rfl⟩
    obtain ⟨g, hg⟩ : ∃ f : ByteArray, f.data.toList = frameB b' y.data.toList := ⟨⟨(frameB b' y.data.toList).toArray⟩, rfl⟩
    have HC1 := Lib.hid (fun w => close_any a' a ea x f (by omega) hf w)
    have HC2 := Lib.hid (fun w => close_any b' b eb y g (by omega) hg w)
    have hiff : (f.toList == g.toList) = ((a == b) && (x.toList == y.toList)) := by
      rw [bytes_ne, bytes_ne, hf, hg]
      by_cases hh : a = b ∧ x.data.toList = y.data.toList
      · obtain ⟨h1, h2⟩ := hh
        have h3 : a' = b' := by apply UInt8.toNat.inj; omega
        rw [h2, h3, h1]; simp
      · have h1 : frameB a' x.data.toList ≠ frameB b' y.data.toList := fun h => by
          obtain ⟨h2, h3⟩ := frame_inj (by rw [← Lib.size_eq]; omega) (by rw [← Lib.size_eq]; omega) h
          exact hh ⟨by rw [ea, eb, h2], h3⟩
        rw [decide_eq_false h1]
        by_cases hab : a = b
        · have h2 : x.data.toList ≠ y.data.toList := fun h => hh ⟨hab, h⟩
          rw [decide_eq_false h2]; simp
        · rw [show (a == b) = false from by simpa using hab]; rfl
    obtain ⟨p, hp⟩ : ∃ p, (a == b) = p := ⟨_, rfl⟩
    obtain ⟨q, hq⟩ : ∃ q, (x.toList == y.toList) = q := ⟨_, rfl⟩
    rw [hp, hq] at hiff
    clear ea eb hf hg ha hb
    cases p <;> cases q
    all_goals
      simp only [Bool.and_false, Bool.false_and, Bool.and_true, Bool.true_and] at hiff
      go_enter Try.func8, Try.ntmps8
      go_wp2_with fail
      refine (falive_any _).mono ?_
      rintro e w1 ⟨rfl, b1⟩
      go_wp2_with fail
      refine (HC1.out _).mono ?_
      rintro e w2 ⟨rfl, b2⟩
      go_wp2_with fail
      refine (HC2.out _).mono ?_
      rintro e w3 ⟨rfl, b3⟩
      go_wp2_with fail
      go_ret
      exact ⟨rfl, below_then (below_then b1 b2 (Nat.le_refl _)) b3 (Nat.le_refl _)⟩
  · have q0 : (2048 : Int) < (x.size : Int) + (y.size : Int) := by omega
    go_enter Try.func8, Try.ntmps8
    go_wp2_with fail
    refine (falive_any _).mono ?_
    rintro e w1 ⟨rfl, b1⟩
    go_wp2_with fail
    go_ret
    exact ⟨rfl, b1⟩

set_option maxRecDepth 100000 in
set_option maxHeartbeats 1000000 in
theorem fcloses_walk (k : Int) (x : ByteArray) (hk : 0 ≤ k ∧ k < 256) (hx : x.size ≤ 140737488351232) (w : World) :
    Calls Try.prog 3 #[.int .u8 k, .string x] w fun e w' => e = .returned (.bool true) ∧ Below w.heap.size w w' := by
  by_cases hl : x.size ≤ 2048
  · have q0 : ¬ (2048 : Int) < (x.size : Int) := by omega
    obtain ⟨b, eb⟩ := byte_of hk.1 hk.2
    obtain ⟨f, hf⟩ : ∃ f : ByteArray, f.data.toList = frameB b x.data.toList := ⟨⟨(frameB b x.data.toList).toArray⟩, rfl⟩
    obtain ⟨r, hr⟩ : ∃ r, sumN x.data.toList = r := ⟨_, rfl⟩
    have HC := Lib.hid (fun w => close_any b k eb x f (by omega) hf w)
    have HO := Lib.hid (fun w => open_yes f b x (by omega) hf k eb w)
    have HS := Lib.hid (fun w => sum_any x (by omega) r hr w)
    have HS' := Lib.hid (fun w => rsum_any x (by omega) r hr w)
    have HC' := Lib.hid (fun w => rclose_any b k eb x f (by omega) hf w)
    clear eb hf hr hk
    go_enter Try.func3, Try.ntmps3
    go_wp2_with fail
    refine (falive_any _).mono ?_
    rintro e w1 ⟨rfl, b1⟩
    go_wp2_with fail
    refine (HC.out _).mono ?_
    rintro e w2 ⟨rfl, b2⟩
    go_wp2_with fail
    refine (HO.out _).mono ?_
    rintro e w3 ⟨rfl, b3⟩
    go_wp2_with fail
    refine (HS.out _).mono ?_
    rintro e w' ⟨rfl, rfl⟩
    go_wp2_with fail
    refine (HS'.out _).mono ?_
    rintro e w' ⟨rfl, rfl⟩
    go_wp2_with fail
    refine (HC'.out _).mono ?_
    rintro e w4 ⟨rfl, b4⟩
    go_wp2_with fail
    go_ret
    exact ⟨rfl, below_then (below_then (below_then b1 b2 (Nat.le_refl _)) b3 (Nat.le_refl _)) b4 (Nat.le_refl _)⟩
  · have q0 : (2048 : Int) < (x.size : Int) := by omega
    go_enter Try.func3, Try.ntmps3
    go_wp2_with fail
    refine (falive_any _).mono ?_
    rintro e w1 ⟨rfl, b1⟩
    go_wp2_with fail
    go_ret
    exact ⟨rfl, b1⟩

set_option maxRecDepth 100000 in
set_option maxHeartbeats 1000000 in
theorem fopens_walk (s : ByteArray) (hx : s.size ≤ 140737488351232) (w : World) :
    Calls Try.prog 4 #[.string s] w fun e w' => e = .returned (.bool true) ∧ Below w.heap.size w w' := by
  by_cases hl : s.size ≤ 2048
  · have q0 : ¬ (2048 : Int) < (s.size : Int) := by omega
    have hs : s.data.toList.length ≤ 2048 := by rw [← Lib.size_eq]; exact hl
    by_cases hf : ∃ (b : UInt8) (l : ByteArray), l.size ≤ 262144 ∧ s.data.toList = frameB b l.data.toList
    · obtain ⟨b, l, hz, hf⟩ := hf
      have kb := b.toNat_lt
      have HO := Lib.hid (fun w => open_yes s b l hz hf _ rfl w)
      have HR := Lib.hid (fun w => ropen_yes s (by omega) b l hz hf w)
      have HC := Lib.hid (fun w => close_any b _ rfl l s hz hf w)
      clear hf hz hs
      go_enter Try.func4, Try.ntmps4
      go_wp2_with fail
      refine (falive_any _).mono ?_
      rintro e w1 ⟨rfl, b1⟩
      go_wp2_with fail
      refine (HO.out _).mono ?_
      rintro e w2 ⟨rfl, b2⟩
      go_wp2_with fail
      refine (HR.out _).mono ?_
      rintro e w3 ⟨rfl, b3⟩
      go_wp2_with fail
      refine (HC.out _).mono ?_
      rintro e w4 ⟨rfl, b4⟩
      go_wp2_with fail
      go_ret
      exact ⟨rfl, below_then (below_then (below_then b1 b2 (Nat.le_refl _)) b3 (Nat.le_refl _)) b4 (Nat.le_refl _)⟩
    · have hno : ∀ (b : UInt8) (l : List UInt8), l.length ≤ 262144 → s.data.toList ≠ frameB b l := fun b l h h' => hf ⟨b, ⟨l.toArray⟩, by rw [Lib.size_eq]; exact h, h'⟩
      have HO := Lib.hid (fun w => open_no s (by omega) hno w)
      have HR := Lib.hid (fun w => ropen_no s (by omega) hno w)
      clear hf hno hs
      go_enter Try.func4, Try.ntmps4
      go_wp2_with fail
      refine (falive_any _).mono ?_
      rintro e w1 ⟨rfl, b1⟩
      go_wp2_with fail
      refine (HO.out _).mono ?_
      rintro e w2 ⟨rfl, b2⟩
      go_wp2_with fail
      refine (HR.out _).mono ?_
      rintro e w3 ⟨rfl, b3⟩
      go_wp2_with fail
      go_ret
      exact ⟨rfl, below_then (below_then b1 b2 (Nat.le_refl _)) b3 (Nat.le_refl _)⟩
  · have q0 : (2048 : Int) < (s.size : Int) := by omega
    go_enter Try.func4, Try.ntmps4
    go_wp2_with fail
    refine (falive_any _).mono ?_
    rintro e w1 ⟨rfl, b1⟩
    go_wp2_with fail
    go_ret
    exact ⟨rfl, b1⟩

/-- What is no frame. -/
theorem no_frame {s : ByteArray} {l : List UInt8} (hl : s.data.toList = l) (h : openS l = none) : ∀ (b : UInt8) (m : List UInt8), m.length ≤ 262144 → s.data.toList ≠ frameB b m := by
  rw [hl]; exact open_none.1 h

set_option maxRecDepth 100000 in
set_option maxHeartbeats 1000000 in
theorem fcuts_walk (k : Int) (x : ByteArray) (c : Int) (y : ByteArray) (hk : 0 ≤ k ∧ k < 256) (hx : x.size ≤ 140737488351232) (hc : I64 c) (hy : y.size ≤ 140737488351232) (w : World) :
    Calls Try.prog 6 #[.int .u8 k, .string x, .int .i64 c, .string y] w fun e w' => e = .returned (.bool true) ∧ Below w.heap.size w w' := by
  by_cases hl : x.size ≤ 2048 ∧ y.size ≤ 100 ∧ y.data.toList ≠ []
  · obtain ⟨hl1, hl2, hl3⟩ := hl
    have q0 : ¬ (2048 : Int) < (x.size : Int) := by omega
    have q1 : ¬ (100 : Int) < (y.size : Int) := by omega
    have q2 : y.toList.isEmpty = false := by rw [Lib.toList_data]; cases h : y.data.toList with
      | nil => exact absurd h hl3
      | cons a b => rfl
    obtain ⟨b, eb⟩ := byte_of hk.1 hk.2
    obtain ⟨f, hf⟩ : ∃ f : ByteArray, f.data.toList = frameB b x.data.toList := ⟨⟨(frameB b x.data.toList).toArray⟩, rfl⟩
    have hfz : f.size = (frameB b x.data.toList).length := by rw [Lib.size_eq, hf]
    have hfl : (frameB b x.data.toList).length = 8 + (natB x.data.toList.length).length + x.data.toList.length := frame_len _ _
    have hnl := natB_len10 (n := x.data.toList.length) (by rw [← Lib.size_eq]; omega)
    have hxl : x.data.toList.length = x.size := (Lib.size_eq x).symm
    obtain ⟨p, hp⟩ : ∃ p : Nat, IntKind.u64.wrap c % (f.size : Int) = p := ⟨(IntKind.u64.wrap c % (f.size : Int)).toNat, by
      have := Int.emod_nonneg (IntKind.u64.wrap c) (b := (f.size : Int)) (by omega); omega⟩
    have hpl : p < f.size := by
      have := Int.emod_lt_of_pos (IntKind.u64.wrap c) (b := (f.size : Int)) (by omega); omega
    have hq : (IntKind.u64.wrap c).tmod (f.size : Int) = (p : Int) := by
      rw [Int.tmod_eq_emod_of_nonneg (by rw [IntKind.wrap_u64]; omega)]; exact hp
    have HC := Lib.hid (fun w => close_any b k eb x f (by omega) hf w)
    have hcut : (f.extract 0 p).data.toList = (frameB b x.data.toList).take p := by
      rw [← Lib.toList_data, Lib.extract_toList, hf, List.drop_zero, Nat.sub_zero]
    have hmore : (f ++ y).data.toList = frameB b x.data.toList ++ y.data.toList := by
      rw [ByteArray.data_append, Array.toList_append, hf]
    have HO1 := Lib.hid (fun w => open_no (f.extract 0 p) (by rw [ByteArray.size_extract]; omega) (no_frame hcut (open_cut b x.data.toList (by omega) p (by omega))) w)
    have HO2 := Lib.hid (fun w => open_no (f ++ y) (by rw [ByteArray.size_append]; omega) (no_frame hmore (open_more b x.data.toList y.data.toList (by omega) hl3)) w)
    have f1 : (f.size : Int) ≤ 2066 := by omega
    have f0 : (9 : Int) ≤ f.size := by have := natB_pos x.data.toList.length; omega
    have p1 : (p : Int) ≤ f.size := by omega
    clear eb hf hk hcut hmore hfz hfl hnl hxl hl3 hpl hp
    go_enter Try.func6, Try.ntmps6
    go_wp2_with fail
    refine (falive_any _).mono ?_
    rintro e w1 ⟨rfl, b1⟩
    go_wp2_with fail
    refine (HC.out _).mono ?_
    rintro e w2 ⟨rfl, b2⟩
    go_wp2_with fail
    refine (HO1.out _).mono ?_
    rintro e w3 ⟨rfl, b3⟩
    go_wp2_with fail
    refine (HO2.out _).mono ?_
    rintro e w4 ⟨rfl, b4⟩
    go_wp2_with fail
    go_ret
    exact ⟨rfl, below_then (below_then (below_then b1 b2 (Nat.le_refl _)) b3 (Nat.le_refl _)) b4 (Nat.le_refl _)⟩
  · have hc : (2048 < x.size) ∨ (x.size ≤ 2048 ∧ 100 < y.size) ∨ (x.size ≤ 2048 ∧ y.size ≤ 100 ∧ y.data.toList = []) := by
      by_cases h1 : x.size ≤ 2048
      · by_cases h2 : y.size ≤ 100
        · refine Or.inr (Or.inr ⟨h1, h2, ?_⟩)
          cases h : y.data.toList with
          | nil => rfl
          | cons a r => exact absurd ⟨h1, h2, by rw [h]; simp⟩ hl
        · exact Or.inr (Or.inl ⟨h1, by omega⟩)
      · exact Or.inl (by omega)
    clear hl
    rcases hc with h1 | ⟨h1, h2⟩ | ⟨h1, h2, h3⟩
    · have q0 : (2048 : Int) < (x.size : Int) := by omega
      go_enter Try.func6, Try.ntmps6
      go_wp2_with fail
      refine (falive_any _).mono ?_
      rintro e w1 ⟨rfl, b1⟩
      go_wp2_with fail
      go_ret
      exact ⟨rfl, b1⟩
    · have q0 : ¬ (2048 : Int) < (x.size : Int) := by omega
      have q1 : (100 : Int) < (y.size : Int) := by omega
      go_enter Try.func6, Try.ntmps6
      go_wp2_with fail
      refine (falive_any _).mono ?_
      rintro e w1 ⟨rfl, b1⟩
      go_wp2_with fail
      go_ret
      exact ⟨rfl, b1⟩
    · have q0 : ¬ (2048 : Int) < (x.size : Int) := by omega
      have q1 : ¬ (100 : Int) < (y.size : Int) := by omega
      have e : y = ⟨#[]⟩ := bytes_same h3
      subst e
      clear h3
      go_enter Try.func6, Try.ntmps6
      go_wp2_with fail
      refine (falive_any _).mono ?_
      rintro e w1 ⟨rfl, b1⟩
      go_wp2_with fail
      go_ret
      exact ⟨rfl, b1⟩
end Go.Proofs.Ytnjheggnnmbgaaa
