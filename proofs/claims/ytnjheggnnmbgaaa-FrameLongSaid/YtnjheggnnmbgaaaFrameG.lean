/-
  The law FrameLong, walked.
-/
import Derived.Test.YtnjheggnnmbgaaaFrameL
import Derived.Laws.MakeOwn
import Derived.Laws.OwnMore
namespace Go.Proofs.Ytnjheggnnmbgaaa
set_option linter.unusedVariables false
set_option linter.unusedSimpArgs false
open Go.RowKit

theorem make_zeros (n : Nat) (hn : n ≤ 1000000) (w : World) :
    (Instr.makeSlice 35 (.int .i64 (n : Int)) (.int .i64 (n : Int))).run Try.prog w = .ok (.slice (some ⟨w.heap.size, 0, none⟩) n n) (w.alloc (.cells (madeCells #[.int .u8 0] n) 5)) := by
  obtain ⟨i0, hi, hz0, hz1, hz2⟩ := info_parts Try.infoByte
  have hr := run_make (P := Try.prog) w 35 5 i0 (.int .u8 0) Try.underlying35 hi hz0 .i64 .i64 (n : Int) (n : Int) (by omega) (Int.le_refl _) (by rw [hz2]; omega) (by omega)
  rw [hz1, Int.toNat_natCast, Nat.mul_one] at hr
  exact hr
theorem zeros_text (n : Nat) (x : ByteArray) (hx : x.data.toList = List.replicate n 0) (w : World) :
    (convert 35 9 (.slice (some ⟨w.heap.size, 0, none⟩) n n)).run Try.prog (w.alloc (.cells (madeCells #[.int .u8 0] n) 5)) = .ok (.string x) (w.alloc (.cells (madeCells #[.int .u8 0] n) 5)) := by
  have h := bytes_text w (List.replicate n 0) n (madeCells #[.int .u8 0] n) List.length_replicate (by
    apply Array.ext'
    rw [toList_madeCells_one]; simp)
  rw [str_mk hx] at h
  exact h

set_option maxRecDepth 100000 in
set_option maxHeartbeats 1000000 in
theorem flong_few (k : Int) (n : Nat) (hk : 0 ≤ k ∧ k < 256) (hn : n ≤ 262144) (w : World) :
    Calls Try.prog 7 #[.int .u8 k, .int .i64 n] w fun e w' => e = .returned (.bool true) ∧ Below w.heap.size w w' := by
  have q0 : ¬ (n : Int) < 0 := by omega
  have q1 : ¬ (262153 : Int) < n := by omega
  have q2 : ¬ (262144 : Int) < n := by omega
  have q3 : (n : Int) ≤ 262144 := by omega
  obtain ⟨b, eb⟩ := byte_of hk.1 hk.2
  obtain ⟨x, hx⟩ : ∃ x : ByteArray, x.data.toList = List.replicate n 0 := ⟨⟨(List.replicate n 0).toArray⟩, rfl⟩
  have hxz : x.size = n := by rw [Lib.size_eq, hx, List.length_replicate]
  obtain ⟨f, hf⟩ : ∃ f : ByteArray, f.data.toList = frameB b x.data.toList := ⟨⟨(frameB b x.data.toList).toArray⟩, rfl⟩
  have HC := Lib.hid (fun w => close_any b k eb x f (by omega) hf w)
  have HO := Lib.hid (fun w => open_yes f b x (by omega) hf k eb w)
  have HM := Lib.hid (fun w => make_zeros n (by omega) w)
  have HV := Lib.hid (fun w => zeros_text n x hx w)
  clear eb hf hk hx hxz hn
  go_enter Try.func7, Try.ntmps7
  go_wp2_with fail
  refine (falive_any _).mono ?_
  rintro e w1 ⟨rfl, b1⟩
  have hmk := HM.out w1
  have hcv := HV.out w1
  go_wp2_with fail
  refine (HC.out _).mono ?_
  rintro e w2 ⟨rfl, b2⟩
  go_wp2_with fail
  refine (HO.out _).mono ?_
  rintro e w3 ⟨rfl, b3⟩
  go_wp2_with fail
  go_ret
  exact ⟨rfl, below_then (below_then (b1.alloc b1.size _) b2 (Nat.le_refl _)) b3 (Nat.le_refl _)⟩

set_option maxRecDepth 100000 in
set_option maxHeartbeats 1000000 in
theorem flong_many (k : Int) (n : Nat) (hk : 0 ≤ k ∧ k < 256) (hn : 262144 < n) (hn2 : n ≤ 262153) (w : World) :
    Calls Try.prog 7 #[.int .u8 k, .int .i64 n] w fun e w' => e = .returned (.bool true) ∧ Below w.heap.size w w' := by
  have q0 : ¬ (n : Int) < 0 := by omega
  have q1 : ¬ (262153 : Int) < n := by omega
  have q2 : (262144 : Int) < n := by omega
  obtain ⟨x, hx⟩ : ∃ x : ByteArray, x.data.toList = List.replicate n 0 := ⟨⟨(List.replicate n 0).toArray⟩, rfl⟩
  have hxz : x.size = n := by rw [Lib.size_eq, hx, List.length_replicate]
  have HC := Lib.hid (fun w => close_long k x (by omega) w)
  have HM := Lib.hid (fun w => make_zeros n (by omega) w)
  have HV := Lib.hid (fun w => zeros_text n x hx w)
  clear hk hx hxz hn hn2
  go_enter Try.func7, Try.ntmps7
  go_wp2_with fail
  refine (falive_any _).mono ?_
  rintro e w1 ⟨rfl, b1⟩
  have hmk := HM.out w1
  have hcv := HV.out w1
  go_wp2_with fail
  refine (HC.out _).mono ?_
  rintro e w2 ⟨rfl, b2⟩
  go_wp2_with fail
  go_ret
  exact ⟨rfl, below_then (b1.alloc b1.size _) b2 (Nat.le_refl _)⟩

set_option maxHeartbeats 1000000 in
theorem flong_out (k n : Int) (hn : n < 0 ∨ 262153 < n) (w : World) :
    Calls Try.prog 7 #[.int .u8 k, .int .i64 n] w fun e w' => e = .returned (.bool true) ∧ Below w.heap.size w w' := by
  rcases hn with q0 | q1
  · go_enter Try.func7, Try.ntmps7
    go_wp2_with fail
    refine (falive_any _).mono ?_
    rintro e w1 ⟨rfl, b1⟩
    go_wp2_with fail
    go_ret
    exact ⟨rfl, b1⟩
  · have q0 : ¬ n < 0 := by omega
    go_enter Try.func7, Try.ntmps7
    go_wp2_with fail
    refine (falive_any _).mono ?_
    rintro e w1 ⟨rfl, b1⟩
    go_wp2_with fail
    go_ret
    exact ⟨rfl, b1⟩

theorem flong_walk (k n : Int) (hk : 0 ≤ k ∧ k < 256) (hn : I64 n) (w : World) :
    Calls Try.prog 7 #[.int .u8 k, .int .i64 n] w fun e w' => e = .returned (.bool true) ∧ Below w.heap.size w w' := by
  by_cases h0 : n < 0 ∨ 262153 < n
  · exact flong_out k n h0 w
  · obtain ⟨m, rfl⟩ := Int.eq_ofNat_of_zero_le (show 0 ≤ n by omega)
    by_cases h1 : m ≤ 262144
    · exact flong_few k m hk h1 w
    · exact flong_many k m hk (by omega) (by omega) w
end Go.Proofs.Ytnjheggnnmbgaaa
