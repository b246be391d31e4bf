/-
  The walk of the law ShareReads.
-/
import Derived.Test.YtbllnhkfnbadgaaShareU
import Derived.Test.YtbllnhkfnbadgaaShareV
namespace Go.Proofs.Ytbllnhkfnbadgaa
set_option linter.unusedVariables false
set_option linter.unusedSimpArgs false
open Go.RowKit Go.Shelf

set_option maxHeartbeats 2000000 in
theorem reads_walk (s : ByteArray) (hm : s.size ≤ maxLen) (w : World) :
    Calls Try.prog 7 #[.string s] w fun e w' =>
      e = .returned (.bool true) ∧ Below w.heap.size w w' := by
  have hs : s.size ≤ 9223372036854775807 := by unfold maxLen at hm; omega
  by_cases h100 : (100 : Int) < s.size
  · go_enter Try.func7, Try.ntmps7
    go_wp2_with fail
    refine (alive3_any _).mono ?_
    rintro e wA ⟨rfl, hbA⟩
    go_wp2_with fail
    refine bodyPost_ret (v := .bool true) (by simp [results, Try.results7, go_sem]) rfl ⟨rfl, ?_⟩
    exact hbA
  · have Rd := Lib.hid (fun w' => read_any s hs w')
    have RRd := Lib.hid (fun w' => rread_any s hs w')
    have ww := rd_word s.data.toList
    generalize rdA s.data.toList = a at *
    generalize rdB s.data.toList = b at *
    generalize rdO s.data.toList = o at *
    have q1 : (a == a) = true := by simp
    have q2 : (b == b) = true := by simp
    have q3 : (o == o) = true := by simp
    go_enter Try.func7, Try.ntmps7
    go_wp2_with fail
    refine (alive3_any _).mono ?_
    rintro e wA ⟨rfl, hbA⟩
    go_wp2_with fail
    refine (Rd.out _).mono ?_
    rintro e wB ⟨rfl, hbB⟩
    have BB := hbA.trans (hbB.mono hbA.size)
    have TB := Two.new wB (.int .u64 a) (.int .u64 b) 24
    have BC := BB.alloc BB.size (.cells #[.int .u64 a, .int .u64 b] 24)
    clear hbA hbB BB
    go_wp2_with fail
    refine (RRd.out _).mono ?_
    rintro e wD ⟨rfl, hbD⟩
    have TD := TB.call hbD
    have BD := BC.trans (hbD.mono BC.size)
    clear TB BC hbD
    obtain ⟨c0, c1, f0, f1⟩ := id TD
    obtain ⟨d0, d1, g0, g1⟩ := TD.alloc (.cells #[.int .u64 a, .int .u64 b] 24)
    have BE := BD.alloc BD.size (.cells #[.int .u64 a, .int .u64 b] 24)
    go_wp2_with fail
    refine bodyPost_ret (v := .bool true) (by simp [results, Try.results7, go_sem]) rfl ⟨rfl, ?_⟩
    exact BE
end Go.Proofs.Ytbllnhkfnbadgaa
