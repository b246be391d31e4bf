/-
  The law QuillReads, of all rows.
-/
import Derived.Test.YtpnbhgnpofoeaaaQuillX
namespace Go.Proofs.Ytpnbhgnpofoeaaa
set_option linter.unusedVariables false
set_option linter.unusedSimpArgs false
open Go.RowKit

set_option maxRecDepth 1000000 in
set_option maxHeartbeats 1000000 in
theorem lreads_much (s0 : ByteArray) (A : Option Addr) (cap : Nat) (L : List AskV) (w : World) (hl : 60 < L.length ∨ 4096 < s0.size) :
    Calls Try.prog 4 #[.string s0, .slice A L.length cap] w fun e w' => e = .returned (.bool true) ∧ Below w.heap.size w w' := by
  by_cases h1 : (60 : Int) < L.length
  · clear hl
    go_enter Try.func4, Try.ntmps4
    go_wp2_with fail
    refine (lalive_any _).mono ?_
    rintro e w0 ⟨rfl, b0⟩
    go_wp2_with fail
    go_ret
    exact ⟨rfl, b0⟩
  · have h2 : (4096 : Int) < s0.size := by omega
    clear hl
    go_enter Try.func4, Try.ntmps4
    go_wp2_with fail
    refine (lalive_any _).mono ?_
    rintro e w0 ⟨rfl, b0⟩
    go_wp2_with fail
    go_ret
    exact ⟨rfl, b0⟩

theorem lreads_of {w0 : World} (s : ByteArray) (A : Option Addr) (cap : Nat) (L : List AskV) (hs : s.size ≤ maxLen) (h : Asks w0 A L) (hA : A = none → cap = 0) (hl : L.length ≤ 140737488351232) (w : World) (e : w = w0 := by rfl) :
    Calls Try.prog 4 #[.string s, .slice A L.length cap] w fun e w' => e = .returned (.bool true) ∧ Below w.heap.size w w' := by
  subst e
  by_cases hm : 60 < L.length ∨ 4096 < s.size
  · exact lreads_much s A cap L _ hm
  · exact lreads_fine s A cap L _ h (by omega) (by omega)
end Go.Proofs.Ytpnbhgnpofoeaaa
