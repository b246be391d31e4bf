/-
  wide.Add of two, and of three; the reference's Add behind a sum that goes round.
-/
import Derived.Test.YtdkkpiplfkdkgaaWideC
namespace Go.Proofs.Ytdkkpiplfkdkgaa
set_option linter.unusedVariables false
open Go.RowKit Go.Shelf

theorem sumW2 (ah al bh bl : Int) : sumW [(ah, al), (bh, bl)] = wval ah al + wval bh bl := by simp only [sumW]; omega
theorem sumW3 (ah al bh bl ch cl : Int) : sumW [(ah, al), (bh, bl), (ch, cl)] = wval ah al + wval bh bl + wval ch cl := by simp only [sumW]; omega
theorem add2_any (ah al bh bl : Int) (w1 : Word ah) (w2 : Word al) (w3 : Word bh) (w4 : Word bl) (b : Nat) (w : World)
    (c0 : w.cell? ⟨b, 0, none⟩ = some (.int .u64 ah)) (c1 : w.cell? ⟨b, 1, none⟩ = some (.int .u64 al)) (c2 : w.cell? ⟨b, 2, none⟩ = some (.int .u64 bh)) (c3 : w.cell? ⟨b, 3, none⟩ = some (.int .u64 bl)) :
    Calls Try.prog 9 #[.slice (some ⟨b, 0, none⟩) 2 2] w fun e w' =>
      e = .returned (.tuple #[.agg #[.int .u64 (hiW (wval ah al + wval bh bl)), .int .u64 (loW (wval ah al + wval bh bl))], .bool (carryB (wval ah al + wval bh bl))]) ∧ Below w.heap.size w w' := by
  have h := add_any [(ah, al), (bh, bl)] b 0 2 w (by unfold maxLen; simp) (by simp; exact ⟨⟨w1, w2⟩, w3, w4⟩) (by
    intro i x hi
    match i, hi with
    | 0, hi => obtain rfl : (ah, al) = x := by simpa using hi
               exact ⟨c0, c1⟩
    | 1, hi => obtain rfl : (bh, bl) = x := by simpa using hi
               exact ⟨c2, c3⟩)
  rw [sumW2] at h
  exact h
theorem add3_any (ah al bh bl ch cl : Int) (w1 : Word ah) (w2 : Word al) (w3 : Word bh) (w4 : Word bl) (w5 : Word ch) (w6 : Word cl) (b : Nat) (w : World)
    (c0 : w.cell? ⟨b, 0, none⟩ = some (.int .u64 ah)) (c1 : w.cell? ⟨b, 1, none⟩ = some (.int .u64 al)) (c2 : w.cell? ⟨b, 2, none⟩ = some (.int .u64 bh)) (c3 : w.cell? ⟨b, 3, none⟩ = some (.int .u64 bl)) (c4 : w.cell? ⟨b, 4, none⟩ = some (.int .u64 ch)) (c5 : w.cell? ⟨b, 5, none⟩ = some (.int .u64 cl)) :
    Calls Try.prog 9 #[.slice (some ⟨b, 0, none⟩) 3 3] w fun e w' =>
      e = .returned (.tuple #[.agg #[.int .u64 (hiW (wval ah al + wval bh bl + wval ch cl)), .int .u64 (loW (wval ah al + wval bh bl + wval ch cl))], .bool (carryB (wval ah al + wval bh bl + wval ch cl))]) ∧ Below w.heap.size w w' := by
  have h := add_any [(ah, al), (bh, bl), (ch, cl)] b 0 3 w (by unfold maxLen; simp) (by simp; exact ⟨⟨w1, w2⟩, ⟨w3, w4⟩, w5, w6⟩) (by
    intro i x hi
    match i, hi with
    | 0, hi => obtain rfl : (ah, al) = x := by simpa using hi
               exact ⟨c0, c1⟩
    | 1, hi => obtain rfl : (bh, bl) = x := by simpa using hi
               exact ⟨c2, c3⟩
    | 2, hi => obtain rfl : (ch, cl) = x := by simpa using hi
               exact ⟨c4, c5⟩)
  rw [sumW3] at h
  exact h
/-- The reference's Add of a sum that goes round, and one more. -/
theorem radd_more (s ch cl : Int) (w5 : Word ch) (w6 : Word cl) (w : World) :
    Calls Try.prog 10 #[.agg #[.int .u64 (hiW s), .int .u64 (loW s)], .agg #[.int .u64 ch, .int .u64 cl]] w fun e w' =>
      e = .returned (.tuple #[.agg #[.int .u64 (hiW (s + wval ch cl)), .int .u64 (loW (s + wval ch cl))], .bool (carryB (wval (hiW s) (loW s) + wval ch cl))]) ∧ Below w.heap.size w w' := by
  have h := radd_any (hiW s) (loW s) ch cl (word_hi s) (word_lo s) w5 w6 w
  rw [hi_add, lo_add] at h
  exact h
theorem carry_more {s c : Int} (h0 : 0 ≤ s) (h1 : s < 680564733841876926926749214863536422912) (c0 : 0 ≤ c) (c1 : c < 340282366920938463463374607431768211456) :
    (carryB (s + c) == (carryB s || carryB (wval (hiW s) (loW s) + c))) = true := by
  rw [wval_mod]
  unfold carryB
  rw [beq_iff_eq, Bool.eq_iff_iff]; simp only [Bool.or_eq_true, decide_eq_true_eq]; omega
theorem cmp_less (x y : Int) : (decide (cmpW x y < 0) == belowB (x - y)) = true := by
  unfold cmpW belowB
  rw [beq_iff_eq]; apply decide_eq_decide.2; split <;> (try split) <;> omega
theorem cmp_same {ah al bh bl : Int} (w2 : Word al) (w4 : Word bl) : ((cmpW (wval ah al) (wval bh bl) == 0) == (ah == bh && al == bl)) = true := by
  unfold cmpW Word wval at *
  rw [beq_iff_eq, Bool.eq_iff_iff]; simp only [Bool.and_eq_true, beq_iff_eq]
  split <;> (try split) <;> omega
theorem cmp_back (x y : Int) : (cmpW x y == -cmpW y x) = true := by
  unfold cmpW
  rw [beq_iff_eq]; split <;> (try split) <;> (try split) <;> (try split) <;> omega
theorem cmp_bd (x y : Int) : -1 ≤ cmpW x y ∧ cmpW x y ≤ 1 := by
  unfold cmpW; split <;> (try split) <;> omega
/-- Two wide numbers are held against each other. -/
theorem wide_eql (ah al bh bl : Int) (w : World) : (binOp .eql 24 (.agg #[.int .u64 ah, .int .u64 al]) (.agg #[.int .u64 bh, .int .u64 bl])).run Try.prog w = .ok (.bool (ah == bh && al == bl)) w := by
  by_cases h : ah = bh
  · subst h
    by_cases h' : al = bl
    · subst h'; simp [go_sem]
    · have : (al == bl) = false := by simp [h']
      simp [go_sem, this]
  · have : (ah == bh) = false := by simp [h]
    simp [go_sem, this]
end Go.Proofs.Ytdkkpiplfkdkgaa
