/-
  Walks: wide.Add, of any row.
-/
import Derived.Test.YtdkkpiplfkdkgaaWideA
namespace Go.Proofs.Ytdkkpiplfkdkgaa
set_option linter.unusedVariables false
open Go.RowKit Go.Shelf

set_option maxHeartbeats 400000 in
theorem add_any (xs : List (Int × Int)) (b off cap : Nat) (w : World) (hm : xs.length ≤ maxLen) (hw : ∀ x ∈ xs, Word x.1 ∧ Word x.2)
    (hcell : ∀ i x, xs[i]? = some x → w.cell? ⟨b, off + i * 2, none⟩ = some (.int .u64 x.1) ∧ w.cell? ⟨b, off + i * 2 + 1, none⟩ = some (.int .u64 x.2)) :
    Calls Try.prog 9 #[.slice (some ⟨b, off, none⟩) xs.length cap] w fun e w' =>
      e = .returned (.tuple #[.agg #[.int .u64 (hiW (sumW xs)), .int .u64 (loW (sumW xs))], .bool (carryB (sumW xs))]) ∧ Below w.heap.size w w' := by
  unfold maxLen at hm
  go_enter Try.func9, Try.ntmps9
  go_wp2_with fail
  go_loopw [5, 11] (fun v i wr => ∃ k : Nat, k ≤ xs.length ∧ i = .int .i64 k ∧ v = .bool (carryB (sumW (xs.take k))) ∧
      wr.cell? ⟨w.heap.size + 1, 0, none⟩ = some (.int .u64 (hiW (sumW (xs.take k)))) ∧ wr.cell? ⟨w.heap.size + 1, 1, none⟩ = some (.int .u64 (loW (sumW (xs.take k)))) ∧
      wr.cell? ⟨w.heap.size, 0, none⟩ = some (.int .u64 0) ∧ wr.cell? ⟨w.heap.size, 1, none⟩ = some (.int .u64 0) ∧
      wr.frozen? ⟨w.heap.size + 1, 0, none⟩ = false ∧ wr.frozen? ⟨w.heap.size + 1, 1, none⟩ = false ∧ wr.frozen? ⟨w.heap.size, 0, none⟩ = false ∧ wr.frozen? ⟨w.heap.size, 1, none⟩ = false ∧
      w.heap.size + 1 < wr.heap.size ∧ Below w.heap.size w wr) (fun _ i _ => xs.length - (intOf i).toNat)
  case atStart => exact ⟨0, Nat.zero_le _, rfl, rfl, by go_simp; decide, by go_simp; decide, by go_simp, by go_simp, by go_simp, by go_simp, by go_simp, by go_simp, by simp, ((Below.refl _ _).alloc (Nat.le_refl _) _).alloc (by simp) _⟩
  case round =>
    obtain ⟨k, hk, rfl, rfl, c1, c2, c3, c4, f1, f2, f3, f4, hz, hb⟩ := hrel
    have hz0 : w.heap.size < wr.heap.size := by omega
    by_cases hlt : k < xs.length
    · obtain ⟨⟨h, l⟩, hx⟩ : ∃ x, xs[k]? = some x := ⟨_, List.getElem?_eq_getElem hlt⟩
      obtain ⟨e1, e2⟩ := hcell k _ hx
      have d1 := cell_later hb e1
      have d2 := cell_later hb e2
      have HS := Lib.hid (sumW_take hx)
      have hpos : 0 ≤ sumW (xs.take k) := sumW_nonneg (fun x hx => hw x (List.mem_of_mem_take hx))
      obtain ⟨wh, wl⟩ : Word h ∧ Word l := hw (h, l) (List.mem_of_getElem? hx)
      generalize sumW (xs.take k) = s at *
      have EL := Lib.hid (sum_lo s h l)
      have EH := Lib.hid (sum_hi s h l)
      have EC := Lib.hid (sum_carry hpos wh wl)
      obtain ⟨p1, p2⟩ := word_hi s
      obtain ⟨q1, q2⟩ := word_lo s
      obtain ⟨h1, h2⟩ := wh
      obtain ⟨l1, l2⟩ := wl
      have k0 : 0 ≤ (loW s + l) / 18446744073709551616 := by omega
      have k1 : (loW s + l) / 18446744073709551616 ≤ 1 := by omega
      clear hx hcell hw e1 e2
      by_cases hcs : carryB s = true
      · have EC1 : true = carryB (s + wval h l) := by rw [← EC.out, hcs]; rfl
        have EC2 := Lib.hid EC1
        clear EC EC1
        go_wp2_with (first | simp only [add64_0 (loW s) l q1 l1] | simp only [add64 (hiW s) h _ p1 h1 k0 k1])
        go_roundw
        case rel => 
          refine ⟨k + 1, by omega, by go_num, by rw [HS.out, EC2.out], by go_simp; rw [HS.out]; exact EH.out, by go_simp; rw [HS.out]; exact EL.out, by go_simp, by go_simp, by go_simp, by go_simp, by go_simp, by go_simp, by simp; omega, ?_⟩
          exact ((hb.setCell (p := ⟨w.heap.size + 1, 1, none⟩) (Nat.le_succ _) _).setCell (p := ⟨w.heap.size + 1, 0, none⟩) (Nat.le_succ _) _).alloc (by simp; omega) _
        case measure => simp [intOf]; omega
      · have hcf : carryB s = false := by simpa using hcs
        have EC1 : ((hiW s + h + (loW s + l) / 18446744073709551616) / 18446744073709551616 != 0) = carryB (s + wval h l) := by rw [← EC.out, hcf]; rfl
        have EC2 := Lib.hid EC1
        clear EC EC1 hcs
        go_wp2_with (first | simp only [add64_0 (loW s) l q1 l1] | simp only [add64 (hiW s) h _ p1 h1 k0 k1])
        go_roundw
        case rel =>
          refine ⟨k + 1, by omega, by go_num, by rw [HS.out, EC2.out], by go_simp; rw [HS.out]; exact EH.out, by go_simp; rw [HS.out]; exact EL.out, by go_simp, by go_simp, by go_simp, by go_simp, by go_simp, by go_simp, by simp; omega, ?_⟩
          exact ((hb.setCell (p := ⟨w.heap.size + 1, 1, none⟩) (Nat.le_succ _) _).setCell (p := ⟨w.heap.size + 1, 0, none⟩) (Nat.le_succ _) _).alloc (by simp; omega) _
        case measure => simp [intOf]; omega
    · obtain rfl : k = xs.length := by omega
      rw [List.take_length] at *
      go_wp2_with fail
      refine bodyPost_ret (v := .tuple #[.agg #[.int .u64 (hiW (sumW xs)), .int .u64 (loW (sumW xs))], .bool (carryB (sumW xs))]) (by simp [results, Try.results9, go_sem, c3, c4]) rfl ⟨rfl, ?_⟩
      exact (hb.setCell (p := ⟨w.heap.size, 0, none⟩) (Nat.le_refl _) _).setCell (p := ⟨w.heap.size, 1, none⟩) (Nat.le_refl _) _
end Go.Proofs.Ytdkkpiplfkdkgaa
