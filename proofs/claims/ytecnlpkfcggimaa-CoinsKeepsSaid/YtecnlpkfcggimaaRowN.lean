/-
  Rows of whole numbers of the call's own: the library's sort, and its copy.
-/
import Derived.Test.YtecnlpkfcggimaaGwA
import Derived.Test.YtecnlpkfcggimaaGwM
import Derived.Test.YtecnlpkfcggimaaShelfG
import Derived.Sort.OwnSortedInts
import Derived.Shelf.SortM.Plain
import Derived.Shelf.SortM.SortNone
namespace Go.Proofs.Ytecnlpkfcggimaa
set_option linter.unusedVariables false
set_option linter.unusedSimpArgs false
open Go.RowKit Go.Sort

theorem merge_sortI (W : List Int) : W.mergeSort (fun x y => decide (x ≤ y)) = sortI W := by
  have hm := List.mergeSort_perm W (fun x y => decide (x ≤ y))
  have hs : (W.mergeSort (fun x y => decide (x ≤ y))).Pairwise fun a b => a ≤ b := by
    have := List.pairwise_mergeSort (le := fun x y : Int => decide (x ≤ y)) (fun a b c h1 h2 => by simp at *; omega) (fun a b => by simp; omega) W
    exact this.imp fun h => by simpa using h
  exact (hm.trans (sortI_perm W).symm).eq_of_pairwise (fun a b _ _ h1 h2 => Int.le_antisymm h1 h2) hs (sortI_sorted W)

set_option maxHeartbeats 1000000 in
/-- A row of the call's own, sorted. -/
theorem sort_nums (w : World) (base : Nat) (v : Value) (W : List Int) (h : OwnN w base v W) (hl : W.length ≤ 100000) :
    Calls Try.prog 24 #[v] w fun e w' => e = .returned (.tuple #[]) ∧ OwnN w' base v (sortI W) ∧ w.grownBy w' v.ownBlock := by
  rcases h.2 with ⟨rfl, h0⟩ | ⟨g, cap, cur, rfl, hb, hg, hnc, hcm, hcz, ht⟩
  · obtain rfl : W = [] := List.eq_nil_of_length_eq_zero h0
    have hC := AnyM.slices_Sort_int_none Try.sortG none 0 w
    change Calls Try.prog 24 _ _ _ at hC
    refine hC.mono ?_
    rintro e w' ⟨rfl, rfl⟩
    exact ⟨rfl, OwnN.nil _ _, World.grownBy.refl _ _⟩
  · have hH := holds_of_blockI hg (by rw [Nat.mul_one] at ht; exact ht)
    have hC := AnyM.slices_Sort_int Try.sortG g 0 cap W w hH (lt_of_block hg) (by omega)
    change Calls Try.prog 24 _ _ _ at hC
    refine hC.mono ?_
    rintro e w' ⟨rfl, n, os, rfl⟩
    rw [merge_sortI]
    refine ⟨rfl, ?_, grownBy_sortedI _⟩
    have := ownsRow_sortedI (n := n) (os := os) (sortI_len W) hb hg hnc hcm hcz
    unfold OwnN
    rw [sortI_len]
    exact this

theorem Nums.none_ {w : World} {L : List Int} (h : Nums w none L) : L = [] := by
  cases L with
  | nil => rfl
  | cons p r => obtain ⟨b, off, e, _⟩ := h.at_ 0 p rfl; cases e

set_option maxRecDepth 100000 in
set_option maxHeartbeats 1000000 in
theorem clone_nums (w : World) (A : Option Addr) (n cap : Nat) (L : List Int) (h : Nums w A L) (hn : L.length = n) (hl : n ≤ 100000) :
    Calls Try.prog 23 #[.slice A n cap] w fun e w' => ∃ v, e = .returned v ∧ OwnN w' w.heap.size v L ∧ Below w.heap.size w w' := by
  subst hn
  cases A with
  | none =>
    have e := h.none_
    subst e
    have he : ∀ w : World, (binOp .eql 31 (.slice none 0 cap) (.slice none 0 0)).run Try.prog w = .ok (.bool true) w := fun _ => rfl
    clear h
    show Calls Try.prog 23 #[.slice none 0 cap] w _
    go_enter Try.func23, Try.ntmps23
    go_wp2_with fail
    go_ret
    exact ⟨_, rfl, OwnN.nil _ _, Below.refl _ _⟩
  | some ad =>
    have hE : (w.alloc (.cells #[] 2)).heap[w.heap.size]? = some (.cells #[] 2 (0, 0)) := heap_alloc_new w _
    have HO := Lib.hid (own_emptyN (base := w.heap.size) hE (Nat.le_refl _))
    have HB : Hid (Below w.heap.size w (w.alloc (.cells #[] 2))) := Lib.hid ((Below.refl _ _).alloc (Nat.le_refl _) _)
    have HP := Lib.hid (h.call HB.out)
    have he : ∀ w : World, (binOp .eql 31 (.slice (some ad) L.length cap) (.slice none 0 0)).run Try.prog w = .ok (.bool false) w := fun _ => rfl
    clear h hE
    go_enter Try.func23, Try.ntmps23
    go_wp2_with (at_builtin; refine wpList_append_nums rfl (.tmp 5) (.tmp 6) rfl w.heap.size _ [] (some ad) cap L rfl HO.out rfl HP.out ?c1 ?c2 ?_)
    case c1 => simp; omega
    case c2 => simp
    intro v5 w5 hown5 hg5
    have hb5 : Below w.heap.size w w5 := HB.out.grown hg5 HB.out.size (fun k hk => by cases hk; exact Nat.le_refl _)
    obtain ⟨A5, k5, rfl⟩ := hown5.form
    have HO5 := Lib.hid hown5
    have HB5 := Lib.hid hb5
    clear hown5 hg5 hb5
    go_wp2_with fail
    go_ret
    exact ⟨_, rfl, HO5.out, HB5.out⟩

end Go.Proofs.Ytecnlpkfcggimaa
