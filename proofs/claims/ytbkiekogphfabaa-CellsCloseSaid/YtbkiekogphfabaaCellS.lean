/-
  Walks: a table's Index: a binary search.
-/
import Derived.Test.YtbkiekogphfabaaCellB
import Derived.Test.YtbkiekogphfabaaShelfS
import Derived.Lib.SmallJoins
namespace Go.Proofs.Ytbkiekogphfabaa
set_option linter.unusedVariables false
set_option linter.unusedSimpArgs false
open Go.RowKit Go.Sort

set_option maxHeartbeats 1000000 in
theorem tclos_any (w : World) (bm bt B g cap n i : Nat) (m x : Int) (hi : i < n) (hn : n ≤ 4096) (cm : w.cell? ⟨bm, 0, none⟩ = some (.int .u64 m)) (ct : w.cell? ⟨bt, 0, none⟩ = some (.pointer (some ⟨B, 0, none⟩)))
    (c2 : w.cell? ⟨B, 2, none⟩ = some (.slice (some ⟨g, 0, none⟩) n cap)) (ce : w.cell? ⟨g, i * 2, none⟩ = some (.int .u64 x)) :
    Calls Try.prog 25 (#[.int .i64 i] ++ #[.pointer (some ⟨bm, 0, none⟩), .pointer (some ⟨bt, 0, none⟩)]) w fun e w' => e = .returned (.bool (decide (m ≤ x))) ∧ ∃ q, w' = w.drewN q := by
  have hiz : (i : Int) < (n : Int) := by omega
  go_enter Try.func25, Try.ntmps25
  go_wp2_with fail
  go_quiet (fail)
  go_wp2_with fail
  go_ret
  exact ⟨rfl, _, rfl⟩

theorem grow_below {B : Nat} {w : World} (q : Nat) (os : Array Obj) (hB : B ≤ w.heap.size) : Below B w (grow (w.drewN q) os) := below_grown_sl B w q os hB

set_option maxHeartbeats 1000000 in
theorem tsearch_any (w : World) (B bm bt : Nat) (S : Nat → Prop) (u v m : Int) (n k : Nat) (h : TabX w B S u v n) (cm : w.cell? ⟨bm, 0, none⟩ = some (.int .u64 m)) (ct : w.cell? ⟨bt, 0, none⟩ = some (.pointer (some ⟨B, 0, none⟩))) (hk : idxC u v n m = k) :
    Calls Try.prog 24 #[.int .i64 n, .func (.func 25) #[] #[.pointer (some ⟨bm, 0, none⟩), .pointer (some ⟨bt, 0, none⟩)]] w fun e w' => e = .returned (.int .i64 k) ∧ Below w.heap.size w w' := by
  have hg := h.1
  have hn := h.2.2.1
  obtain ⟨g, cap, hc⟩ := tabx_cells h
  have eg : ∀ args w, (callFunc 25 args).run Try.prog w = .ok (.enter 25 args) w := enters_of Try.func25 (by kernel_rfl) rfl
  have lm := World.block_lt_of_cell? (a := ⟨bm, 0, none⟩) w cm
  have lt' := World.block_lt_of_cell? (a := ⟨bt, 0, none⟩) w ct
  have lB := World.block_lt_of_cell? (a := ⟨B, 2, none⟩) w hc.c2
  have hS := Any.sort_Search Try.search 25 #[.pointer (some ⟨bm, 0, none⟩), .pointer (some ⟨bt, 0, none⟩)] n (fun i => decide (m ≤ endC u v (lowC u v i))) w eg (by omega)
    (fun q os i hi => (tclos_any _ bm bt B g cap n i m _ hi hn (cell_grown lm cm q os) (cell_grown lt' ct q os) (cell_grown lB hc.c2 q os) (cell_grown (World.block_lt_of_cell? (a := ⟨g, i * 2, none⟩) w (hc.ce i hi)) (hc.ce i hi) q os)).mono
      fun _ _ ⟨he, q, hq⟩ => ⟨he, q, #[], by rw [hq, grow_empty]⟩)
    (fun a b hab hb ha => by
      have h1 := low_mono hg (show a + 1 ≤ b + 1 by omega)
      rw [low_succ, low_succ] at h1
      simp at ha ⊢; omega)
  have e : (List.range n).countP (fun i => !decide (m ≤ endC u v (lowC u v i))) = k := hk
  rw [e] at hS
  refine hS.mono ?_
  rintro e w' ⟨rfl, q, os, rfl⟩
  exact ⟨rfl, grow_below q os (Nat.le_refl _)⟩

theorem tsearch_nil (w : World) (bm bt : Nat) :
    Calls Try.prog 24 #[.int .i64 0, .func (.func 25) #[] #[.pointer (some ⟨bm, 0, none⟩), .pointer (some ⟨bt, 0, none⟩)]] w fun e w' => e = .returned (.int .i64 0) ∧ Below w.heap.size w w' := by
  have eg : ∀ args w, (callFunc 25 args).run Try.prog w = .ok (.enter 25 args) w := enters_of Try.func25 (by kernel_rfl) rfl
  have hS := Any.sort_Search Try.search 25 #[.pointer (some ⟨bm, 0, none⟩), .pointer (some ⟨bt, 0, none⟩)] 0 (fun i => true) w eg (by omega)
    (fun q os i hi => absurd hi (Nat.not_lt_zero _)) (fun a b hab hb ha => rfl)
  refine hS.mono ?_
  rintro e w' ⟨rfl, q, os, rfl⟩
  exact ⟨rfl, grow_below q os (Nat.le_refl _)⟩

/-- The two boxes of Index. -/
theorem tab_boxed {w : World} {B : Nat} {S : Nat → Prop} {u v m : Int} {n : Nat} (h : TabX w B S u v n) :
    TabX ((w.alloc (.cells #[.pointer (some ⟨B, 0, none⟩)] 26)).alloc (.cells #[.int .u64 m] 22)) B S u v n :=
  tabx_call h (((Below.refl _ _).alloc (Nat.le_refl _) _).alloc (by simp) _)

set_option maxHeartbeats 1000000 in
theorem tindex_yes (w : World) (B : Nat) (S : Nat → Prop) (u v m : Int) (n k : Nat) (h : TabX w B S u v n) (h1 : 1 ≤ m) (h2 : m ≤ 9223372036854775808) (hk : idxC u v n m = k) :
    Calls Try.prog 17 #[.pointer (some ⟨B, 0, none⟩), .int .u64 m] w fun e w' => e = .returned (.tuple #[.int .i64 k, .bool true]) ∧ Below w.heap.size w w' := by
  obtain ⟨k', hk1, hk2, _, _⟩ := idx_at h.1 h.2.1 h1 h2
  rw [hk] at hk2
  subst hk2
  have hn := h.2.2.1
  have HB := Lib.hid (tab_boxed (m := m) h)
  have HT := Lib.hid h
  have HK := Lib.hid hk
  have m0 : (m == 0) = false := by simp; omega
  have ek : ((k : Int) == (n : Int)) = false := by simp; omega
  clear h hk
  go_enter Try.func17, Try.ntmps17
  go_wp2_with fail
  refine (tlen_any _ B S u v n HB.out).mono ?_
  rintro e w2 ⟨rfl, rfl⟩
  go_wp2_with fail
  refine (tsearch_any _ B (w.heap.size + 1) w.heap.size S u v m n k HB.out (by go_simp) (by go_simp) HK.out).mono ?_
  rintro e w3 ⟨rfl, hb3⟩
  have HB3 := Lib.hid (tabx_call HB.out hb3)
  obtain ⟨bc, bf⟩ := bcell hb3
  have hz : w.heap.size + 1 < w3.heap.size := by have := hb3.size; simp at this; omega
  go_wp2_with fail
  refine (tlen_any _ B S u v n HB3.out).mono ?_
  rintro e w4 ⟨rfl, rfl⟩
  go_wp2_with fail
  go_ret2
  exact ⟨rfl, (((Below.refl _ _).alloc (Nat.le_refl _) _).alloc (by simp) _).trans (hb3.mono (by simp; omega))⟩

set_option maxHeartbeats 1000000 in
theorem tindex_out (w : World) (B : Nat) (S : Nat → Prop) (u v m : Int) (n : Nat) (h : TabX w B S u v n) (wm : Word m) (ho : m = 0 ∨ 9223372036854775808 < m) :
    Calls Try.prog 17 #[.pointer (some ⟨B, 0, none⟩), .int .u64 m] w fun e w' => e = .returned (.tuple #[.int .i64 0, .bool false]) ∧ Below w.heap.size w w' := by
  have hn := h.2.2.1
  have HB := Lib.hid (tab_boxed (m := m) h)
  obtain ⟨w0, w1⟩ := wm
  rcases ho with rfl | ho
  · obtain ⟨k, hk⟩ : ∃ k, idxC u v n 0 = k := ⟨_, rfl⟩
    have HK := Lib.hid hk
    clear h hk
    go_enter Try.func17, Try.ntmps17
    go_wp2_with fail
    refine (tlen_any _ B S u v n HB.out).mono ?_
    rintro e w2 ⟨rfl, rfl⟩
    go_wp2_with fail
    refine (tsearch_any _ B (w.heap.size + 1) w.heap.size S u v 0 n k HB.out (by go_simp) (by go_simp) HK.out).mono ?_
    rintro e w3 ⟨rfl, hb3⟩
    obtain ⟨bc, bf⟩ := bcell hb3
    have hz : w.heap.size + 1 < w3.heap.size := by have := hb3.size; simp at this; omega
    go_wp2_with fail
    go_ret2
    exact ⟨rfl, (((Below.refl _ _).alloc (Nat.le_refl _) _).alloc (by simp) _).trans (hb3.mono (by simp; omega))⟩
  · have HK := Lib.hid (idx_none (u := u) (v := v) (n := n) ho)
    have m0 : (m == 0) = false := by simp; omega
    have ek : ((n : Int) == (n : Int)) = true := by simp
    clear h
    go_enter Try.func17, Try.ntmps17
    go_wp2_with fail
    refine (tlen_any _ B S u v n HB.out).mono ?_
    rintro e w2 ⟨rfl, rfl⟩
    go_wp2_with fail
    refine (tsearch_any _ B (w.heap.size + 1) w.heap.size S u v m n n HB.out (by go_simp) (by go_simp) HK.out).mono ?_
    rintro e w3 ⟨rfl, hb3⟩
    have HB3 := Lib.hid (tabx_call HB.out hb3)
    obtain ⟨bc, bf⟩ := bcell hb3
    have hz : w.heap.size + 1 < w3.heap.size := by have := hb3.size; simp at this; omega
    go_wp2_with fail
    refine (tlen_any _ B S u v n HB3.out).mono ?_
    rintro e w4 ⟨rfl, rfl⟩
    go_wp2_with fail
    go_ret2
    exact ⟨rfl, (((Below.refl _ _).alloc (Nat.le_refl _) _).alloc (by simp) _).trans (hb3.mono (by simp; omega))⟩

set_option maxHeartbeats 1000000 in
theorem tindex_none (w : World) (m : Int) (wm : Word m) :
    Calls Try.prog 17 #[.pointer none, .int .u64 m] w fun e w' => e = .returned (.tuple #[.int .i64 0, .bool false]) ∧ Below w.heap.size w w' := by
  obtain ⟨w0, w1⟩ := wm
  by_cases hm : m = 0
  · subst hm
    go_enter Try.func17, Try.ntmps17
    go_wp2_with fail
    refine (tlen_none _).mono ?_
    rintro e w2 ⟨rfl, rfl⟩
    go_wp2_with fail
    refine (tsearch_nil _ (w.heap.size + 1) w.heap.size).mono ?_
    rintro e w3 ⟨rfl, hb3⟩
    obtain ⟨bc, bf⟩ := bcell hb3
    have hz : w.heap.size + 1 < w3.heap.size := by have := hb3.size; simp at this; omega
    go_wp2_with fail
    go_ret2
    exact ⟨rfl, (((Below.refl _ _).alloc (Nat.le_refl _) _).alloc (by simp) _).trans (hb3.mono (by simp; omega))⟩
  · have m0 : (m == 0) = false := by simp; omega
    clear hm
    go_enter Try.func17, Try.ntmps17
    go_wp2_with fail
    refine (tlen_none _).mono ?_
    rintro e w2 ⟨rfl, rfl⟩
    go_wp2_with fail
    refine (tsearch_nil _ (w.heap.size + 1) w.heap.size).mono ?_
    rintro e w3 ⟨rfl, hb3⟩
    obtain ⟨bc, bf⟩ := bcell hb3
    have hz : w.heap.size + 1 < w3.heap.size := by have := hb3.size; simp at this; omega
    go_wp2_with fail
    refine (tlen_none _).mono ?_
    rintro e w4 ⟨rfl, rfl⟩
    go_wp2_with fail
    go_ret2
    exact ⟨rfl, (((Below.refl _ _).alloc (Nat.le_refl _) _).alloc (by simp) _).trans (hb3.mono (by simp; omega))⟩
end Go.Proofs.Ytbkiekogphfabaa
