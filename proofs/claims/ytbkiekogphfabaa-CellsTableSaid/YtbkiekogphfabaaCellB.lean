/-
  Walks: a table of cells in memory, and all calls that read it, of a nil one too.
-/
import Derived.Test.YtbkiekogphfabaaCellI
import Derived.Test.YtbkiekogphfabaaSignM
import Derived.Test.YtbkiekogphfabaaRows
import Derived.Deep.QuietTactic
import Derived.BigQuiet
namespace Go.Proofs.Ytbkiekogphfabaa
set_option linter.unusedVariables false
set_option linter.unusedSimpArgs false
open Go.RowKit

/-- The first n cells of a closeness. -/
def rowC (u v : Int) (n : Nat) : List CellV := (List.range n).map fun i => (endC u v (lowC u v i), repC u v (lowC u v i))
theorem rowC_len (u v : Int) (n : Nat) : (rowC u v n).length = n := by unfold rowC; simp
theorem rowC_at (u v : Int) {n i : Nat} (h : i < n) : (rowC u v n)[i]? = some (endC u v (lowC u v i), repC u v (lowC u v i)) := by
  unfold rowC; rw [List.getElem?_map, List.getElem?_range h]; rfl
theorem rowC_succ (u v : Int) (n : Nat) : rowC u v (n + 1) = rowC u v n ++ [(endC u v (lowC u v n), repC u v (lowC u v n))] := by
  unfold rowC; rw [List.range_succ, List.map_append]; rfl

/-- A table at block B, of n cells; S are its blocks. -/
def TabX (w : World) (B : Nat) (S : Nat → Prop) (u v : Int) (n : Nat) : Prop :=
  GoodC u v ∧ TabN u v n ∧ n ≤ 4096 ∧ ∃ g cap, w.heap[B]? = some (.cells #[.int .u64 u, .int .u64 v, .slice (some ⟨g, 0, none⟩) n cap] 53 (0, 0)) ∧ B < g ∧ OwnR w (B + 1) (.slice (some ⟨g, 0, none⟩) n cap) (rowC u v n) ∧ ∀ k, S k ↔ k = B ∨ k = g
theorem tabx_keep {w w' : World} {B : Nat} {S : Nat → Prop} {u v : Int} {n : Nat} (h : TabX w B S u v n) (hk : ∀ k, S k → w'.heap[k]? = w.heap[k]?) : TabX w' B S u v n := by
  obtain ⟨h1, h2, h3, g, cap, h4, h5, h6, h7⟩ := h
  exact ⟨h1, h2, h3, g, cap, (hk B ((h7 B).2 (Or.inl rfl))).trans h4, h5, h6.keep (hk g ((h7 g).2 (Or.inr rfl))), h7⟩
theorem tabx_lt {w : World} {B : Nat} {S : Nat → Prop} {u v : Int} {n : Nat} (h : TabX w B S u v n) : ∀ k, S k → k < w.heap.size := by
  obtain ⟨h1, h2, h3, g, cap, h4, h5, h6, h7⟩ := h
  intro k hk
  rcases (h7 k).1 hk with rfl | rfl
  · exact lt_of_block h4
  · exact (h6.lt _ rfl).2
theorem tabx_call {w w' : World} {B : Nat} {S : Nat → Prop} {u v : Int} {n : Nat} (h : TabX w B S u v n) (hb : Below w.heap.size w w') : TabX w' B S u v n :=
  tabx_keep h fun k hk => hb.block k (tabx_lt h k hk)
/-- What is read of a table. -/
structure TabC (w : World) (B g cap : Nat) (u v : Int) (n : Nat) : Prop where
  c0 : w.cell? ⟨B, 0, none⟩ = some (.int .u64 u)
  c1 : w.cell? ⟨B, 1, none⟩ = some (.int .u64 v)
  c2 : w.cell? ⟨B, 2, none⟩ = some (.slice (some ⟨g, 0, none⟩) n cap)
  ce : ∀ i, i < n → w.cell? ⟨g, i * 2, none⟩ = some (.int .u64 (endC u v (lowC u v i)))
  cr : ∀ i, i < n → w.cell? ⟨g, i * 2 + 1, none⟩ = some (.int .u64 (repC u v (lowC u v i)))
theorem tabx_cells {w : World} {B : Nat} {S : Nat → Prop} {u v : Int} {n : Nat} (h : TabX w B S u v n) : ∃ g cap, TabC w B g cap u v n := by
  obtain ⟨h1, h2, h3, g, cap, h4, h5, h6, h7⟩ := h
  exact ⟨g, cap, by rw [Joins.cell_of_block h4]; rfl, by rw [Joins.cell_of_block h4]; rfl, by rw [Joins.cell_of_block h4]; rfl, fun i hi => (h6.at_ (rowC_at u v hi)).1, fun i hi => (h6.at_ (rowC_at u v hi)).2⟩

set_option maxHeartbeats 400000 in
theorem cgood_any (u v : Int) (wu : Word u) (wv : Word v) (w : World) :
    Calls Try.prog 10 #[.agg #[.int .u64 u, .int .u64 v]] w fun e w' => e = .returned (.bool (goodC u v)) ∧ Below w.heap.size w w' := by
  by_cases h : u = 0
  · subst h
    have E : Hid (false = goodC 0 v) := Lib.hid (by unfold goodC; simp)
    go_enter Try.func10, Try.ntmps10
    go_wp2_with fail
    go_ret
    exact ⟨ret_bool E.out, (Below.refl _ _).alloc (Nat.le_refl _) _⟩
  · have hb0 : (u != 0) = true := by simp [h]
    have hb1 : (!u == 0) = true := by simp [h]
    have hp : 0 < u := by have := wu.1; omega
    by_cases hl : u < v
    · have E : Hid (decide (v ≤ 2147483648) = goodC u v) := Lib.hid (by unfold goodC; simp [hp, hl])
      go_enter Try.func10, Try.ntmps10
      go_wp2_with fail
      go_ret
      exact ⟨ret_bool E.out, (Below.refl _ _).alloc (Nat.le_refl _) _⟩
    · have E : Hid (false = goodC u v) := Lib.hid (by unfold goodC; simp [hl])
      have hlf : decide (u < v) = false := decide_eq_false hl
      go_enter Try.func10, Try.ntmps10
      go_wp2_with fail
      go_ret
      exact ⟨ret_bool E.out, (Below.refl _ _).alloc (Nat.le_refl _) _⟩

set_option maxHeartbeats 400000 in
theorem rcgood_any (u v : Int) (wu : Word u) (wv : Word v) (w : World) :
    Calls Try.prog 11 #[.agg #[.int .u64 u, .int .u64 v]] w fun e w' => e = .returned (.bool (goodC u v)) ∧ Below w.heap.size w w' := by
  by_cases h : 1 ≤ u
  · by_cases hl : u < v
    · have E : Hid (decide (v ≤ 2147483648) = goodC u v) := Lib.hid (by unfold goodC; have : 0 < u := by omega
                                                                        simp [this, hl])
      go_enter Try.func11, Try.ntmps11
      go_wp2_with fail
      go_ret
      exact ⟨ret_bool E.out, (Below.refl _ _).alloc (Nat.le_refl _) _⟩
    · have E : Hid (false = goodC u v) := Lib.hid (by unfold goodC; simp [hl])
      have hlf : decide (u < v) = false := decide_eq_false hl
      go_enter Try.func11, Try.ntmps11
      go_wp2_with fail
      go_ret
      exact ⟨ret_bool E.out, (Below.refl _ _).alloc (Nat.le_refl _) _⟩
  · have E : Hid (false = goodC u v) := Lib.hid (by unfold goodC; have : ¬ 0 < u := by omega
                                                    simp [this])
    have hlf : decide (1 ≤ u) = false := decide_eq_false h
    go_enter Try.func11, Try.ntmps11
    go_wp2_with fail
    go_ret
    exact ⟨ret_bool E.out, (Below.refl _ _).alloc (Nat.le_refl _) _⟩

set_option maxHeartbeats 400000 in
theorem tlen_at (w : World) (B g cap : Nat) (n : Nat) (h : w.cell? ⟨B, 2, none⟩ = some (.slice (some ⟨g, 0, none⟩) n cap)) :
    Calls Try.prog 13 #[.pointer (some ⟨B, 0, none⟩)] w fun e w' => e = .returned (.int .i64 n) ∧ w = w' := by
  go_enter Try.func13, Try.ntmps13
  go_wp2_with fail
  go_ret
  exact ⟨rfl, rfl⟩
theorem tlen_none (w : World) : Calls Try.prog 13 #[.pointer none] w fun e w' => e = .returned (.int .i64 0) ∧ w = w' := by
  go_enter Try.func13, Try.ntmps13
  go_wp2_with fail
  go_ret
  exact ⟨rfl, rfl⟩
theorem tlen_any (w : World) (B : Nat) (S : Nat → Prop) (u v : Int) (n : Nat) (h : TabX w B S u v n) :
    Calls Try.prog 13 #[.pointer (some ⟨B, 0, none⟩)] w fun e w' => e = .returned (.int .i64 n) ∧ w = w' := by
  obtain ⟨g, cap, h⟩ := tabx_cells h
  exact tlen_at w B g cap n h.c2

set_option maxHeartbeats 400000 in
theorem tpart_any (w : World) (B : Nat) (S : Nat → Prop) (u v : Int) (n : Nat) (h : TabX w B S u v n) :
    Calls Try.prog 14 #[.pointer (some ⟨B, 0, none⟩)] w fun e w' => e = .returned (.agg #[.int .u64 u, .int .u64 v]) ∧ Below w.heap.size w w' := by
  obtain ⟨g, cap, h⟩ := tabx_cells h
  have c0 := h.c0
  have c1 := h.c1
  have hlt := World.block_lt_of_cell? (a := ⟨B, 0, none⟩) w c0
  clear h
  go_enter Try.func14, Try.ntmps14
  go_wp2_with fail
  refine bodyPost_ret (v := .agg #[.int .u64 u, .int .u64 v]) (by simp [results, Try.results14, go_sem]) rfl ⟨rfl, ?_⟩
  exact (Below.refl _ _).alloc (Nat.le_refl _) _
set_option maxHeartbeats 400000 in
theorem tpart_none (w : World) :
    Calls Try.prog 14 #[.pointer none] w fun e w' => e = .returned (.agg #[.int .u64 0, .int .u64 0]) ∧ Below w.heap.size w w' := by
  go_enter Try.func14, Try.ntmps14
  go_wp2_with fail
  refine bodyPost_ret (v := .agg #[.int .u64 0, .int .u64 0]) (by simp [results, Try.results14, go_sem]) rfl ⟨rfl, ?_⟩
  exact (Below.refl _ _).alloc (Nat.le_refl _) _

set_option maxHeartbeats 400000 in
theorem thas_at (w : World) (B g cap : Nat) (n : Nat) (i : Int) (b : Bool) (hi : I64 i) (h : w.cell? ⟨B, 2, none⟩ = some (.slice (some ⟨g, 0, none⟩) n cap)) (hb : decide (0 ≤ i ∧ i < n) = b) :
    Calls Try.prog 23 #[.pointer (some ⟨B, 0, none⟩), .int .i64 i] w fun e w' => e = .returned (.bool b) ∧ w = w' := by
  have HL := Lib.hid (tlen_at w B g cap n h)
  have HB := Lib.hid hb
  clear h hb
  by_cases h0 : 0 ≤ i
  · have E : Hid (decide (i < n) = b) := Lib.hid (by rw [← HB.out]; simp [h0])
    go_enter Try.func23, Try.ntmps23
    go_wp2_with fail
    refine HL.out.mono ?_
    rintro e w2 ⟨rfl, rfl⟩
    go_wp2_with fail
    go_ret
    exact ⟨ret_bool E.out, rfl⟩
  · have E : Hid (false = b) := Lib.hid (by rw [← HB.out]; simp [h0])
    have hf : decide (0 ≤ i) = false := decide_eq_false h0
    go_enter Try.func23, Try.ntmps23
    go_wp2_with fail
    go_ret
    exact ⟨ret_bool E.out, rfl⟩
set_option maxHeartbeats 400000 in
theorem thas_none (w : World) (i : Int) (hi : I64 i) :
    Calls Try.prog 23 #[.pointer none, .int .i64 i] w fun e w' => e = .returned (.bool false) ∧ w = w' := by
  by_cases h0 : 0 ≤ i
  · have E : decide (i < 0) = false := decide_eq_false (by omega)
    go_enter Try.func23, Try.ntmps23
    go_wp2_with fail
    refine (tlen_none _).mono ?_
    rintro e w2 ⟨rfl, rfl⟩
    go_wp2_with fail
    go_ret
    exact ⟨rfl, rfl⟩
  · have hf : decide (0 ≤ i) = false := decide_eq_false h0
    go_enter Try.func23, Try.ntmps23
    go_wp2_with fail
    go_ret
    exact ⟨rfl, rfl⟩

set_option maxHeartbeats 400000 in
theorem trep_none (w : World) (i : Int) (hi : I64 i) :
    Calls Try.prog 16 #[.pointer none, .int .i64 i] w fun e w' => e = .returned (.int .u64 0) ∧ w = w' := by
  go_enter Try.func16, Try.ntmps16
  go_wp2_with fail
  refine (thas_none _ i hi).mono ?_
  rintro e w2 ⟨rfl, rfl⟩
  go_wp2_with fail
  go_ret
  exact ⟨rfl, rfl⟩
set_option maxHeartbeats 400000 in
theorem trange_none (w : World) (i : Int) (hi : I64 i) :
    Calls Try.prog 15 #[.pointer none, .int .i64 i] w fun e w' => e = .returned (.tuple #[.int .u64 0, .int .u64 0]) ∧ w = w' := by
  go_enter Try.func15, Try.ntmps15
  go_wp2_with fail
  refine (thas_none _ i hi).mono ?_
  rintro e w2 ⟨rfl, rfl⟩
  go_wp2_with fail
  go_ret2
  exact ⟨rfl, rfl⟩
set_option maxHeartbeats 400000 in
theorem trep_out (w : World) (B : Nat) (S : Nat → Prop) (u v : Int) (n : Nat) (i : Int) (h : TabX w B S u v n) (hi : I64 i) (ho : i < 0 ∨ n ≤ i) :
    Calls Try.prog 16 #[.pointer (some ⟨B, 0, none⟩), .int .i64 i] w fun e w' => e = .returned (.int .u64 0) ∧ w = w' := by
  obtain ⟨g, cap, h⟩ := tabx_cells h
  have HH := Lib.hid (thas_at w B g cap n i false hi h.c2 (decide_eq_false (by omega)))
  clear h
  go_enter Try.func16, Try.ntmps16
  go_wp2_with fail
  refine HH.out.mono ?_
  rintro e w2 ⟨rfl, rfl⟩
  go_wp2_with fail
  go_ret
  exact ⟨rfl, rfl⟩
set_option maxHeartbeats 400000 in
theorem trange_out (w : World) (B : Nat) (S : Nat → Prop) (u v : Int) (n : Nat) (i : Int) (h : TabX w B S u v n) (hi : I64 i) (ho : i < 0 ∨ n ≤ i) :
    Calls Try.prog 15 #[.pointer (some ⟨B, 0, none⟩), .int .i64 i] w fun e w' => e = .returned (.tuple #[.int .u64 0, .int .u64 0]) ∧ w = w' := by
  obtain ⟨g, cap, h⟩ := tabx_cells h
  have HH := Lib.hid (thas_at w B g cap n i false hi h.c2 (decide_eq_false (by omega)))
  clear h
  go_enter Try.func15, Try.ntmps15
  go_wp2_with fail
  refine HH.out.mono ?_
  rintro e w2 ⟨rfl, rfl⟩
  go_wp2_with fail
  go_ret2
  exact ⟨rfl, rfl⟩
set_option maxHeartbeats 400000 in
theorem trep_any (w : World) (B : Nat) (S : Nat → Prop) (u v : Int) (n i : Nat) (x : Int) (h : TabX w B S u v n) (hi : i < n) (hx : repC u v (lowC u v i) = x) :
    Calls Try.prog 16 #[.pointer (some ⟨B, 0, none⟩), .int .i64 i] w fun e w' => e = .returned (.int .u64 x) ∧ w = w' := by
  have hn := h.2.2.1
  obtain ⟨g, cap, h⟩ := tabx_cells h
  have HH := Lib.hid (thas_at w B g cap n i true (by unfold I64; omega) h.c2 (decide_eq_true (by omega)))
  have c2 := h.c2
  have cr := h.cr i hi
  have ki : (i : Int) < n := by omega
  rw [hx] at cr
  clear h hx
  go_enter Try.func16, Try.ntmps16
  go_wp2_with fail
  refine HH.out.mono ?_
  rintro e w2 ⟨rfl, rfl⟩
  go_wp2_with fail
  go_ret
  exact ⟨rfl, rfl⟩
set_option maxHeartbeats 400000 in
theorem trange_any (w : World) (B : Nat) (S : Nat → Prop) (u v : Int) (n i : Nat) (x y : Int) (h : TabX w B S u v n) (hi : i < n) (hx : lowC u v i = x) (hy : endC u v (lowC u v i) = y) :
    Calls Try.prog 15 #[.pointer (some ⟨B, 0, none⟩), .int .i64 i] w fun e w' => e = .returned (.tuple #[.int .u64 x, .int .u64 y]) ∧ ∃ m, w' = w.drewN m := by
  have hn := h.2.2.1
  obtain ⟨g, cap, hc⟩ := tabx_cells h
  have HH := Lib.hid (thas_at w B g cap n i true (by unfold I64; omega) hc.c2 (decide_eq_true (by omega)))
  have c2 := hc.c2
  have ce := hc.ce i hi
  have ki : (i : Int) < n := by omega
  rw [hy] at ce
  cases i with
  | zero =>
    have hx1 : x = 1 := by rw [← hx]; rfl
    subst hx1
    clear h hx hc hy
    go_enter Try.func15, Try.ntmps15
    go_wp2_with fail
    refine HH.out.mono ?_
    rintro e w2 ⟨rfl, rfl⟩
    go_wp2_with fail
    go_quiet (fail)
    go_wp2_with fail
    go_ret2
    exact ⟨rfl, _, rfl⟩
  | succ j =>
    obtain ⟨z, hz⟩ : ∃ z, endC u v (lowC u v j) = z := ⟨_, rfl⟩
    have cj := hc.ce j (by omega)
    rw [hz] at cj
    have hx1 : x = z + 1 := by rw [← hx, low_succ, hz]
    have hzb := tab_end h.1 h.2.1 (show j < n by omega)
    have hzp := low_pos h.1 j
    rw [hz] at hzb
    have z0 : 0 ≤ z := by omega
    have z1 : z ≤ 9223372036854775808 := by omega
    have e1 : ((j + 1 : Nat) : Int) - 1 = j := by omega
    subst hx1
    clear h hx hc hy hz hzb hzp
    go_enter Try.func15, Try.ntmps15
    go_wp2_with fail
    refine HH.out.mono ?_
    rintro e w2 ⟨rfl, rfl⟩
    go_wp2_with fail
    go_quiet (fail)
    go_wp2_with fail
    go_ret2
    exact ⟨rfl, _, rfl⟩
end Go.Proofs.Ytbkiekogphfabaa
