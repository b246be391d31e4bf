/-
  How package crate lays its counts in memory; walks: New, Total, At, of a crate and of a nil one.
-/
import Derived.Test.YtggdmlldolaojaaCrateD
import Derived.Test.YtggdmlldolaojaaCrateM
import Derived.Test.YtggdmlldolaojaaPlus
import Derived.Lib.SmallJoins
import Derived.Deep.QuietTactic
import Derived.BigQuiet
import Derived.Deep.RegionWith
namespace Go.Proofs.Ytggdmlldolaojaa
set_option linter.unusedVariables false
set_option linter.unusedSimpArgs false
open Go.RowKit

/-- At block B lie a crate's ends, its counts (at block G) and their sum. -/
structure Lay (w : World) (B G : Nat) (lo hi : Int) (n : Nat) (L : List PairV) (tot : Int) : Prop where
  b : w.heap[B]? = some (.cells #[.int .i64 lo, .int .i64 hi, .slice (some ⟨G, 0, none⟩) n n, .int .u64 tot] 52 (0, 0))
  g : w.heap[G]? = some (.cells (tabC L lo n).toArray 29 (0, 0))
theorem Lay.c0 {w : World} {B G : Nat} {lo hi : Int} {n : Nat} {L : List PairV} {tot : Int} (h : Lay w B G lo hi n L tot) : w.cell? ⟨B, 0, none⟩ = some (.int .i64 lo) := by rw [Joins.cell_of_block h.b]; rfl
theorem Lay.c1 {w : World} {B G : Nat} {lo hi : Int} {n : Nat} {L : List PairV} {tot : Int} (h : Lay w B G lo hi n L tot) : w.cell? ⟨B, 1, none⟩ = some (.int .i64 hi) := by rw [Joins.cell_of_block h.b]; rfl
theorem Lay.c2 {w : World} {B G : Nat} {lo hi : Int} {n : Nat} {L : List PairV} {tot : Int} (h : Lay w B G lo hi n L tot) : w.cell? ⟨B, 2, none⟩ = some (.slice (some ⟨G, 0, none⟩) n n) := by rw [Joins.cell_of_block h.b]; rfl
theorem Lay.c3 {w : World} {B G : Nat} {lo hi : Int} {n : Nat} {L : List PairV} {tot : Int} (h : Lay w B G lo hi n L tot) : w.cell? ⟨B, 3, none⟩ = some (.int .u64 tot) := by rw [Joins.cell_of_block h.b]; rfl
theorem Lay.cg {w : World} {B G : Nat} {lo hi : Int} {n : Nat} {L : List PairV} {tot : Int} (h : Lay w B G lo hi n L tot) {k : Nat} (hk : k < n) : w.cell? ⟨G, k, none⟩ = some (.int .u64 (countP L (lo + k))) := by
  rw [Joins.cell_of_block h.g, List.getElem?_toArray, tabC_at _ _ _ _ hk]
theorem free_of_block {w : World} {b : Nat} {cs : Array Value} {t : TypeId} (h : w.heap[b]? = some (.cells cs t (0, 0))) (o : Nat) : w.frozen? ⟨b, o, none⟩ = false := by simp [World.frozen?, h]
theorem Lay.fb {w : World} {B G : Nat} {lo hi : Int} {n : Nat} {L : List PairV} {tot : Int} (h : Lay w B G lo hi n L tot) (o : Nat) : w.frozen? ⟨B, o, none⟩ = false := free_of_block h.b o
theorem Lay.fg {w : World} {B G : Nat} {lo hi : Int} {n : Nat} {L : List PairV} {tot : Int} (h : Lay w B G lo hi n L tot) (o : Nat) : w.frozen? ⟨G, o, none⟩ = false := free_of_block h.g o
theorem Lay.keep {w w' : World} {B G : Nat} {lo hi : Int} {n : Nat} {L : List PairV} {tot : Int} (h : Lay w B G lo hi n L tot) (h1 : w'.heap[B]? = w.heap[B]?) (h2 : w'.heap[G]? = w.heap[G]?) : Lay w' B G lo hi n L tot :=
  ⟨h1.trans h.b, h2.trans h.g⟩
theorem Lay.call {w w' : World} {B G : Nat} {lo hi : Int} {n : Nat} {L : List PairV} {tot : Int} (h : Lay w B G lo hi n L tot) (hb : Below w.heap.size w w') : Lay w' B G lo hi n L tot :=
  h.keep (hb.block _ (lt_of_block h.b)) (hb.block _ (lt_of_block h.g))
theorem Lay.ne {w : World} {B G : Nat} {lo hi : Int} {n : Nat} {L : List PairV} {tot : Int} (h : Lay w B G lo hi n L tot) (hn : n ≠ 4) : B ≠ G := by
  rintro rfl
  have h1 := h.g
  rw [h.b] at h1
  have h2 := congrArg (fun o => match o with | some (.cells cs _ _) => cs.size | _ => 0) h1
  simp [tabC_len] at h2
  omega
/-- An empty crate. -/
def Void (w : World) (B : Nat) : Prop := w.heap[B]? = some (.cells #[.int .i64 0, .int .i64 0, .slice none 0 0, .int .u64 0] 52 (0, 0))
theorem Void.c0 {w : World} {B : Nat} (h : Void w B) : w.cell? ⟨B, 0, none⟩ = some (.int .i64 0) := by rw [Joins.cell_of_block h]; rfl
theorem Void.c1 {w : World} {B : Nat} (h : Void w B) : w.cell? ⟨B, 1, none⟩ = some (.int .i64 0) := by rw [Joins.cell_of_block h]; rfl
theorem Void.c2 {w : World} {B : Nat} (h : Void w B) : w.cell? ⟨B, 2, none⟩ = some (.slice none 0 0) := by rw [Joins.cell_of_block h]; rfl
theorem Void.c3 {w : World} {B : Nat} (h : Void w B) : w.cell? ⟨B, 3, none⟩ = some (.int .u64 0) := by rw [Joins.cell_of_block h]; rfl
theorem Void.fb {w : World} {B : Nat} (h : Void w B) (o : Nat) : w.frozen? ⟨B, o, none⟩ = false := free_of_block h o
theorem Void.call {w w' : World} {B : Nat} (h : Void w B) (hb : Below w.heap.size w w') : Void w' B := (hb.block _ (lt_of_block h)).trans h

/-- A crate at block B, whose row is L; S are its blocks. -/
def CrX (w : World) (B : Nat) (S : Nat → Prop) (L : List PairV) : Prop :=
  Crt L ∧ ((L = [] ∧ Void w B ∧ ∀ k, S k ↔ k = B) ∨
    (L ≠ [] ∧ ∃ (G : Nat) (n : Nat), Lay w B G (headP L) (lastP L) n L (sumP L) ∧ B ≠ G ∧ (n : Int) = spreadP L + 1 ∧ ∀ k, S k ↔ k = B ∨ k = G))
theorem crx_keep (w w' : World) (B : Nat) (S : Nat → Prop) (L : List PairV) (h : CrX w B S L) (hk : ∀ k, S k → w'.heap[k]? = w.heap[k]?) : CrX w' B S L := by
  obtain ⟨hc, ⟨h1, h2, h3⟩ | ⟨h1, G, n, h2, h3, h4, h5⟩⟩ := h
  · exact ⟨hc, Or.inl ⟨h1, (hk B ((h3 B).2 rfl)).trans h2, h3⟩⟩
  · exact ⟨hc, Or.inr ⟨h1, G, n, h2.keep (hk B ((h5 B).2 (Or.inl rfl))) (hk G ((h5 G).2 (Or.inr rfl))), h3, h4, h5⟩⟩
theorem crx_lt (w : World) (B : Nat) (S : Nat → Prop) (L : List PairV) (h : CrX w B S L) : ∀ k, S k → k < w.heap.size := by
  obtain ⟨hc, ⟨h1, h2, h3⟩ | ⟨h1, G, n, h2, h3, h4, h5⟩⟩ := h
  · intro k hk; rw [(h3 k).1 hk]; exact lt_of_block h2
  · intro k hk
    rcases (h5 k).1 hk with rfl | rfl
    · exact lt_of_block h2.b
    · exact lt_of_block h2.g
theorem crx_sum {w : World} {B : Nat} {S : Nat → Prop} {L : List PairV} (h : CrX w B S L) : w.cell? ⟨B, 3, none⟩ = some (.int .u64 (sumP L)) ∧ Word (sumP L) := by
  obtain ⟨hc, ⟨rfl, h2, h3⟩ | ⟨h1, G, n, h2, h3, h4, h5⟩⟩ := h
  · exact ⟨h2.c3, by decide, by decide⟩
  · have h0 := sumP_pos (good_pos hc.good)
    have := hc.sum
    exact ⟨h2.c3, by omega, by omega⟩

set_option maxHeartbeats 400000 in
theorem cnew_any (w : World) : Calls Try.prog 9 #[] w fun e w' => ∃ B S, e = .returned (.pointer (some ⟨B, 0, none⟩)) ∧ CrX w' B S [] ∧ (∀ k, S k → w.heap.size ≤ k) ∧ Below w.heap.size w w' := by
  go_enter Try.func9, Try.ntmps9
  go_wp2_with fail
  go_ret
  exact ⟨w.heap.size, fun k => k = w.heap.size, rfl, ⟨Crt.nil, Or.inl ⟨rfl, heap_alloc_new _ _, fun k => Iff.rfl⟩⟩, fun k hk => by subst hk; exact Nat.le_refl _, (Below.refl _ _).alloc (Nat.le_refl _) _⟩

set_option maxHeartbeats 400000 in
theorem ctotal_at (w : World) (B : Nat) (t : Int) (h : w.cell? ⟨B, 3, none⟩ = some (.int .u64 t)) :
    Calls Try.prog 14 #[.pointer (some ⟨B, 0, none⟩)] w fun e w' => e = .returned (.int .u64 t) ∧ w = w' := by
  go_enter Try.func14, Try.ntmps14
  go_wp2_with fail
  go_ret
  exact ⟨rfl, rfl⟩
set_option maxHeartbeats 400000 in
theorem ctotal_none (w : World) :
    Calls Try.prog 14 #[.pointer none] w fun e w' => e = .returned (.int .u64 0) ∧ w = w' := by
  go_enter Try.func14, Try.ntmps14
  go_wp2_with fail
  go_ret
  exact ⟨rfl, rfl⟩

set_option maxHeartbeats 400000 in
theorem cat_zero (w : World) (B : Nat) (i : Int) (hi : I64 i) (h : w.cell? ⟨B, 3, none⟩ = some (.int .u64 0)) :
    Calls Try.prog 16 #[.pointer (some ⟨B, 0, none⟩), .int .i64 i] w fun e w' => e = .returned (.int .u64 0) ∧ w = w' := by
  have HH := Lib.hid h
  clear h
  go_enter Try.func16, Try.ntmps16
  go_wp2_with fail
  refine (ctotal_at _ B 0 HH.out).mono ?_
  rintro e w2 ⟨rfl, rfl⟩
  go_wp2_with fail
  go_ret
  exact ⟨rfl, rfl⟩
set_option maxHeartbeats 400000 in
theorem cat_none (w : World) (i : Int) (hi : I64 i) :
    Calls Try.prog 16 #[.pointer none, .int .i64 i] w fun e w' => e = .returned (.int .u64 0) ∧ w = w' := by
  go_enter Try.func16, Try.ntmps16
  go_wp2_with fail
  refine (ctotal_none _).mono ?_
  rintro e w2 ⟨rfl, rfl⟩
  go_wp2_with fail
  go_ret
  exact ⟨rfl, rfl⟩

set_option maxRecDepth 100000 in
set_option maxHeartbeats 1000000 in
theorem cat_lay (w : World) (B G : Nat) (lo hi t : Int) (n : Nat) (L : List PairV) (i x : Int) (h : Lay w B G lo hi n L t) (ht : 0 < t) (ht2 : t < 18446744073709551616) (hl : I64 lo) (hh : I64 hi) (hn : (n : Int) = hi - lo + 1) (hn2 : n ≤ 4096) (hii : I64 i)
    (hout : i < lo ∨ hi < i → x = 0) (hx : countP L i = x) :
    Calls Try.prog 16 #[.pointer (some ⟨B, 0, none⟩), .int .i64 i] w fun e w' => e = .returned (.int .u64 x) ∧ ∃ m, w' = w.drewN m := by
  have HH := Lib.hid h
  have c0 := h.c0
  have c1 := h.c1
  have c2 := h.c2
  have c3 := Lib.hid h.c3
  have HX := Lib.hid hx
  have HO := Lib.hid hout
  obtain ⟨l0, l1⟩ := hl
  obtain ⟨h0, h1⟩ := hh
  obtain ⟨i0, i1⟩ := hii
  have t0 : (t == 0) = false := by simp; omega
  clear h hx hout
  by_cases hlt : i < lo
  · have E := Lib.hid (HO.out (Or.inl hlt))
    go_enter Try.func16, Try.ntmps16
    go_wp2_with fail
    refine (ctotal_at _ B t c3.out).mono ?_
    rintro e w2 ⟨rfl, rfl⟩
    go_wp2_with fail
    go_ret
    exact ⟨ret_int E.out.symm, 0, rfl⟩
  · by_cases hgt : hi < i
    · have E := Lib.hid (HO.out (Or.inr hgt))
      go_enter Try.func16, Try.ntmps16
      go_wp2_with fail
      refine (ctotal_at _ B t c3.out).mono ?_
      rintro e w2 ⟨rfl, rfl⟩
      go_wp2_with fail
      go_ret
      exact ⟨ret_int E.out.symm, 0, rfl⟩
    · obtain ⟨k, hk⟩ : ∃ k : Nat, i = lo + k := ⟨(i - lo).toNat, by omega⟩
      have hkn : k < n := by omega
      have hg := HH.out.cg hkn
      rw [← hk, HX.out] at hg
      have e1 : IntKind.i64.wrap (i - lo) = (k : Int) := by rw [IntKind.wrap_i64]; omega
      have e2 : i - lo = (k : Int) := by omega
      have e3 : (k : Int) < n := by omega
      clear hk hn
      go_enter Try.func16, Try.ntmps16
      go_wp2_with fail
      refine (ctotal_at _ B t c3.out).mono ?_
      rintro e w2 ⟨rfl, rfl⟩
      go_wp2_with fail
      go_quiet (fail)
      go_wp2_with fail
      go_ret
      exact ⟨rfl, _, rfl⟩
end Go.Proofs.Ytggdmlldolaojaa
