/-
  The reference's bins over a row of the call's own.
-/
import Derived.Test.YtcijflakldggaaaGreatK7
import Derived.Test.YtcijflakldggaaaGreatQBinP
namespace Go.Proofs.YtcijflakldggaaaGreat
set_option linter.unusedVariables false
set_option linter.unusedSimpArgs false
set_option maxRecDepth 100000
open Go.RowKit Go.Joins

/-- The reference's bins of the same partition, in a block of its own, with other values. -/
theorem RefG.copy {w w' : World} {M M2 n : Nat} {P : Pt} {s : Bool} {m : Int} {A0 A : List PairV} {a0 a : Option Addr} {cap0 cap : Nat} {lo re : Value} {dg : Int} (hP : P.ok) (h : RefG w M n P s m A0 a0 cap0) (hc : CelN w M s m A0 lo re dg a0 cap0) (hb : Below w.heap.size w w') (hM : w.heap.size ≤ M2) (hv : Pairs w' a A)
    (hbl : w'.heap[M2]? = some (.cells #[lo, re, .int .i64 dg, .int .i64 (sideI s), .int .i64 m, .slice a A.length cap] 48 (0, 0))) : RefG w' M2 n P s m A a cap := by
  obtain ⟨lo', re', dg', a', cap', h1, h2, h3⟩ := h.ref.ex
  have e0 : lo' = lo := by have := hc.c0; rw [Joins.cell_of_block h3] at this; exact Option.some.inj this
  have e1 : re' = re := by have := hc.c1; rw [Joins.cell_of_block h3] at this; exact Option.some.inj this
  have e2 : dg' = dg := by
    have h4 := hc.c2; rw [Joins.cell_of_block h3] at h4
    have h5 : Value.int .i64 dg' = .int .i64 dg := Option.some.inj h4
    injection h5
  subst e0 e1 e2
  have hp := ptr_call h1 hb
  refine ⟨⟨lo', re', dg', a, cap, ?_, hv, hbl⟩, ?_, by rw [Joins.cell_of_block hbl]; rfl⟩
  · cases P with
    | cells u v k =>
      obtain ⟨h0, g, q, c, c', f1, f2, n1, n2, f3, f4⟩ := hp
      have hk : 0 < k := by
        have ht := hP.2.1.2
        rcases Nat.eq_zero_or_pos k with e | e
        · subst e; have ht' : (1 : Int) = 9223372036854775809 := ht
          exact absurd ht' (by decide)
        · exact e
      obtain ⟨_, g', q', c2, c3, e1, e2, _, _, f5, f6⟩ := h1
      have eg : g = g' := by
        have := f1.symm.trans e1
        injection this with a1 a2 a3; exact (Addr.mk.inj (Option.some.inj a1)).1
      have eq : q = q' := by
        have := f2.symm.trans e2
        injection this with a1 a2 a3; exact (Addr.mk.inj (Option.some.inj a1)).1
      have l1 := World.block_lt_of_cell? (a := ⟨g', 0, none⟩) w (f5 0 hk)
      have l2 := World.block_lt_of_cell? (a := ⟨q', 0, none⟩) w (f6 0 hk)
      simp only at l1 l2
      exact ⟨h0, g, q, c, c', f1, f2, by omega, by omega, f3, f4⟩
    | spans d L T => exact hp
  · refine far_block hbl (fun g l c e => h.far 0 g l c (Or.inl rfl) (by rw [Joins.cell_of_block h3, e]; rfl)) (fun g l c e => h.far 1 g l c (Or.inr rfl) (by rw [Joins.cell_of_block h3, e]; rfl))
end Go.Proofs.YtcijflakldggaaaGreat
