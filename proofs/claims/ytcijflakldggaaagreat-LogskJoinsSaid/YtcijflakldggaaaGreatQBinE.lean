/-
  Walks: the laws BinsFinds, BinsRanks, from what package bins is to do.
-/
import Derived.Test.YtcijflakldggaaaGreatQBinD
namespace Go.Proofs.YtcijflakldggaaaGreat
set_option linter.unusedVariables false
set_option linter.unusedSimpArgs false
open Go.RowKit

/-- The six cells of a case. -/
structure CaseC (w : World) (C : Nat) (u v dg sd m : Int) (a : Option Addr) (n cap : Nat) : Prop where
  c0 : w.cell? ⟨C, 0, none⟩ = some (.int .u64 u)
  c1 : w.cell? ⟨C, 1, none⟩ = some (.int .u64 v)
  c2 : w.cell? ⟨C, 2, none⟩ = some (.int .i64 dg)
  c3 : w.cell? ⟨C, 3, none⟩ = some (.int .i64 sd)
  c4 : w.cell? ⟨C, 4, none⟩ = some (.int .i64 m)
  c5 : w.cell? ⟨C, 5, none⟩ = some (.slice a n cap)
theorem CaseC.call {w w' : World} {C : Nat} {u v dg sd m : Int} {a : Option Addr} {n cap : Nat} (h : CaseC w C u v dg sd m a n cap) (hb : Below w.heap.size w w') : CaseC w' C u v dg sd m a n cap :=
  ⟨cell_later hb h.c0, cell_later hb h.c1, cell_later hb h.c2, cell_later hb h.c3, cell_later hb h.c4, cell_later hb h.c5⟩
theorem case_new (w : World) (u v dg sd m : Int) (a : Option Addr) (n cap : Nat) (t : TypeId) : CaseC (w.alloc (.cells #[.int .u64 u, .int .u64 v, .int .i64 dg, .int .i64 sd, .int .i64 m, .slice a n cap] t)) w.heap.size u v dg sd m a n cap :=
  ⟨by go_simp, by go_simp, by go_simp, by go_simp, by go_simp, by go_simp⟩

end Go.Proofs.YtcijflakldggaaaGreat