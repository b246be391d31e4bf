/-
  Texts joined, in build order: SpanL.
-/
import Derived.Test.YthmmjfcdfihnkaaGreatDoorK6
import Derived.Test.YthmmjfcdfihnkaaGreatDoorRows
import Derived.Lib.LaidTab
import Derived.LaidMore
import Derived.Stop.Joined
/-
  From a row's condition on the package's variable to what the walks of layer 12 ask.
-/
namespace Go.Proofs.YthmmjfcdfihnkaaGreatDoor
set_option linter.unusedVariables false

theorem tens_of_laid {W : World} (h : laidMetH Tryz.prog [("ogive/spans.tens", Rows.laid_ogive_spans_tens)] W) : Tens W := by
  rw [MakeChecks.laidMetH_plain _ _ _ (by kernel_rfl)] at h
  have ht := Lib.tabIs_of_head (k := .u64) (zs := [1, 10, 100, 1000, 10000]) (g := 0) (t := 92) (e := 22) (n := 5) (by kernel_rfl) (by kernel_rfl) (by kernel_rfl) (by kernel_rfl) (by kernel_rfl) (by kernel_rfl) h
  have hg : Tryz.prog.globalNamed "ogive/spans.tens" = some 0 := by kernel_rfl
  exact ⟨ht.cell hg 0 (by decide), ht.cell hg 1 (by decide), ht.cell hg 2 (by decide), ht.cell hg 3 (by decide), ht.cell hg 4 (by decide)⟩
end Go.Proofs.YthmmjfcdfihnkaaGreatDoor
