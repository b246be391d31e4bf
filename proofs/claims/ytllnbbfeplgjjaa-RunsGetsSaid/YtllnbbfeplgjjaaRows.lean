/-
  No cell of these rows narrows 'for every input' (looked for: loops, veiled, ifaces, maps, wideKeys, modest, calm, conditions, laid).
  DERIVED. THE GIVEN ROWS OF THIS SEAT. 5 by the template 'for every input the law returns true; each argument reads behind the call as it read before'; 0 by the template 'total and deterministic' (their statements: YtllnbbfeplgjjaaTotals.lean).
  GIVEN WITH THE SEED: the statements are not yours to turn. If you find one false, say at which input.
  Laid BY PROGRAM, IN A SANDBOX (cutbox-rows.mjs): the forced cells as the released guide's own fill.sh prints them over the translation 3c926720e84a2441… (all of the seat's roots in one cut). By AI agents, Wed Nov 11 2026. No macro, syntax, notation, axiom, sorry.
-/
import Derived.Test.YtllnbbfeplgjjaaChecked
import GoSem.Claim
import GoSem.ClaimJoined
import GoSem.ClaimMapViews
import Derived.JoinedTies
import Derived.KernelRfl
namespace Go.Proofs.Ytllnbbfeplgjjaa
/- THE CELL 'sum', in the pinned program and in every row, IS THE sha256 OF THE DUMP (.gsa) THAT YtllnbbfeplgjjaaProg.lean LOADS. Nothing in Lean hashes anything: it is a label: what it is worth is what the hold of that sum in a sandbox is worth. -/
noncomputable def Try.pinned : Pinned := { name := "ytllnbbfeplgjjaa", sum := "3c926720e84a24411f5054c06a5d68ea3df43ad334f78b90a4d998cffbf344af", checked := Try.checked }
namespace Rows
def none {H : Type} : Left H := { results := [], args := [] }

/-- 'ogivelaw06.RunsGood': WHATEVER THE INPUT: true; the input reads as it did. -/
def runsGoodSpec : ChangeSpec := { name := "runsGood", fn := fun _ => fun
  | [d1, d2] => { results := [.lit (.bool true)], args := [d1, d2] }
  | _ => none }
def runsGoodRow : OpenClaim := { program := "ytllnbbfeplgjjaa", sum := "3c926720e84a24411f5054c06a5d68ea3df43ad334f78b90a4d998cffbf344af", func := "ogive/ogivelaw06.RunsGood", spec := "runsGood", apart := false }
def RunsGoodSaid : Prop := runsGoodRow.holds Try.pinned (OpenSpec.ofChange runsGoodSpec)

/-- ITS FALSE NEIGHBOUR: 'it returns false'. Refute it at one input. -/
def runsGoodWrong : ChangeSpec := { name := "runsGood", fn := fun _ => fun
  | [d1, d2] => { results := [.lit (.bool false)], args := [d1, d2] }
  | _ => none }
def RunsGoodWrongFalsely : Prop := runsGoodRow.holds Try.pinned (OpenSpec.ofChange runsGoodWrong)

/-- 'ogivelaw06.RunsAdds': WHATEVER THE INPUT: true; the input reads as it did. -/
def runsAddsSpec : ChangeSpec := { name := "runsAdds", fn := fun _ => fun
  | [d1, d2] => { results := [.lit (.bool true)], args := [d1, d2] }
  | _ => none }
def runsAddsRow : OpenClaim := { program := "ytllnbbfeplgjjaa", sum := "3c926720e84a24411f5054c06a5d68ea3df43ad334f78b90a4d998cffbf344af", func := "ogive/ogivelaw06.RunsAdds", spec := "runsAdds", unfollowed := true, recurses := true, apart := false }
def RunsAddsSaid : Prop := runsAddsRow.holds Try.pinned (OpenSpec.ofChange runsAddsSpec)

/-- ITS FALSE NEIGHBOUR: 'it returns false'. Refute it at one input. -/
def runsAddsWrong : ChangeSpec := { name := "runsAdds", fn := fun _ => fun
  | [d1, d2] => { results := [.lit (.bool false)], args := [d1, d2] }
  | _ => none }
def RunsAddsWrongFalsely : Prop := runsAddsRow.holds Try.pinned (OpenSpec.ofChange runsAddsWrong)

/-- 'ogivelaw06.RunsJoins': WHATEVER THE INPUT: true; the input reads as it did. -/
def runsJoinsSpec : ChangeSpec := { name := "runsJoins", fn := fun _ => fun
  | [d] => { results := [.lit (.bool true)], args := [d] }
  | _ => none }
def runsJoinsRow : OpenClaim := { program := "ytllnbbfeplgjjaa", sum := "3c926720e84a24411f5054c06a5d68ea3df43ad334f78b90a4d998cffbf344af", func := "ogive/ogivelaw06.RunsJoins", spec := "runsJoins", unfollowed := true, recurses := true, apart := false }
def RunsJoinsSaid : Prop := runsJoinsRow.holds Try.pinned (OpenSpec.ofChange runsJoinsSpec)

/-- ITS FALSE NEIGHBOUR: 'it returns false'. Refute it at one input. -/
def runsJoinsWrong : ChangeSpec := { name := "runsJoins", fn := fun _ => fun
  | [d] => { results := [.lit (.bool false)], args := [d] }
  | _ => none }
def RunsJoinsWrongFalsely : Prop := runsJoinsRow.holds Try.pinned (OpenSpec.ofChange runsJoinsWrong)

/-- 'ogivelaw06.RunsBytes': WHATEVER THE INPUT: true; the input reads as it did. -/
def runsBytesSpec : ChangeSpec := { name := "runsBytes", fn := fun _ => fun
  | [d1, d2] => { results := [.lit (.bool true)], args := [d1, d2] }
  | _ => none }
def runsBytesRow : OpenClaim := { program := "ytllnbbfeplgjjaa", sum := "3c926720e84a24411f5054c06a5d68ea3df43ad334f78b90a4d998cffbf344af", func := "ogive/ogivelaw06.RunsBytes", spec := "runsBytes", apart := false }
def RunsBytesSaid : Prop := runsBytesRow.holds Try.pinned (OpenSpec.ofChange runsBytesSpec)

/-- ITS FALSE NEIGHBOUR: 'it returns false'. Refute it at one input. -/
def runsBytesWrong : ChangeSpec := { name := "runsBytes", fn := fun _ => fun
  | [d1, d2] => { results := [.lit (.bool false)], args := [d1, d2] }
  | _ => none }
def RunsBytesWrongFalsely : Prop := runsBytesRow.holds Try.pinned (OpenSpec.ofChange runsBytesWrong)

/-- 'ogivelaw06.RunsGets': WHATEVER THE INPUT: true; the input reads as it did. -/
def runsGetsSpec : ChangeSpec := { name := "runsGets", fn := fun _ => fun
  | [d1, d2] => { results := [.lit (.bool true)], args := [d1, d2] }
  | _ => none }
def runsGetsRow : OpenClaim := { program := "ytllnbbfeplgjjaa", sum := "3c926720e84a24411f5054c06a5d68ea3df43ad334f78b90a4d998cffbf344af", func := "ogive/ogivelaw06.RunsGets", spec := "runsGets", apart := false }
def RunsGetsSaid : Prop := runsGetsRow.holds Try.pinned (OpenSpec.ofChange runsGetsSpec)

/-- ITS FALSE NEIGHBOUR: 'it returns false'. Refute it at one input. -/
def runsGetsWrong : ChangeSpec := { name := "runsGets", fn := fun _ => fun
  | [d1, d2] => { results := [.lit (.bool false)], args := [d1, d2] }
  | _ => none }
def RunsGetsWrongFalsely : Prop := runsGetsRow.holds Try.pinned (OpenSpec.ofChange runsGetsWrong)

/- THE SECOND FORM. 'bulk': how many values and letters a reading holds, each counted each time it is reached (what is shared counts as often as it is met; a slice's spare places count too). A statement '..UptoSaid' is the law's where the arguments, and the package variables that the reading takes, are together of bulk at most 1048576: NARROWER than '..Said'. Prove '..Said' where nothing that the law and all that it calls make is longer than what came in: it says more and counts as full. Else prove '..UptoSaid'. A law counts once. -/
mutual
def uptoBulk {H : Type} : DataW H → Nat
  | .lit (.string bytes) => bytes.length + 1
  | .lit _ => 1
  | .nil => 1
  | .ptr d => uptoBulk d + 1
  | .slice elems spare => uptoBulkAll elems + uptoBulkAll spare + 1
  | .agg parts => uptoBulkAll parts + 1
  | .iface _ d => uptoBulk d + 1
  | .map entries => uptoBulkEntries entries + 1
  | .held _ => 1
def uptoBulkAll {H : Type} : List (DataW H) → Nat
  | [] => 0
  | d :: r => uptoBulk d + uptoBulkAll r
def uptoBulkEntries {H : Type} : List (Lit × DataW H) → Nat
  | [] => 0
  | x :: r => uptoBulkEntry x + uptoBulkEntries r
def uptoBulkEntry {H : Type} : Lit × DataW H → Nat
  | (.string bytes, d) => bytes.length + uptoBulk d + 1
  | (_, d) => uptoBulk d + 1
 end
def uptoSmall : (H : Type) → List (DataW H) → Bool := fun _ ds => decide (uptoBulkAll ds ≤ 1048576)
def OpenSpec.upto (s : _root_.Go.ChangeSpec) : _root_.Go.OpenSpec := { _root_.Go.OpenSpec.ofChange s with cond := some uptoSmall }

/-- 'ogivelaw06.RunsGood', WHERE WHAT IT READS IS OF BULK AT MOST 1048576: true; the input reads as it did. -/
def runsGoodUptoRow : OpenClaim := { program := "ytllnbbfeplgjjaa", sum := "3c926720e84a24411f5054c06a5d68ea3df43ad334f78b90a4d998cffbf344af", func := "ogive/ogivelaw06.RunsGood", spec := "runsGood", apart := false, narrowed := true }
def RunsGoodUptoSaid : Prop := runsGoodUptoRow.holds Try.pinned (OpenSpec.upto runsGoodSpec)

/-- 'ogivelaw06.RunsAdds', WHERE WHAT IT READS IS OF BULK AT MOST 1048576: true; the input reads as it did. -/
def runsAddsUptoRow : OpenClaim := { program := "ytllnbbfeplgjjaa", sum := "3c926720e84a24411f5054c06a5d68ea3df43ad334f78b90a4d998cffbf344af", func := "ogive/ogivelaw06.RunsAdds", spec := "runsAdds", unfollowed := true, recurses := true, apart := false, narrowed := true }
def RunsAddsUptoSaid : Prop := runsAddsUptoRow.holds Try.pinned (OpenSpec.upto runsAddsSpec)

/-- 'ogivelaw06.RunsJoins', WHERE WHAT IT READS IS OF BULK AT MOST 1048576: true; the input reads as it did. -/
def runsJoinsUptoRow : OpenClaim := { program := "ytllnbbfeplgjjaa", sum := "3c926720e84a24411f5054c06a5d68ea3df43ad334f78b90a4d998cffbf344af", func := "ogive/ogivelaw06.RunsJoins", spec := "runsJoins", unfollowed := true, recurses := true, apart := false, narrowed := true }
def RunsJoinsUptoSaid : Prop := runsJoinsUptoRow.holds Try.pinned (OpenSpec.upto runsJoinsSpec)

/-- 'ogivelaw06.RunsBytes', WHERE WHAT IT READS IS OF BULK AT MOST 1048576: true; the input reads as it did. -/
def runsBytesUptoRow : OpenClaim := { program := "ytllnbbfeplgjjaa", sum := "3c926720e84a24411f5054c06a5d68ea3df43ad334f78b90a4d998cffbf344af", func := "ogive/ogivelaw06.RunsBytes", spec := "runsBytes", apart := false, narrowed := true }
def RunsBytesUptoSaid : Prop := runsBytesUptoRow.holds Try.pinned (OpenSpec.upto runsBytesSpec)

/-- 'ogivelaw06.RunsGets', WHERE WHAT IT READS IS OF BULK AT MOST 1048576: true; the input reads as it did. -/
def runsGetsUptoRow : OpenClaim := { program := "ytllnbbfeplgjjaa", sum := "3c926720e84a24411f5054c06a5d68ea3df43ad334f78b90a4d998cffbf344af", func := "ogive/ogivelaw06.RunsGets", spec := "runsGets", apart := false, narrowed := true }
def RunsGetsUptoSaid : Prop := runsGetsUptoRow.holds Try.pinned (OpenSpec.upto runsGetsSpec)

end Rows
end Go.Proofs.Ytllnbbfeplgjjaa
