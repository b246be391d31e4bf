/-
  No cell of these rows narrows 'for every input' (looked for: loops, veiled, ifaces, maps, wideKeys, modest, calm, conditions, laid).
  DERIVED. THE GIVEN ROWS OF THIS SEAT. 5 by the template 'for every input the law returns true; each argument reads behind the call as it read before'; 0 by the template 'total and deterministic' (their statements: YtpnbhgnpofoeaaaTotals.lean).
  GIVEN WITH THE SEED: the statements are not yours to turn. If you find one false, say at which input.
  Laid BY PROGRAM, IN A SANDBOX (cutbox-rows.mjs): the forced cells as the released guide's own fill.sh prints them over the translation ebafe6be7bb703f3… (all of the seat's roots in one cut). By AI agents, Wed Nov 11 2026. No macro, syntax, notation, axiom, sorry.
-/
import Derived.Test.YtpnbhgnpofoeaaaChecked
import GoSem.Claim
import GoSem.ClaimJoined
import GoSem.ClaimMapViews
import Derived.JoinedTies
import Derived.KernelRfl
namespace Go.Proofs.Ytpnbhgnpofoeaaa
/- THE CELL 'sum', in the pinned program and in every row, IS THE sha256 OF THE DUMP (.gsa) THAT YtpnbhgnpofoeaaaProg.lean LOADS. Nothing in Lean hashes anything: it is a label: what it is worth is what the hold of that sum in a sandbox is worth. -/
noncomputable def Try.pinned : Pinned := { name := "ytpnbhgnpofoeaaa", sum := "ebafe6be7bb703f37c88e6fb119b7b9c2271e412ba9386d3bc78316159d33081", checked := Try.checked }
namespace Rows
def none {H : Type} : Left H := { results := [], args := [] }

/-- 'ogivelaw04.QuillWrites': WHATEVER THE INPUT: true; the input reads as it did. -/
def quillWritesSpec : ChangeSpec := { name := "quillWrites", fn := fun _ => fun
  | [d] => { results := [.lit (.bool true)], args := [d] }
  | _ => none }
def quillWritesRow : OpenClaim := { program := "ytpnbhgnpofoeaaa", sum := "ebafe6be7bb703f37c88e6fb119b7b9c2271e412ba9386d3bc78316159d33081", func := "ogive/ogivelaw04.QuillWrites", spec := "quillWrites", apart := false }
def QuillWritesSaid : Prop := quillWritesRow.holds Try.pinned (OpenSpec.ofChange quillWritesSpec)

/-- ITS FALSE NEIGHBOUR: 'it returns false'. Refute it at one input. -/
def quillWritesWrong : ChangeSpec := { name := "quillWrites", fn := fun _ => fun
  | [d] => { results := [.lit (.bool false)], args := [d] }
  | _ => none }
def QuillWritesWrongFalsely : Prop := quillWritesRow.holds Try.pinned (OpenSpec.ofChange quillWritesWrong)

/-- 'ogivelaw04.QuillReads': WHATEVER THE INPUT: true; the input reads as it did. -/
def quillReadsSpec : ChangeSpec := { name := "quillReads", fn := fun _ => fun
  | [d1, d2] => { results := [.lit (.bool true)], args := [d1, d2] }
  | _ => none }
def quillReadsRow : OpenClaim := { program := "ytpnbhgnpofoeaaa", sum := "ebafe6be7bb703f37c88e6fb119b7b9c2271e412ba9386d3bc78316159d33081", func := "ogive/ogivelaw04.QuillReads", spec := "quillReads", apart := false }
def QuillReadsSaid : Prop := quillReadsRow.holds Try.pinned (OpenSpec.ofChange quillReadsSpec)

/-- ITS FALSE NEIGHBOUR: 'it returns false'. Refute it at one input. -/
def quillReadsWrong : ChangeSpec := { name := "quillReads", fn := fun _ => fun
  | [d1, d2] => { results := [.lit (.bool false)], args := [d1, d2] }
  | _ => none }
def QuillReadsWrongFalsely : Prop := quillReadsRow.holds Try.pinned (OpenSpec.ofChange quillReadsWrong)

/-- 'ogivelaw04.QuillNumbers': WHATEVER THE INPUT: true; the input reads as it did. -/
def quillNumbersSpec : ChangeSpec := { name := "quillNumbers", fn := fun _ => fun
  | [d1, d2, d3] => { results := [.lit (.bool true)], args := [d1, d2, d3] }
  | _ => none }
def quillNumbersRow : OpenClaim := { program := "ytpnbhgnpofoeaaa", sum := "ebafe6be7bb703f37c88e6fb119b7b9c2271e412ba9386d3bc78316159d33081", func := "ogive/ogivelaw04.QuillNumbers", spec := "quillNumbers", apart := false }
def QuillNumbersSaid : Prop := quillNumbersRow.holds Try.pinned (OpenSpec.ofChange quillNumbersSpec)

/-- ITS FALSE NEIGHBOUR: 'it returns false'. Refute it at one input. -/
def quillNumbersWrong : ChangeSpec := { name := "quillNumbers", fn := fun _ => fun
  | [d1, d2, d3] => { results := [.lit (.bool false)], args := [d1, d2, d3] }
  | _ => none }
def QuillNumbersWrongFalsely : Prop := quillNumbersRow.holds Try.pinned (OpenSpec.ofChange quillNumbersWrong)

/-- 'ogivelaw04.QuillParts': WHATEVER THE INPUT: true; the input reads as it did. -/
def quillPartsSpec : ChangeSpec := { name := "quillParts", fn := fun _ => fun
  | [d1, d2] => { results := [.lit (.bool true)], args := [d1, d2] }
  | _ => none }
def quillPartsRow : OpenClaim := { program := "ytpnbhgnpofoeaaa", sum := "ebafe6be7bb703f37c88e6fb119b7b9c2271e412ba9386d3bc78316159d33081", func := "ogive/ogivelaw04.QuillParts", spec := "quillParts", apart := false }
def QuillPartsSaid : Prop := quillPartsRow.holds Try.pinned (OpenSpec.ofChange quillPartsSpec)

/-- ITS FALSE NEIGHBOUR: 'it returns false'. Refute it at one input. -/
def quillPartsWrong : ChangeSpec := { name := "quillParts", fn := fun _ => fun
  | [d1, d2] => { results := [.lit (.bool false)], args := [d1, d2] }
  | _ => none }
def QuillPartsWrongFalsely : Prop := quillPartsRow.holds Try.pinned (OpenSpec.ofChange quillPartsWrong)

/-- 'ogivelaw04.QuillSmall': WHATEVER THE INPUT: true; the input reads as it did. -/
def quillSmallSpec : ChangeSpec := { name := "quillSmall", fn := fun _ => fun
  | [d1, d2, d3] => { results := [.lit (.bool true)], args := [d1, d2, d3] }
  | _ => none }
def quillSmallRow : OpenClaim := { program := "ytpnbhgnpofoeaaa", sum := "ebafe6be7bb703f37c88e6fb119b7b9c2271e412ba9386d3bc78316159d33081", func := "ogive/ogivelaw04.QuillSmall", spec := "quillSmall", apart := false }
def QuillSmallSaid : Prop := quillSmallRow.holds Try.pinned (OpenSpec.ofChange quillSmallSpec)

/-- ITS FALSE NEIGHBOUR: 'it returns false'. Refute it at one input. -/
def quillSmallWrong : ChangeSpec := { name := "quillSmall", fn := fun _ => fun
  | [d1, d2, d3] => { results := [.lit (.bool false)], args := [d1, d2, d3] }
  | _ => none }
def QuillSmallWrongFalsely : Prop := quillSmallRow.holds Try.pinned (OpenSpec.ofChange quillSmallWrong)

/- THE SECOND FORM. 'bulk': how many values and letters a reading holds, each counted each time it is reached (what is shared counts as often as it is met; a slice's spare places count too). A statement '..UptoSaid' is the law's where the arguments, and the package variables that the reading takes, are together of bulk at most 1048576: NARROWER than '..Said'. Prove '..Said' where nothing that the law and all that it calls make is longer than what came in: it says more and counts as full. Else prove '..UptoSaid'. A law counts once. -/
mutual
def uptoBulk {H : Type} : DataW H → Nat
  | .lit (.string bytes) => bytes.length + 1
  | .lit _ => 1
  | .nil => 1
  | .ptr d => uptoBulk d + 1
  | .slice elems spare => uptoBulkAll elems + uptoBulkAll spare + 1
  | .agg parts => uptoBulkAll parts + 1
  | .iface _ d => uptoBulk d + 1
  | .map entries => uptoBulkEntries entries + 1
  | .held _ => 1
def uptoBulkAll {H : Type} : List (DataW H) → Nat
  | [] => 0
  | d :: r => uptoBulk d + uptoBulkAll r
def uptoBulkEntries {H : Type} : List (Lit × DataW H) → Nat
  | [] => 0
  | x :: r => uptoBulkEntry x + uptoBulkEntries r
def uptoBulkEntry {H : Type} : Lit × DataW H → Nat
  | (.string bytes, d) => bytes.length + uptoBulk d + 1
  | (_, d) => uptoBulk d + 1
 end
def uptoSmall : (H : Type) → List (DataW H) → Bool := fun _ ds => decide (uptoBulkAll ds ≤ 1048576)
def OpenSpec.upto (s : _root_.Go.ChangeSpec) : _root_.Go.OpenSpec := { _root_.Go.OpenSpec.ofChange s with cond := some uptoSmall }

/-- 'ogivelaw04.QuillWrites', WHERE WHAT IT READS IS OF BULK AT MOST 1048576: true; the input reads as it did. -/
def quillWritesUptoRow : OpenClaim := { program := "ytpnbhgnpofoeaaa", sum := "ebafe6be7bb703f37c88e6fb119b7b9c2271e412ba9386d3bc78316159d33081", func := "ogive/ogivelaw04.QuillWrites", spec := "quillWrites", apart := false, narrowed := true }
def QuillWritesUptoSaid : Prop := quillWritesUptoRow.holds Try.pinned (OpenSpec.upto quillWritesSpec)

/-- 'ogivelaw04.QuillReads', WHERE WHAT IT READS IS OF BULK AT MOST 1048576: true; the input reads as it did. -/
def quillReadsUptoRow : OpenClaim := { program := "ytpnbhgnpofoeaaa", sum := "ebafe6be7bb703f37c88e6fb119b7b9c2271e412ba9386d3bc78316159d33081", func := "ogive/ogivelaw04.QuillReads", spec := "quillReads", apart := false, narrowed := true }
def QuillReadsUptoSaid : Prop := quillReadsUptoRow.holds Try.pinned (OpenSpec.upto quillReadsSpec)

/-- 'ogivelaw04.QuillNumbers', WHERE WHAT IT READS IS OF BULK AT MOST 1048576: true; the input reads as it did. -/
def quillNumbersUptoRow : OpenClaim := { program := "ytpnbhgnpofoeaaa", sum := "ebafe6be7bb703f37c88e6fb119b7b9c2271e412ba9386d3bc78316159d33081", func := "ogive/ogivelaw04.QuillNumbers", spec := "quillNumbers", apart := false, narrowed := true }
def QuillNumbersUptoSaid : Prop := quillNumbersUptoRow.holds Try.pinned (OpenSpec.upto quillNumbersSpec)

/-- 'ogivelaw04.QuillParts', WHERE WHAT IT READS IS OF BULK AT MOST 1048576: true; the input reads as it did. -/
def quillPartsUptoRow : OpenClaim := { program := "ytpnbhgnpofoeaaa", sum := "ebafe6be7bb703f37c88e6fb119b7b9c2271e412ba9386d3bc78316159d33081", func := "ogive/ogivelaw04.QuillParts", spec := "quillParts", apart := false, narrowed := true }
def QuillPartsUptoSaid : Prop := quillPartsUptoRow.holds Try.pinned (OpenSpec.upto quillPartsSpec)

/-- 'ogivelaw04.QuillSmall', WHERE WHAT IT READS IS OF BULK AT MOST 1048576: true; the input reads as it did. -/
def quillSmallUptoRow : OpenClaim := { program := "ytpnbhgnpofoeaaa", sum := "ebafe6be7bb703f37c88e6fb119b7b9c2271e412ba9386d3bc78316159d33081", func := "ogive/ogivelaw04.QuillSmall", spec := "quillSmall", apart := false, narrowed := true }
def QuillSmallUptoSaid : Prop := quillSmallUptoRow.holds Try.pinned (OpenSpec.upto quillSmallSpec)

end Rows
end Go.Proofs.Ytpnbhgnpofoeaaa
