/-
  No cell of these rows narrows 'for every input' (looked for: loops, veiled, ifaces, maps, wideKeys, modest, calm, conditions, laid).
  DERIVED. THE GIVEN ROWS OF THIS SEAT. 5 by the template 'for every input the law returns true; each argument reads behind the call as it read before'; 0 by the template 'total and deterministic' (their statements: YtecnlpkfcggimaaTotals.lean).
  GIVEN WITH THE SEED: the statements are not yours to turn. If you find one false, say at which input.
  Laid BY PROGRAM, IN A SANDBOX (cutbox-rows.mjs): the forced cells as the released guide's own fill.sh prints them over the translation b53aa4d146360b01… (all of the seat's roots in one cut). By AI agents, Wed Nov 11 2026. No macro, syntax, notation, axiom, sorry.
-/
import Derived.Test.YtecnlpkfcggimaaChecked
import GoSem.Claim
import GoSem.ClaimJoined
import GoSem.ClaimMapViews
import Derived.JoinedTies
import Derived.KernelRfl
namespace Go.Proofs.Ytecnlpkfcggimaa
/- THE CELL 'sum', in the pinned program and in every row, IS THE sha256 OF THE DUMP (.gsa) THAT YtecnlpkfcggimaaProg.lean LOADS. Nothing in Lean hashes anything: it is a label: what it is worth is what the hold of that sum in a sandbox is worth. -/
noncomputable def Try.pinned : Pinned := { name := "ytecnlpkfcggimaa", sum := "b53aa4d146360b019288e1f5b3e0138c9523adbce8ebc442c07f9d3dd281ee07", checked := Try.checked }
namespace Rows
def none {H : Type} : Left H := { results := [], args := [] }

/-- 'ogivelaw20.CoinsThrown': WHATEVER THE INPUT: true; the input reads as it did. -/
def coinsThrownSpec : ChangeSpec := { name := "coinsThrown", fn := fun _ => fun
  | [d1, d2, d3] => { results := [.lit (.bool true)], args := [d1, d2, d3] }
  | _ => none }
def coinsThrownRow : OpenClaim := { program := "ytecnlpkfcggimaa", sum := "b53aa4d146360b019288e1f5b3e0138c9523adbce8ebc442c07f9d3dd281ee07", func := "ogive/ogivelaw20.CoinsThrown", spec := "coinsThrown", apart := false }
def CoinsThrownSaid : Prop := coinsThrownRow.holds Try.pinned (OpenSpec.ofChange coinsThrownSpec)

/-- ITS FALSE NEIGHBOUR: 'it returns false'. Refute it at one input. -/
def coinsThrownWrong : ChangeSpec := { name := "coinsThrown", fn := fun _ => fun
  | [d1, d2, d3] => { results := [.lit (.bool false)], args := [d1, d2, d3] }
  | _ => none }
def CoinsThrownWrongFalsely : Prop := coinsThrownRow.holds Try.pinned (OpenSpec.ofChange coinsThrownWrong)

/-- 'ogivelaw20.CoinsHalves': WHATEVER THE INPUT: true; the input reads as it did. -/
def coinsHalvesSpec : ChangeSpec := { name := "coinsHalves", fn := fun _ => fun
  | [d1, d2, d3] => { results := [.lit (.bool true)], args := [d1, d2, d3] }
  | _ => none }
def coinsHalvesRow : OpenClaim := { program := "ytecnlpkfcggimaa", sum := "b53aa4d146360b019288e1f5b3e0138c9523adbce8ebc442c07f9d3dd281ee07", func := "ogive/ogivelaw20.CoinsHalves", spec := "coinsHalves", recurses := true, apart := false }
def CoinsHalvesSaid : Prop := coinsHalvesRow.holds Try.pinned (OpenSpec.ofChange coinsHalvesSpec)

/-- ITS FALSE NEIGHBOUR: 'it returns false'. Refute it at one input. -/
def coinsHalvesWrong : ChangeSpec := { name := "coinsHalves", fn := fun _ => fun
  | [d1, d2, d3] => { results := [.lit (.bool false)], args := [d1, d2, d3] }
  | _ => none }
def CoinsHalvesWrongFalsely : Prop := coinsHalvesRow.holds Try.pinned (OpenSpec.ofChange coinsHalvesWrong)

/-- 'ogivelaw20.CoinsFair': WHATEVER THE INPUT: true; the input reads as it did. -/
def coinsFairSpec : ChangeSpec := { name := "coinsFair", fn := fun _ => fun
  | [d1, d2] => { results := [.lit (.bool true)], args := [d1, d2] }
  | _ => none }
def coinsFairRow : OpenClaim := { program := "ytecnlpkfcggimaa", sum := "b53aa4d146360b019288e1f5b3e0138c9523adbce8ebc442c07f9d3dd281ee07", func := "ogive/ogivelaw20.CoinsFair", spec := "coinsFair", unfollowed := true, recurses := true, apart := false }
def CoinsFairSaid : Prop := coinsFairRow.holds Try.pinned (OpenSpec.ofChange coinsFairSpec)

/-- ITS FALSE NEIGHBOUR: 'it returns false'. Refute it at one input. -/
def coinsFairWrong : ChangeSpec := { name := "coinsFair", fn := fun _ => fun
  | [d1, d2] => { results := [.lit (.bool false)], args := [d1, d2] }
  | _ => none }
def CoinsFairWrongFalsely : Prop := coinsFairRow.holds Try.pinned (OpenSpec.ofChange coinsFairWrong)

/-- 'ogivelaw20.CoinsKeeps': WHATEVER THE INPUT: true; the input reads as it did. -/
def coinsKeepsSpec : ChangeSpec := { name := "coinsKeeps", fn := fun _ => fun
  | [d1, d2] => { results := [.lit (.bool true)], args := [d1, d2] }
  | _ => none }
def coinsKeepsRow : OpenClaim := { program := "ytecnlpkfcggimaa", sum := "b53aa4d146360b019288e1f5b3e0138c9523adbce8ebc442c07f9d3dd281ee07", func := "ogive/ogivelaw20.CoinsKeeps", spec := "coinsKeeps", recurses := true, apart := false }
def CoinsKeepsSaid : Prop := coinsKeepsRow.holds Try.pinned (OpenSpec.ofChange coinsKeepsSpec)

/-- ITS FALSE NEIGHBOUR: 'it returns false'. Refute it at one input. -/
def coinsKeepsWrong : ChangeSpec := { name := "coinsKeeps", fn := fun _ => fun
  | [d1, d2] => { results := [.lit (.bool false)], args := [d1, d2] }
  | _ => none }
def CoinsKeepsWrongFalsely : Prop := coinsKeepsRow.holds Try.pinned (OpenSpec.ofChange coinsKeepsWrong)

/-- 'ogivelaw20.CoinsAgain': WHATEVER THE INPUT: true; the input reads as it did. -/
def coinsAgainSpec : ChangeSpec := { name := "coinsAgain", fn := fun _ => fun
  | [d1, d2, d3] => { results := [.lit (.bool true)], args := [d1, d2, d3] }
  | _ => none }
def coinsAgainRow : OpenClaim := { program := "ytecnlpkfcggimaa", sum := "b53aa4d146360b019288e1f5b3e0138c9523adbce8ebc442c07f9d3dd281ee07", func := "ogive/ogivelaw20.CoinsAgain", spec := "coinsAgain", apart := false }
def CoinsAgainSaid : Prop := coinsAgainRow.holds Try.pinned (OpenSpec.ofChange coinsAgainSpec)

/-- ITS FALSE NEIGHBOUR: 'it returns false'. Refute it at one input. -/
def coinsAgainWrong : ChangeSpec := { name := "coinsAgain", fn := fun _ => fun
  | [d1, d2, d3] => { results := [.lit (.bool false)], args := [d1, d2, d3] }
  | _ => none }
def CoinsAgainWrongFalsely : Prop := coinsAgainRow.holds Try.pinned (OpenSpec.ofChange coinsAgainWrong)

/- THE SECOND FORM. 'bulk': how many values and letters a reading holds, each counted each time it is reached (what is shared counts as often as it is met; a slice's spare places count too). A statement '..UptoSaid' is the law's where the arguments, and the package variables that the reading takes, are together of bulk at most 1048576: NARROWER than '..Said'. Prove '..Said' where nothing that the law and all that it calls make is longer than what came in: it says more and counts as full. Else prove '..UptoSaid'. A law counts once. -/
mutual
def uptoBulk {H : Type} : DataW H → Nat
  | .lit (.string bytes) => bytes.length + 1
  | .lit _ => 1
  | .nil => 1
  | .ptr d => uptoBulk d + 1
  | .slice elems spare => uptoBulkAll elems + uptoBulkAll spare + 1
  | .agg parts => uptoBulkAll parts + 1
  | .iface _ d => uptoBulk d + 1
  | .map entries => uptoBulkEntries entries + 1
  | .held _ => 1
def uptoBulkAll {H : Type} : List (DataW H) → Nat
  | [] => 0
  | d :: r => uptoBulk d + uptoBulkAll r
def uptoBulkEntries {H : Type} : List (Lit × DataW H) → Nat
  | [] => 0
  | x :: r => uptoBulkEntry x + uptoBulkEntries r
def uptoBulkEntry {H : Type} : Lit × DataW H → Nat
  | (.string bytes, d) => bytes.length + uptoBulk d + 1
  | (_, d) => uptoBulk d + 1
 end
def uptoSmall : (H : Type) → List (DataW H) → Bool := fun _ ds => decide (uptoBulkAll ds ≤ 1048576)
def OpenSpec.upto (s : _root_.Go.ChangeSpec) : _root_.Go.OpenSpec := { _root_.Go.OpenSpec.ofChange s with cond := some uptoSmall }

/-- 'ogivelaw20.CoinsThrown', WHERE WHAT IT READS IS OF BULK AT MOST 1048576: true; the input reads as it did. -/
def coinsThrownUptoRow : OpenClaim := { program := "ytecnlpkfcggimaa", sum := "b53aa4d146360b019288e1f5b3e0138c9523adbce8ebc442c07f9d3dd281ee07", func := "ogive/ogivelaw20.CoinsThrown", spec := "coinsThrown", apart := false, narrowed := true }
def CoinsThrownUptoSaid : Prop := coinsThrownUptoRow.holds Try.pinned (OpenSpec.upto coinsThrownSpec)

/-- 'ogivelaw20.CoinsHalves', WHERE WHAT IT READS IS OF BULK AT MOST 1048576: true; the input reads as it did. -/
def coinsHalvesUptoRow : OpenClaim := { program := "ytecnlpkfcggimaa", sum := "b53aa4d146360b019288e1f5b3e0138c9523adbce8ebc442c07f9d3dd281ee07", func := "ogive/ogivelaw20.CoinsHalves", spec := "coinsHalves", recurses := true, apart := false, narrowed := true }
def CoinsHalvesUptoSaid : Prop := coinsHalvesUptoRow.holds Try.pinned (OpenSpec.upto coinsHalvesSpec)

/-- 'ogivelaw20.CoinsFair', WHERE WHAT IT READS IS OF BULK AT MOST 1048576: true; the input reads as it did. -/
def coinsFairUptoRow : OpenClaim := { program := "ytecnlpkfcggimaa", sum := "b53aa4d146360b019288e1f5b3e0138c9523adbce8ebc442c07f9d3dd281ee07", func := "ogive/ogivelaw20.CoinsFair", spec := "coinsFair", unfollowed := true, recurses := true, apart := false, narrowed := true }
def CoinsFairUptoSaid : Prop := coinsFairUptoRow.holds Try.pinned (OpenSpec.upto coinsFairSpec)

/-- 'ogivelaw20.CoinsKeeps', WHERE WHAT IT READS IS OF BULK AT MOST 1048576: true; the input reads as it did. -/
def coinsKeepsUptoRow : OpenClaim := { program := "ytecnlpkfcggimaa", sum := "b53aa4d146360b019288e1f5b3e0138c9523adbce8ebc442c07f9d3dd281ee07", func := "ogive/ogivelaw20.CoinsKeeps", spec := "coinsKeeps", recurses := true, apart := false, narrowed := true }
def CoinsKeepsUptoSaid : Prop := coinsKeepsUptoRow.holds Try.pinned (OpenSpec.upto coinsKeepsSpec)

/-- 'ogivelaw20.CoinsAgain', WHERE WHAT IT READS IS OF BULK AT MOST 1048576: true; the input reads as it did. -/
def coinsAgainUptoRow : OpenClaim := { program := "ytecnlpkfcggimaa", sum := "b53aa4d146360b019288e1f5b3e0138c9523adbce8ebc442c07f9d3dd281ee07", func := "ogive/ogivelaw20.CoinsAgain", spec := "coinsAgain", apart := false, narrowed := true }
def CoinsAgainUptoSaid : Prop := coinsAgainUptoRow.holds Try.pinned (OpenSpec.upto coinsAgainSpec)

end Rows
end Go.Proofs.Ytecnlpkfcggimaa
