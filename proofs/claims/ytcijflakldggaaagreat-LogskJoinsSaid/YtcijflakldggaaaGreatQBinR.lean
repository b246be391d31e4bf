/-
  Walks: the laws' build of layer 13 once more: it tells where the reference's block lies, too.
-/
import Derived.Test.YtcijflakldggaaaGreatK7
namespace Go.Proofs.YtcijflakldggaaaGreat
set_option linter.unusedVariables false
set_option linter.unusedSimpArgs false
open Go.RowKit

def BuildF (Bn : BnT) (w : World) (u v dg sd m : Int) (A : List PairV) (a : Option Addr) (cap : Nat) (e : Ending) (w' : World) : Prop :=
  (∃ B S R M P s n, e = .returned (.tuple #[.pointer (some ⟨B, 0, none⟩), .pointer (some ⟨M, 0, none⟩), .bool true]) ∧ sideI s = sd ∧ P.ok ∧ PtOf dg u v P ∧ 1 ≤ m ∧ m ≤ 4096 ∧ FineV A ∧ A.length ≤ 60 ∧ Bn w' B S R P s m (stV P s m A) ∧ RefK n w' M P s m A ∧ (∀ k, S k ∨ R k → n ≤ k) ∧ w.heap.size ≤ n ∧ n ≤ w'.heap.size ∧ 0 ≤ dg ∧ dg ≤ 4 ∧ Below w.heap.size w w' ∧ Far w.heap.size w' M ∧ w'.cell? ⟨M, 5, none⟩ = some (.slice a A.length cap) ∧ w.heap.size ≤ M) ∨
  (e = .returned (.tuple #[.pointer none, .pointer none, .bool false]) ∧ Below w.heap.size w w')

end Go.Proofs.YtcijflakldggaaaGreat