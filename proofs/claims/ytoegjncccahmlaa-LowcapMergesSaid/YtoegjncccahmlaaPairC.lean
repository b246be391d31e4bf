/-
  What package runs is to do, said once (each is proved elsewhere of the code); what the laws of runs ask first.
-/
import Derived.Test.YtoegjncccahmlaaPairT
import Derived.Test.YtoegjncccahmlaaPairS
import Derived.Test.YtoegjncccahmlaaQuillU
import Derived.Test.YtoegjncccahmlaaQuillI
namespace Go.Proofs.Ytoegjncccahmlaa
set_option linter.unusedVariables false
set_option linter.unusedSimpArgs false
open Go.RowKit

def GoodDoes : Prop := ∀ (w : World) (A : Option Addr) (cap : Nat) (L : List PairV) (most : Int) (b : Bool), Pairs w A L → L.length ≤ 1000 → I64 most → (goodB L && decide ((L.length : Int) ≤ most)) = b →
  Calls Try.prog 55 #[.slice A L.length cap, .int .i64 most] w fun e w' => e = .returned (.bool b) ∧ Below w.heap.size w w'

def TotalDoes : Prop := ∀ (w : World) (A : Option Addr) (cap : Nat) (L : List PairV) (n : Int) (b : Bool), Pairs w A L → L.length ≤ 1000 → totalP L = n → fitsB L = b →
  Calls Try.prog 53 #[.slice A L.length cap] w fun e w' => e = .returned (.tuple #[.int .u64 n, .bool b]) ∧ Below w.heap.size w w'

/-- Where an index stands, or would; whether it does. -/
def isP (L : List PairV) (i : Int) : Bool := L.any fun p => p.1 == i

def FindDoes : Prop := ∀ (w : World) (A : Option Addr) (cap : Nat) (L : List PairV) (i : Int) (n : Nat) (b : Bool), Pairs w A L → L.length ≤ 1000 → GoodP L → I64 i → (lowP L i).length = n → isP L i = b →
  Calls Try.prog 50 #[.slice A L.length cap, .int .i64 i] w fun e w' => e = .returned (.tuple #[.int .i64 n, .bool b]) ∧ Below w.heap.size w w'

/-- What adding to a row of one's own comes to. -/
def Added (w : World) (base : Nat) (v : Value) (L : List PairV) (i c : Int) (e : Ending) (w' : World) : Prop :=
  ∃ v', e = .returned v' ∧ OwnP w' base v' (addP L i c) ∧ w.grownBy w' v.ownBlock ∧ (v'.ownBlock = v.ownBlock ∨ ∀ g, v'.ownBlock = some g → w.heap.size ≤ g)

def AddDoes : Prop := ∀ (w : World) (base : Nat) (v : Value) (L : List PairV) (i c : Int), OwnP w base v L → base ≤ w.heap.size → (∀ p, p ∈ L → okP p) → GoodP L → L.length ≤ 1000 → I64 i → Word c → countP L i + c ≤ 9223372036854775807 →
  Calls Try.prog 57 #[v, .int .i64 i, .int .u64 c] w (Added w base v L i c)

/-- A text that begins with a row's bytes. -/
def RowOf (s : List UInt8) (most : Int) (L : List PairV) (rest : List UInt8) : Prop := GoodP L ∧ (∀ p, p ∈ L → okP p) ∧ (L.length : Int) ≤ most ∧ s = rowB L ++ rest
/-- What getting a row comes to. -/
def Gets (w : World) (B : Nat) (s : ByteArray) (bad : Bool) (most : Int) (e : Ending) (w' : World) : Prop :=
  w.grownBy w' (some B) ∧
  ((∃ (v : Value) (L : List PairV) (t : ByteArray), e = .returned v ∧ bad = false ∧ RowOf s.data.toList (max most 0) L t.data.toList ∧ OwnP w' w.heap.size v L ∧ Eye w' B t false) ∨
   (∃ (A : Option Addr) (cap : Nat), e = .returned (.slice A 0 cap) ∧ (bad = true ∨ ∀ L t, ¬ RowOf s.data.toList most L t) ∧ Eye w' B ⟨#[]⟩ true))

theorem row_alive : rowB [(-1, 5), (3, 1)] = [2, 1, 5, 3, 1] := by
  have e : ∀ n, n < 128 → natB n = [UInt8.ofNat n] := fun n h => natB_lt h
  show natB 2 ++ (natB (zig (-1)).toNat ++ (natB (5 : Int).toNat ++ (natB (farP (-1) 3) ++ (natB (1 : Int).toNat ++ [])))) = _
  rw [show (zig (-1)).toNat = 1 from rfl, show farP (-1) 3 = 3 from rfl, show (5 : Int).toNat = 5 from rfl, show (1 : Int).toNat = 1 from rfl]
  rw [e 2 (by omega), e 1 (by omega), e 5 (by omega), e 3 (by omega)]
  rfl

/-- A block of pairs, known whole. -/
theorem pairs_of_block {w : World} {g : Nat} {cs : Array Value} {L : List PairV} (h : w.heap[g]? = some (.cells cs 34 (0, 0))) (hc : cs = (cellsQ L).toArray) (hok : ∀ p, p ∈ L → okP p) : Pairs w (some ⟨g, 0, none⟩) L := by
  subst hc
  refine ⟨hok, fun i p hi => ⟨g, 0, rfl, lt_of_block h, ?_, ?_⟩⟩
  · have := (cellsQ_at L i p hi).1
    simp [World.cell?, h, this]
  · have := (cellsQ_at L i p hi).2
    simp [World.cell?, h, this]
theorem two_ok : ∀ p, p ∈ [((-1 : Int), (5 : Int)), (3, 1)] → okP p := by
  intro p hp
  simp only [List.mem_cons, List.not_mem_nil, or_false] at hp
  rcases hp with rfl | rfl <;> exact ⟨⟨by decide, by decide⟩, by decide, by decide⟩
theorem one_ok : ∀ p, p ∈ [((1 : Int), (1 : Int))] → okP p := by
  intro p hp
  simp only [List.mem_cons, List.not_mem_nil, or_false] at hp
  subst hp; exact ⟨⟨by decide, by decide⟩, by decide, by decide⟩
theorem two_good : GoodP [((-1 : Int), (5 : Int)), (3, 1)] := by decide
theorem one_good : (goodB [((1 : Int), (1 : Int))] && decide ((([((1 : Int), (1 : Int))].length : Nat) : Int) ≤ 1)) = true := by decide

end Go.Proofs.Ytoegjncccahmlaa