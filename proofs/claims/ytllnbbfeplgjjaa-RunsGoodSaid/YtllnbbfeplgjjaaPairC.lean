/-
  What package runs is to do, said once (each is proved elsewhere of the code); what the laws of runs ask first.
-/
import Derived.Test.YtllnbbfeplgjjaaPairT
import Derived.Test.YtllnbbfeplgjjaaPairS
import Derived.Test.YtllnbbfeplgjjaaQuillU
import Derived.Test.YtllnbbfeplgjjaaQuillI
namespace Go.Proofs.Ytllnbbfeplgjjaa
set_option linter.unusedVariables false
set_option linter.unusedSimpArgs false
open Go.RowKit

def GoodDoes : Prop := ∀ (w : World) (A : Option Addr) (cap : Nat) (L : List PairV) (most : Int) (b : Bool), Pairs w A L → L.length ≤ 1000 → I64 most → (goodB L && decide ((L.length : Int) ≤ most)) = b →
  Calls Try.prog 10 #[.slice A L.length cap, .int .i64 most] w fun e w' => e = .returned (.bool b) ∧ Below w.heap.size w w'
def TotalDoes : Prop := ∀ (w : World) (A : Option Addr) (cap : Nat) (L : List PairV) (n : Int) (b : Bool), Pairs w A L → L.length ≤ 1000 → totalP L = n → fitsB L = b →
  Calls Try.prog 9 #[.slice A L.length cap] w fun e w' => e = .returned (.tuple #[.int .u64 n, .bool b]) ∧ Below w.heap.size w w'
/-- Where an index stands, or would; whether it does. -/
def isP (L : List PairV) (i : Int) : Bool := L.any fun p => p.1 == i
def FindDoes : Prop := ∀ (w : World) (A : Option Addr) (cap : Nat) (L : List PairV) (i : Int) (n : Nat) (b : Bool), Pairs w A L → L.length ≤ 1000 → GoodP L → I64 i → (lowP L i).length = n → isP L i = b →
  Calls Try.prog 15 #[.slice A L.length cap, .int .i64 i] w fun e w' => e = .returned (.tuple #[.int .i64 n, .bool b]) ∧ Below w.heap.size w w'
/-- What adding to a row of one's own comes to. -/
def Added (w : World) (base : Nat) (v : Value) (L : List PairV) (i c : Int) (e : Ending) (w' : World) : Prop :=
  ∃ v', e = .returned v' ∧ OwnP w' base v' (addP L i c) ∧ w.grownBy w' v.ownBlock ∧ (v'.ownBlock = v.ownBlock ∨ ∀ g, v'.ownBlock = some g → w.heap.size ≤ g)
def AddDoes : Prop := ∀ (w : World) (base : Nat) (v : Value) (L : List PairV) (i c : Int), OwnP w base v L → base ≤ w.heap.size → (∀ p, p ∈ L → okP p) → GoodP L → L.length ≤ 1000 → I64 i → Word c → countP L i + c ≤ 9223372036854775807 →
  Calls Try.prog 12 #[v, .int .i64 i, .int .u64 c] w (Added w base v L i c)
def PutDoes : Prop := ∀ (w : World) (B : Nat) (l m : List UInt8) (A : Option Addr) (cap : Nat) (L : List PairV), Quil w B l → Pairs w A L → (L ≠ [] → ∀ b off, A = some ⟨b, off, none⟩ → b < B ∨ ∃ cs, w.heap[b]? = some (.cells cs 26 (0, 0))) → GoodP L → L.length ≤ 1000 → l.length ≤ 1000 → l ++ rowB L = m →
  Calls Try.prog 18 #[.pointer (some ⟨B, 0, none⟩), .slice A L.length cap] w fun e w' => e = .returned (.tuple #[]) ∧ Quil w' B m ∧ Wrote B w w'
/-- A text that begins with a row's bytes. -/
def RowOf (s : List UInt8) (most : Int) (L : List PairV) (rest : List UInt8) : Prop := GoodP L ∧ (∀ p, p ∈ L → okP p) ∧ (L.length : Int) ≤ most ∧ s = rowB L ++ rest
/-- What getting a row comes to. -/
def Gets (w : World) (B : Nat) (s : ByteArray) (bad : Bool) (most : Int) (e : Ending) (w' : World) : Prop :=
  w.grownBy w' (some B) ∧
  ((∃ (v : Value) (L : List PairV) (t : ByteArray), e = .returned v ∧ bad = false ∧ RowOf s.data.toList (max most 0) L t.data.toList ∧ OwnP w' w.heap.size v L ∧ Eye w' B t false) ∨
   (∃ (A : Option Addr) (cap : Nat), e = .returned (.slice A 0 cap) ∧ (bad = true ∨ ∀ L t, ¬ RowOf s.data.toList most L t) ∧ Eye w' B ⟨#[]⟩ true))
def GetDoes : Prop := ∀ (w : World) (B : Nat) (s : ByteArray) (bad : Bool) (most : Int), Eye w B s bad → s.size ≤ 10000 → I64 most →
  Calls Try.prog 21 #[.pointer (some ⟨B, 0, none⟩), .int .i64 most] w (Gets w B s bad most)

theorem row_alive : rowB [(-1, 5), (3, 1)] = [2, 1, 5, 3, 1] := by
  have e : ∀ n, n < 128 → natB n = [UInt8.ofNat n] := fun n h => natB_lt h
  show natB 2 ++ (natB (zig (-1)).toNat ++ (natB (5 : Int).toNat ++ (natB (farP (-1) 3) ++ (natB (1 : Int).toNat ++ [])))) = _
  rw [show (zig (-1)).toNat = 1 from rfl, show farP (-1) 3 = 3 from rfl, show (5 : Int).toNat = 5 from rfl, show (1 : Int).toNat = 1 from rfl]
  rw [e 2 (by omega), e 1 (by omega), e 5 (by omega), e 3 (by omega)]
  rfl

/-- A block of pairs, known whole. -/
theorem pairs_of_block {w : World} {g : Nat} {cs : Array Value} {L : List PairV} (h : w.heap[g]? = some (.cells cs 26 (0, 0))) (hc : cs = (cellsQ L).toArray) (hok : ∀ p, p ∈ L → okP p) : Pairs w (some ⟨g, 0, none⟩) L := by
  subst hc
  refine ⟨hok, fun i p hi => ⟨g, 0, rfl, lt_of_block h, ?_, ?_⟩⟩
  · have := (cellsQ_at L i p hi).1
    simp [World.cell?, h, this]
  · have := (cellsQ_at L i p hi).2
    simp [World.cell?, h, this]
theorem two_ok : ∀ p, p ∈ [((-1 : Int), (5 : Int)), (3, 1)] → okP p := by
  intro p hp
  simp only [List.mem_cons, List.not_mem_nil, or_false] at hp
  rcases hp with rfl | rfl <;> exact ⟨⟨by decide, by decide⟩, by decide, by decide⟩
theorem one_ok : ∀ p, p ∈ [((1 : Int), (1 : Int))] → okP p := by
  intro p hp
  simp only [List.mem_cons, List.not_mem_nil, or_false] at hp
  subst hp; exact ⟨⟨by decide, by decide⟩, by decide, by decide⟩
theorem two_good : GoodP [((-1 : Int), (5 : Int)), (3, 1)] := by decide
theorem one_good : (goodB [((1 : Int), (1 : Int))] && decide ((([((1 : Int), (1 : Int))].length : Nat) : Int) ≤ 1)) = true := by decide

set_option maxRecDepth 100000 in
set_option maxHeartbeats 1000000 in
theorem ralive_any (CP : PutDoes) (CG : GoodDoes) (w : World) :
    Calls Try.prog 8 #[] w fun e w' => e = .returned (.bool true) ∧ Below w.heap.size w w' := by
  have hq0 := Quil.new w
  have HP := Lib.hid CP
  have HG := Lib.hid CG
  have HB := Lib.hid row_alive
  clear CP CG
  go_enter Try.func8, Try.ntmps8
  go_wp2_with fail
  refine (HP.out _ w.heap.size [] [2, 1, 5, 3, 1] (some ⟨w.heap.size + 1, 0, none⟩) 2 [(-1, 5), (3, 1)] (hq0.alloc _) ?p1 ?p2 ?p3 (by decide) (by decide) HB.out).mono ?_
  case p1 => exact pairs_of_block (g := w.heap.size + 1) (cs := #[.int .i64 (-1), .int .u64 5, .int .i64 3, .int .u64 1]) (by simpa using heap_alloc_new (w.alloc (.cells #[.slice none 0 0] 42)) (.cells #[.int .i64 (-1), .int .u64 5, .int .i64 3, .int .u64 1] 26)) rfl two_ok
  case p2 => exact fun _ b off h => Or.inr ⟨#[.int .i64 (-1), .int .u64 5, .int .i64 3, .int .u64 1], by
    have h1 := Option.some.inj h
    have h2 : w.heap.size + 1 = b := (Addr.mk.inj h1).1
    subst h2
    simpa using heap_alloc_new (w.alloc (.cells #[.slice none 0 0] 42)) (.cells #[.int .i64 (-1), .int .u64 5, .int .i64 3, .int .u64 1] 26)⟩
  case p3 => exact two_good
  rintro e w1 ⟨rfl, hq1, hw1⟩
  have b1 : Below w.heap.size w w1 := (((Below.refl _ _).alloc (Nat.le_refl _) _).alloc (by simp) _).trans hw1.below
  have z1 := b1.size
  have HZ := Lib.hid hq1.lt
  clear hq0 hw1
  go_wp2_with fail
  refine (quil_text _ _ _ hq1).mono ?_
  rintro e w' ⟨rfl, rfl⟩
  go_wp2_with fail
  refine (HG.out _ (some ⟨w1.heap.size, 0, none⟩) 1 [(1, 1)] 1 true ?g1 (by decide) ⟨by decide, by decide⟩ one_good).mono ?_
  case g1 => exact pairs_of_block (g := w1.heap.size) (heap_alloc_new _ _) rfl one_ok
  rintro e w2 ⟨rfl, b2⟩
  go_wp2_with fail
  go_ret
  exact ⟨rfl, (b1.alloc z1 _).trans (b2.mono (by simp; omega))⟩
end Go.Proofs.Ytllnbbfeplgjjaa
