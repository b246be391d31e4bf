/-
  Walks: the reference's Bytes of rows of pairs.
  What package runs is to do, said once (each is proved elsewhere of the code); what the laws of runs ask first.
  Rows of rows of pairs: plain, in memory, appended to.
-/
import Derived.Test.YtnhhehinbobknaaPairS
import Derived.Test.YtnhhehinbobknaaQuillR
import Derived.Deep.RegionHeld3
import Derived.Test.YtnhhehinbobknaaQuillU
import Derived.Test.YtnhhehinbobknaaQuillI
import Derived.Deep.Onto
namespace Go.Proofs.Ytnhhehinbobknaa
set_option linter.unusedVariables false
set_option linter.unusedSimpArgs false
open Go.RowKit

end Go.Proofs.Ytnhhehinbobknaa

namespace Go.Proofs.Ytnhhehinbobknaa
set_option linter.unusedVariables false
set_option linter.unusedSimpArgs false
open Go.RowKit

def TotalDoes : Prop := ∀ (w : World) (A : Option Addr) (cap : Nat) (L : List PairV) (n : Int) (b : Bool), Pairs w A L → L.length ≤ 1000 → totalP L = n → fitsB L = b →
  Calls Try.prog 32 #[.slice A L.length cap] w fun e w' => e = .returned (.tuple #[.int .u64 n, .bool b]) ∧ Below w.heap.size w w'

/-- Where an index stands, or would; whether it does. -/
def isP (L : List PairV) (i : Int) : Bool := L.any fun p => p.1 == i

def FindDoes : Prop := ∀ (w : World) (A : Option Addr) (cap : Nat) (L : List PairV) (i : Int) (n : Nat) (b : Bool), Pairs w A L → L.length ≤ 1000 → GoodP L → I64 i → (lowP L i).length = n → isP L i = b →
  Calls Try.prog 30 #[.slice A L.length cap, .int .i64 i] w fun e w' => e = .returned (.tuple #[.int .i64 n, .bool b]) ∧ Below w.heap.size w w'

/-- What adding to a row of one's own comes to. -/
def Added (w : World) (base : Nat) (v : Value) (L : List PairV) (i c : Int) (e : Ending) (w' : World) : Prop :=
  ∃ v', e = .returned v' ∧ OwnP w' base v' (addP L i c) ∧ w.grownBy w' v.ownBlock ∧ (v'.ownBlock = v.ownBlock ∨ ∀ g, v'.ownBlock = some g → w.heap.size ≤ g)

/-- A text that begins with a row's bytes. -/
def RowOf (s : List UInt8) (most : Int) (L : List PairV) (rest : List UInt8) : Prop := GoodP L ∧ (∀ p, p ∈ L → okP p) ∧ (L.length : Int) ≤ most ∧ s = rowB L ++ rest
/-- What getting a row comes to. -/
def Gets (w : World) (B : Nat) (s : ByteArray) (bad : Bool) (most : Int) (e : Ending) (w' : World) : Prop :=
  w.grownBy w' (some B) ∧
  ((∃ (v : Value) (L : List PairV) (t : ByteArray), e = .returned v ∧ bad = false ∧ RowOf s.data.toList (max most 0) L t.data.toList ∧ OwnP w' w.heap.size v L ∧ Eye w' B t false) ∨
   (∃ (A : Option Addr) (cap : Nat), e = .returned (.slice A 0 cap) ∧ (bad = true ∨ ∀ L t, ¬ RowOf s.data.toList most L t) ∧ Eye w' B ⟨#[]⟩ true))

theorem row_alive : rowB [(-1, 5), (3, 1)] = [2, 1, 5, 3, 1] := by
  have e : ∀ n, n < 128 → natB n = [UInt8.ofNat n] := fun n h => natB_lt h
  show natB 2 ++ (natB (zig (-1)).toNat ++ (natB (5 : Int).toNat ++ (natB (farP (-1) 3) ++ (natB (1 : Int).toNat ++ [])))) = _
  rw [show (zig (-1)).toNat = 1 from rfl, show farP (-1) 3 = 3 from rfl, show (5 : Int).toNat = 5 from rfl, show (1 : Int).toNat = 1 from rfl]
  rw [e 2 (by omega), e 1 (by omega), e 5 (by omega), e 3 (by omega)]
  rfl

/-- A block of pairs, known whole. -/
theorem pairs_of_block {w : World} {g : Nat} {cs : Array Value} {L : List PairV} (h : w.heap[g]? = some (.cells cs 30 (0, 0))) (hc : cs = (cellsQ L).toArray) (hok : ∀ p, p ∈ L → okP p) : Pairs w (some ⟨g, 0, none⟩) L := by
  subst hc
  refine ⟨hok, fun i p hi => ⟨g, 0, rfl, lt_of_block h, ?_, ?_⟩⟩
  · have := (cellsQ_at L i p hi).1
    simp [World.cell?, h, this]
  · have := (cellsQ_at L i p hi).2
    simp [World.cell?, h, this]
theorem two_ok : ∀ p, p ∈ [((-1 : Int), (5 : Int)), (3, 1)] → okP p := by
  intro p hp
  simp only [List.mem_cons, List.not_mem_nil, or_false] at hp
  rcases hp with rfl | rfl <;> exact ⟨⟨by decide, by decide⟩, by decide, by decide⟩
theorem one_ok : ∀ p, p ∈ [((1 : Int), (1 : Int))] → okP p := by
  intro p hp
  simp only [List.mem_cons, List.not_mem_nil, or_false] at hp
  subst hp; exact ⟨⟨by decide, by decide⟩, by decide, by decide⟩
theorem two_good : GoodP [((-1 : Int), (5 : Int)), (3, 1)] := by decide
theorem one_good : (goodB [((1 : Int), (1 : Int))] && decide ((([((1 : Int), (1 : Int))].length : Nat) : Int) ≤ 1)) = true := by decide

end Go.Proofs.Ytnhhehinbobknaa

namespace Go.Proofs.Ytnhhehinbobknaa
set_option linter.unusedVariables false
set_option linter.unusedSimpArgs false
open Go.RowKit

/-- A row among others: where it lies, its room, its pairs. -/
structure RowV where
  a : Option Addr
  cap : Nat
  l : List PairV
def allP (R : List RowV) : List PairV := R.flatMap fun r => r.l
theorem allP_app (A B : List RowV) : allP (A ++ B) = allP A ++ allP B := by unfold allP; rw [List.flatMap_append]
theorem allP_one (r : RowV) : allP [r] = r.l := by unfold allP; simp
theorem count_all_rev : ∀ (R : List RowV) (j : Int), countP (allP R.reverse) j = countP (allP R) j := by
  intro R
  induction R with
  | nil => intro j; rfl
  | cons r t ih =>
    intro j
    rw [List.reverse_cons, allP_app, countP_app, ih, allP_one]
    show _ = countP (allP ([r] ++ t)) j
    rw [allP_app, countP_app, allP_one]; omega
theorem all_mem {R : List RowV} {p : PairV} (h : p ∈ allP R) : ∃ r, r ∈ R ∧ p ∈ r.l := by unfold allP at h; exact List.mem_flatMap.1 h
theorem all_len : ∀ (R : List RowV) (n : Nat), (∀ r, r ∈ R → r.l.length ≤ n) → (allP R).length ≤ n * R.length := by
  intro R n
  induction R with
  | nil => intro _; exact Nat.zero_le _
  | cons r t ih =>
    intro h
    have h1 := h r (by simp)
    have h2 := ih fun x hx => h x (List.mem_cons_of_mem _ hx)
    unfold allP at *
    rw [List.flatMap_cons, List.length_append, List.length_cons, Nat.mul_succ]; omega
/-- Whatever the rows' order, what comes of them is the same. -/
theorem fold_rev {R : List RowV} (h : ∀ p, p ∈ allP R → okP p ∧ p.2 ≤ 1099511627776) (hl : (allP R).length ≤ 1000) : foldP (allP R.reverse) = foldP (allP R) := by
  have h' : ∀ p, p ∈ allP R.reverse → okP p ∧ p.2 ≤ 1099511627776 := fun p hp => by
    obtain ⟨r, hr, hq⟩ := all_mem hp
    exact h p (by unfold allP; exact List.mem_flatMap.2 ⟨r, List.mem_reverse.1 hr, hq⟩)
  have hl' : (allP R.reverse).length ≤ 1000 := by
    have : (allP R.reverse).length = (allP R).length := by
      unfold allP
      rw [List.length_flatMap, List.length_flatMap, List.map_reverse, List.sum_reverse]
    omega
  obtain ⟨s1, c1⟩ := fold_sums _ h hl
  obtain ⟨s2, c2⟩ := fold_sums _ h' hl'
  exact good_ext s2.good s1.good fun j => by rw [c2, c1, count_all_rev]

end Go.Proofs.Ytnhhehinbobknaa