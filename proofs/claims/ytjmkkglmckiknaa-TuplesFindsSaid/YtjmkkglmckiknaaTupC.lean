/-
  What package tuples is to do, told as properties of its calls.
-/
import Derived.Test.YtjmkkglmckiknaaTupA
import Derived.Test.YtjmkkglmckiknaaTupP
import Derived.Test.YtjmkkglmckiknaaOver
namespace Go.Proofs.Ytjmkkglmckiknaa
set_option linter.unusedVariables false
set_option linter.unusedSimpArgs false
open Go.RowKit

/-- The limit of a closeness. -/
def limT (a b n : Int) : Int := if ovB (2 * a * n) b = true then max (ovQ (2 * a * n) b) 1 else n
/-- What the closest one's value is; whether there is one. -/
def findX (t : Int) (L : List TupV) : Int := match closeS t none (spotsT 0 L) with | none => 0 | some s => s.x
theorem OwnTu.fit {w : World} {base n cap : Nat} {A : Option Addr} {L : List TupV} (h : OwnTu w base (.slice A n cap) L) : L.length ≤ cap := by
  rcases h.2 with ⟨e, e0⟩ | ⟨g, cap', cur, e, _, _, hnc, _⟩
  · omega
  · injection e with _ e2 e3
    omega
/-- What package tuples does. -/
structure TupDoes : Prop where
  good : ∀ (w : World) (A : Option Addr) (cap : Nat) (L : List TupV) (b : Bool), Tups w A L → L.length ≤ 200 → (b = true ↔ GoodT L) → Calls Try.prog 14 #[.slice A L.length cap] w fun e w' => e = .returned (.bool b) ∧ Below w.heap.size w w'
  total : ∀ (w : World) (A : Option Addr) (cap : Nat) (L : List TupV) (n : Int) (b : Bool), Tups w A L → L.length ≤ 140737488351232 → (sumT L ≤ 9223372036854775807 ∧ n = sumT L ∧ b = true ∨ 9223372036854775807 < sumT L ∧ n = 0 ∧ b = false) → Calls Try.prog 10 #[.slice A L.length cap] w fun e w' => e = .returned (.tuple #[.int .u64 n, .bool b]) ∧ Below w.heap.size w w'
  limit : ∀ (w : World) (a b n m : Int), 0 ≤ a → a ≤ 2147483648 → Word b → Word n → limT a b n = m → Calls Try.prog 27 #[.agg #[.int .u64 a, .int .u64 b], .int .u64 n] w fun e w' => e = .returned (.int .u64 m) ∧ Below w.heap.size w w'
  insert : ∀ (w : World) (base : Nat) (v : Value) (L : List TupV) (x : Int), base ≤ w.heap.size → OwnTu w base v L → (∀ p, p ∈ L → okTu p) → GoodT L → sumT L < 9223372036854775807 → L.length ≤ 200 → I64 x →
    Calls Try.prog 28 #[v, .int .i64 x] w fun e w' => ∃ v', e = .returned v' ∧ OwnTu w' base v' (insT L x) ∧ w.grownBy w' v.ownBlock ∧ (v'.ownBlock = v.ownBlock ∨ ∀ g, v'.ownBlock = some g → w.heap.size ≤ g)
  squeeze : ∀ (w : World) (base : Nat) (v : Value) (L : List TupV) (lim : Int), base ≤ w.heap.size → OwnTu w base v L → (∀ p, p ∈ L → okTu p) → GoodT L → L.length ≤ 200 → Word lim →
    Calls Try.prog 19 #[v, .int .u64 lim] w fun e w' => ∃ v', e = .returned v' ∧ OwnTu w' base v' (sqzT lim L) ∧ w.grownBy w' v.ownBlock ∧ (v'.ownBlock = v.ownBlock ∨ ∀ g, v'.ownBlock = some g → w.heap.size ≤ g)
  merge : ∀ (w : World) (A B : Option Addr) (cap cap' : Nat) (L M : List TupV), Tups w A L → Tups w B M → GoodT L → GoodT M → sumT L + sumT M ≤ 9223372036854775807 → L.length ≤ 100 → M.length ≤ 100 →
    Calls Try.prog 17 #[.slice A L.length cap, .slice B M.length cap'] w fun e w' => ∃ v', e = .returned v' ∧ OwnTu w' w.heap.size v' (mergeT L M) ∧ Below w.heap.size w w'
  find : ∀ (w : World) (A : Option Addr) (cap : Nat) (L : List TupV) (t : Int), Tups w A L → L.length ≤ 200 → GoodT L → Word t → Calls Try.prog 23 #[.slice A L.length cap, .int .u64 t] w fun e w' => e = .returned (.tuple #[.int .i64 (findX t L), .bool (!L.isEmpty)]) ∧ Below w.heap.size w w'
  rank : ∀ (w : World) (A : Option Addr) (cap : Nat) (L : List TupV) (x : Int), Tups w A L → L.length ≤ cap → L.length ≤ 200 → GoodT L → I64 x → Calls Try.prog 22 #[.slice A L.length cap, .int .i64 x] w fun e w' => e = .returned (.tuple #[.int .u64 (rankLo (spotsT 0 L) x), .int .u64 (rankHi (spotsT 0 L) (sumT L) x)]) ∧ Below w.heap.size w w'
end Go.Proofs.Ytjmkkglmckiknaa
