/-
  Walks: the reference's Bytes of rows of pairs.
  What package runs is to do, said once (each is proved elsewhere of the code); what the laws of runs ask first.
  Rows of rows of pairs: plain, in memory, appended to.
-/
import Derived.Test.YtgbhlkeclfgacaaPairS
import Derived.Test.YtgbhlkeclfgacaaQuillR
import Derived.Deep.RegionHeld3
import Derived.Test.YtgbhlkeclfgacaaQuillU
import Derived.Test.YtgbhlkeclfgacaaQuillI
import Derived.Deep.Onto
namespace Go.Proofs.Ytgbhlkeclfgacaa
set_option linter.unusedVariables false
set_option linter.unusedSimpArgs false
open Go.RowKit

end Go.Proofs.Ytgbhlkeclfgacaa

namespace Go.Proofs.Ytgbhlkeclfgacaa
set_option linter.unusedVariables false
set_option linter.unusedSimpArgs false
open Go.RowKit

def GoodDoes : Prop := ∀ (w : World) (A : Option Addr) (cap : Nat) (L : List PairV) (most : Int) (b : Bool), Pairs w A L → L.length ≤ 1000 → I64 most → (goodB L && decide ((L.length : Int) ≤ most)) = b →
  Calls Try.prog 53 #[.slice A L.length cap, .int .i64 most] w fun e w' => e = .returned (.bool b) ∧ Below w.heap.size w w'

def TotalDoes : Prop := ∀ (w : World) (A : Option Addr) (cap : Nat) (L : List PairV) (n : Int) (b : Bool), Pairs w A L → L.length ≤ 1000 → totalP L = n → fitsB L = b →
  Calls Try.prog 50 #[.slice A L.length cap] w fun e w' => e = .returned (.tuple #[.int .u64 n, .bool b]) ∧ Below w.heap.size w w'

/-- Where an index stands, or would; whether it does. -/
def isP (L : List PairV) (i : Int) : Bool := L.any fun p => p.1 == i

def FindDoes : Prop := ∀ (w : World) (A : Option Addr) (cap : Nat) (L : List PairV) (i : Int) (n : Nat) (b : Bool), Pairs w A L → L.length ≤ 1000 → GoodP L → I64 i → (lowP L i).length = n → isP L i = b →
  Calls Try.prog 49 #[.slice A L.length cap, .int .i64 i] w fun e w' => e = .returned (.tuple #[.int .i64 n, .bool b]) ∧ Below w.heap.size w w'

/-- What adding to a row of one's own comes to. -/
def Added (w : World) (base : Nat) (v : Value) (L : List PairV) (i c : Int) (e : Ending) (w' : World) : Prop :=
  ∃ v', e = .returned v' ∧ OwnP w' base v' (addP L i c) ∧ w.grownBy w' v.ownBlock ∧ (v'.ownBlock = v.ownBlock ∨ ∀ g, v'.ownBlock = some g → w.heap.size ≤ g)

def AddDoes : Prop := ∀ (w : World) (base : Nat) (v : Value) (L : List PairV) (i c : Int), OwnP w base v L → base ≤ w.heap.size → (∀ p, p ∈ L → okP p) → GoodP L → L.length ≤ 1000 → I64 i → Word c → countP L i + c ≤ 9223372036854775807 →
  Calls Try.prog 55 #[v, .int .i64 i, .int .u64 c] w (Added w base v L i c)

/-- A text that begins with a row's bytes. -/
def RowOf (s : List UInt8) (most : Int) (L : List PairV) (rest : List UInt8) : Prop := GoodP L ∧ (∀ p, p ∈ L → okP p) ∧ (L.length : Int) ≤ most ∧ s = rowB L ++ rest
/-- What getting a row comes to. -/
def Gets (w : World) (B : Nat) (s : ByteArray) (bad : Bool) (most : Int) (e : Ending) (w' : World) : Prop :=
  w.grownBy w' (some B) ∧
  ((∃ (v : Value) (L : List PairV) (t : ByteArray), e = .returned v ∧ bad = false ∧ RowOf s.data.toList (max most 0) L t.data.toList ∧ OwnP w' w.heap.size v L ∧ Eye w' B t false) ∨
   (∃ (A : Option Addr) (cap : Nat), e = .returned (.slice A 0 cap) ∧ (bad = true ∨ ∀ L t, ¬ RowOf s.data.toList most L t) ∧ Eye w' B ⟨#[]⟩ true))

theorem row_alive : rowB [(-1, 5), (3, 1)] = [2, 1, 5, 3, 1] := by
  have e : ∀ n, n < 128 → natB n = [UInt8.ofNat n] := fun n h => natB_lt h
  show natB 2 ++ (natB (zig (-1)).toNat ++ (natB (5 : Int).toNat ++ (natB (farP (-1) 3) ++ (natB (1 : Int).toNat ++ [])))) = _
  rw [show (zig (-1)).toNat = 1 from rfl, show farP (-1) 3 = 3 from rfl, show (5 : Int).toNat = 5 from rfl, show (1 : Int).toNat = 1 from rfl]
  rw [e 2 (by omega), e 1 (by omega), e 5 (by omega), e 3 (by omega)]
  rfl

/-- A block of pairs, known whole. -/
theorem pairs_of_block {w : World} {g : Nat} {cs : Array Value} {L : List PairV} (h : w.heap[g]? = some (.cells cs 34 (0, 0))) (hc : cs = (cellsQ L).toArray) (hok : ∀ p, p ∈ L → okP p) : Pairs w (some ⟨g, 0, none⟩) L := by
  subst hc
  refine ⟨hok, fun i p hi => ⟨g, 0, rfl, lt_of_block h, ?_, ?_⟩⟩
  · have := (cellsQ_at L i p hi).1
    simp [World.cell?, h, this]
  · have := (cellsQ_at L i p hi).2
    simp [World.cell?, h, this]
theorem two_ok : ∀ p, p ∈ [((-1 : Int), (5 : Int)), (3, 1)] → okP p := by
  intro p hp
  simp only [List.mem_cons, List.not_mem_nil, or_false] at hp
  rcases hp with rfl | rfl <;> exact ⟨⟨by decide, by decide⟩, by decide, by decide⟩
theorem one_ok : ∀ p, p ∈ [((1 : Int), (1 : Int))] → okP p := by
  intro p hp
  simp only [List.mem_cons, List.not_mem_nil, or_false] at hp
  subst hp; exact ⟨⟨by decide, by decide⟩, by decide, by decide⟩
theorem two_good : GoodP [((-1 : Int), (5 : Int)), (3, 1)] := by decide
theorem one_good : (goodB [((1 : Int), (1 : Int))] && decide ((([((1 : Int), (1 : Int))].length : Nat) : Int) ≤ 1)) = true := by decide

end Go.Proofs.Ytgbhlkeclfgacaa

namespace Go.Proofs.Ytgbhlkeclfgacaa
set_option linter.unusedVariables false
set_option linter.unusedSimpArgs false
open Go.RowKit

/-- A row among others: where it lies, its room, its pairs. -/
structure RowV where
  a : Option Addr
  cap : Nat
  l : List PairV
def allP (R : List RowV) : List PairV := R.flatMap fun r => r.l
theorem allP_app (A B : List RowV) : allP (A ++ B) = allP A ++ allP B := by unfold allP; rw [List.flatMap_append]
theorem allP_one (r : RowV) : allP [r] = r.l := by unfold allP; simp
theorem count_all_rev : ∀ (R : List RowV) (j : Int), countP (allP R.reverse) j = countP (allP R) j := by
  intro R
  induction R with
  | nil => intro j; rfl
  | cons r t ih =>
    intro j
    rw [List.reverse_cons, allP_app, countP_app, ih, allP_one]
    show _ = countP (allP ([r] ++ t)) j
    rw [allP_app, countP_app, allP_one]; omega
theorem all_mem {R : List RowV} {p : PairV} (h : p ∈ allP R) : ∃ r, r ∈ R ∧ p ∈ r.l := by unfold allP at h; exact List.mem_flatMap.1 h
theorem all_len : ∀ (R : List RowV) (n : Nat), (∀ r, r ∈ R → r.l.length ≤ n) → (allP R).length ≤ n * R.length := by
  intro R n
  induction R with
  | nil => intro _; exact Nat.zero_le _
  | cons r t ih =>
    intro h
    have h1 := h r (by simp)
    have h2 := ih fun x hx => h x (List.mem_cons_of_mem _ hx)
    unfold allP at *
    rw [List.flatMap_cons, List.length_append, List.length_cons, Nat.mul_succ]; omega
/-- Whatever the rows' order, what comes of them is the same. -/
theorem fold_rev {R : List RowV} (h : ∀ p, p ∈ allP R → okP p ∧ p.2 ≤ 1099511627776) (hl : (allP R).length ≤ 1000) : foldP (allP R.reverse) = foldP (allP R) := by
  have h' : ∀ p, p ∈ allP R.reverse → okP p ∧ p.2 ≤ 1099511627776 := fun p hp => by
    obtain ⟨r, hr, hq⟩ := all_mem hp
    exact h p (by unfold allP; exact List.mem_flatMap.2 ⟨r, List.mem_reverse.1 hr, hq⟩)
  have hl' : (allP R.reverse).length ≤ 1000 := by
    have : (allP R.reverse).length = (allP R).length := by
      unfold allP
      rw [List.length_flatMap, List.length_flatMap, List.map_reverse, List.sum_reverse]
    omega
  obtain ⟨s1, c1⟩ := fold_sums _ h hl
  obtain ⟨s2, c2⟩ := fold_sums _ h' hl'
  exact good_ext s2.good s1.good fun j => by rw [c2, c1, count_all_rev]

/-- A row of rows in memory. -/
structure Rows2 (w : World) (A : Option Addr) (R : List RowV) : Prop where
  at_ : ∀ (i : Nat) (r : RowV), R[i]? = some r → ∃ b off, A = some ⟨b, off, none⟩ ∧ b < w.heap.size ∧ w.cell? ⟨b, off + i, none⟩ = some (.slice r.a r.l.length r.cap)
  each : ∀ r, r ∈ R → Pairs w r.a r.l ∧ r.l.length ≤ 140737488351232
theorem Rows2.call {w w' : World} {A : Option Addr} {R : List RowV} (h : Rows2 w A R) (hb : Below w.heap.size w w') : Rows2 w' A R :=
  ⟨fun i r hi => by
    obtain ⟨b, off, hA, hlt, c⟩ := h.at_ i r hi
    exact ⟨b, off, hA, Nat.lt_of_lt_of_le hlt hb.size, cell_later hb c⟩, fun r hr => ⟨(h.each r hr).1.call hb, (h.each r hr).2⟩⟩
def cellsS (R : List RowV) : List Value := R.map fun r => .slice r.a r.l.length r.cap
theorem cellsS_one (R : List RowV) : ∀ u ∈ cellsS R, u.oneCell' = true := by
  intro u hu
  unfold cellsS at hu
  obtain ⟨r, _, rfl⟩ := List.mem_map.1 hu
  rfl
theorem Try.infoRow2 : (Try.prog.info? 22).map (fun i => (i.zero, i.size, i.bytes)) = some (some (.slice none 0 0), 1, 24) := by kernel_rfl
/-- A row of rows of the call's own. -/
def OwnS (w : World) (base : Nat) (v : Value) (R : List RowV) : Prop := w.ownsRow base 22 1 v R.length (cellsS R)
theorem OwnS.nil (w : World) (base : Nat) : OwnS w base (.slice none 0 0) [] := World.ownsRow_nil _ _ _ _
theorem OwnS.call {w w' : World} {base : Nat} {v : Value} {R : List RowV} (h : OwnS w base v R) (hb : Below w.heap.size w w') : OwnS w' base v R :=
  World.ownsRow.kept (row := none) h ⟨hb.os, hb.tape, hb.output, hb.size, fun i hi _ => hb.block i hi⟩ (by cases v.ownBlock <;> simp)
theorem OwnS.alloc {w : World} {base : Nat} {v : Value} {R : List RowV} (h : OwnS w base v R) (o : Obj) : OwnS (w.alloc o) base v R := World.ownsRow.alloc h o
theorem OwnS.lt {w : World} {base : Nat} {v : Value} {R : List RowV} (h : OwnS w base v R) : ∀ k, v.ownBlock = some k → base ≤ k ∧ k < w.heap.size := World.ownsRow.lt h
theorem OwnS.form {w : World} {base : Nat} {v : Value} {R : List RowV} (h : OwnS w base v R) : ∃ A cap, v = .slice A R.length cap := by
  have h' : w.ownsRow base 22 1 v R.length (cellsS R) := h
  rcases h'.2 with ⟨rfl, h0⟩ | ⟨g, cap, cur, rfl, _⟩
  · exact ⟨none, 0, by rw [h0]⟩
  · exact ⟨_, _, rfl⟩
theorem OwnS.rows {w : World} {base : Nat} {v : Value} {R : List RowV} (h : OwnS w base v R) (he : ∀ r, r ∈ R → Pairs w r.a r.l ∧ r.l.length ≤ 140737488351232) : ∃ A cap, v = .slice A R.length cap ∧ Rows2 w A R := by
  have hh : w.ownsRow base 22 1 v R.length (cellsS R) := h
  rcases h.2 with ⟨rfl, h0⟩ | ⟨g, cap, cur, rfl, _, hg, _⟩
  · have e : R = [] := List.eq_nil_of_length_eq_zero h0
    subst e
    exact ⟨none, 0, rfl, fun i p hi => by simp at hi, he⟩
  · refine ⟨some ⟨g, 0, none⟩, cap, rfl, fun i r hi => ⟨g, 0, rfl, lt_of_block hg, ?_⟩, he⟩
    have hc := hh.cells (g := g) rfl
    rw [← add_flat]
    exact hc _ _ (by unfold cellsS; rw [List.getElem?_map, hi]; rfl)
/-- A row of pairs and a row of rows do not share their memory. -/
theorem own_apart {w : World} {base base' : Nat} {u v : Value} {L : List PairV} {R : List RowV} (h : OwnP w base u L) (h' : OwnS w base' v R) : u.ownBlock = none ∨ u.ownBlock ≠ v.ownBlock := by
  rcases h.2 with ⟨rfl, _⟩ | ⟨g, cap, cur, rfl, _, hg, _⟩
  · exact Or.inl rfl
  · refine Or.inr fun e => ?_
    rcases h'.2 with ⟨rfl, _⟩ | ⟨g', cap', cur', rfl, _, hg', _⟩
    · cases e
    · have e1 : g = g' := Option.some.inj e
      subst e1
      rw [hg] at hg'
      injection hg' with hg'
      injection hg' with _ ht _
      revert ht; decide
/-- Appending one row, that lies in a block of its own, to such a row. -/
theorem wpList_append_row {w : World} {ops : Array Oper} {rest : List Oper} {o : Oper} {a : Act} {Q : Exit → Act → World → Prop} (hgd : o.guard = none) (s x : Operand)
    (ho : o.op = .call { callee := .builtin .append, args := #[s, x], argTypes := #[89, 89] })
    (base : Nat) (v : Value) (R : List RowV) (g : Nat) (r : RowV) (hs : a.eval s = v) (hown : OwnS w base v R)
    (hx : a.eval x = .slice (some ⟨g, 0, none⟩) 1 1) (h0 : w.cell? ⟨g, 0, none⟩ = some (.slice r.a r.l.length r.cap)) (hn : R.length ≤ 100000) (hbase : base ≤ w.heap.size)
    (h : ∀ v' w', OwnS w' base v' (R ++ [r]) → w.grownBy w' v.ownBlock → wpList Try.prog ops Q rest (a.put o.dst v') w') : wpList Try.prog ops Q (o :: rest) a w := by
  obtain ⟨i0, hi, hz0, hz1, hz2⟩ := info_parts Try.infoRow2
  refine wpList_append_own w hgd s x _ ho base _ i0 _ 1 24 Try.underlying89 hi hz0 hz1 hz2 rfl (by decide) v R.length (cellsS R) hs hown ⟨g, 0, none⟩ 1 1 (cellsS [r]) hx rfl ?_ (cellsS_one [r])
      (by unfold maxLen; omega) (by omega) hbase (fun v' w' h1 h2 _ => h v' w' ?_ h2)
  · intro j u hu
    rw [add_flat]
    match j, hu with
    | 0, hu => simp [cellsS] at hu; subst hu; exact h0
  · unfold OwnS
    have e : cellsS (R ++ [r]) = cellsS R ++ cellsS [r] := by unfold cellsS; rw [List.map_append]
    rw [e, List.length_append]
    exact h1

end Go.Proofs.Ytgbhlkeclfgacaa