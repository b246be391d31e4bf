/-
  What package strip is to do, said once (proved elsewhere of the code, for its own way to lay a strip in memory); what the laws of strip ask first.
-/
import Derived.Test.YtnhhehinbobknaaRef7b
namespace Go.Proofs.Ytnhhehinbobknaa
set_option linter.unusedVariables false
set_option linter.unusedSimpArgs false
open Go.RowKit

/-- What adding to a strip tells; what is kept then. -/
def stErr (m : Int) (L : List PairV) (i c : Int) : Int := if c = 0 then 1 else if 9223372036854775807 - sumP L < c then 6 else if m < ((addP L i c).length : Int) then 6 else 0
def stRow (m : Int) (L : List PairV) (i c : Int) : List PairV := if stErr m L i c = 0 then addP L i c else L
/-- A row that a strip of that many pairs can have. -/
structure Stp (m : Int) (L : List PairV) : Prop where
  good : GoodP L
  ok : ∀ p, p ∈ L → okP p
  sum : sumP L ≤ 9223372036854775807
  most : (L.length : Int) ≤ m
theorem Stp.nil {m : Int} (h : 0 ≤ m) : Stp m [] := ⟨good_nil, fun p h => (by cases h), by decide, h⟩
theorem Stp.cnt {m : Int} {L : List PairV} (h : Stp m L) (i : Int) : 0 ≤ countP L i ∧ countP L i ≤ sumP L := count_le_sum i (ok_pos h.ok)
theorem stErr_cases {m : Int} {L : List PairV} {i c : Int} (hc : Word c) : (c = 0 ∧ stErr m L i c = 1) ∨ (0 < c ∧ 9223372036854775807 - sumP L < c ∧ stErr m L i c = 6) ∨
    (0 < c ∧ c ≤ 9223372036854775807 - sumP L ∧ m < ((addP L i c).length : Int) ∧ stErr m L i c = 6) ∨ (0 < c ∧ c ≤ 9223372036854775807 - sumP L ∧ ((addP L i c).length : Int) ≤ m ∧ stErr m L i c = 0) := by
  unfold Word at hc
  unfold stErr
  by_cases h0 : c = 0
  · exact Or.inl ⟨h0, by rw [if_pos h0]⟩
  · rw [if_neg h0]
    by_cases h1 : 9223372036854775807 - sumP L < c
    · exact Or.inr (Or.inl ⟨by omega, h1, by rw [if_pos h1]⟩)
    · rw [if_neg h1]
      by_cases h2 : m < ((addP L i c).length : Int)
      · exact Or.inr (Or.inr (Or.inl ⟨by omega, by omega, h2, by rw [if_pos h2]⟩))
      · exact Or.inr (Or.inr (Or.inr ⟨by omega, by omega, by omega, by rw [if_neg h2]⟩))
theorem stp_add {m : Int} {L : List PairV} {i c : Int} (h : Stp m L) (hi : I64 i) (hc : Word c) : Stp m (stRow m L i c) := by
  have hw := hc
  unfold Word at hw
  unfold stRow
  rcases stErr_cases (m := m) (L := L) (i := i) hc with ⟨_, e⟩ | ⟨_, _, e⟩ | ⟨_, _, _, e⟩ | ⟨h1, h2, h3, e⟩
  · rw [if_neg (by omega)]; exact h
  · rw [if_neg (by omega)]; exact h
  · rw [if_neg (by omega)]; exact h
  · rw [if_pos e]
    have h4 := h.cnt i
    exact ⟨add_good h.good (by omega), add_ok h.ok hi (by omega), by rw [add_sum (by omega)]; omega, h3⟩
theorem stRow_len (m : Int) (L : List PairV) (i c : Int) : (stRow m L i c).length ≤ L.length + 1 := by
  unfold stRow
  split
  · exact add_len L i c
  · omega
theorem sumP_tail {L : List PairV} (h : ∀ p, p ∈ L → 0 ≤ p.2) : 0 ≤ sumP L.tail ∧ sumP L.tail ≤ sumP L := by
  cases L with
  | nil => exact ⟨Int.le_refl _, Int.le_refl _⟩
  | cons p r =>
    have h1 := h p (by simp)
    have h2 := sumP_pos (L := r) fun q hq => h q (List.mem_cons_of_mem _ hq)
    rw [sumP_cons]
    exact ⟨h2, by show sumP r ≤ _; omega⟩
theorem stp_tail {m : Int} {L : List PairV} (h : Stp m L) : Stp m L.tail :=
  ⟨by rw [← List.drop_one]; exact good_drop 1 h.good, fun p hp => h.ok p (List.mem_of_mem_tail hp), Int.le_trans (sumP_tail (ok_pos h.ok)).2 h.sum, by have := h.most; rw [List.length_tail]; omega⟩
theorem stp_front {m : Int} {L : List PairV} (h : Stp m L) : Stp m L.dropLast := by
  rw [List.dropLast_eq_take]
  exact ⟨good_take _ h.good, fun p hp => h.ok p (List.mem_of_mem_take hp), Int.le_trans (sumP_take _ (ok_pos h.ok)).2 h.sum, by have := h.most; rw [List.length_take]; omega⟩

/-- A pair as a value. -/
def prV (p : PairV) : Value := .agg #[.int .i64 p.1, .int .u64 p.2]
/-- The first pair, the last one. -/
def firP (L : List PairV) : PairV := L.head?.getD (0, 0)
def lasP (L : List PairV) : PairV := L.getLast?.getD (0, 0)

/-- St w B S m L: at block B lies a strip of m pairs at most whose row is L; S are its blocks. -/
structure StripDoes (St : World → Nat → (Nat → Prop) → Int → List PairV → Prop) : Prop where
  keep : ∀ (w w' : World) (B : Nat) (S : Nat → Prop) (m : Int) (L : List PairV), St w B S m L → (∀ k, S k → w'.heap[k]? = w.heap[k]?) → St w' B S m L
  lt : ∀ (w : World) (B : Nat) (S : Nat → Prop) (m : Int) (L : List PairV), St w B S m L → ∀ k, S k → k < w.heap.size
  stp : ∀ (w : World) (B : Nat) (S : Nat → Prop) (m : Int) (L : List PairV), St w B S m L → Stp m L
  cells : ∀ (w : World) (B : Nat) (S : Nat → Prop) (m : Int) (L : List PairV), St w B S m L → ∀ k, S k → ∃ cs t z, w.heap[k]? = some (.cells cs t z)
  new : ∀ (w : World) (m : Int), 1 ≤ m → m ≤ 4096 → Calls Try.prog 9 #[.int .i64 m] w fun e w' => ∃ B S, e = .returned (.tuple #[.pointer (some ⟨B, 0, none⟩), .int .i64 0]) ∧ St w' B S m [] ∧ (∀ k, S k → w.heap.size ≤ k) ∧ Below w.heap.size w w'
  bad : ∀ (w : World) (m : Int), I64 m → (m < 1 ∨ 4096 < m) → Calls Try.prog 9 #[.int .i64 m] w fun e w' => e = .returned (.tuple #[.pointer none, .int .i64 1]) ∧ Below w.heap.size w w'
  add : ∀ (w : World) (B : Nat) (S : Nat → Prop) (m : Int) (L : List PairV) (i c : Int), St w B S m L → L.length ≤ 900 → I64 i → Word c →
    Calls Try.prog 14 #[.pointer (some ⟨B, 0, none⟩), .int .i64 i, .int .u64 c] w fun e w' => ∃ S', e = .returned (.int .i64 (stErr m L i c)) ∧ St w' B S' m (stRow m L i c) ∧ Keeps S w w' ∧ (∀ k, S' k → S k ∨ w.heap.size ≤ k)
  first : ∀ (w : World) (B : Nat) (S : Nat → Prop) (m : Int) (L : List PairV), St w B S m L → L.length ≤ 900 →
    Calls Try.prog 10 #[.pointer (some ⟨B, 0, none⟩)] w fun e w' => ∃ S', e = .returned (.tuple #[.agg #[.int .i64 (firP L).1, .int .u64 (firP L).2], .bool (!L.isEmpty)]) ∧ St w' B S' m L.tail ∧ Keeps S w w' ∧ (∀ k, S' k → S k ∨ w.heap.size ≤ k)
  last : ∀ (w : World) (B : Nat) (S : Nat → Prop) (m : Int) (L : List PairV), St w B S m L → L.length ≤ 900 →
    Calls Try.prog 11 #[.pointer (some ⟨B, 0, none⟩)] w fun e w' => ∃ S', e = .returned (.tuple #[.agg #[.int .i64 (lasP L).1, .int .u64 (lasP L).2], .bool (!L.isEmpty)]) ∧ St w' B S' m L.dropLast ∧ Keeps S w w' ∧ (∀ k, S' k → S k ∨ w.heap.size ≤ k)
  at_ : ∀ (w : World) (B : Nat) (S : Nat → Prop) (m : Int) (L : List PairV) (i : Int), St w B S m L → L.length ≤ 900 → I64 i →
    Calls Try.prog 15 #[.pointer (some ⟨B, 0, none⟩), .int .i64 i] w fun e w' => e = .returned (.int .u64 (countP L i)) ∧ Below w.heap.size w w'
  total : ∀ (w : World) (B : Nat) (S : Nat → Prop) (m : Int) (L : List PairV), St w B S m L → L.length ≤ 900 →
    Calls Try.prog 16 #[.pointer (some ⟨B, 0, none⟩)] w fun e w' => e = .returned (.int .u64 (sumP L)) ∧ Below w.heap.size w w'
  len : ∀ (w : World) (B : Nat) (S : Nat → Prop) (m : Int) (L : List PairV), St w B S m L → L.length ≤ 900 →
    Calls Try.prog 18 #[.pointer (some ⟨B, 0, none⟩)] w fun e w' => e = .returned (.int .i64 (L.length : Int)) ∧ Below w.heap.size w w'
  ends : ∀ (w : World) (B : Nat) (S : Nat → Prop) (m : Int) (L : List PairV), St w B S m L → L.length ≤ 900 →
    Calls Try.prog 13 #[.pointer (some ⟨B, 0, none⟩)] w fun e w' => e = .returned (.tuple #[.int .i64 (firP L).1, .int .i64 (lasP L).1, .bool (!L.isEmpty)]) ∧ Below w.heap.size w w'
  pairs : ∀ (w : World) (B : Nat) (S : Nat → Prop) (m : Int) (L : List PairV), St w B S m L → L.length ≤ 900 →
    Calls Try.prog 19 #[.pointer (some ⟨B, 0, none⟩)] w fun e w' => ∃ v, e = .returned v ∧ OwnP w' w.heap.size v L ∧ Below w.heap.size w w'
  find : ∀ (w : World) (B : Nat) (S : Nat → Prop) (m : Int) (L : List PairV) (t : Int), St w B S m L → L.length ≤ 900 → Word t →
    Calls Try.prog 12 #[.pointer (some ⟨B, 0, none⟩), .int .u64 t] w fun e w' => e = .returned (.tuple #[.int .i64 ((findP L t).getD 0), .bool (findP L t).isSome]) ∧ Below w.heap.size w w'
  below : ∀ (w : World) (B : Nat) (S : Nat → Prop) (m : Int) (L : List PairV) (i : Int), St w B S m L → L.length ≤ 900 → I64 i →
    Calls Try.prog 17 #[.pointer (some ⟨B, 0, none⟩), .int .i64 i] w fun e w' => e = .returned (.int .u64 (belowP L i)) ∧ Below w.heap.size w w'
theorem StripDoes.call {St : World → Nat → (Nat → Prop) → Int → List PairV → Prop} (D : StripDoes St) {w w' : World} {B : Nat} {S : Nat → Prop} {m : Int} {L : List PairV} (h : St w B S m L) (hb : Below w.heap.size w w') : St w' B S m L :=
  D.keep w w' B S m L h fun k hk => hb.block k (D.lt _ _ _ _ _ h k hk)

/-- A nil strip. -/
structure StripNil : Prop where
  add : ∀ (w : World) (i c : Int), I64 i → Word c → Calls Try.prog 14 #[.pointer none, .int .i64 i, .int .u64 c] w fun e w' => e = .returned (.int .i64 2) ∧ Below w.heap.size w w'
  first : ∀ (w : World), Calls Try.prog 10 #[.pointer none] w fun e w' => e = .returned (.tuple #[.agg #[.int .i64 0, .int .u64 0], .bool false]) ∧ Below w.heap.size w w'
  last : ∀ (w : World), Calls Try.prog 11 #[.pointer none] w fun e w' => e = .returned (.tuple #[.agg #[.int .i64 0, .int .u64 0], .bool false]) ∧ Below w.heap.size w w'
  at_ : ∀ (w : World) (i : Int), I64 i → Calls Try.prog 15 #[.pointer none, .int .i64 i] w fun e w' => e = .returned (.int .u64 0) ∧ Below w.heap.size w w'
  total : ∀ (w : World), Calls Try.prog 16 #[.pointer none] w fun e w' => e = .returned (.int .u64 0) ∧ Below w.heap.size w w'
  len : ∀ (w : World), Calls Try.prog 18 #[.pointer none] w fun e w' => e = .returned (.int .i64 0) ∧ Below w.heap.size w w'
  ends : ∀ (w : World), Calls Try.prog 13 #[.pointer none] w fun e w' => e = .returned (.tuple #[.int .i64 0, .int .i64 0, .bool false]) ∧ Below w.heap.size w w'
  pairs : ∀ (w : World), Calls Try.prog 19 #[.pointer none] w fun e w' => ∃ A cap, e = .returned (.slice A 0 cap) ∧ Below w.heap.size w w'
  find : ∀ (w : World) (t : Int), Word t → Calls Try.prog 12 #[.pointer none, .int .u64 t] w fun e w' => e = .returned (.tuple #[.int .i64 0, .bool false]) ∧ Below w.heap.size w w'
  below : ∀ (w : World) (i : Int), I64 i → Calls Try.prog 17 #[.pointer none, .int .i64 i] w fun e w' => e = .returned (.int .u64 0) ∧ Below w.heap.size w w'

theorem sr1 : stErr 1 [] 5 2 = 0 ∧ stRow 1 [] 5 2 = [(5, 2)] := by decide
theorem sr2 : stErr 1 [(5, 2)] 3 1 = 6 ∧ stRow 1 [(5, 2)] 3 1 = [(5, 2)] := by decide
theorem sr3 : countP [(5, 2)] 5 = 2 := by decide

set_option maxRecDepth 100000 in
set_option maxHeartbeats 1000000 in
theorem salive_any {St : World → Nat → (Nat → Prop) → Int → List PairV → Prop} (D : StripDoes St) (w : World) :
    Calls Try.prog 8 #[] w fun e w' => e = .returned (.bool true) ∧ Below w.heap.size w w' := by
  have HD := Lib.hid D
  have C1 := Lib.hid sr1
  have C2 := Lib.hid sr2
  have C3 := Lib.hid sr3
  clear D
  go_enter Try.func8, Try.ntmps8
  go_wp2_with fail
  refine (HD.out.new _ 1 (by decide) (by decide)).mono ?_
  rintro e w1 ⟨B, S, rfl, h1, hs1, b1⟩
  have z1 := b1.size
  go_wp2_with fail
  refine (HD.out.add _ B S 1 [] 5 2 h1 (by decide) ⟨by decide, by decide⟩ ⟨by decide, by decide⟩).mono ?_
  rintro e w2 ⟨S2, rfl, h2, k2, hs2⟩
  rw [C1.out.1]
  rw [C1.out.2] at h2
  have b2 := k2.below b1 z1 hs1
  have z2 := b2.size
  have hs2' : ∀ k, S2 k → w.heap.size ≤ k := fun k hk => by rcases hs2 k hk with h | h; exact hs1 k h; omega
  clear h1 hs1 b1 k2 hs2
  go_wp2_with fail
  refine (HD.out.add _ B S2 1 [(5, 2)] 3 1 h2 (by decide) ⟨by decide, by decide⟩ ⟨by decide, by decide⟩).mono ?_
  rintro e w3 ⟨S3, rfl, h3, k3, hs3⟩
  rw [C2.out.1]
  rw [C2.out.2] at h3
  have b3 := k3.below b2 z2 hs2'
  have z3 := b3.size
  clear h2 hs2' b2 k3 hs3
  go_wp2_with fail
  refine (HD.out.at_ _ B S3 1 _ 5 h3 (by decide) ⟨by decide, by decide⟩).mono ?_
  rintro e w4 ⟨rfl, b4⟩
  rw [C3.out]
  go_wp2_with fail
  go_ret
  exact ⟨rfl, b3.trans (b4.mono z3)⟩
end Go.Proofs.Ytnhhehinbobknaa
