/-
  What package crate is to do, said once (proved elsewhere of the code, for its own way to lay a crate in memory); what the laws of crate ask first.
-/
import Derived.Test.YtggdmlldolaojaaRef7b
namespace Go.Proofs.Ytggdmlldolaojaa
set_option linter.unusedVariables false
set_option linter.unusedSimpArgs false
open Go.RowKit

/-- Cr w B S L: at block B lies a crate whose row is L; S are its blocks. -/
structure CrateDoes (Cr : World → Nat → (Nat → Prop) → List PairV → Prop) : Prop where
  keep : ∀ (w w' : World) (B : Nat) (S : Nat → Prop) (L : List PairV), Cr w B S L → (∀ k, S k → w'.heap[k]? = w.heap[k]?) → Cr w' B S L
  lt : ∀ (w : World) (B : Nat) (S : Nat → Prop) (L : List PairV), Cr w B S L → ∀ k, S k → k < w.heap.size
  crt : ∀ (w : World) (B : Nat) (S : Nat → Prop) (L : List PairV), Cr w B S L → Crt L
  new : ∀ (w : World), Calls Try.prog 9 #[] w fun e w' => ∃ B S, e = .returned (.pointer (some ⟨B, 0, none⟩)) ∧ Cr w' B S [] ∧ (∀ k, S k → w.heap.size ≤ k) ∧ Below w.heap.size w w'
  add : ∀ (w : World) (B : Nat) (S : Nat → Prop) (L : List PairV) (i c : Int), Cr w B S L → I64 i → Word c →
    Calls Try.prog 10 #[.pointer (some ⟨B, 0, none⟩), .int .i64 i, .int .u64 c] w fun e w' => ∃ S', e = .returned (.int .i64 (crErr L i c)) ∧ Cr w' B S' (crRow L i c) ∧ Keeps S w w' ∧ (∀ k, S' k → S k ∨ w.heap.size ≤ k)
  at_ : ∀ (w : World) (B : Nat) (S : Nat → Prop) (L : List PairV) (i : Int), Cr w B S L → I64 i →
    Calls Try.prog 16 #[.pointer (some ⟨B, 0, none⟩), .int .i64 i] w fun e w' => e = .returned (.int .u64 (countP L i)) ∧ Below w.heap.size w w'
  total : ∀ (w : World) (B : Nat) (S : Nat → Prop) (L : List PairV), Cr w B S L →
    Calls Try.prog 14 #[.pointer (some ⟨B, 0, none⟩)] w fun e w' => e = .returned (.int .u64 (sumP L)) ∧ Below w.heap.size w w'
  pairs : ∀ (w : World) (B : Nat) (S : Nat → Prop) (L : List PairV), Cr w B S L →
    Calls Try.prog 13 #[.pointer (some ⟨B, 0, none⟩)] w fun e w' => ∃ v, e = .returned v ∧ OwnP w' w.heap.size v L ∧ Below w.heap.size w w'
  find : ∀ (w : World) (B : Nat) (S : Nat → Prop) (L : List PairV) (t : Int), Cr w B S L → Word t →
    Calls Try.prog 19 #[.pointer (some ⟨B, 0, none⟩), .int .u64 t] w fun e w' => e = .returned (.tuple #[.int .i64 ((findP L t).getD 0), .bool (findP L t).isSome]) ∧ Below w.heap.size w w'
  below : ∀ (w : World) (B : Nat) (S : Nat → Prop) (L : List PairV) (i : Int), Cr w B S L → I64 i →
    Calls Try.prog 20 #[.pointer (some ⟨B, 0, none⟩), .int .i64 i] w fun e w' => e = .returned (.int .u64 (belowP L i)) ∧ Below w.heap.size w w'
theorem CrateDoes.call {Cr : World → Nat → (Nat → Prop) → List PairV → Prop} (D : CrateDoes Cr) {w w' : World} {B : Nat} {S : Nat → Prop} {L : List PairV} (h : Cr w B S L) (hb : Below w.heap.size w w') : Cr w' B S L :=
  D.keep w w' B S L h fun k hk => hb.block k (D.lt _ _ _ _ h k hk)
/-- A crate past a call that keeps all blocks but those of another thing. -/
theorem CrateDoes.past {Cr : World → Nat → (Nat → Prop) → List PairV → Prop} (D : CrateDoes Cr) {w w' : World} {B : Nat} {S T : Nat → Prop} {L : List PairV} (h : Cr w B S L) (hk : Keeps T w w') (hd : ∀ k, S k → ¬ T k) : Cr w' B S L :=
  D.keep w w' B S L h fun k hs => hk.block k (D.lt _ _ _ _ h k hs) (hd k hs)

theorem cr1 : crErr [] 5 2 = 0 ∧ crRow [] 5 2 = [(5, 2)] := by decide
theorem cr2 : crErr [(5, 2)] 3 1 = 0 ∧ crRow [(5, 2)] 3 1 = [(3, 1), (5, 2)] := by decide
theorem cr3 : (findP [(3, 1), (5, 2)] 2).getD 0 = 5 ∧ (findP [(3, 1), (5, 2)] 2).isSome = true ∧ sumP [(3, 1), (5, 2)] = 3 := by decide

set_option maxRecDepth 100000 in
set_option maxHeartbeats 1000000 in
theorem calive_any {Cr : World → Nat → (Nat → Prop) → List PairV → Prop} (D : CrateDoes Cr) (w : World) :
    Calls Try.prog 8 #[] w fun e w' => e = .returned (.bool true) ∧ Below w.heap.size w w' := by
  have HD := Lib.hid D
  have C1 := Lib.hid cr1
  have C2 := Lib.hid cr2
  have C3 := Lib.hid cr3
  clear D
  go_enter Try.func8, Try.ntmps8
  go_wp2_with fail
  refine (HD.out.new _).mono ?_
  rintro e w1 ⟨B, S, rfl, h1, hs1, b1⟩
  have z1 := b1.size
  go_wp2_with fail
  refine (HD.out.add _ B S [] 5 2 h1 ⟨by decide, by decide⟩ ⟨by decide, by decide⟩).mono ?_
  rintro e w2 ⟨S2, rfl, h2, k2, hs2⟩
  rw [C1.out.1]
  rw [C1.out.2] at h2
  have b2 := k2.below b1 z1 hs1
  have z2 := b2.size
  have hs2' : ∀ k, S2 k → w.heap.size ≤ k := fun k hk => by rcases hs2 k hk with h | h; exact hs1 k h; omega
  clear h1 hs1 b1 k2 hs2
  go_wp2_with fail
  refine (HD.out.add _ B S2 [(5, 2)] 3 1 h2 ⟨by decide, by decide⟩ ⟨by decide, by decide⟩).mono ?_
  rintro e w3 ⟨S3, rfl, h3, k3, hs3⟩
  rw [C2.out.1]
  rw [C2.out.2] at h3
  have b3 := k3.below b2 z2 hs2'
  have z3 := b3.size
  clear h2 hs2' b2 k3 hs3
  go_wp2_with fail
  refine (HD.out.find _ B S3 _ 2 h3 ⟨by decide, by decide⟩).mono ?_
  rintro e w4 ⟨rfl, b4⟩
  rw [C3.out.1, C3.out.2.1]
  have h4 := HD.out.call h3 b4
  have b5 := b3.trans (b4.mono z3)
  have z5 := b5.size
  clear h3 b3 b4
  go_wp2_with fail
  refine (HD.out.total _ B S3 _ h4).mono ?_
  rintro e w6 ⟨rfl, b6⟩
  rw [C3.out.2.2]
  go_wp2_with fail
  go_ret
  exact ⟨rfl, b5.trans (b6.mono z5)⟩
end Go.Proofs.Ytggdmlldolaojaa
