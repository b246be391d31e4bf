/-
  Rows of things that are asked for: in memory.
-/
import Derived.Test.YtpnbhgnpofoeaaaQuillW
namespace Go.Proofs.Ytpnbhgnpofoeaaa
set_option linter.unusedVariables false
set_option linter.unusedSimpArgs false
open Go.RowKit

/-- A thing that is asked for. -/
structure AskV where
  kind : Int
  u : Int
  n : Int
structure AskV.ok (it : AskV) : Prop where
  kind : I64 it.kind
  u : Word it.u
  n : I64 it.n
/-- A row of them in memory. -/
structure Asks (w : World) (A : Option Addr) (L : List AskV) : Prop where
  ok : ∀ it, it ∈ L → it.ok
  at_ : ∀ (i : Nat) (it : AskV), L[i]? = some it → ∃ b off, A = some ⟨b, off, none⟩ ∧ b < w.heap.size ∧ w.cell? ⟨b, off + i * 3, none⟩ = some (.int .i64 it.kind) ∧
    w.cell? ⟨b, off + i * 3 + 1, none⟩ = some (.int .u64 it.u) ∧ w.cell? ⟨b, off + i * 3 + 2, none⟩ = some (.int .i64 it.n)
theorem Asks.call {w w' : World} {A : Option Addr} {L : List AskV} (h : Asks w A L) (hb : Below w.heap.size w w') : Asks w' A L :=
  ⟨h.ok, fun i it hi => by
    obtain ⟨b, off, hA, hlt, c0, c1, c2⟩ := h.at_ i it hi
    exact ⟨b, off, hA, Nat.lt_of_lt_of_le hlt hb.size, cell_later hb c0, cell_later hb c1, cell_later hb c2⟩⟩
/-- The box of one of them. -/
structure Box3 (w : World) (g : Nat) (it : AskV) : Prop where
  c0 : w.cell? ⟨g, 0, none⟩ = some (.int .i64 it.kind)
  c1 : w.cell? ⟨g, 1, none⟩ = some (.int .u64 it.u)
  c2 : w.cell? ⟨g, 2, none⟩ = some (.int .i64 it.n)
theorem Box3.new (w : World) (it : AskV) (t : TypeId) : Box3 (w.alloc (.cells #[.int .i64 it.kind, .int .u64 it.u, .int .i64 it.n] t)) w.heap.size it :=
  ⟨by go_simp, by go_simp, by go_simp⟩
theorem Box3.call {w w' : World} {g : Nat} {it : AskV} (h : Box3 w g it) (hb : Below w.heap.size w w') : Box3 w' g it := ⟨cell_later hb h.c0, cell_later hb h.c1, cell_later hb h.c2⟩
theorem Box3.lt {w : World} {g : Nat} {it : AskV} (h : Box3 w g it) : g < w.heap.size := World.block_lt_of_cell? (a := ⟨g, 0, none⟩) w h.c0
/-- What an eye tells, and what it is then, in one. -/
def NatDoes (s : ByteArray) (bad : Bool) (most v : Int) (s' : ByteArray) (bad' : Bool) : Prop :=
  ∀ (w : World) (B : Nat), Eye w B s bad → Calls Try.prog 12 #[.pointer (some ⟨B, 0, none⟩), .int .u64 most] w fun e w' =>
    e = .returned (.int .u64 v) ∧ Eye w' B s' bad' ∧ w.grownBy w' (some B)
def IntDoes (s : ByteArray) (bad : Bool) (v : Int) (s' : ByteArray) (bad' : Bool) : Prop :=
  ∀ (w : World) (B : Nat), Eye w B s bad → Calls Try.prog 13 #[.pointer (some ⟨B, 0, none⟩)] w fun e w' =>
    e = .returned (.int .i64 v) ∧ Eye w' B s' bad' ∧ w.grownBy w' (some B)
def SmallDoes (s : ByteArray) (bad : Bool) (n v : Int) (s' : ByteArray) (bad' : Bool) : Prop :=
  ∀ (w : World) (B : Nat), Eye w B s bad → Calls Try.prog 21 #[.pointer (some ⟨B, 0, none⟩), .int .i64 n] w fun e w' =>
    e = .returned (.int .i64 v) ∧ Eye w' B s' bad' ∧ w.grownBy w' (some B)
def CountDoes (s : ByteArray) (bad : Bool) (v : Int) (s' : ByteArray) (bad' : Bool) : Prop :=
  ∀ (w : World) (B : Nat), Eye w B s bad → Calls Try.prog 22 #[.pointer (some ⟨B, 0, none⟩)] w fun e w' =>
    e = .returned (.int .u64 v) ∧ Eye w' B s' bad' ∧ w.grownBy w' (some B)
def RawDoes (s : ByteArray) (bad : Bool) (n : Int) (v s' : ByteArray) (bad' : Bool) : Prop :=
  ∀ (w : World) (B : Nat), Eye w B s bad → Calls Try.prog 14 #[.pointer (some ⟨B, 0, none⟩), .int .i64 n] w fun e w' =>
    e = .returned (.string v) ∧ Eye w' B s' bad' ∧ w.grownBy w' (some B)
def TakenDoes (s : ByteArray) (most : Int) (a k : Nat) : Prop :=
  ∀ w : World, Calls Try.prog 18 #[.string s, .int .u64 most] w fun e w' => e = .returned (.tuple #[.int .u64 (a : Int), .int .i64 (k : Int)]) ∧ Below w.heap.size w w'
theorem taken_does {s : ByteArray} {most : Int} {a k : Nat} (hm : Word most) (hs : s.size ≤ 65536) (h : takS s.data.toList most.toNat = (a, k)) : TakenDoes s most a k := by
  intro w
  have C := taken_any s most hm hs w
  rw [h] at C
  exact C
/-- The three ways: it was bad; it gets bad; it tells a number. -/
theorem num_ways (s : ByteArray) (bad : Bool) (m : Nat) (a k : Nat) (h : takS s.data.toList m = (a, k)) (hne : bad = true → s = ⟨#[]⟩) :
    (bad = true ∧ nV s bad m = 0 ∧ nS s bad m = ⟨#[]⟩ ∧ gone s bad m = true) ∨
    (bad = false ∧ k = 0 ∧ a = 0 ∧ nV s bad m = 0 ∧ nS s bad m = ⟨#[]⟩ ∧ gone s bad m = true) ∨
    (bad = false ∧ k ≠ 0 ∧ k ≤ s.size ∧ a ≤ m ∧ a < 18446744073709551616 ∧ nV s bad m = a ∧ nS s bad m = s.extract k s.size ∧ gone s bad m = false) := by
  cases bad
  · right
    by_cases hk : k = 0
    · left
      have ha := takS_zero (l := s.data.toList) (m := m) (by rw [h]; exact hk)
      rw [h] at ha
      have G : gone s false m = true := by unfold gone; rw [h]; simp [hk]
      exact ⟨rfl, hk, ha, by unfold nV; rw [G]; rfl, by unfold nS; rw [G]; rfl, G⟩
    · right
      have G : gone s false m = false := by unfold gone; rw [h]; simp [hk]
      have h1 := takS_le s.data.toList m
      have h2 := takS_most s.data.toList m
      have h3 := takS_lt s.data.toList m
      rw [h] at h1 h2 h3
      exact ⟨rfl, hk, by rw [Lib.size_eq]; exact h1, h2, h3, by unfold nV; rw [G, h]; rfl, by unfold nS; rw [G, h]; rfl, G⟩
  · left
    have G : gone s true m = true := rfl
    exact ⟨rfl, by unfold nV; rw [G]; rfl, by unfold nS; rw [G]; rfl, G⟩
theorem nat_does {s : ByteArray} {bad : Bool} {most : Int} (hm : Word most) (hs : s.size ≤ 65536) : NatDoes s bad most (nV s bad most.toNat) (nS s bad most.toNat) (gone s bad most.toNat) :=
  fun w B h => eye_nat w B s bad most hm hs h
theorem int_does {s : ByteArray} {bad : Bool} (hs : s.size ≤ 65536) : IntDoes s bad (zag (nV s bad 18446744073709551615)) (nS s bad 18446744073709551615) (gone s bad 18446744073709551615) :=
  fun w B h => eye_int w B s bad hs h
theorem small_does {s : ByteArray} {bad : Bool} {n : Int} (hn : I64 n) (hs : s.size ≤ 65536) : SmallDoes s bad n (nV s bad (sm n)) (nS s bad (sm n)) (gone s bad (sm n)) :=
  fun w B h => eye_small w B s bad n hn hs h
theorem count_does {s : ByteArray} {bad : Bool} (hs : s.size ≤ 65536) : CountDoes s bad (nV s bad 9223372036854775807) (cS s bad) (cgone s bad) :=
  fun w B h => eye_count w B s bad hs h
theorem raw_does {s : ByteArray} {bad : Bool} {n : Int} (hs : s.size ≤ 65536) : RawDoes s bad n (rV s bad n) (rS s bad n) (rgone s bad n) :=
  fun w B h => eye_raw w B s bad n hs h
end Go.Proofs.Ytpnbhgnpofoeaaa
