/-
  Texts joined, in build order: HighP, RunsP, HighQ, HighR, StripX, HighX, Open, OpenS, PairV, Ref10, HighB.
-/
import Derived.Test.YtdblicfcfmfneaaK1
import Derived.Deep.LoopGhost
import Derived.Deep.RegionHeld3
import Derived.Deep.RegionWith
import Derived.Test.YtdblicfcfmfneaaRows
import Derived.WalkKit
import Derived.ProofKit
import Derived.OpenShut
import Derived.Lib.SmallJoins
import Derived.SizedLaws
import Derived.Deep.QuietTactic
import Derived.BigQuiet
/-
  How package highcap lays a highcap in memory; walks: own, Lost, Most, Total, Pairs, At, Find, under, Below, of a highcap and of a nil one.
  Walks: package highcap: Below; drop, put of a highcap.
-/
namespace Go.Proofs.Ytdblicfcfmfneaa
set_option linter.unusedVariables false
set_option linter.unusedSimpArgs false
open Go.RowKit

/-- At block B lies a highcap of m indexes that keeps K, l being lost; S are its blocks. -/
def HighRaw (St : World → Nat → (Nat → Prop) → Int → List PairV → Prop) (w : World) (B : Nat) (S : Nat → Prop) (m : Int) (K : List PairV) (l : Int) : Prop :=
  ∃ C S0, w.heap[B]? = some (.cells #[.int .i64 m, .pointer (some ⟨C, 0, none⟩), .int .u64 l] 63 (0, 0)) ∧ St w C S0 m K ∧ ¬ S0 B ∧ ∀ k, S k ↔ k = B ∨ S0 k
section
variable {St : World → Nat → (Nat → Prop) → Int → List PairV → Prop} (D : StripDoes St)
include D
theorem hraw_lt {w : World} {B : Nat} {S : Nat → Prop} {m l : Int} {K : List PairV} (h : HighRaw St w B S m K l) : ∀ k, S k → k < w.heap.size := by
  obtain ⟨C, S0, hb, hst, hn, hS⟩ := h
  intro k hk
  rcases (hS k).1 hk with rfl | h
  · exact lt_of_block hb
  · exact D.lt _ _ _ _ _ hst k h
theorem hraw_keep {w w' : World} {B : Nat} {S : Nat → Prop} {m l : Int} {K : List PairV} (h : HighRaw St w B S m K l) (hk : ∀ k, S k → w'.heap[k]? = w.heap[k]?) : HighRaw St w' B S m K l := by
  obtain ⟨C, S0, hb, hst, hn, hS⟩ := h
  exact ⟨C, S0, (hk B ((hS B).2 (Or.inl rfl))).trans hb, D.keep _ _ _ _ _ _ hst (fun k h => hk k ((hS k).2 (Or.inr h))), hn, hS⟩
theorem hraw_call {w w' : World} {B : Nat} {S : Nat → Prop} {m l : Int} {K : List PairV} (h : HighRaw St w B S m K l) (hb : Below w.heap.size w w') : HighRaw St w' B S m K l :=
  hraw_keep D h fun k hk => hb.block k (hraw_lt D h k hk)
theorem hraw_cells {w : World} {B : Nat} {S : Nat → Prop} {m l : Int} {K : List PairV} (h : HighRaw St w B S m K l) : ∀ k, S k → ∃ cs t z, w.heap[k]? = some (.cells cs t z) := by
  obtain ⟨C, S0, hb, hst, hn, hS⟩ := h
  intro k hk
  rcases (hS k).1 hk with rfl | h
  · exact ⟨_, _, _, hb⟩
  · exact D.cells _ _ _ _ _ hst k h
/-- The lost ones are counted anew. -/
theorem hraw_lost {w : World} {B : Nat} {S : Nat → Prop} {m l : Int} {K : List PairV} (h : HighRaw St w B S m K l) (l' : Int) : HighRaw St (w.setCell ⟨B, 2, none⟩ (.int .u64 l')) B S m K l' := by
  obtain ⟨C, S0, hb, hst, hn, hS⟩ := h
  refine ⟨C, S0, set_cells8 hb 2 _, D.keep _ _ _ _ _ _ hst (fun k hk => Below.heap_setCell _ _ _ _ (by show k ≠ B; rintro rfl; exact hn hk)), hn, hS⟩
end
theorem hraw_B {St : World → Nat → (Nat → Prop) → Int → List PairV → Prop} {w : World} {B : Nat} {S : Nat → Prop} {m l : Int} {K : List PairV} (h : HighRaw St w B S m K l) : S B := by
  obtain ⟨C, S0, hb, hst, hn, hS⟩ := h
  exact (hS B).2 (Or.inl rfl)

set_option maxHeartbeats 400000 in
theorem hlown_at (w : World) (B : Nat) (v : Value) (h : w.cell? ⟨B, 1, none⟩ = some v) :
    Calls Try.prog 36 #[.pointer (some ⟨B, 0, none⟩)] w fun e w' => e = .returned v ∧ w = w' := by
  go_enter Try.func36, Try.ntmps36
  go_wp2_with fail
  go_ret
  exact ⟨rfl, rfl⟩
set_option maxHeartbeats 400000 in
theorem hlown_none (w : World) :
    Calls Try.prog 36 #[.pointer none] w fun e w' => e = .returned (.pointer none) ∧ w = w' := by
  go_enter Try.func36, Try.ntmps36
  go_wp2_with fail
  go_ret
  exact ⟨rfl, rfl⟩

set_option maxHeartbeats 400000 in
theorem hllost_at (w : World) (B : Nat) (l : Int) (h : w.cell? ⟨B, 2, none⟩ = some (.int .u64 l)) :
    Calls Try.prog 16 #[.pointer (some ⟨B, 0, none⟩)] w fun e w' => e = .returned (.int .u64 l) ∧ w = w' := by
  go_enter Try.func16, Try.ntmps16
  go_wp2_with fail
  go_ret
  exact ⟨rfl, rfl⟩
set_option maxHeartbeats 400000 in
theorem hllost_none (w : World) :
    Calls Try.prog 16 #[.pointer none] w fun e w' => e = .returned (.int .u64 0) ∧ w = w' := by
  go_enter Try.func16, Try.ntmps16
  go_wp2_with fail
  go_ret
  exact ⟨rfl, rfl⟩

set_option maxHeartbeats 400000 in
theorem hlmost_at (w : World) (B : Nat) (m : Int) (h : w.cell? ⟨B, 0, none⟩ = some (.int .i64 m)) :
    Calls Try.prog 22 #[.pointer (some ⟨B, 0, none⟩)] w fun e w' => e = .returned (.int .i64 m) ∧ w = w' := by
  go_enter Try.func22, Try.ntmps22
  go_wp2_with fail
  go_ret
  exact ⟨rfl, rfl⟩
set_option maxHeartbeats 400000 in
theorem hlmost_none (w : World) :
    Calls Try.prog 22 #[.pointer none] w fun e w' => e = .returned (.int .i64 0) ∧ w = w' := by
  go_enter Try.func22, Try.ntmps22
  go_wp2_with fail
  go_ret
  exact ⟨rfl, rfl⟩

set_option maxHeartbeats 400000 in
theorem hlgap_any (a b : Int) (ha : I64 a) (hb : I64 b) (w : World) :
    Calls Try.prog 52 #[.int .i64 a, .int .i64 b] w fun e w' => e = .returned (.int .u64 (gap a b)) ∧ w = w' := by
  have H := Lib.hid (gap_any a b ha hb)
  obtain ⟨a0, a1⟩ := ha
  obtain ⟨b0, b1⟩ := hb
  go_enter Try.func52, Try.ntmps52
  go_wp2_with fail
  refine (H.out _).mono ?_
  rintro e w2 ⟨rfl, rfl⟩
  go_wp2_with fail
  go_ret
  exact ⟨rfl, rfl⟩

/-- What a highcap, or a nil one, has of its own: a strip, or none. -/
def OwnsH (w : World) (p q : Option Addr) : Prop := ∀ w', Below w.heap.size w w' → Calls Try.prog 36 #[.pointer p] w' fun e w'' => e = .returned (.pointer q) ∧ w' = w''
theorem ownsh_at {w : World} {B : Nat} {q : Option Addr} (h : w.cell? ⟨B, 1, none⟩ = some (.pointer q)) : OwnsH w (some ⟨B, 0, none⟩) q := fun w' hb => hlown_at w' B _ (cell_later hb h)
theorem ownsh_none (w : World) : OwnsH w none none := fun w' _ => hlown_none w'
def LostsH (w : World) (p : Option Addr) (l : Int) : Prop := ∀ w', Below w.heap.size w w' → Calls Try.prog 16 #[.pointer p] w' fun e w'' => e = .returned (.int .u64 l) ∧ w' = w''
theorem lostsh_at {w : World} {B : Nat} {l : Int} (h : w.cell? ⟨B, 2, none⟩ = some (.int .u64 l)) : LostsH w (some ⟨B, 0, none⟩) l := fun w' hb => hllost_at w' B _ (cell_later hb h)
theorem lostsh_none (w : World) : LostsH w none 0 := fun w' _ => hllost_none w'

set_option maxHeartbeats 400000 in
theorem hltotal_of (w : World) (p q : Option Addr) (l s : Int) (h : OwnsH w p q) (hl : LostsH w p l) (hs : Calls Try.prog 38 #[.pointer q] w fun e w' => e = .returned (.int .u64 s) ∧ Below w.heap.size w w') (l0 : 0 ≤ l) (s0 : 0 ≤ s) (hb : l + s < 18446744073709551616) :
    Calls Try.prog 18 #[.pointer p] w fun e w' => e = .returned (.int .u64 (l + s)) ∧ Below w.heap.size w w' := by
  have H := Lib.hid h
  have HL := Lib.hid hl
  have HS := Lib.hid hs
  clear h hl hs
  go_enter Try.func18, Try.ntmps18
  go_wp2_with fail
  refine (HL.out _ (Below.refl _ _)).mono ?_
  rintro e w2 ⟨rfl, rfl⟩
  go_wp2_with fail
  refine (H.out _ (Below.refl _ _)).mono ?_
  rintro e w3 ⟨rfl, rfl⟩
  go_wp2_with fail
  refine HS.out.mono ?_
  rintro e w4 ⟨rfl, b4⟩
  go_wp2_with fail
  go_ret
  exact ⟨rfl, b4⟩

set_option maxHeartbeats 400000 in
theorem hlpairs_of (w : World) (p q : Option Addr) (R : Ending → World → Prop) (h : OwnsH w p q) (hR : ∀ e w', R e w' → ∃ A n cap, e = .returned (.slice A n cap)) (hs : Calls Try.prog 37 #[.pointer q] w R) :
    Calls Try.prog 15 #[.pointer p] w R := by
  have H := Lib.hid h
  have HS := Lib.hid hs
  have HR := Lib.hid hR
  clear h hs hR
  go_enter Try.func15, Try.ntmps15
  go_wp2_with fail
  refine (H.out _ (Below.refl _ _)).mono ?_
  rintro e w3 ⟨rfl, rfl⟩
  go_wp2_with fail
  refine HS.out.mono ?_
  rintro e w4 h4
  obtain ⟨A, n, cap, rfl⟩ := HR.out _ _ h4
  have H4 := Lib.hid h4
  clear h4
  go_wp2_with fail
  exact H4.out

set_option maxHeartbeats 400000 in
theorem hlat_of (w : World) (p q : Option Addr) (i n : Int) (h : OwnsH w p q) (hs : Calls Try.prog 39 #[.pointer q, .int .i64 i] w fun e w' => e = .returned (.int .u64 n) ∧ Below w.heap.size w w') :
    Calls Try.prog 20 #[.pointer p, .int .i64 i] w fun e w' => e = .returned (.int .u64 n) ∧ Below w.heap.size w w' := by
  have H := Lib.hid h
  have HS := Lib.hid hs
  clear h hs
  go_enter Try.func20, Try.ntmps20
  go_wp2_with fail
  refine (H.out _ (Below.refl _ _)).mono ?_
  rintro e w3 ⟨rfl, rfl⟩
  go_wp2_with fail
  refine HS.out.mono ?_
  rintro e w4 ⟨rfl, b4⟩
  go_wp2_with fail
  go_ret
  exact ⟨rfl, b4⟩

set_option maxHeartbeats 400000 in
theorem hlfind_of (w : World) (p q : Option Addr) (t x : Int) (fb : Bool) (h : OwnsH w p q) (ht : Word t)
    (hs : Calls Try.prog 40 #[.pointer q, .int .u64 t] w fun e w' => e = .returned (.tuple #[.int .i64 x, .bool fb]) ∧ Below w.heap.size w w') :
    Calls Try.prog 24 #[.pointer p, .int .u64 t] w fun e w' => e = .returned (.tuple #[.int .i64 x, .bool fb]) ∧ Below w.heap.size w w' := by
  have H := Lib.hid h
  have HS := Lib.hid hs
  obtain ⟨t0, t1⟩ := ht
  clear h hs
  go_enter Try.func24, Try.ntmps24
  go_wp2_with fail
  refine (H.out _ (Below.refl _ _)).mono ?_
  rintro e w3 ⟨rfl, rfl⟩
  go_wp2_with fail
  refine HS.out.mono ?_
  rintro e w4 ⟨rfl, b4⟩
  go_wp2_with fail
  go_ret2
  exact ⟨rfl, b4⟩

/-- Whether an index lies too far above the beginning. -/
def losB (m : Int) (K : List PairV) (i : Int) : Bool := decide (K ≠ [] ∧ m ≤ i - begP K)
theorem los_true {m : Int} {K : List PairV} {i : Int} : losB m K i = true ↔ K ≠ [] ∧ m ≤ i - begP K := by unfold losB; exact decide_eq_true_iff
theorem los_false {m : Int} {K : List PairV} {i : Int} (h : losB m K i = false) : K = [] ∨ i < begP K + m := by
  unfold losB at h
  have := of_decide_eq_false h
  by_cases hk : K = []
  · exact Or.inl hk
  · right
    by_cases h2 : i < begP K + m
    · exact h2
    · exact absurd ⟨hk, by omega⟩ this

set_option maxHeartbeats 1000000 in
theorem hloses_of (w : World) (p q : Option Addr) (m : Int) (K : List PairV) (i : Int) (b : Bool) (h : OwnsH w p q) (hi : I64 i) (he : I64 (lasP K).1) (hf : I64 (begP K)) (m1 : 1 ≤ m) (m2 : m ≤ 4096)
    (hc : K ≠ [] → ∃ B, p = some ⟨B, 0, none⟩ ∧ w.cell? ⟨B, 0, none⟩ = some (.int .i64 m))
    (hs : Calls Try.prog 51 #[.pointer q] w fun e w' => e = .returned (.tuple #[.int .i64 (firP K).1, .int .i64 (lasP K).1, .bool (!K.isEmpty)]) ∧ Below w.heap.size w w')
    (hb : losB m K i = b) :
    Calls Try.prog 42 #[.pointer p, .int .i64 i] w fun e w' => e = .returned (.bool b) ∧ Below w.heap.size w w' := by
  have hs' : Calls Try.prog 51 #[.pointer q] w fun e w' => e = .returned (.tuple #[.int .i64 (begP K), .int .i64 (lasP K).1, .bool (!K.isEmpty)]) ∧ Below w.heap.size w w' := hs
  have HG := Lib.hid (hlgap_any (begP K) i hf hi)
  have H := Lib.hid h
  have hgp : ∀ z, begP K = z → z < i → gap (begP K) i = i - z := fun z hz hlt => by unfold gap; rw [hz]; split <;> omega
  obtain ⟨f, hf'⟩ : ∃ f, (lasP K).1 = f := ⟨_, rfl⟩
  rw [hf'] at hs' he
  by_cases hk : K = []
  · have hbb : b = false := by rw [← hb]; unfold losB; exact decide_eq_false (fun h => h.1 hk)
    have he2 : (!K.isEmpty) = false := by rw [hk]; rfl
    obtain ⟨z, hz⟩ : ∃ z, begP K = z := ⟨_, rfl⟩
    rw [he2, hz] at hs'
    rw [hz] at hf
    subst hbb
    have HS := Lib.hid hs'
    obtain ⟨z0, z1⟩ := hf
    obtain ⟨i0, i1⟩ := hi
    clear h hs hs' hb hz HG hc he2 hgp
    go_enter Try.func42, Try.ntmps42
    go_wp2_with fail
    refine (H.out _ (Below.refl _ _)).mono ?_
    rintro e w3 ⟨rfl, rfl⟩
    go_wp2_with fail
    refine HS.out.mono ?_
    rintro e w4 ⟨rfl, b4⟩
    go_wp2_with fail
    go_quiet (fail)
    go_wp2_with fail
    go_ret
    exact ⟨rfl, below_drewN b4 _⟩
  · obtain ⟨B, rfl, hcell⟩ := hc hk
    have he2 : (!K.isEmpty) = true := by cases K with
      | nil => exact absurd rfl hk
      | cons a b => rfl
    have hbb : decide (m ≤ i - begP K) = b := by
      rw [← hb]; unfold losB
      by_cases h1 : m ≤ i - begP K
      · rw [decide_eq_true h1, decide_eq_true ⟨hk, h1⟩]
      · rw [decide_eq_false h1, decide_eq_false (fun h => h1 h.2)]
    have hg := hgp _ rfl
    have e1 : IntKind.u64.wrap m = m := by rw [IntKind.wrap_u64]; omega
    rcases lt_or_geI (begP K) i with hlt | hlt
    · rw [hg hlt] at HG
      obtain ⟨z, hz⟩ : ∃ z, begP K = z := ⟨_, rfl⟩
      rw [he2, hz] at hs'
      rw [hz] at hf hbb HG hlt
      obtain ⟨d, hd⟩ : ∃ d, i - z = d := ⟨_, rfl⟩
      rw [hd] at HG hbb
      have HS := Lib.hid hs'
      have HBB := Lib.hid hbb
      obtain ⟨z0, z1⟩ := hf
      obtain ⟨i0, i1⟩ := hi
      have HGAP : Hid (∀ w, Calls Try.prog 52 #[.int .i64 z, .int .i64 i] w fun e w' => e = .returned (.int .u64 d) ∧ w' = w) := Lib.hid (fun w => (HG.out w).mono fun e w' ⟨h1, h2⟩ => ⟨h1, h2.symm⟩)
      have d0 : 0 ≤ d := by omega
      have hlt2 : decide (z < i) = true := decide_eq_true hlt
      clear h hs hs' hb hz HG hc he2 hgp hbb hg hk hd
      go_enter Try.func42, Try.ntmps42
      go_wp2_with fail
      refine (H.out _ (Below.refl _ _)).mono ?_
      rintro e w3 ⟨rfl, rfl⟩
      go_wp2_with fail
      refine HS.out.mono ?_
      rintro e w4 ⟨rfl, b4⟩
      have c4 := cell_later b4 hcell
      go_wp2_with fail
      go_quiet ((go_at_call 52; exact Calls.quiet_of_same (HGAP.out _)))
      go_wp2_with fail
      go_ret
      exact ⟨by rw [← HBB.out]; rfl, below_drewN b4 _⟩
    · have hb3 : b = false := by rw [← hbb]; exact decide_eq_false (by omega)
      subst hb3
      obtain ⟨z, hz⟩ : ∃ z, begP K = z := ⟨_, rfl⟩
      rw [he2, hz] at hs'
      rw [hz] at hf hlt
      have HS := Lib.hid hs'
      obtain ⟨z0, z1⟩ := hf
      obtain ⟨i0, i1⟩ := hi
      have hlt' : ¬ z < i := by omega
      have hlt2 : decide (z < i) = false := decide_eq_false hlt'
      clear h hs hs' hb hz HG hc he2 hgp hbb hg hk
      go_enter Try.func42, Try.ntmps42
      go_wp2_with fail
      refine (H.out _ (Below.refl _ _)).mono ?_
      rintro e w3 ⟨rfl, rfl⟩
      go_wp2_with fail
      refine HS.out.mono ?_
      rintro e w4 ⟨rfl, b4⟩
      go_wp2_with fail
      go_quiet (fail)
      go_wp2_with fail
      go_ret
      exact ⟨rfl, below_drewN b4 _⟩
end Go.Proofs.Ytdblicfcfmfneaa

namespace Go.Proofs.Ytdblicfcfmfneaa
set_option linter.unusedVariables false
set_option linter.unusedSimpArgs false
open Go.RowKit

/-- Whether an index is lost, of whatever has such an own strip. -/
def LosesH (w : World) (p : Option Addr) (i : Int) (b : Bool) : Prop := ∀ w', Below w.heap.size w w' → Calls Try.prog 42 #[.pointer p, .int .i64 i] w' fun e w'' => e = .returned (.bool b) ∧ Below w'.heap.size w' w''

set_option maxRecDepth 100000 in
set_option maxHeartbeats 1000000 in
theorem hlbelow_of (w : World) (p q : Option Addr) (l i s b : Int) (u : Bool) (h : OwnsH w p q) (hu : LosesH w p i u) (hl : u = true → ∃ B, p = some ⟨B, 0, none⟩ ∧ w.cell? ⟨B, 2, none⟩ = some (.int .u64 l))
    (hs : ∀ w', Below w.heap.size w w' → Calls Try.prog 41 #[.pointer q, .int .i64 i] w' fun e w'' => e = .returned (.int .u64 s) ∧ Below w'.heap.size w' w'') (s0 : 0 ≤ s) (l0 : 0 ≤ l) (hsl : s + l < 18446744073709551616)
    (hb : b = if u = true then s + l else s) :
    Calls Try.prog 26 #[.pointer p, .int .i64 i] w fun e w' => e = .returned (.tuple #[.int .u64 s, .int .u64 b]) ∧ Below w.heap.size w w' := by
  have H := Lib.hid h
  have HU := Lib.hid hu
  have HS := Lib.hid hs
  have e2 : IntKind.u64.wrap (s + l) = s + l := by rw [IntKind.wrap_u64]; omega
  cases u with
  | true =>
    obtain ⟨B, rfl, hcell⟩ := hl rfl
    rw [if_pos rfl] at hb
    subst hb
    clear h hu hs hl
    go_enter Try.func26, Try.ntmps26
    go_wp2_with fail
    refine (H.out _ (Below.refl _ _)).mono ?_
    rintro e w2 ⟨rfl, rfl⟩
    go_wp2_with fail
    refine (HS.out _ (Below.refl _ _)).mono ?_
    rintro e w3 ⟨rfl, b3⟩
    go_wp2_with fail
    refine (HU.out _ b3).mono ?_
    rintro e w4 ⟨rfl, b4⟩
    have b5 := b3.trans (b4.mono b3.size)
    have c5 := cell_later b5 hcell
    go_wp2_with fail
    go_quiet (fail)
    go_wp2_with fail
    go_ret2
    exact ⟨rfl, below_drewN b5 _⟩
  | false =>
    rw [if_neg (by decide)] at hb
    subst hb
    clear h hu hs hl
    go_enter Try.func26, Try.ntmps26
    go_wp2_with fail
    refine (H.out _ (Below.refl _ _)).mono ?_
    rintro e w2 ⟨rfl, rfl⟩
    go_wp2_with fail
    refine (HS.out _ (Below.refl _ _)).mono ?_
    rintro e w3 ⟨rfl, b3⟩
    go_wp2_with fail
    refine (HU.out _ b3).mono ?_
    rintro e w4 ⟨rfl, b4⟩
    have b5 := b3.trans (b4.mono b3.size)
    go_wp2_with fail
    go_ret2
    exact ⟨rfl, b5⟩

/-- How a round of drop stands: so many pairs are left. -/
def DropH (St : World → Nat → (Nat → Prop) → Int → List PairV → Prop) (w : World) (B : Nat) (S : Nat → Prop) (m : Int) (K : List PairV) (l i : Int) (k : Nat) (wr : World) : Prop :=
  ∃ S', HighRaw St wr B S' m (K.take k) (wrU (l + sumP (K.drop k))) ∧ Keeps S w wr ∧ (∀ j, S' j → S j ∨ w.heap.size ≤ j) ∧ ∀ p, p ∈ K.drop k → m ≤ gap i p.1
/-- What drop comes to. -/
def DroptH (St : World → Nat → (Nat → Prop) → Int → List PairV → Prop) (w : World) (B : Nat) (S : Nat → Prop) (m : Int) (K : List PairV) (l i : Int) (w' : World) : Prop :=
  ∃ k, k ≤ K.length ∧ DropH St w B S m K l i k w' ∧ (K.take k = [] ∨ gap i (lasP (K.take k)).1 < m)
theorem las_take {K : List PairV} {k : Nat} {p : PairV} (h : K[k]? = some p) : lasP (K.take (k + 1)) = p := by
  rw [take_snocP h, las_snoc]
theorem front_take {K : List PairV} {k : Nat} {p : PairV} (h : K[k]? = some p) : (K.take (k + 1)).dropLast = K.take k := by
  rw [take_snocP h, List.dropLast_concat]
theorem drop_step' {K : List PairV} {k : Nat} {p : PairV} (h : K[k]? = some p) : K.drop k = p :: K.drop (k + 1) := by
  obtain ⟨h1, rfl⟩ := List.getElem?_eq_some_iff.1 h
  exact List.drop_eq_getElem_cons h1
/-- A strip's own call, seen from the highcap. -/
theorem hraw_strip {St : World → Nat → (Nat → Prop) → Int → List PairV → Prop} {w w' : World} {B C : Nat} {S0 S1 : Nat → Prop} {m l : Int} {K : List PairV} (hb : w.heap[B]? = some (.cells #[.int .i64 m, .pointer (some ⟨C, 0, none⟩), .int .u64 l] 63 (0, 0)))
    (hn : ¬ S0 B) (hk : Keeps S0 w w') (hst : St w' C S1 m K) (hS : ∀ k, S1 k → S0 k ∨ w.heap.size ≤ k) : HighRaw St w' B (fun k => k = B ∨ S1 k) m K l := by
  have hlt := lt_of_block hb
  exact ⟨C, S1, (hk.block B hlt hn).trans hb, hst, fun h => by rcases hS B h with h1 | h1; exact hn h1; omega, fun k => Iff.rfl⟩

set_option maxRecDepth 100000 in
set_option maxHeartbeats 4000000 in
theorem hldrop_any {St : World → Nat → (Nat → Prop) → Int → List PairV → Prop} (D : StripDoes St) (w : World) (B : Nat) (S : Nat → Prop) (m : Int) (K : List PairV) (l i : Int) (h : HighRaw St w B S m K l) (hl : K.length ≤ 900) (hi : I64 i) (m1 : 1 ≤ m) (m2 : m ≤ 4096) (lw : Word l) :
    Calls Try.prog 44 #[.pointer (some ⟨B, 0, none⟩), .int .i64 i] w fun e w' => e = .returned (.tuple #[]) ∧ DroptH St w B S m K l i w' := by
  obtain ⟨C0, S00, hb0, hst0, _⟩ := id h
  have hok0 := (D.stp _ _ _ _ _ hst0).ok
  have HD := Lib.hid D
  have HO := Lib.hid hok0
  have HL := Lib.hid hl
  have HI := Lib.hid hi
  have H0 : Hid (DropH St w B S m K l i K.length w) := Lib.hid ⟨S, by rw [List.take_length, List.drop_length, sumP_nil, Int.add_zero, wrU_id lw.1 lw.2]; exact h, Keeps.refl _ _, fun j hj => Or.inl hj, fun p hp => by rw [List.drop_length] at hp; cases hp⟩
  have e1 : IntKind.u64.wrap m = m := by rw [IntKind.wrap_u64]; omega
  obtain ⟨i0, i1⟩ := hi
  clear D h hl hb0 hst0 hok0
  go_enter Try.func44, Try.ntmps44
  go_wp2_with fail
  go_loopg [] K.length (fun g wr => ∃ k : Nat, k ≤ K.length ∧ g = k ∧ DropH St w B S m K l i k wr)
  case atStart => exact ⟨K.length, Nat.le_refl _, rfl, H0.out⟩
  case round =>
    clear H0
    obtain ⟨k, hk, hgk, hR⟩ := hrel
    obtain ⟨S', hraw, hkp, hSS, hfar⟩ := hR
    have HRAW := Lib.hid hraw
    have HKP := Lib.hid hkp
    have HSS := Lib.hid hSS
    have HF := Lib.hid hfar
    obtain ⟨C, S0, hb, hst, hn, hS⟩ := hraw
    obtain ⟨c0, c1, c2⟩ := three_cells hb
    have HB := Lib.hid hb
    have HST := Lib.hid hst
    have HNB := Lib.hid hn
    have HS := Lib.hid hS
    have hlen : Hid ((K.take k).length ≤ 900) := Lib.hid (by rw [List.length_take]; have := HL.out; omega)
    have f2 := free8 hb 2
    clear hb hst hn hS hkp hSS hfar
    cases k with
    | succ k =>
      have hlt : k < K.length := by omega
      have hxk : K[k]? = some K[k] := List.getElem?_eq_getElem hlt
      generalize hit : K[k] = p at *
      have hok := HO.out p (List.mem_of_getElem? hxk)
      obtain ⟨px, pc⟩ := p
      have hF := las_take hxk
      have hE : (!(K.take (k + 1)).isEmpty) = true := by
        cases hd : K.take (k + 1) with
        | nil => have := congrArg List.length hd; rw [List.length_take, List.length_nil] at this; omega
        | cons a b => rfl
      have HSTEP : Hid (sumP (K.drop k) = pc + sumP (K.drop (k + 1))) := Lib.hid (by rw [drop_step' hxk, sumP_cons])
      have HEND := Lib.hid (HD.out.ends _ C S0 m _ HST.out hlen.out)
      have HFIR := Lib.hid (HD.out.last _ C S0 m _ HST.out hlen.out)
      rw [hF, hE] at HEND HFIR
      obtain ⟨z, hz⟩ : ∃ z, (firP (K.take (k + 1))).1 = z := ⟨_, rfl⟩
      rw [hz] at HEND
      obtain ⟨lk, hlk⟩ : ∃ lk, wrU (l + sumP (K.drop (k + 1))) = lk := ⟨_, rfl⟩
      obtain ⟨lk', hlk'⟩ : ∃ lk', wrU (l + sumP (K.drop k)) = lk' := ⟨_, rfl⟩
      have hlk0 : 0 ≤ lk ∧ lk < 18446744073709551616 := by rw [← hlk]; exact wrU_word _
      have HLK := Lib.hid hlk
      have HLK' := Lib.hid hlk'
      rw [hlk] at c2
      obtain ⟨⟨x0, x1⟩, y0, y1⟩ := hok
      simp only at x0 x1 y0 y1
      have u2 : IntKind.u64.wrap (lk + pc) = lk' := by rw [← hlk, ← hlk', wrU_add, HSTEP.out, Int.add_assoc, Int.add_comm pc]
      obtain ⟨d, hd⟩ : ∃ d, gap i px = d := ⟨_, rfl⟩
      have HP : Hid (m ≤ d → ∀ q, q ∈ K.drop k → m ≤ gap i q.1) := Lib.hid (fun hle q hq => by
        rw [drop_step' hxk] at hq
        rcases List.mem_cons.1 hq with h1 | h1
        · subst h1; rw [hd]; exact hle
        · exact HF.out q h1)
      have HQ : Hid (d < m → gap i (lasP (K.take (k + 1))).1 < m) := Lib.hid (fun hlt => by rw [hF, hd]; exact hlt)
      have HTL : Hid ((K.take (k + 1)).dropLast = K.take k) := Lib.hid (front_take hxk)
      have HGP : Hid (∀ w, Calls Try.prog 52 #[.int .i64 i, .int .i64 px] w fun e w' => e = .returned (.int .u64 d) ∧ w' = w) := Lib.hid (by rw [← hd]; exact fun w => (hlgap_any i px HI.out ⟨x0, x1⟩ w).mono fun e w' ⟨h1, h2⟩ => ⟨h1, h2.symm⟩)
      have HFIR' : Hid (∀ w', St w' C S0 m (K.take (k + 1)) → Calls Try.prog 54 #[.pointer (some ⟨C, 0, none⟩)] w' fun e w'' => ∃ S', e = .returned (.tuple #[.agg #[.int .i64 px, .int .u64 pc], .bool true]) ∧ St w'' C S' m (K.take k) ∧ Keeps S0 w' w'' ∧ (∀ k, S' k → S0 k ∨ w'.heap.size ≤ k)) := Lib.hid (fun w' h => by
        have := HD.out.last w' C S0 m _ h hlen.out
        rw [hF, hE, HTL.out] at this
        exact this)
      clear hit hz hlk hlk' hxk hF hE hd HFIR
      go_wp2_with fail
      refine HEND.out.mono ?_
      rintro e w2 ⟨rfl, b2⟩
      have d0 := cell_later b2 c0
      have d1 := cell_later b2 c1
      have d2 := cell_later b2 c2
      by_cases hdm : d < m
      · have HQ' := Lib.hid (HQ.out hdm)
        clear HP HQ
        go_wp2_with fail
        go_quiet ((go_at_call 52; exact Calls.quiet_of_same (HGP.out _)))
        go_wp2_with fail
        refine bodyPost_ret (results_none rfl _ _ _) rfl ?_
        have b3 : Below wr.heap.size wr (w2.drewN nq) := below_drewN b2 _
        exact ⟨rfl, k + 1, hk, ⟨S', hraw_call HD.out HRAW.out b3, HKP.out.trans (Keeps.of_below (S := S') b3) HSS.out, HSS.out, HF.out⟩, Or.inr HQ'.out⟩
      · have HP' := Lib.hid (HP.out (by omega))
        clear HP HQ
        go_wp2_with fail
        go_quiet ((go_at_call 52; exact Calls.quiet_of_same (HGP.out _)))
        have b3 : Below wr.heap.size wr (w2.drewN nq) := below_drewN b2 _
        have HB3 := Lib.hid b3
        go_wp2_with fail
        refine (HFIR'.out _ (HD.out.call HST.out b3)).mono ?_
        rintro e w4 ⟨S1, rfl, hst4, k4, hs4⟩
        have g2 := k4.cell HNB.out (cell_later b3 c2)
        have HST4 := Lib.hid hst4
        have HK4 := Lib.hid k4
        have HS4 := Lib.hid hs4
        clear hst4 k4 hs4 d0 d1 d2
        go_wp2_with fail
        have hb4 := (HK4.out.block B (lt_of_block ((HB3.out.block B (lt_of_block HB.out)).trans HB.out)) HNB.out).trans ((HB3.out.block B (lt_of_block HB.out)).trans HB.out)
        obtain ⟨X, hX, bX, x2, xf, p0, p1⟩ := box_facts w4 hb4 g2 (.int .i64 px) (.int .u64 pc) 34
        rw [hX]
        have HBX := Lib.hid bX
        have HB4 := Lib.hid hb4
        clear hX bX hb4 g2
        go_region
        go_wp2_with fail
        go_roundg k
        case measure => omega
        case rel =>
          have hr : HighRaw St w4 B (fun k => k = B ∨ S1 k) m (K.take k) lk := hraw_strip ((HB3.out.block B (lt_of_block HB.out)).trans (by rw [← HLK.out]; exact HB.out)) HNB.out HK4.out HST4.out HS4.out
          have bx2 : Below w4.heap.size w4 X.drew := HBX.out.drew
          have h1 := hraw_lost HD.out (hraw_call HD.out hr bx2) lk'
          have hk1 : Keeps S w w4 := (HKP.out.trans (Keeps.of_below (S := S') HB3.out) HSS.out).trans HK4.out (fun j hj => by
            rcases HSS.out j ((HS.out j).2 (Or.inr hj)) with h | h
            · exact Or.inl h
            · exact Or.inr h)
          have hk2 : Keeps S w X.drew := hk1.trans (Keeps.of_below (S := S0) bx2) (fun j hj => by
            rcases HSS.out j ((HS.out j).2 (Or.inr hj)) with h | h
            · exact Or.inl h
            · exact Or.inr h)
          refine ⟨k, by omega, rfl, (fun k => k = B ∨ S1 k), ?_, hk2.set 2 _ (HSS.out B ((HS.out B).2 (Or.inl rfl))), ?_, HP'.out⟩
          · rw [HLK'.out]
            exact h1
          · rintro j (rfl | hj)
            · exact HSS.out _ ((HS.out _).2 (Or.inl rfl))
            · rcases HS4.out j hj with h | h
              · exact HSS.out j ((HS.out j).2 (Or.inr h))
              · have := HB3.out.size; have := HKP.out.size; exact Or.inr (by omega)
    | zero =>
      have hde : K.take 0 = [] := List.take_zero
      have HDE := Lib.hid hde
      have HEND := Lib.hid (HD.out.ends _ C S0 m _ HST.out hlen.out)
      rw [hde] at HEND
      obtain ⟨z, hz⟩ : ∃ z, (lasP ([] : List PairV)).1 = z := ⟨_, rfl⟩
      obtain ⟨y, hy⟩ : ∃ y, (firP ([] : List PairV)).1 = y := ⟨_, rfl⟩
      rw [hz, hy] at HEND
      clear hz hy hde
      go_wp2_with fail
      refine HEND.out.mono ?_
      rintro e w2 ⟨rfl, b2⟩
      go_wp2_with fail
      go_quiet (fail)
      go_wp2_with fail
      refine bodyPost_ret (results_none rfl _ _ _) rfl ?_
      have b3 : Below wr.heap.size wr (w2.drewN nq) := below_drewN b2 _
      exact ⟨rfl, _, hk, ⟨S', hraw_call HD.out HRAW.out b3, HKP.out.trans (Keeps.of_below (S := S') b3) HSS.out, HSS.out, HF.out⟩, Or.inl HDE.out⟩

/-- What comes to a highcap, that there is room for. -/
theorem hput_math {m : Int} {K : List PairV} {l i c : Int} (hm1 : 1 ≤ m) (hg : GoodP K) (ho : ∀ p, p ∈ K → okP p) (hk : keepH m K = K) (hi : I64 i) (hc : 0 < c) (h0 : 0 ≤ l) (hs : l + sumP K + c ≤ 9223372036854775807) (hf : K = [] ∨ i < begP K + m) :
    keepH m (addP K i c) = addP (lowP K (i + m)) i c ∧ stErr m (lowP K (i + m)) i c = 0 ∧ stRow m (lowP K (i + m)) i c = keepH m (addP K i c) ∧ sumP (keepH m (addP K i c)) = sumP (lowP K (i + m)) + c ∧ sumP (lowP K (i + m)) ≤ sumP K ∧ 0 ≤ sumP (lowP K (i + m)) ∧ (lowP K (i + m)).length ≤ K.length := by
  have h1 := count_le_sum i (ok_pos ho)
  have e := keeph_near (c := c) (by omega) hg hk (by omega) hc hf
  have hp := ok_pos ho
  have hs2 := sumP_filter (fun p : PairV => decide (p.1 < i + m)) hp
  have hs3 : sumP (lowP K (i + m)) ≤ sumP K ∧ 0 ≤ sumP (lowP K (i + m)) := ⟨hs2.2, hs2.1⟩
  have hlen := keeph_len (m := m) (L := addP K i c) (by omega) (add_good hg (by omega))
  rw [e] at hlen
  have hq : ∀ p, p ∈ lowP K (i + m) → 0 ≤ p.2 := fun p hh => hp p (lowP_mem hh).1
  have h2 := count_le_sum i hq
  have hz : stErr m (lowP K (i + m)) i c = 0 := by
    unfold stErr
    rw [if_neg (by omega), if_neg (by omega), if_neg (by omega)]
  exact ⟨e, hz, by unfold stRow; rw [if_pos hz, e], by rw [e, add_sum (by omega)], hs3.1, hs3.2, List.length_filter_le _ _⟩

/-- What putting comes to, whatever the numbers. -/
def PutH (St : World → Nat → (Nat → Prop) → Int → List PairV → Prop) (w : World) (B : Nat) (S : Nat → Prop) (m : Int) (K : List PairV) (l i c : Int) (w' : World) : Prop :=
  ∃ S' K' l', HighRaw St w' B S' m K' l' ∧ Keeps S w w' ∧ (∀ j, S' j → S j ∨ w.heap.size ≤ j) ∧ Word l' ∧ K'.length ≤ K.length + 1 ∧
    ((losB m K i = true ∧ K' = K ∧ l' = wrU (l + c)) ∨ (losB m K i = false ∧ ∃ k, k ≤ K.length ∧ (∀ p, p ∈ K.drop k → m ≤ gap i p.1) ∧ (K.take k = [] ∨ gap i (lasP (K.take k)).1 < m) ∧ K' = stRow m (K.take k) i c ∧ l' = wrU (l + sumP (K.drop k))))

set_option maxRecDepth 100000 in
set_option maxHeartbeats 4000000 in
theorem hlputw_any {St : World → Nat → (Nat → Prop) → Int → List PairV → Prop} (D : StripDoes St) (w : World) (B : Nat) (S : Nat → Prop) (m : Int) (K : List PairV) (l i c : Int) (h : HighRaw St w B S m K l) (hl : K.length ≤ 900) (hi : I64 i) (hc : Word c) (m1 : 1 ≤ m) (m2 : m ≤ 4096) (lw : Word l) :
    Calls Try.prog 34 #[.pointer (some ⟨B, 0, none⟩), .int .i64 i, .int .u64 c] w fun e w' => e = .returned (.tuple #[]) ∧ PutH St w B S m K l i c w' := by
  obtain ⟨C, S0, hb, hst, hn, hS⟩ := id h
  have ho := (D.stp _ _ _ _ _ hst).ok
  have hei := end_i64 ho
  obtain ⟨c0, c1, c2⟩ := three_cells hb
  obtain ⟨u, hu⟩ : ∃ u, losB m K i = u := ⟨_, rfl⟩
  have HUN : Hid (Calls Try.prog 42 #[.pointer (some ⟨B, 0, none⟩), .int .i64 i] w fun e w'' => e = .returned (.bool u) ∧ Below w.heap.size w w'') := Lib.hid
    (hloses_of w _ _ m K i u (ownsh_at c1) hi hei (beg_i64 ho) m1 m2 (fun _ => ⟨B, rfl, c0⟩) (D.ends _ C S0 m K hst hl) hu)
  have HD := Lib.hid D
  have HRAW := Lib.hid h
  have HB := Lib.hid hb
  have HU := Lib.hid hu
  have hlt := lt_of_block hb
  have HI := Lib.hid hi
  have HC := Lib.hid hc
  have HLW := Lib.hid lw
  obtain ⟨w0, w1⟩ := hc
  obtain ⟨i0, i1⟩ := hi
  obtain ⟨l0, l1⟩ := lw
  cases u with
  | true =>
    obtain ⟨l', hl'⟩ : ∃ l', wrU (l + c) = l' := ⟨_, rfl⟩
    have HL' := Lib.hid hl'
    have e2 : IntKind.u64.wrap (l + c) = l' := by rw [← hl', IntKind.wrap_u64]; rfl
    clear D h hl hst hn hS hb hu hei c1 ho hl'
    go_enter Try.func34, Try.ntmps34
    go_wp2_with fail
    refine HUN.out.mono ?_
    rintro e wA ⟨rfl, bw⟩
    have g2 := cell_later bw c2
    have gf : wA.frozen? ⟨B, 2, none⟩ = false := free8 ((bw.block B hlt).trans HB.out) 2
    have HBW := Lib.hid bw
    clear bw
    go_wp2_with fail
    refine bodyPost_ret (results_none rfl _ _ _) rfl ?_
    refine ⟨rfl, S, K, l', hraw_lost HD.out (hraw_call HD.out HRAW.out HBW.out) l', (Keeps.of_below HBW.out).set 2 _ (Or.inl (hraw_B HRAW.out)), fun j hj => Or.inl hj, by rw [← HL'.out]; exact wrU_word _, Nat.le_succ _, Or.inl ⟨HU.out, rfl, HL'.out.symm⟩⟩
  | false =>
    have HDROP : Hid (∀ w', Below w.heap.size w w' → Calls Try.prog 44 #[.pointer (some ⟨B, 0, none⟩), .int .i64 i] w' fun e w'' => e = .returned (.tuple #[]) ∧ DroptH St w' B S m K l i w'') :=
      Lib.hid fun w' hb' => hldrop_any D w' B S m K l i (hraw_call D h hb') hl HI.out m1 m2 HLW.out
    have HL := Lib.hid hl
    clear D h hl hst hn hS hb hu hei c1 c2 ho
    go_enter Try.func34, Try.ntmps34
    go_wp2_with fail
    refine HUN.out.mono ?_
    rintro e wA ⟨rfl, bw⟩
    have HBW := Lib.hid bw
    clear bw
    go_wp2_with fail
    refine (HDROP.out _ HBW.out).mono ?_
    rintro e w3 ⟨rfl, k, hk, ⟨S3, hr3, k3, hs3, hfk⟩, hfir⟩
    obtain ⟨R, hR⟩ : ∃ R, K.take k = R := ⟨_, rfl⟩
    have hRl : R.length ≤ K.length := by rw [← hR, List.length_take]; omega
    have HRL := Lib.hid hRl
    obtain ⟨lk, hlk⟩ : ∃ lk, wrU (l + sumP (K.drop k)) = lk := ⟨_, rfl⟩
    rw [hlk, hR] at hr3
    have HR := Lib.hid hR
    have HLK := Lib.hid hlk
    have HFK := Lib.hid hfk
    have HFI := Lib.hid hfir
    have HK := Lib.hid hk
    have HK3 := Lib.hid k3
    have HS3 := Lib.hid hs3
    obtain ⟨C3, S4, hb3, hst3, hn3, hSS3⟩ := hr3
    obtain ⟨d0, d1, d2⟩ := three_cells hb3
    have HB3 := Lib.hid hb3
    have HST3 := Lib.hid hst3
    have HN3 := Lib.hid hn3
    have HSS3 := Lib.hid hSS3
    clear hb3 hst3 hn3 hSS3 k3 hs3 d0 d2 hR hlk hfk hfir hRl hk c0
    go_wp2_with fail
    refine (HD.out.add _ C3 S4 m R i c HST3.out (by have := HRL.out; have := HL.out; omega) HI.out HC.out).mono ?_
    rintro e w5 ⟨S5, rfl, hst5, k5, hs5⟩
    have HST5 := Lib.hid hst5
    clear hst5
    go_wp2_with fail
    refine bodyPost_end (results_none rfl _ _ _) rfl ?_
    have hr5 := hraw_strip HB3.out HN3.out k5 HST5.out hs5
    refine ⟨rfl, _, _, lk, hr5, ((Keeps.of_below HBW.out).trans HK3.out (fun j hj => Or.inl hj)).trans k5 ?_, ?_, by rw [← HLK.out]; exact wrU_word _, by have := stRow_len m R i c; have := HRL.out; omega, Or.inr ⟨HU.out, k, HK.out, HFK.out, HFI.out, by rw [HR.out], HLK.out.symm⟩⟩
    · intro j hj
      rcases HS3.out j ((HSS3.out j).2 (Or.inr hj)) with h | h
      · exact Or.inl h
      · have := HBW.out.size; exact Or.inr (by omega)
    · rintro j (rfl | hj)
      · rcases HS3.out j ((HSS3.out j).2 (Or.inl rfl)) with h | h
        · exact Or.inl h
        · have := HBW.out.size; exact Or.inr (by omega)
      · rcases hs5 j hj with h | h
        · rcases HS3.out j ((HSS3.out j).2 (Or.inr h)) with h | h
          · exact Or.inl h
          · have := HBW.out.size; exact Or.inr (by omega)
        · have := HBW.out.size; have := HK3.out.size; exact Or.inr (by omega)

/-- .. where there is room. -/
theorem hput_eq {m : Int} {K : List PairV} {l i c : Int} {K' : List PairV} {l' : Int} (hcase : (losB m K i = true ∧ K' = K ∧ l' = wrU (l + c)) ∨ (losB m K i = false ∧ ∃ k, k ≤ K.length ∧ (∀ p, p ∈ K.drop k → m ≤ gap i p.1) ∧ (K.take k = [] ∨ gap i (lasP (K.take k)).1 < m) ∧ K' = stRow m (K.take k) i c ∧ l' = wrU (l + sumP (K.drop k))))
    (hg : GoodP K) (ho : ∀ p, p ∈ K → okP p) (hkp : keepH m K = K) (hi : I64 i) (hc : 0 < c) (m1 : 1 ≤ m) (l0 : 0 ≤ l) (hs : l + sumP K + c ≤ 9223372036854775807) :
    K' = keepH m (addP K i c) ∧ l' = l + sumP K + c - sumP (keepH m (addP K i c)) := by
  have hsp := sumP_pos (ok_pos ho)
  have hcn := count_le_sum i (ok_pos ho)
  rcases hcase with ⟨h1, rfl, rfl⟩ | ⟨h1, k, hkl, h2, h3, rfl, rfl⟩
  · have hfarK := los_true.1 h1
    rw [keeph_far (c := c) (by omega) hg hkp (by omega) hc hfarK.1 (by have := hfarK.2; omega), show l + sumP K' + c - sumP K' = l + c by omega]
    exact ⟨rfl, wrU_id (by omega) (by omega)⟩
  · have hnearK := los_false h1
    have hnear : ∀ p, p ∈ K → i - p.1 < m := fun p hp => by
      have := beg_le hg p hp
      rcases hnearK with h1 | h1
      · rw [h1] at hp; cases hp
      · omega
    obtain ⟨p1, p2, p3, p4, p5, p6, p7⟩ := hput_math (c := c) m1 hg ho hkp hi hc l0 hs hnearK
    have e : lowP K (i + m) = K.take k := by
      refine low_take hg (fun p hp => ?_) ?_
      · have h4 := h2 p hp
        have h5 := hnear p (List.mem_of_mem_drop hp)
        unfold gap at h4
        split at h4 <;> omega
      · rcases h3 with h | h
        · exact Or.inl h
        · right
          unfold gap at h
          split at h <;> omega
    have es := sum_low_take (K := K) (k := k)
    rw [e] at p3 p4 p5 p6
    rw [p3, wrU_id (by omega) (by omega), p4]
    exact ⟨rfl, by omega⟩
theorem hputw_strong {St : World → Nat → (Nat → Prop) → Int → List PairV → Prop} {w w' : World} {B : Nat} {S : Nat → Prop} {m : Int} {K : List PairV} {l i c : Int} (h : PutH St w B S m K l i c w') (hg : GoodP K) (ho : ∀ p, p ∈ K → okP p) (hkp : keepH m K = K) (hi : I64 i) (hc : 0 < c) (m1 : 1 ≤ m)
    (l0 : 0 ≤ l) (hs : l + sumP K + c ≤ 9223372036854775807) : ∃ S', HighRaw St w' B S' m (keepH m (addP K i c)) (l + sumP K + c - sumP (keepH m (addP K i c))) ∧ Keeps S w w' ∧ (∀ j, S' j → S j ∨ w.heap.size ≤ j) := by
  obtain ⟨S', K', l', hr, hk, hS, _, _, hcase⟩ := h
  obtain ⟨rfl, rfl⟩ := hput_eq hcase hg ho hkp hi hc m1 l0 hs
  exact ⟨S', hr, hk, hS⟩
theorem hlput_any {St : World → Nat → (Nat → Prop) → Int → List PairV → Prop} (D : StripDoes St) (w : World) (B : Nat) (S : Nat → Prop) (m : Int) (K : List PairV) (l i c : Int) (h : HighRaw St w B S m K l) (hg : GoodP K) (ho : ∀ p, p ∈ K → okP p) (hkp : keepH m K = K) (hl : K.length ≤ 900) (hi : I64 i) (hc : 0 < c) (m1 : 1 ≤ m) (m2 : m ≤ 4096)
    (l0 : 0 ≤ l) (hs : l + sumP K + c ≤ 9223372036854775807) :
    Calls Try.prog 34 #[.pointer (some ⟨B, 0, none⟩), .int .i64 i, .int .u64 c] w fun e w' => e = .returned (.tuple #[]) ∧ ∃ S', HighRaw St w' B S' m (keepH m (addP K i c)) (l + sumP K + c - sumP (keepH m (addP K i c))) ∧ Keeps S w w' ∧ (∀ j, S' j → S j ∨ w.heap.size ≤ j) := by
  have hsp := sumP_pos (ok_pos ho)
  exact (hlputw_any D w B S m K l i c h hl hi ⟨by omega, by omega⟩ m1 m2 ⟨l0, by omega⟩).mono fun e w' ⟨h1, h2⟩ => ⟨h1, hputw_strong h2 hg ho hkp hi hc m1 l0 hs⟩
end Go.Proofs.Ytdblicfcfmfneaa

/-
  Walks: the landed code of runs: Good, Total.
-/
namespace Go.Proofs.Ytdblicfcfmfneaa
set_option linter.unusedVariables false
set_option linter.unusedSimpArgs false
open Go.RowKit

set_option maxRecDepth 100000 in
set_option maxHeartbeats 1000000 in
theorem good_big (w : World) (A : Option Addr) (cap : Nat) (L : List PairV) (most : Int) (b : Bool) (h : Pairs w A L) (hl : L.length ≤ 100000) (hm : I64 most) (hbb : (goodB L && decide ((L.length : Int) ≤ most)) = b) :
    Calls Try.prog 53 #[.slice A L.length cap, .int .i64 most] w fun e w' => e = .returned (.bool b) ∧ Below w.heap.size w w' := by
  have HB := Lib.hid hbb
  have HI := Lib.hid h
  obtain ⟨m0, m1⟩ := hm
  clear hbb h
  by_cases hlen : (L.length : Int) ≤ most
  · have q0 : ¬ most < (L.length : Int) := by omega
    have HB2 : Hid (goodB L = b) := Lib.hid (by rw [← HB.out, decide_eq_true hlen, Bool.and_true])
    clear HB hlen
    go_enter Try.func53, Try.ntmps53
    go_wp2_with fail
    go_loopw [13] (fun j wr => ∃ k : Nat, k ≤ L.length ∧ j = .int .i64 k ∧ GoodP (L.take k) ∧ Below w.heap.size w wr) (fun j _ => L.length - (intOf j).toNat)
    case atStart => exact ⟨0, Nat.zero_le _, rfl, good_nil, Below.refl _ _⟩
    case round =>
      obtain ⟨k, hk, rfl, hg, hb2⟩ := hrel
      have hbs := hb2.size
      by_cases hlt : k < L.length
      · have kk : (k : Int) < L.length := by omega
        have hxk : L[k]? = some L[k] := List.getElem?_eq_getElem hlt
        generalize hit : L[k] = p at *
        have hst := good_step hxk hg
        obtain ⟨px, pc⟩ := p
        obtain ⟨b0, off, rfl, hbl, c0, c1⟩ := (HI.out.call hb2).at_ k _ hxk
        have hok := HI.out.ok _ (List.mem_of_getElem? hxk)
        obtain ⟨⟨o1, o2⟩, o3, o4⟩ := hok
        have HST := Lib.hid hst
        have hneg : ∀ k : Nat, ¬ GoodP (L.take k) → ¬ GoodP L := fun k h hg => h (good_take _ hg)
        have HN := Lib.hid hneg
        simp only at c0 c1 o1 o2 o3 o4 HST
        clear hxk hit hg hst hneg
        by_cases h1 : pc = 0
        · have HE : Hid (b = false) := Lib.hid (by rw [← HB2.out]; exact goodB_false.2 (HN.out (k + 1) (fun hg => by have := (HST.out.1 hg).1; omega)))
          subst h1
          go_wp2_with fail
          go_ret
          exact ⟨by rw [HE.out]; rfl, hb2.alloc hbs _⟩
        · have h1' : (pc == 0) = false := by simpa using h1
          by_cases h2 : 9223372036854775807 < pc
          · have HE : Hid (b = false) := Lib.hid (by rw [← HB2.out]; exact goodB_false.2 (HN.out (k + 1) (fun hg => by have := (HST.out.1 hg).1; omega)))
            go_wp2_with fail
            go_ret
            exact ⟨by rw [HE.out]; rfl, hb2.alloc hbs _⟩
          · by_cases h0 : k = 0
            · subst h0
              simp only [Nat.zero_mul, Nat.add_zero, Nat.zero_add] at c0 c1
              have HG : Hid (GoodP (L.take (0 + 1))) := Lib.hid (HST.out.2 ⟨⟨by omega, by omega⟩, fun h => by omega⟩)
              go_wp2_with fail
              go_quiet (fail)
              go_wp2_with fail
              go_roundw
              case rel => exact ⟨1, by omega, by go_num, HG.out, below_drewM (hb2.alloc hbs _) _⟩
              case measure => simp [intOf]; omega
            · obtain ⟨u, hu⟩ : ∃ u, k = u + 1 := ⟨k - 1, by omega⟩
              have hxu : L[u]? = some L[u] := List.getElem?_eq_getElem (by omega)
              generalize hiu : L[u] = q at *
              obtain ⟨qx, qc⟩ := q
              obtain ⟨b1, off1, ea, hbl1, d0, d1⟩ := (HI.out.call hb2).at_ u _ hxu
              obtain ⟨rfl, rfl⟩ : b0 = b1 ∧ off = off1 := by
                have := Option.some.inj ea
                exact ⟨(Addr.mk.inj this).1, (Addr.mk.inj this).2.1⟩
              simp only at d0 d1
              have u1 : IntKind.i64.wrap ((k : Int) - 1) = (u : Int) := by rw [IntKind.wrap_i64]; omega
              have u2 : (k : Int) - 1 = (u : Int) := by omega
              have u3 : (u : Int) < L.length := by omega
              have k0 : 0 < k := by omega
              have k0d : decide (0 < k) = true := decide_eq_true k0
              have HU : Hid (L[k - 1]? = some (qx, qc)) := Lib.hid (by rw [hu, Nat.add_sub_cancel]; exact hxu)
              have HK := Lib.hid hu
              have hok := HI.out.ok _ (List.mem_of_getElem? hxu)
              clear ea hxu hiu h0 hu
              by_cases h3 : qx < px
              · have HG : Hid (GoodP (L.take (k + 1))) := Lib.hid (HST.out.2 ⟨⟨by omega, by omega⟩, fun h z hz => by rw [HU.out] at hz; have := Option.some.inj hz; rw [← this]; exact h3⟩)
                have h3' : decide (px ≤ qx) = false := decide_eq_false (by omega)
                go_wp2_with fail
                go_quiet (fail)
                go_wp2_with fail
                go_roundw
                case rel => exact ⟨k + 1, by omega, by go_num, HG.out, below_drewM (hb2.alloc hbs _) _⟩
                case measure => simp [intOf]; omega
              · have HE : Hid (b = false) := Lib.hid (by rw [← HB2.out]; exact goodB_false.2 (HN.out (k + 1) (fun hg => h3 ((HST.out.1 hg).2 (by omega) _ HU.out))))
                have h3' : decide (px ≤ qx) = true := decide_eq_true (by omega)
                go_wp2_with fail
                go_quiet (fail)
                go_wp2_with fail
                go_ret
                exact ⟨by rw [HE.out]; rfl, below_drewM (hb2.alloc hbs _) _⟩
      · obtain rfl : k = L.length := by omega
        rw [List.take_length] at hg
        have HE : Hid (b = true) := Lib.hid (by rw [← HB2.out]; exact goodB_true.2 hg)
        have kk : ¬ (L.length : Int) < L.length := by omega
        clear hg
        go_wp2_with fail
        go_ret
        exact ⟨by rw [HE.out]; rfl, hb2⟩
  · have q0 : most < (L.length : Int) := by omega
    have HE : Hid (b = false) := Lib.hid (by rw [← HB.out, decide_eq_false hlen, Bool.and_false])
    clear HB hlen
    go_enter Try.func53, Try.ntmps53
    go_wp2_with fail
    go_ret
    exact ⟨by rw [HE.out]; rfl, Below.refl _ _⟩
theorem good_does : GoodDoes := fun w A cap L most b h hl hm hbb => good_big w A cap L most b h (by omega) hm hbb

theorem psum_step {L : List PairV} {k : Nat} {p : PairV} (h : L[k]? = some p) : sumP (L.take (k + 1)) = sumP (L.take k) + p.2 := by rw [take_snocP h, sumP_app, sumP_one]

set_option maxRecDepth 100000 in
set_option maxHeartbeats 1000000 in
theorem total_does : TotalDoes := by
  intro w A cap L n b h hl hn hb
  have HI := Lib.hid h
  have HN := Lib.hid hn
  have HB := Lib.hid hb
  have HS := Lib.hid (fun k => sumP_take (L := L) k (ok_pos h.ok))
  clear h hn hb
  go_enter Try.func50, Try.ntmps50
  go_wp2_with fail
  go_loopw [4, 11] (fun s j wr => ∃ (k : Nat) (m : Int), k ≤ L.length ∧ j = .int .i64 k ∧ s = .int .u64 m ∧ sumP (L.take k) = m ∧ m ≤ 9223372036854775807 ∧ Below w.heap.size w wr) (fun _ j _ => L.length - (intOf j).toNat)
  case atStart => exact ⟨0, 0, Nat.zero_le _, rfl, rfl, rfl, by decide, Below.refl _ _⟩
  case round =>
    obtain ⟨k, m, hk, rfl, rfl, hm, hm1, hb2⟩ := hrel
    have HM := Lib.hid hm
    have m0 := (HS.out k).1
    rw [hm] at m0
    have hbs := hb2.size
    clear hm
    by_cases hlt : k < L.length
    · have kk : (k : Int) < L.length := by omega
      have hxk : L[k]? = some L[k] := List.getElem?_eq_getElem hlt
      generalize hit : L[k] = p at *
      obtain ⟨px, pc⟩ := p
      obtain ⟨b0, off, rfl, hbl, c0, c1⟩ := (HI.out.call hb2).at_ k _ hxk
      have hok := HI.out.ok _ (List.mem_of_getElem? hxk)
      have hst := psum_step hxk
      simp only at c0 c1 hst
      rw [HM.out] at hst
      have s1 := (HS.out (k + 1))
      rw [hst] at s1
      have HST := Lib.hid hst
      have HPC : Hid (Word pc) := Lib.hid hok.2
      obtain ⟨o3, o4⟩ := HPC.out
      obtain ⟨q, hq⟩ : ∃ q, plus2Q m pc = q := ⟨_, rfl⟩
      obtain ⟨ok, hok2⟩ : ∃ ok, plus2B m pc = ok := ⟨_, rfl⟩
      have HQ := Lib.hid hq
      have HOK := Lib.hid hok2
      have HSM := Lib.hid s1
      clear hxk hit hok hst hq hok2 s1
      go_wp2_with fail
      refine (plus_two m pc q ok _ _ _ ⟨by omega, by omega⟩ HPC.out (by go_simp) (by go_simp) HQ.out HOK.out).mono ?_
      rintro e w' ⟨rfl, rfl⟩
      cases ok with
      | true =>
        have HQ2 : Hid (q = m + pc ∧ m + pc ≤ 9223372036854775807) := Lib.hid (by
          have h1 := HOK.out; unfold plus2B at h1
          have h2 := HQ.out; unfold plus2Q plus2B at h2; rw [h1] at h2
          exact ⟨h2.symm, of_decide_eq_true h1⟩)
        go_wp2_with fail
        go_roundw
        case rel => exact ⟨k + 1, q, by omega, by go_num, rfl, by rw [HST.out, HQ2.out.1], by rw [HQ2.out.1]; exact HQ2.out.2, (hb2.alloc hbs _).alloc (by simp; omega) _⟩
        case measure => simp [intOf]; omega
      | false =>
        have HE : Hid (b = false ∧ n = 0) := Lib.hid (by
          have h1 := HOK.out; unfold plus2B at h1
          have h2 := of_decide_eq_false h1
          have h3 := HSM.out.2
          have e : fitsB L = false := by unfold fitsB; apply decide_eq_false; omega
          exact ⟨by rw [← HB.out, e], by rw [← HN.out]; unfold totalP; rw [e]; rfl⟩)
        go_wp2_with fail
        go_ret2
        exact ⟨ret_pair HE.out.2.symm HE.out.1.symm, (hb2.alloc hbs _).alloc (by simp; omega) _⟩
    · obtain rfl : k = L.length := by omega
      rw [List.take_length] at HM
      have HE : Hid (m = n ∧ true = b) := Lib.hid (by
        have e : fitsB L = true := by unfold fitsB; apply decide_eq_true; rw [HM.out]; exact hm1
        exact ⟨by rw [← HN.out, ← HM.out]; unfold totalP; rw [e]; rfl, by rw [← HB.out, e]⟩)
      have kk : ¬ (L.length : Int) < L.length := by omega
      go_wp2_with fail
      go_ret2
      exact ⟨ret_pair HE.out.1 HE.out.2, hb2⟩
end Go.Proofs.Ytdblicfcfmfneaa

/-
  Walks: package highcap: New, Add, fit, Load.
-/
namespace Go.Proofs.Ytdblicfcfmfneaa
set_option linter.unusedVariables false
set_option linter.unusedSimpArgs false
open Go.RowKit

/-- At block B lies a highcap of m indexes that keeps K, of T in all. -/
def HighX (St : World → Nat → (Nat → Prop) → Int → List PairV → Prop) (w : World) (B : Nat) (S : Nat → Prop) (m : Int) (K : List PairV) (T : Int) : Prop := Hgp m K T ∧ HighRaw St w B S m K (T - sumP K)

set_option maxHeartbeats 1000000 in
theorem hlnew_any {St : World → Nat → (Nat → Prop) → Int → List PairV → Prop} (D : StripDoes St) (w : World) (m : Int) (h1 : 1 ≤ m) (h2 : m ≤ 4096) :
    Calls Try.prog 10 #[.int .i64 m] w fun e w' => ∃ B S, e = .returned (.tuple #[.pointer (some ⟨B, 0, none⟩), .int .i64 0]) ∧ HighRaw St w' B S m [] 0 ∧ (∀ k, S k → w.heap.size ≤ k) ∧ Below w.heap.size w w' := by
  have HD := Lib.hid D
  clear D
  go_enter Try.func10, Try.ntmps10
  go_wp2_with fail
  refine (HD.out.new _ m h1 h2).mono ?_
  rintro e w1 ⟨C, S0, rfl, hst, hs0, b1⟩
  have HST := Lib.hid hst
  have HS0 := Lib.hid hs0
  have z1 := b1.size
  clear hst hs0
  go_wp2_with fail
  refine bodyPost_ret (v := .tuple #[.pointer (some ⟨w1.heap.size, 0, none⟩), .int .i64 0]) (by simp [results, Try.results10, go_sem]) rfl ?_
  have hb : Below w1.heap.size w1 (w1.alloc (.cells #[.int .i64 m, .pointer (some ⟨C, 0, none⟩), .int .u64 0] 63)) := (Below.refl _ _).alloc (Nat.le_refl _) _
  refine ⟨w1.heap.size, fun k => k = w1.heap.size ∨ S0 k, rfl, ⟨C, S0, heap_alloc_new _ _, HD.out.call HST.out hb, fun h => by have := HD.out.lt _ _ _ _ _ HST.out _ h; omega, fun k => Iff.rfl⟩, ?_, b1.alloc z1 _⟩
  rintro k (rfl | hk)
  · exact z1
  · exact HS0.out k hk
set_option maxHeartbeats 1000000 in
theorem hlbad_any {St : World → Nat → (Nat → Prop) → Int → List PairV → Prop} (D : StripDoes St) (w : World) (m : Int) (hm : I64 m) (hb : m < 1 ∨ 4096 < m) :
    Calls Try.prog 10 #[.int .i64 m] w fun e w' => e = .returned (.tuple #[.pointer none, .int .i64 1]) ∧ Below w.heap.size w w' := by
  have HB := Lib.hid (D.bad w m hm hb)
  clear D hb
  go_enter Try.func10, Try.ntmps10
  go_wp2_with fail
  refine HB.out.mono ?_
  rintro e w1 ⟨rfl, b1⟩
  go_wp2_with fail
  go_ret2
  exact ⟨rfl, b1⟩

/-- How many there are in all. -/
theorem hltotal_raw {St : World → Nat → (Nat → Prop) → Int → List PairV → Prop} (D : StripDoes St) {w : World} {B : Nat} {S : Nat → Prop} {m T : Int} {K : List PairV} (h : HighX St w B S m K T) (hl : K.length ≤ 900) :
    Calls Try.prog 18 #[.pointer (some ⟨B, 0, none⟩)] w fun e w' => e = .returned (.int .u64 T) ∧ Below w.heap.size w w' := by
  obtain ⟨hp, C, S0, hb, hst, hn, hS⟩ := h
  obtain ⟨c0, c1, c2⟩ := three_cells hb
  have h1 := hltotal_of w _ _ (T - sumP K) (sumP K) (ownsh_at c1) (lostsh_at c2) (D.total _ _ _ _ _ hst hl) (by have := hp.sum; omega) hp.pos (by have := hp.top; omega)
  rwa [show T - sumP K + sumP K = T by omega] at h1

set_option maxRecDepth 100000 in
set_option maxHeartbeats 2000000 in
theorem hladd_any {St : World → Nat → (Nat → Prop) → Int → List PairV → Prop} (D : StripDoes St) (w : World) (B : Nat) (S : Nat → Prop) (m : Int) (K : List PairV) (T i c : Int) (h : HighX St w B S m K T) (hl : K.length ≤ 700) (hi : I64 i) (hc : Word c) :
    Calls Try.prog 11 #[.pointer (some ⟨B, 0, none⟩), .int .i64 i, .int .u64 c] w fun e w' => ∃ S', e = .returned (.int .i64 (lwErr T c)) ∧ HighX St w' B S' m (hgRow m K T i c) (lwSum T c) ∧ Keeps S w w' ∧ (∀ k, S' k → S k ∨ w.heap.size ≤ k) := by
  have HT := Lib.hid (hltotal_raw D h (by omega))
  have HX := Lib.hid h
  have HD := Lib.hid D
  have HI := Lib.hid hi
  have hp := h.1
  have HP := Lib.hid hp
  have t1 := hp.top
  have t0 : 0 ≤ T := by have := hp.pos; have := hp.sum; omega
  obtain ⟨i0, i1⟩ := hi
  obtain ⟨w0, w1⟩ := hc
  have hcases := lwErr_cases (T := T) (c := c) ⟨w0, w1⟩
  have HSAME : Hid (∀ w', Below w.heap.size w w' → lwErr T c ≠ 0 → HighX St w' B S m (hgRow m K T i c) (lwSum T c)) := Lib.hid (fun w' hb he => by
    unfold hgRow lwSum
    rw [if_neg he, if_neg he]
    exact ⟨HP.out, hraw_call HD.out HX.out.2 hb⟩)
  clear D h hp
  rcases hcases with ⟨rfl, e⟩ | ⟨hc0, hfull, e⟩ | ⟨hc0, hfit, e⟩
  · have E := Lib.hid e
    clear e
    go_enter Try.func11, Try.ntmps11
    go_wp2_with fail
    go_ret
    exact ⟨S, ret_int E.out.symm, HSAME.out _ (Below.refl _ _) (by rw [E.out]; decide), Keeps.refl _ _, fun k hk => Or.inl hk⟩
  · have E := Lib.hid e
    have c00 : (c == 0) = false := by simp; omega
    obtain ⟨pb, pq⟩ := plus2_no (x := T) (y := c) (by omega)
    have PB := Lib.hid pb
    have PQ := Lib.hid pq
    clear e pb pq
    go_enter Try.func11, Try.ntmps11
    go_wp2_with fail
    refine HT.out.mono ?_
    rintro e w2 ⟨rfl, b2⟩
    go_wp2_with fail
    refine (plus_two T c 0 false _ _ _ ⟨by omega, by omega⟩ ⟨by omega, by omega⟩ (two_words w2 _ _ _).1 (two_words w2 _ _ _).2 PQ.out PB.out).mono ?_
    rintro e w3 ⟨rfl, rfl⟩
    go_wp2_with fail
    go_ret
    have hb := b2.alloc b2.size (.cells #[.int .u64 T, .int .u64 c] 32)
    exact ⟨S, ret_int E.out.symm, HSAME.out _ hb (by rw [E.out]; decide), Keeps.of_below hb, fun k hk => Or.inl hk⟩
  · have E := Lib.hid e
    have c00 : (c == 0) = false := by simp; omega
    obtain ⟨pb, pq⟩ := plus2_yes (x := T) (y := c) (by omega)
    have PB := Lib.hid pb
    have PQ := Lib.hid pq
    have HPUT : Hid (∀ w', Below w.heap.size w w' → Calls Try.prog 34 #[.pointer (some ⟨B, 0, none⟩), .int .i64 i, .int .u64 c] w' fun e w'' => e = .returned (.tuple #[]) ∧ ∃ S', HighRaw St w'' B S' m (keepH m (addP K i c)) (T + c - sumP (keepH m (addP K i c))) ∧ Keeps S w' w'' ∧ (∀ j, S' j → S j ∨ w'.heap.size ≤ j)) := Lib.hid (fun w' hb => by
      have hp := HP.out
      have h1 := hlput_any HD.out w' B S m K (T - sumP K) i c (hraw_call HD.out HX.out.2 hb) hp.good hp.ok hp.kept (by omega) ⟨i0, i1⟩ hc0 hp.m1 hp.m2 (by have := hp.sum; omega) (by omega)
      rwa [show T - sumP K + sumP K + c = T + c by omega] at h1)
    clear e pb pq
    go_enter Try.func11, Try.ntmps11
    go_wp2_with fail
    refine HT.out.mono ?_
    rintro e w2 ⟨rfl, b2⟩
    go_wp2_with fail
    refine (plus_two T c (T + c) true _ _ _ ⟨by omega, by omega⟩ ⟨by omega, by omega⟩ (two_words w2 _ _ _).1 (two_words w2 _ _ _).2 PQ.out PB.out).mono ?_
    rintro e w3 ⟨rfl, rfl⟩
    have hb := b2.alloc b2.size (.cells #[.int .u64 T, .int .u64 c] 32)
    go_wp2_with fail
    refine (HPUT.out _ hb).mono ?_
    rintro e w4 ⟨rfl, S4, hr4, k4, hs4⟩
    have HR4 := Lib.hid hr4
    have HB := Lib.hid hb
    clear hr4 hb
    go_wp2_with fail
    go_ret
    refine ⟨S4, ret_int E.out.symm, ?_, (Keeps.of_below HB.out).trans k4 (fun j hj => Or.inl hj), fun j hj => ?_⟩
    · unfold hgRow lwSum
      rw [if_pos E.out, if_pos E.out]
      exact ⟨HP.out.add HI.out hc0 (by omega), HR4.out⟩
    · rcases hs4 j hj with h | h
      · exact Or.inl h
      · have := HB.out.size; exact Or.inr (by omega)

set_option maxRecDepth 100000 in
set_option maxHeartbeats 2000000 in
theorem hlfit_any (w : World) (m : Int) (A : Option Addr) (cap : Nat) (L : List PairV) (l : Int) (b : Bool) (h : Pairs w A L) (hl : L.length ≤ 900) (hw : Word l) (m1 : 1 ≤ m) (m2 : m ≤ 4096) (hb : loadB m L l = b) :
    Calls Try.prog 43 #[.int .i64 m, .slice A L.length cap, .int .u64 l] w fun e w' => e = .returned (.bool b) ∧ Below w.heap.size w w' := by
  have HP := Lib.hid h
  have HL := Lib.hid hl
  obtain ⟨l0, l1⟩ := hw
  obtain ⟨g, hg⟩ : ∃ g, (goodB L && decide ((L.length : Int) ≤ m)) = g := ⟨_, rfl⟩
  have HG := Lib.hid (good_does w A cap L m g h (by omega) ⟨by omega, by omega⟩ hg)
  unfold loadB at hb
  rw [hg] at hb
  cases g with
  | false =>
    simp only [Bool.false_and] at hb
    subst hb
    clear h hg
    go_enter Try.func43, Try.ntmps43
    go_wp2_with fail
    refine HG.out.mono ?_
    rintro e w2 ⟨rfl, b2⟩
    go_wp2_with fail
    go_ret
    exact ⟨rfl, b2⟩
  | true =>
    have hgood : GoodP L := goodB_true.1 (Bool.and_eq_true_iff.1 hg).1
    simp only [Bool.true_and] at hb
    by_cases hL : L = []
    · have hb2 : (l == 0) = b := by
        rw [← hb, hL]
        simp
        rw [show sumP [] = 0 from rfl]
        by_cases hz : l = 0 <;> simp [hz]
      subst hL
      clear hb h hg
      go_enter Try.func43, Try.ntmps43
      go_wp2_with fail
      refine HG.out.mono ?_
      rintro e w2 ⟨rfl, b2⟩
      go_wp2_with fail
      go_ret
      exact ⟨by rw [← hb2]; rfl, b2⟩
    · have hpos : 0 < L.length := by cases L with
        | nil => exact absurd rfl hL
        | cons p r => simp
      have hb2 : (decide (sumP L + l ≤ 9223372036854775807) && decide (endP L - (firP L).1 < m)) = b := by
        rw [← hb]; simp [hL]
      obtain ⟨px, pc, hx0⟩ : ∃ px pc, L[0]? = some (px, pc) := ⟨L[0].1, L[0].2, List.getElem?_eq_getElem hpos⟩
      obtain ⟨qx, qc, hx1⟩ : ∃ qx qc, L[L.length - 1]? = some (qx, qc) := ⟨L[L.length - 1].1, L[L.length - 1].2, List.getElem?_eq_getElem (by omega)⟩
      have h1 : (firP L).1 = px := by unfold firP; rw [List.head?_eq_getElem?, hx0]; rfl
      have h2 : endP L = qx := by unfold endP lasP; rw [List.getLast?_eq_getElem?, hx1]; rfl
      have hle : px ≤ qx := by
        rw [← h1, ← h2]
        obtain ⟨p, hp, e⟩ := end_mem hL
        rw [← e]; exact good_fir_end hgood p hp
      have hsp := sumP_pos (ok_pos h.ok)
      rw [h1, h2] at hb2
      obtain ⟨nn, hnn⟩ : ∃ nn, L.length - 1 = nn := ⟨_, rfl⟩
      rw [hnn] at hx1
      obtain ⟨ga, off, rfl, hbl, d0, _⟩ := h.at_ 0 _ hx0
      obtain ⟨ga', off', e', _, g0, _⟩ := h.at_ nn _ hx1
      obtain ⟨rfl, rfl, _⟩ := Addr.mk.inj (Option.some.inj e')
      simp only [Nat.zero_mul, Nat.add_zero] at d0
      simp only at g0
      have ok0 := (h.ok _ (List.mem_of_getElem? hx0)).1
      have ok1 := (h.ok _ (List.mem_of_getElem? hx1)).1
      simp only at ok0 ok1
      have hgap : gap px qx = qx - px := by unfold gap; split <;> omega
      have HGAP := Lib.hid (hlgap_any px qx ok0 ok1)
      rw [hgap] at HGAP
      obtain ⟨s, hs⟩ : ∃ s, sumP L = s := ⟨_, rfl⟩
      rw [hs] at hb2 hsp
      have HTOT : Hid (∀ w', Below w.heap.size w w' → Calls Try.prog 50 #[.slice (some ⟨ga, off, none⟩) L.length cap] w' fun e w'' => e = .returned (.tuple #[.int .u64 (totalP L), .bool (fitsB L)]) ∧ Below w'.heap.size w' w'') := Lib.hid (fun w' hb' => total_does w' _ cap L _ _ (HP.out.call hb') (by have := HL.out; omega) rfl rfl)
      have hfb : fitsB L = decide (s ≤ 9223372036854775807) := by unfold fitsB; rw [hs]
      have htp : totalP L = if s ≤ 9223372036854775807 then s else 0 := by unfold totalP; rw [hfb, hs]; by_cases h : s ≤ 9223372036854775807 <;> simp [h]
      obtain ⟨N, hN⟩ : ∃ N, L.length = N := ⟨_, rfl⟩
      rw [hN] at HG HTOT hpos hnn hl ⊢
      have kN : (0 : Int) < (N : Int) := by omega
      have k0 : ((N : Int) == 0) = false := by simp; omega
      have u1 : IntKind.i64.wrap ((N : Int) - 1) = (nn : Int) := by rw [IntKind.wrap_i64]; omega
      have u2 : (N : Int) - 1 = (nn : Int) := by omega
      have u3 : (nn : Int) < (N : Int) := by omega
      have u4 : (0 : Int) ≤ (nn : Int) := by omega
      have u5 : IntKind.i64.wrap (nn : Int) = (nn : Int) := by rw [IntKind.wrap_i64]; omega
      have e1 : IntKind.u64.wrap m = m := by rw [IntKind.wrap_u64]; omega
      obtain ⟨p0, p1⟩ := ok0
      obtain ⟨q0, q1⟩ := ok1
      by_cases hf : s ≤ 9223372036854775807
      · rw [hfb, htp, if_pos hf, decide_eq_true hf] at HTOT
        by_cases hf2 : s + l ≤ 9223372036854775807
        · rw [decide_eq_true hf2, Bool.true_and] at hb2
          obtain ⟨pb, pq⟩ := plus2_yes (x := s) (y := l) hf2
          have PB := Lib.hid pb
          have PQ := Lib.hid pq
          clear h hg hgood hb hL hx0 hx1 h1 h2 hgap hs hfb htp hnn pb pq e' hl hpos hbl hN
          go_enter Try.func43, Try.ntmps43
          go_wp2_with fail
          refine HG.out.mono ?_
          rintro e w2 ⟨rfl, b2⟩
          go_wp2_with fail
          refine (HTOT.out _ b2).mono ?_
          rintro e w3 ⟨rfl, b3⟩
          go_wp2_with fail
          refine (plus_two s l (s + l) true _ _ _ ⟨by omega, by omega⟩ ⟨by omega, by omega⟩ (two_words w3 _ _ _).1 (two_words w3 _ _ _).2 PQ.out PB.out).mono ?_
          rintro e w4 ⟨rfl, rfl⟩
          have b4 := (b2.trans (b3.mono b2.size)).alloc (Nat.le_trans b2.size b3.size) (.cells #[.int .u64 s, .int .u64 l] 32)
          have d4 := cell_later b4 d0
          have g4 := cell_later b4 g0
          go_wp2_with fail
          go_quiet ((go_at_call 52; exact Calls.quiet_of_same ((HGAP.out _).mono fun e w' ⟨h1, h2⟩ => ⟨h1, h2.symm⟩)))
          go_wp2_with fail
          go_ret
          exact ⟨by rw [← hb2]; rfl, below_drewN b4 _⟩
        · have hb3 : b = false := by rw [← hb2, decide_eq_false hf2]; rfl
          subst hb3
          obtain ⟨pb, pq⟩ := plus2_no (x := s) (y := l) (by omega)
          have PB := Lib.hid pb
          have PQ := Lib.hid pq
          clear h hg hgood hb hL hx0 hx1 h1 h2 hgap hs hfb htp hnn pb pq e' hl hpos hbl hN hb2
          go_enter Try.func43, Try.ntmps43
          go_wp2_with fail
          refine HG.out.mono ?_
          rintro e w2 ⟨rfl, b2⟩
          go_wp2_with fail
          refine (HTOT.out _ b2).mono ?_
          rintro e w3 ⟨rfl, b3⟩
          go_wp2_with fail
          refine (plus_two s l 0 false _ _ _ ⟨by omega, by omega⟩ ⟨by omega, by omega⟩ (two_words w3 _ _ _).1 (two_words w3 _ _ _).2 PQ.out PB.out).mono ?_
          rintro e w4 ⟨rfl, rfl⟩
          have b4 := (b2.trans (b3.mono b2.size)).alloc (Nat.le_trans b2.size b3.size) (.cells #[.int .u64 s, .int .u64 l] 32)
          go_wp2_with fail
          go_quiet (fail)
          go_wp2_with fail
          go_ret
          exact ⟨rfl, below_drewN b4 _⟩
      · rw [hfb, htp, if_neg hf, decide_eq_false hf] at HTOT
        have hb3 : b = false := by
          rw [← hb2]
          rw [decide_eq_false (show ¬ s + l ≤ 9223372036854775807 by omega)]; rfl
        subst hb3
        clear h hg hgood hb hL hx0 hx1 h1 h2 hgap hs hfb htp hnn e' hl hpos hbl hN hb2
        go_enter Try.func43, Try.ntmps43
        go_wp2_with fail
        refine HG.out.mono ?_
        rintro e w2 ⟨rfl, b2⟩
        go_wp2_with fail
        refine (HTOT.out _ b2).mono ?_
        rintro e w3 ⟨rfl, b3⟩
        go_wp2_with fail
        go_ret
        exact ⟨rfl, b2.trans (b3.mono b2.size)⟩

/-- A row that is loaded pair by pair. -/
theorem htake_kept {m : Int} {L : List PairV} {k : Nat} (hm : 0 < m) (hg : GoodP L) (hs : L ≠ [] → endP L - (firP L).1 < m) : keepH m (L.take k) = L.take k := by
  unfold keepH lowP
  refine List.filter_eq_self.2 fun p hp => ?_
  have hL : L ≠ [] := by rintro rfl; rw [List.take_nil] at hp; cases hp
  have h1 := end_ge hg p (List.mem_of_mem_take hp)
  have hne : L.take k ≠ [] := by intro h; rw [h] at hp; cases hp
  obtain ⟨q, hq, e⟩ := beg_mem hne
  have h2 := good_fir_end hg q (List.mem_of_mem_take hq)
  have := hs hL
  simp; omega
theorem hload_step {m : Int} {L : List PairV} {k : Nat} {p : PairV} (hm : 0 < m) (hg : GoodP L) (hs : L ≠ [] → endP L - (firP L).1 < m) (hk : L[k]? = some p) : keepH m (addP (L.take k) p.1 p.2) = L.take (k + 1) := by
  have hg1 := good_take (k + 1) hg
  have hlt : ∀ q, q ∈ L.take k → q.1 < p.1 := fun q hq => by
    rw [take_snocP hk] at hg1
    exact (good_app hg1).2.2 q hq p (by simp)
  have hc : countP (L.take k) p.1 = 0 := by
    unfold countP
    rw [List.filter_eq_nil_iff.2 (fun q hq => by have := hlt q hq; simp; omega)]; rfl
  have hp := hg.1 p (List.mem_of_getElem? hk)
  have e : addP (L.take k) p.1 p.2 = L.take (k + 1) := by
    refine good_ext (add_good (good_take k hg) (by omega)) hg1 fun j => ?_
    rw [count_add (by omega), take_snocP hk, countP_app, countP_one]
    by_cases e : j = p.1
    · rw [if_pos e, if_pos e.symm]
    · rw [if_neg e, if_neg (fun h => e h.symm)]
  rw [e]
  exact htake_kept hm hg hs

set_option maxRecDepth 100000 in
set_option maxHeartbeats 2000000 in
theorem hlunfit_any {St : World → Nat → (Nat → Prop) → Int → List PairV → Prop} (D : StripDoes St) (w : World) (m : Int) (A : Option Addr) (cap : Nat) (L : List PairV) (l : Int) (m1 : 1 ≤ m) (m2 : m ≤ 4096) (h : Pairs w A L) (hl : L.length ≤ 300) (hw : Word l) (hb : loadB m L l = false) :
    Calls Try.prog 30 #[.int .i64 m, .slice A L.length cap, .int .u64 l] w fun e w' => e = .returned (.tuple #[.pointer none, .int .i64 1]) ∧ Below w.heap.size w w' := by
  have HN := Lib.hid (hlnew_any D w m m1 m2)
  have HF : Hid (∀ w', Below w.heap.size w w' → Calls Try.prog 43 #[.int .i64 m, .slice A L.length cap, .int .u64 l] w' fun e w'' => e = .returned (.bool false) ∧ Below w'.heap.size w' w'') := Lib.hid (fun w' hb' => hlfit_any w' m A cap L l false (h.call hb') (by omega) hw m1 m2 hb)
  clear D h hb
  go_enter Try.func30, Try.ntmps30
  go_wp2_with fail
  refine HN.out.mono ?_
  rintro e w1 ⟨B, S, rfl, hr1, hs1, b1⟩
  have z1 := b1.size
  have HR := Lib.hid hr1
  have HS := Lib.hid hs1
  clear hr1 hs1
  go_wp2_with fail
  refine (HF.out _ b1).mono ?_
  rintro e w2 ⟨rfl, b2⟩
  go_wp2_with fail
  go_ret2
  exact ⟨rfl, b1.trans (b2.mono z1)⟩

set_option maxRecDepth 100000 in
set_option maxHeartbeats 2000000 in
theorem hlload_any {St : World → Nat → (Nat → Prop) → Int → List PairV → Prop} (D : StripDoes St) (w : World) (m : Int) (A : Option Addr) (cap : Nat) (L : List PairV) (l : Int) (m1 : 1 ≤ m) (m2 : m ≤ 4096) (h : Pairs w A L) (hl : L.length ≤ 300) (hw : Word l) (hb : loadB m L l = true) :
    Calls Try.prog 30 #[.int .i64 m, .slice A L.length cap, .int .u64 l] w fun e w' => ∃ B S, e = .returned (.tuple #[.pointer (some ⟨B, 0, none⟩), .int .i64 0]) ∧ HighRaw St w' B S m L l ∧ (∀ k, S k → w.heap.size ≤ k) ∧ Below w.heap.size w w' := by
  have HN := Lib.hid (hlnew_any D w m m1 m2)
  have HF : Hid (∀ w', Below w.heap.size w w' → Calls Try.prog 43 #[.int .i64 m, .slice A L.length cap, .int .u64 l] w' fun e w'' => e = .returned (.bool true) ∧ Below w'.heap.size w' w'') := Lib.hid (fun w' hb' => hlfit_any w' m A cap L l true (h.call hb') (by omega) hw m1 m2 hb)
  obtain ⟨hg, _, _, hsum, hnear⟩ := load_true hb
  have HD := Lib.hid D
  have HP := Lib.hid h
  have HG := Lib.hid hg
  have HNE := Lib.hid hnear
  have HL := Lib.hid hl
  have HSM := Lib.hid hsum
  have HSP := Lib.hid (fun k => sumP_take (L := L) k (ok_pos h.ok))
  obtain ⟨l0, l1⟩ := hw
  clear D h hb hg hnear hl hsum
  go_enter Try.func30, Try.ntmps30
  go_wp2_with fail
  refine HN.out.mono ?_
  rintro e w1 ⟨B, S, rfl, hr1, hs1, b1⟩
  have z1 := b1.size
  have HR := Lib.hid hr1
  have HS := Lib.hid hs1
  clear hr1 hs1
  go_wp2_with fail
  refine (HF.out _ b1).mono ?_
  rintro e w2 ⟨rfl, b2⟩
  have hbb := b1.trans (b2.mono z1)
  have HR2 := Lib.hid (hraw_call HD.out HR.out b2)
  clear b1 b2
  go_wp2_with fail
  go_loopw [28] (fun j wr => ∃ (k : Nat) (S' : Nat → Prop), k ≤ L.length ∧ j = .int .i64 k ∧ HighRaw St wr B S' m (L.take k) 0 ∧ (∀ x, S' x → w.heap.size ≤ x) ∧ Below w.heap.size w wr) (fun j _ => L.length - (intOf j).toNat)
  case atStart => exact ⟨0, S, Nat.zero_le _, rfl, HR2.out, HS.out, hbb⟩
  case round =>
    clear hbb HR2 HR HS
    obtain ⟨k, S', hk, rfl, hr, hs, hb2⟩ := hrel
    have hbs := hb2.size
    have HR := Lib.hid hr
    have HS := Lib.hid hs
    clear hr hs
    by_cases hlt : k < L.length
    · have kk : (k : Int) < L.length := by omega
      have hxk : L[k]? = some L[k] := List.getElem?_eq_getElem hlt
      generalize hit : L[k] = x at *
      obtain ⟨xi, xc⟩ := x
      obtain ⟨b1, off, rfl, hbl, c0, c1⟩ := (HP.out.call hb2).at_ k _ hxk
      simp only at c0 c1
      have hok := HP.out.ok _ (List.mem_of_getElem? hxk)
      have hgd := HG.out.1 _ (List.mem_of_getElem? hxk)
      have HST := Lib.hid (hload_step (by omega) HG.out HNE.out hxk)
      have HSS := Lib.hid (psum_step hxk)
      have HOK := Lib.hid hok
      obtain ⟨⟨o1, o2⟩, o3, o4⟩ := hok
      simp only at o1 o2 o3 o4 hgd
      have hb3 : Below w.heap.size w (wr.alloc (.cells #[.int .i64 xi, .int .u64 xc] 34)) := hb2.alloc hbs _
      have HPUT := Lib.hid (hlput_any HD.out _ B S' m (L.take k) 0 xi xc (hraw_call HD.out HR.out ((Below.refl _ _).alloc (Nat.le_refl _) (.cells #[.int .i64 xi, .int .u64 xc] 34))) (good_take k HG.out) (fun p hp => HP.out.ok p (List.mem_of_mem_take hp)) (htake_kept (by omega) HG.out HNE.out)
        (by rw [List.length_take]; have := HL.out; omega) HOK.out.1 (by omega) m1 m2 (Int.le_refl _) (by have h1 : sumP (L.take (k + 1)) = sumP (L.take k) + xc := HSS.out; have h2 := HSP.out (k + 1); have h3 := HSM.out; omega))
      rw [show keepH m (addP (L.take k) xi xc) = L.take (k + 1) from HST.out] at HPUT
      clear hxk hit
      go_wp2_with fail
      refine HPUT.out.mono ?_
      rintro e w4 ⟨rfl, S4, hr4, k4, hs4⟩
      have hb4 := k4.below hb3 hb3.size HS.out
      have HR4 : Hid (HighRaw St w4 B S4 m (L.take (k + 1)) 0) := Lib.hid (by
        have h1 : sumP (L.take (k + 1)) = sumP (L.take k) + xc := HSS.out
        rwa [show (0 : Int) + sumP (L.take k) + xc - sumP (L.take (k + 1)) = 0 by omega] at hr4)
      have HS4 : Hid (∀ x, S4 x → w.heap.size ≤ x) := Lib.hid (fun x hx => by
        rcases hs4 x hx with h | h
        · exact HS.out x h
        · have := hb3.size; omega)
      clear hr4 k4 hs4 hb3
      go_wp2_with fail
      go_roundw
      case rel => exact ⟨k + 1, S4, by omega, by go_num, HR4.out, HS4.out, hb4⟩
      case measure => simp [intOf]; omega
    · obtain rfl : k = L.length := by omega
      have kk : ¬ (L.length : Int) < L.length := by omega
      rw [List.take_length] at HR
      obtain ⟨C, S0, hb, _⟩ := id HR.out
      obtain ⟨c0, c1, c2⟩ := three_cells hb
      have f2 := free8 hb 2
      clear hb
      go_wp2_with fail
      refine bodyPost_ret (v := .tuple #[.pointer (some ⟨B, 0, none⟩), .int .i64 0]) (by simp [results, Try.results30, go_sem]) rfl ?_
      exact ⟨B, rfl, S', hraw_lost HD.out HR.out l, HS.out, hb2.setCell (p := ⟨B, 2, none⟩) (HS.out B (hraw_B HR.out)) _⟩
end Go.Proofs.Ytdblicfcfmfneaa

/-
  Walks: package highcap: Merge.
-/
namespace Go.Proofs.Ytdblicfcfmfneaa
set_option linter.unusedVariables false
set_option linter.unusedSimpArgs false
open Go.RowKit

set_option maxHeartbeats 1000000 in
theorem hlmerge_nil (w : World) :
    Calls Try.prog 29 #[.pointer none, .pointer none] w fun e w' => e = .returned (.int .i64 2) ∧ Below w.heap.size w w' := by
  go_enter Try.func29, Try.ntmps29
  go_wp2_with fail
  go_ret
  exact ⟨rfl, Below.refl _ _⟩
set_option maxHeartbeats 1000000 in
theorem hlmerge_none (w : World) (B : Nat) :
    Calls Try.prog 29 #[.pointer (some ⟨B, 0, none⟩), .pointer none] w fun e w' => e = .returned (.int .i64 2) ∧ Below w.heap.size w w' := by
  go_enter Try.func29, Try.ntmps29
  go_wp2_with fail
  go_ret
  exact ⟨rfl, Below.refl _ _⟩
set_option maxHeartbeats 1000000 in
theorem hlmerge_other (w : World) (B B' : Nat) (m m' : Int) (h : w.cell? ⟨B, 0, none⟩ = some (.int .i64 m)) (h' : w.cell? ⟨B', 0, none⟩ = some (.int .i64 m')) (hm : m ≠ m') :
    Calls Try.prog 29 #[.pointer (some ⟨B, 0, none⟩), .pointer (some ⟨B', 0, none⟩)] w fun e w' => e = .returned (.int .i64 8) ∧ Below w.heap.size w w' := by
  have hm2 : (m == m') = false := by simp [hm]
  clear hm
  go_enter Try.func29, Try.ntmps29
  go_wp2_with fail
  go_quiet (fail)
  go_wp2_with fail
  go_ret
  exact ⟨rfl, below_drewN (Below.refl _ _) _⟩

/-- A round of it, as numbers. -/
theorem mh_step {m T T' : Int} {K K' K1 : List PairV} {k : Nat} {xi xc l1 : Int} (hp : Hgp m K T) (hp' : Hgp m K' T') (hs : T + T' ≤ 9223372036854775807) (hk : K'[k]? = some (xi, xc)) (h1 : K1 = keepH m (joinP K (K'.take k)))
    (h2 : l1 = (T - sumP K) + (T' - sumP K') + sumP K + sumP (K'.take k) - sumP K1) :
    GoodP K1 ∧ (∀ p, p ∈ K1 → okP p) ∧ keepH m K1 = K1 ∧ K1.length ≤ K.length + K'.length ∧ 0 ≤ l1 ∧ l1 + sumP K1 + xc ≤ 9223372036854775807 ∧ 0 < xc ∧
      keepH m (addP K1 xi xc) = keepH m (joinP K (K'.take (k + 1))) ∧ l1 + sumP K1 + xc - sumP (keepH m (addP K1 xi xc)) = (T - sumP K) + (T' - sumP K') + sumP K + sumP (K'.take (k + 1)) - sumP (keepH m (addP K1 xi xc)) := by
  have hm : 0 < m := by have := hp.m1; omega
  have hx := good_each hp'.good hp'.ok _ (List.mem_of_getElem? hk)
  have hst := psum_step hk
  have ht0 := sumP_take (L := K') k (ok_pos hp'.ok)
  have ht1 := sumP_take (L := K') (k + 1) (ok_pos hp'.ok)
  have hq := hp.sum
  have hq' := hp'.sum
  have hlt : k < K'.length := (List.getElem?_eq_some_iff.1 hk).1
  have J := join_facts (K'.take k) K hp.good hp.ok (fun p h => good_each hp'.good hp'.ok p (List.mem_of_mem_take h)) (by omega)
  have hks := keeph_sum m (ok_pos J.ok)
  have hJs := J.sum
  have hJl := J.len
  rw [List.length_take] at hJl
  have hkl := keeph_le m (joinP K (K'.take k))
  have hcn := count_le_sum xi (ok_pos J.ok)
  have hx2 := hx.2
  simp only at hst hx2
  rw [← h1] at hks hkl
  refine ⟨by rw [h1]; exact keeph_good J.good, by rw [h1]; exact keeph_ok J.ok, by rw [h1]; exact keeph_idem hm J.good, by omega, by omega, by omega, hx2, ?_, by omega⟩
  rw [take_snocP hk, join_snoc, h1]
  exact keeph_add hm J.good (by omega) hx2

set_option maxRecDepth 1000000 in
set_option maxHeartbeats 4000000 in
theorem hlmerge_any {St : World → Nat → (Nat → Prop) → Int → List PairV → Prop} (D : StripDoes St) (w : World) (B : Nat) (S : Nat → Prop) (m : Int) (K : List PairV) (T : Int) (B' : Nat) (S' : Nat → Prop) (K' : List PairV) (T' : Int) (h : HighX St w B S m K T) (h' : HighX St w B' S' m K' T') (hd : B' = B ∨ ∀ k, S k → ¬ S' k) (hl : K.length ≤ 300) (hl' : K'.length ≤ 300) (hs : T + T' ≤ 9223372036854775807) :
    Calls Try.prog 29 #[.pointer (some ⟨B, 0, none⟩), .pointer (some ⟨B', 0, none⟩)] w fun e w' => e = .returned (.int .i64 0) ∧ ∃ S2, HighRaw St w' B S2 m (keepH m (joinP K K')) (T + T' - sumP (keepH m (joinP K K'))) ∧ Keeps S w w' ∧ (∀ k, S2 k → S k ∨ w.heap.size ≤ k) := by
  have HD := Lib.hid D
  have HX := Lib.hid h
  have HX' := Lib.hid h'
  obtain ⟨hp, C, S0, hb, hst, hn, hS⟩ := id h
  obtain ⟨hp', C', S0', hb', hst', hn', hS'⟩ := id h'
  obtain ⟨c0, c1, c2⟩ := three_cells hb
  obtain ⟨c0', c1', c2'⟩ := three_cells hb'
  have HP := Lib.hid hp
  have HP' := Lib.hid hp'
  have tt := hp.top
  have tt' := hp'.top
  have t0 : 0 ≤ T := by have := hp.pos; have := hp.sum; omega
  have t0' : 0 ≤ T' := by have := hp'.pos; have := hp'.sum; omega
  have HT : Hid (∀ w', Below w.heap.size w w' → Calls Try.prog 18 #[.pointer (some ⟨B, 0, none⟩)] w' fun e w'' => e = .returned (.int .u64 T) ∧ Below w'.heap.size w' w'') := Lib.hid (fun w' hw => hltotal_raw D ⟨h.1, hraw_call D h.2 hw⟩ (by omega))
  have HT' : Hid (∀ w', Below w.heap.size w w' → Calls Try.prog 18 #[.pointer (some ⟨B', 0, none⟩)] w' fun e w'' => e = .returned (.int .u64 T') ∧ Below w'.heap.size w' w'') := Lib.hid (fun w' hw => hltotal_raw D ⟨h'.1, hraw_call D h'.2 hw⟩ (by omega))
  obtain ⟨l, hll⟩ : ∃ l, T - sumP K = l := ⟨_, rfl⟩
  obtain ⟨l', hll'⟩ : ∃ l', T' - sumP K' = l' := ⟨_, rfl⟩
  rw [hll] at c2
  rw [hll'] at c2'
  have hl0 : 0 ≤ l := by have := hp.sum; omega
  have hl0' : 0 ≤ l' := by have := hp'.sum; omega
  have hl1 : l + l' ≤ 9223372036854775807 := by have := hp.pos; have := hp'.pos; omega
  have u1 : IntKind.u64.wrap (l + l') = l + l' := by rw [IntKind.wrap_u64]; omega
  obtain ⟨pb, pq⟩ := plus2_yes (x := T) (y := T') hs
  have PB := Lib.hid pb
  have PQ := Lib.hid pq
  have HLL := Lib.hid hll
  have HLL' := Lib.hid hll'
  have HB := Lib.hid hb
  have HB' := Lib.hid hb'
  have HDJ := Lib.hid hd
  have HL := Lib.hid hl
  have HL' := Lib.hid hl'
  have HSM := Lib.hid hs
  clear D h h' hp hp' hb hb' hst hst' hn hn' hS hS' hll hll' pb pq hd hl hl'
  go_enter Try.func29, Try.ntmps29
  go_wp2_with fail
  go_quiet (fail)
  have b1 := below_drewN (Below.refl w.heap.size w) nq
  have HB1 := Lib.hid b1
  clear b1 c0 c0'
  go_wp2_with fail
  refine (HT.out _ HB1.out).mono ?_
  rintro e w2 ⟨rfl, b2⟩
  have HB2 := Lib.hid (HB1.out.trans (b2.mono HB1.out.size))
  clear b2
  go_wp2_with fail
  refine (HT'.out _ HB2.out).mono ?_
  rintro e w3 ⟨rfl, b3⟩
  have HB3 := Lib.hid (HB2.out.trans (b3.mono HB2.out.size))
  clear b3
  go_wp2_with fail
  refine (plus_two T T' (T + T') true _ _ _ ⟨by omega, by omega⟩ ⟨by omega, by omega⟩ (two_words w3 _ _ _).1 (two_words w3 _ _ _).2 PQ.out PB.out).mono ?_
  rintro e w4 ⟨rfl, rfl⟩
  obtain ⟨Y, hY⟩ : ∃ Y, w3.alloc (.cells #[.int .u64 T, .int .u64 T'] 32) = Y := ⟨_, rfl⟩
  rw [hY]
  have bY : Below w.heap.size w Y := by rw [← hY]; exact HB3.out.alloc HB3.out.size _
  have y2 := cell_later bY c2
  have y2' := cell_later bY c2'
  have yf : Y.frozen? ⟨B, 2, none⟩ = false := free8 ((bY.block B (lt_of_block HB.out)).trans HB.out) 2
  have HBY := Lib.hid bY
  clear hY bY c1 c1' c2 c2'
  go_wp2_with fail
  go_region
  obtain ⟨Z, hZ⟩ : ∃ Z, (Y.setCell ⟨B, 2, none⟩ (.int .u64 (l + l'))).drew = Z := ⟨_, rfl⟩
  rw [hZ]
  have hBw := lt_of_block HB.out
  have hSlt : ∀ k, S k → k < w.heap.size := hraw_lt HD.out HX.out.2
  have zYZ : Z.heap.size = Y.heap.size := by rw [← hZ]; simp [World.drew, World.setCell]
  have zYw := HBY.out.size
  have kZ : Keeps S w Z := by
    rw [← hZ]
    exact ((Keeps.of_below HBY.out).set 2 _ (Or.inl (hraw_B HX.out.2))).trans (Keeps.of_below (S := S) ((Below.refl _ _).drew)) (fun j hj => Or.inl hj)
  have hdr : Below (Y.setCell ⟨B, 2, none⟩ (.int .u64 (l + l'))).heap.size (Y.setCell ⟨B, 2, none⟩ (.int .u64 (l + l'))) Z := by rw [← hZ]; exact (Below.refl _ _).drew
  have rZ : HighRaw St Z B S m K (l + l') := hraw_call HD.out (hraw_lost HD.out (hraw_call HD.out HX.out.2 HBY.out) (l + l')) hdr
  have rZ' : ∃ lx, HighRaw St Z B' S' m K' lx := by
    have h1 := hraw_call HD.out HX'.out.2 HBY.out
    rcases HDJ.out with e | hdis
    · have h2 := hraw_lost HD.out h1 (l + l')
      rw [e] at h2 ⊢
      exact ⟨_, hraw_call HD.out h2 hdr⟩
    · exact ⟨_, hraw_call HD.out (hraw_keep HD.out h1 (fun k hk => Below.heap_setCell _ _ _ _ (by show k ≠ B; rintro rfl; exact hdis k (hraw_B HX.out.2) hk))) hdr⟩
  have HPR : Hid (Calls Try.prog 15 #[.pointer (some ⟨B', 0, none⟩)] Z fun e w' => ∃ v, e = .returned v ∧ OwnP w' Z.heap.size v K' ∧ Below Z.heap.size Z w') := Lib.hid (by
    obtain ⟨lx, Cx, Sx, hbx, hstx, hnx, hSx⟩ := rZ'
    refine hlpairs_of Z _ _ _ (ownsh_at (three_cells hbx).2.1) (fun e w' h => ?_) (HD.out.pairs _ _ _ _ _ hstx (by have := HL'.out; omega))
    obtain ⟨v, rfl, ho, _⟩ := h
    obtain ⟨A, cap, rfl⟩ := ho.form
    exact ⟨A, _, cap, rfl⟩)
  have HRZ := Lib.hid rZ
  have HKZ := Lib.hid kZ
  have HSLT := Lib.hid hSlt
  clear hZ rZ rZ' kZ hdr hSlt y2 y2' yf u1
  go_wp2_with fail
  refine HPR.out.mono ?_
  rintro e w6 ⟨v6, rfl, ho6, b6⟩
  have hlt6 := ho6.lt
  obtain ⟨A6, cap6, rfl⟩ := ho6.form
  have z6 := b6.size
  have HR6 := Lib.hid (hraw_call HD.out HRZ.out b6)
  have HK6 : Hid (Keeps S w w6) := Lib.hid (HKZ.out.trans (Keeps.of_below (S := S) b6) (fun j hj => Or.inl hj))
  have HA6 : Hid (∀ g, (Value.slice A6 K'.length cap6).ownBlock = some g → Z.heap.size ≤ g ∧ g < w6.heap.size) := Lib.hid hlt6
  have HO6 := Lib.hid ho6
  have HLS : Hid (l + l' = (T - sumP K) + (T' - sumP K') + sumP K + sumP (K'.take 0) - sumP K) := Lib.hid (by rw [List.take_zero, sumP_nil, HLL.out, HLL'.out]; omega)
  have HK0 : Hid (K = keepH m (joinP K (K'.take 0))) := Lib.hid (by rw [List.take_zero, join_nil, HP.out.kept])
  obtain ⟨N, hN⟩ : ∃ N, K'.length = N := ⟨_, rfl⟩
  have HN := Lib.hid hN
  have hNb : N ≤ 300 := by have := HL'.out; omega
  clear ho6 b6 hlt6
  rw [hN]
  go_wp2_with fail
  go_loopw [49] (fun j wr => ∃ (k : Nat) (S1 : Nat → Prop) (K1 : List PairV) (l1 : Int), k ≤ N ∧ j = .int .i64 k ∧ HighRaw St wr B S1 m K1 l1 ∧ K1 = keepH m (joinP K (K'.take k)) ∧ l1 = (T - sumP K) + (T' - sumP K') + sumP K + sumP (K'.take k) - sumP K1 ∧
    Keeps S w wr ∧ (∀ x, S1 x → S x ∨ w6.heap.size ≤ x) ∧ OwnP wr Z.heap.size (.slice A6 K'.length cap6) K' ∧ w6.heap.size ≤ wr.heap.size) (fun j _ => N - (intOf j).toNat)
  case atStart => exact ⟨0, S, K, l + l', Nat.zero_le _, rfl, HR6.out, HK0.out, HLS.out, HK6.out, fun x hx => Or.inl hx, HO6.out, Nat.le_refl _⟩
  case round =>
    clear HR6 HO6 HLS HK0 HRZ HPR
    obtain ⟨k, S1, K1, l1, hk, rfl, hr, hk1, hl1', hkp, hs1, ho, hz⟩ := hrel
    have HR := Lib.hid hr
    have HK1 := Lib.hid hk1
    have HL1 := Lib.hid hl1'
    have HKP := Lib.hid hkp
    have HS1 := Lib.hid hs1
    have HO := Lib.hid ho
    clear hr hk1 hl1' hkp hs1
    by_cases hlt : k < N
    · have kk : (k : Int) < (N : Int) := by omega
      have hlt2 : k < K'.length := by rw [HN.out]; exact hlt
      have hxk : K'[k]? = some K'[k] := List.getElem?_eq_getElem hlt2
      generalize hit : K'[k] = x at *
      obtain ⟨xi, xc⟩ := x
      obtain ⟨A7, cap7, e7, hP7⟩ := ho.pairs HP'.out.ok
      obtain ⟨rfl, _, rfl⟩ := Value.slice.inj e7
      obtain ⟨b1, off, rfl, hbl, c0, c1⟩ := hP7.at_ k _ hxk
      simp only at c0 c1
      have hok := HP'.out.ok _ (List.mem_of_getElem? hxk)
      obtain ⟨f1, f2, f3, f4, f5, f6, f7, f8, f9⟩ := mh_step HP.out HP'.out HSM.out hxk HK1.out HL1.out
      have HOK := Lib.hid hok
      obtain ⟨⟨o1, o2⟩, o3, o4⟩ := hok
      simp only at o1 o2 o3 o4
      have HRA := Lib.hid (hraw_call HD.out HR.out ((Below.refl _ _).alloc (Nat.le_refl _) (.cells #[.int .i64 xi, .int .u64 xc] 34)))
      have HPUT := Lib.hid (hlput_any HD.out _ B S1 m K1 l1 xi xc HRA.out f1 f2 f3 (by have := HL.out; have := HL'.out; omega) HOK.out.1 f7 HP.out.m1 HP.out.m2 f5 f6)
      have HKA : Hid (Keeps S w (wr.alloc (.cells #[.int .i64 xi, .int .u64 xc] 34))) := Lib.hid (HKP.out.new _)
      have HOA : Hid (OwnP (wr.alloc (.cells #[.int .i64 xi, .int .u64 xc] 34)) Z.heap.size (.slice (some ⟨b1, off, none⟩) K'.length cap6) K') := Lib.hid (HO.out.alloc _)
      have HZA : Hid ((wr.alloc (.cells #[.int .i64 xi, .int .u64 xc] 34)).heap.size = wr.heap.size + 1) := Lib.hid (by simp)
      have HF8 := Lib.hid f8
      have HF9 := Lib.hid f9
      clear hxk hit ho hP7 e7 f1 f2 f3 f4 f5 f6 f7 f8 f9
      go_wp2_with fail
      refine HPUT.out.mono ?_
      rintro e w8 ⟨rfl, S2, hr2, k2, hs2⟩
      have HR2 := Lib.hid hr2
      have HK2 := Lib.hid k2
      have HS2 := Lib.hid hs2
      clear hr2 k2 hs2
      go_wp2_with fail
      go_roundw
      case rel =>
        refine ⟨k + 1, S2, _, _, by omega, by go_num, HR2.out, HF8.out, HF9.out, HKA.out.trans HK2.out (fun j hj => ?_), fun x hx => ?_, HK2.out.own HOA.out (fun g hg hx => ?_), by have := HK2.out.size; have := HZA.out; omega⟩
        · rcases HS1.out j hj with h | h
          · exact Or.inl h
          · have := HK6.out.size; exact Or.inr (by omega)
        · rcases HS2.out x hx with h | h
          · exact HS1.out x h
          · have := HZA.out; exact Or.inr (by omega)
        · have h1 := HA6.out g hg
          rcases HS1.out g hx with h | h
          · have := HSLT.out g h; omega
          · omega
      case measure => simp [intOf]; omega
    · obtain rfl : k = N := by omega
      have kk : ¬ (k : Int) < (k : Int) := by omega
      have hfin : K1 = keepH m (joinP K K') ∧ l1 = T + T' - sumP K1 := by
        have h1 := HK1.out
        have h2 := HL1.out
        rw [← HN.out, List.take_length] at h1 h2
        exact ⟨h1, by omega⟩
      obtain ⟨A7, cap7, e7, hP7⟩ := ho.pairs HP'.out.ok
      have HFIN := Lib.hid hfin
      clear hfin ho hP7 e7
      go_wp2_with fail
      go_ret
      refine ⟨rfl, S1, ?_, HKP.out, fun x hx => ?_⟩
      · have h1 := HR.out
        rw [HFIN.out.2, HFIN.out.1] at h1
        exact h1
      · rcases HS1.out x hx with h | h
        · exact Or.inl h
        · have := HK6.out.size; exact Or.inr (by omega)
end Go.Proofs.Ytdblicfcfmfneaa

/-
  Walks: package strip: Pairs, Find, Below, of a strip and of a nil one.
  Walks: package strip: First, Last, of a strip and of a nil one.
  What the landed code of package strip does, a nil strip's too.
-/
namespace Go.Proofs.Ytdblicfcfmfneaa
set_option linter.unusedVariables false
set_option linter.unusedSimpArgs false
open Go.RowKit

set_option maxRecDepth 100000 in
set_option maxHeartbeats 1000000 in
theorem clone_none (w : World) :
    Calls Try.prog 47 #[.slice none 0 0] w fun e w' => e = .returned (.slice none 0 0) ∧ w = w' := by
  have he : ∀ w : World, (binOp .eql 22 (.slice none 0 0) (.slice none 0 0)).run Try.prog w = .ok (.bool true) w := fun _ => rfl
  go_enter Try.func47, Try.ntmps47
  go_wp2_with fail
  go_ret
  exact ⟨rfl, rfl⟩

set_option maxRecDepth 100000 in
set_option maxHeartbeats 1000000 in
theorem clone_some (w : World) (g off n cap : Nat) (L : List PairV) (h : Pairs w (some ⟨g, off, none⟩) L) (hn : n = L.length) (hl : n ≤ 1000) :
    Calls Try.prog 47 #[.slice (some ⟨g, off, none⟩) n cap] w fun e w' => ∃ v, e = .returned v ∧ OwnP w' w.heap.size v L ∧ Below w.heap.size w w' := by
  subst hn
  have hO := World.ownsRow_made (base := w.heap.size) (e := 34) (size := 2) w #[] 0 (by simp) (by decide) rfl
  have HO : Hid (OwnP (w.alloc (.cells #[] 34)) w.heap.size (.slice (some ⟨w.heap.size, 0, none⟩) 0 0) []) := Lib.hid hO
  have HB : Hid (Below w.heap.size w (w.alloc (.cells #[] 34))) := Lib.hid ((Below.refl _ _).alloc (Nat.le_refl _) _)
  have HP := Lib.hid (h.call HB.out)
  have he : ∀ w : World, (binOp .eql 22 (.slice (some ⟨g, off, none⟩) L.length cap) (.slice none 0 0)).run Try.prog w = .ok (.bool false) w := fun _ => rfl
  clear h hO
  go_enter Try.func47, Try.ntmps47
  go_wp2_with (at_builtin; refine wpList_append_pairs rfl (.tmp 5) (.tmp 6) rfl w.heap.size _ [] (some ⟨g, off, none⟩) cap L rfl HO.out rfl HP.out ?c1 ?c2 ?_)
  case c1 => simp; omega
  case c2 => simp
  intro v5 w5 hown5 hg5
  have hb5 : Below w.heap.size w w5 := HB.out.grown hg5 HB.out.size (fun k hk => by cases hk; exact Nat.le_refl _)
  obtain ⟨A5, k5, rfl⟩ := hown5.form
  have HO5 := Lib.hid hown5
  have HB5 := Lib.hid hb5
  clear hown5 hg5 hb5
  go_wp2_with fail
  go_ret
  exact ⟨_, rfl, HO5.out, HB5.out⟩

set_option maxRecDepth 100000 in
set_option maxHeartbeats 1000000 in
theorem spairs_of (w : World) (p A : Option Addr) (cap : Nat) (L : List PairV) (h : OwnsV w p A L.length cap) (hr : Slab w A cap L) (hl : L.length ≤ 1000) :
    Calls Try.prog 37 #[.pointer p] w fun e w' => ∃ v, e = .returned v ∧ OwnP w' w.heap.size v L ∧ Below w.heap.size w w' := by
  have H := Lib.hid h
  rcases hr.form with ⟨rfl, rfl, rfl⟩ | ⟨g, off, rfl⟩
  · have H0 : Hid (OwnsV w p none 0 0) := Lib.hid H.out
    clear h hr H
    go_enter Try.func37, Try.ntmps37
    go_wp2_with fail
    refine H0.out.now.mono ?_
    rintro e w2 ⟨rfl, rfl⟩
    go_wp2_with fail
    refine (clone_none w).mono ?_
    rintro e w3 ⟨rfl, rfl⟩
    go_wp2_with fail
    go_ret
    exact ⟨_, rfl, OwnP.nil _ _, Below.refl _ _⟩
  · obtain ⟨n, hn⟩ : ∃ n, L.length = n := ⟨_, rfl⟩
    have HC := Lib.hid (clone_some w g off n cap L hr.pairs hn.symm (by omega))
    rw [hn] at H
    clear h hr hn hl
    go_enter Try.func37, Try.ntmps37
    go_wp2_with fail
    refine H.out.now.mono ?_
    rintro e w2 ⟨rfl, rfl⟩
    go_wp2_with fail
    refine HC.out.mono ?_
    rintro e w3 ⟨v, rfl, ho, hb⟩
    obtain ⟨A5, k5, rfl⟩ := ho.form
    have HO5 := Lib.hid ho
    clear ho
    go_wp2_with fail
    go_ret
    exact ⟨_, rfl, HO5.out, hb⟩

set_option maxRecDepth 100000 in
set_option maxHeartbeats 1000000 in
theorem spairs_none (w : World) :
    Calls Try.prog 37 #[.pointer none] w fun e w' => ∃ A cap, e = .returned (.slice A 0 cap) ∧ Below w.heap.size w w' := by
  go_enter Try.func37, Try.ntmps37
  go_wp2_with fail
  refine (sown_none w).mono ?_
  rintro e w2 ⟨rfl, rfl⟩
  go_wp2_with fail
  refine (clone_none w).mono ?_
  rintro e w3 ⟨rfl, rfl⟩
  go_wp2_with fail
  go_ret
  exact ⟨none, 0, rfl, Below.refl _ _⟩

set_option maxRecDepth 100000 in
set_option maxHeartbeats 1000000 in
theorem sfind_of (w : World) (p A : Option Addr) (cap : Nat) (L : List PairV) (t x : Int) (fb : Bool) (h : OwnsV w p A L.length cap) (hP : Pairs w A L) (hl : L.length ≤ 1000) (ht : Word t) (hb : sumP L < 18446744073709551616) (hf : (findP L t).getD 0 = x) (hs : (findP L t).isSome = fb) :
    Calls Try.prog 40 #[.pointer p, .int .u64 t] w fun e w' => e = .returned (.tuple #[.int .i64 x, .bool fb]) ∧ Below w.heap.size w w' := by
  have H := Lib.hid h
  have HI := Lib.hid hP
  have HX := Lib.hid hf
  have HB := Lib.hid hs
  have HP := Lib.hid (fun k => sumP_take (L := L) k (ok_pos hP.ok))
  have HSL := Lib.hid hb
  have HAT := Lib.hid (fun k p => seek_at t L 0 k p (ok_pos hP.ok))
  have HNO := Lib.hid (seek_none t L 0 (ok_pos hP.ok))
  obtain ⟨t0, t1⟩ := ht
  clear h hP hf hs hb
  by_cases hz : t = 0
  · subst hz
    have HF : Hid (findP L 0 = none) := Lib.hid (by unfold findP; rw [if_neg (by omega)])
    have HE : Hid (0 = x ∧ false = fb) := Lib.hid (by
      have h1 := HX.out; have h2 := HB.out
      rw [HF.out] at h1 h2
      exact ⟨h1, h2⟩)
    go_enter Try.func40, Try.ntmps40
    go_wp2_with fail
    go_ret2
    exact ⟨by rw [← HE.out.1, ← HE.out.2]; rfl, Below.refl _ _⟩
  have hz' : (t == 0) = false := by simp [hz]
  have ht0 : 0 < t := by omega
  go_enter Try.func40, Try.ntmps40
  go_wp2_with fail
  refine H.out.now.mono ?_
  rintro e w2 ⟨rfl, rfl⟩
  go_wp2_with fail
  go_loopw [1, 13] (fun s j wr => ∃ (k : Nat) (u : Int), k ≤ L.length ∧ j = .int .i64 k ∧ s = .int .u64 u ∧ u = t - sumP (L.take k) ∧ 0 < u ∧ Below w.heap.size w wr) (fun _ j _ => L.length - (intOf j).toNat)
  case atStart => exact ⟨0, t, Nat.zero_le _, rfl, rfl, by rw [List.take_zero]; show t = t - 0; omega, ht0, Below.refl _ _⟩
  case round =>
    obtain ⟨k, u, hk, rfl, rfl, hu, hu0, hb2⟩ := hrel
    have HU := Lib.hid hu
    by_cases hlt : k < L.length
    · have kk : (k : Int) < L.length := by omega
      have hxk : L[k]? = some L[k] := List.getElem?_eq_getElem hlt
      generalize hit : L[k] = p at *
      obtain ⟨px, pc⟩ := p
      obtain ⟨b, off, rfl, hbl, c0, c1⟩ := (HI.out.call hb2).at_ k _ hxk
      have HS := Lib.hid (sum_step' hxk)
      have HXK := Lib.hid hxk
      have hok := HI.out.ok _ (List.mem_of_getElem? hxk)
      have p1 := HP.out (k + 1)
      have p0 := HP.out k
      rw [HS.out] at p1
      have hbs := hb2.size
      obtain ⟨⟨o1, o2⟩, o3, o4⟩ := hok
      simp only at c0 c1 o1 o2 o3 o4 p1 HS HXK
      obtain ⟨p2, p3⟩ := p1
      obtain ⟨p4, _⟩ := p0
      have u1 : u < 18446744073709551616 := by omega
      by_cases hge : u ≤ pc
      · have HF : Hid (findP L t = some px) := Lib.hid (by
          unfold findP; rw [if_pos ht0]
          exact HAT.out k (px, pc) HXK.out (by omega) (by show t ≤ 0 + sumP (L.take k) + pc; omega))
        have HE : Hid (px = x ∧ true = fb) := Lib.hid (by
          have h1 := HX.out; have h2 := HB.out
          rw [HF.out] at h1 h2
          exact ⟨h1, h2⟩)
        clear hxk hit hu p2 p3 p4
        go_wp2_with fail
        go_ret2
        exact ⟨by rw [← HE.out.1, ← HE.out.2]; rfl, hb2.alloc hbs _⟩
      · have HR : Hid (u - pc = t - sumP (L.take (k + 1))) := Lib.hid (by rw [HS.out]; omega)
        have hd : IntKind.u64.wrap (u - pc) = u - pc := by rw [IntKind.wrap_u64]; omega
        clear hxk hit hu p2 p3 p4
        go_wp2_with fail
        go_roundw
        case rel => exact ⟨k + 1, u - pc, by omega, by go_num, rfl, HR.out, by omega, hb2.alloc hbs _⟩
        case measure => simp [intOf]; omega
    · obtain rfl : k = L.length := by omega
      rw [List.take_length] at hu
      have HF : Hid (findP L t = none) := Lib.hid (by
        unfold findP
        rw [if_pos ht0]
        exact HNO.out (by omega))
      have HE : Hid (0 = x ∧ false = fb) := Lib.hid (by
        have h1 := HX.out; have h2 := HB.out
        rw [HF.out] at h1 h2
        exact ⟨h1, h2⟩)
      have kk : ¬ (L.length : Int) < L.length := by omega
      clear hu
      go_wp2_with fail
      go_ret2
      exact ⟨by rw [← HE.out.1, ← HE.out.2]; rfl, hb2⟩

set_option maxRecDepth 100000 in
set_option maxHeartbeats 1000000 in
theorem sbelow_none (w : World) (p : Option Addr) (i : Int) (h : OwnsV w p none 0 0) (hi : I64 i) :
    Calls Try.prog 41 #[.pointer p, .int .i64 i] w fun e w' => e = .returned (.int .u64 0) ∧ Below w.heap.size w w' := by
  have hF := find_big w none 0 [] i 0 false (Pairs.nil w) (by simp) good_nil hi rfl rfl
  have hT := fun w' => total_does w' none 0 [] 0 true (Pairs.nil w') (by simp) rfl rfl
  have HF : Hid (Calls Try.prog 49 #[.slice none 0 0, .int .i64 i] w fun e w' => e = .returned (.tuple #[.int .i64 0, .bool false]) ∧ Below w.heap.size w w') := Lib.hid hF
  have HT : Hid (∀ w' : World, Calls Try.prog 50 #[.slice none 0 0] w' fun e w'' => e = .returned (.tuple #[.int .u64 0, .bool true]) ∧ Below w'.heap.size w' w'') := Lib.hid hT
  have H := Lib.hid h
  clear h hF hT
  go_enter Try.func41, Try.ntmps41
  go_wp2_with fail
  refine H.out.now.mono ?_
  rintro e w2 ⟨rfl, rfl⟩
  go_wp2_with fail
  refine HF.out.mono ?_
  rintro e w3 ⟨rfl, b3⟩
  go_wp2_with fail
  refine (HT.out _).mono ?_
  rintro e w4 ⟨rfl, b4⟩
  go_wp2_with fail
  go_ret
  exact ⟨rfl, b3.trans (b4.mono b3.size)⟩

set_option maxRecDepth 100000 in
set_option maxHeartbeats 1000000 in
theorem sbelow_of (w : World) (p A : Option Addr) (cap : Nat) (L : List PairV) (i x : Int) (h : OwnsV w p A L.length cap) (hr : Slab w A cap L) (hg : GoodP L) (hl : L.length ≤ 1000) (hi : I64 i) (hs : sumP L ≤ 9223372036854775807) (hx : belowP L i = x) :
    Calls Try.prog 41 #[.pointer p, .int .i64 i] w fun e w' => e = .returned (.int .u64 x) ∧ Below w.heap.size w w' := by
  have hP := hr.pairs
  rcases hr.form with ⟨rfl, rfl, rfl⟩ | ⟨g, off, rfl⟩
  · subst hx
    exact sbelow_none w p i h hi
  · obtain ⟨n, hn, hnl, hor⟩ := good_where i hg
    have hcap := hr.fit
    have hT : ∀ k, k ≤ L.length → ∀ s, sumP (L.take k) = s → ∀ w', Below w.heap.size w w' → Calls Try.prog 50 #[.slice (some ⟨g, off, none⟩) k cap] w' fun e w'' => e = .returned (.tuple #[.int .u64 s, .bool true]) ∧ Below w'.heap.size w' w'' := fun k hk s hsum w' hb => by
      have hp : Pairs w (some ⟨g, off, none⟩) (L.take k) := pairs_low (hi := L.drop k) (by rw [List.take_append_drop]; exact hP)
      have hlen : (L.take k).length = k := by rw [List.length_take]; omega
      have hs2 := (sumP_take (L := L) k (ok_pos hP.ok)).2
      have hfit : fitsB (L.take k) = true := by unfold fitsB; apply decide_eq_true; omega
      have := total_does w' (some ⟨g, off, none⟩) cap (L.take k) s true (hp.call hb) (by omega) (by unfold totalP; rw [hfit]; exact hsum) hfit
      rw [hlen] at this
      exact this
    rcases hor with ⟨hb, hlt, _, hbl, _⟩ | ⟨hb, _, hbl, _⟩
    · have hF := find_big w (some ⟨g, off, none⟩) cap L i n true hP (by omega) hg hi hn hb
      have HF := Lib.hid hF
      have HT := Lib.hid (hT (n + 1) hlt x (by rw [← hbl]; exact hx))
      have H := Lib.hid h
      have nn : (n : Int) < L.length := by omega
      have n2 : n + 1 ≤ cap := by omega
      have n3 : (n : Int) + 1 ≤ cap := by omega
      obtain ⟨n1, hn1⟩ : ∃ n1, n + 1 = n1 := ⟨_, rfl⟩
      have e1 : (n : Int) + 1 = (n1 : Int) := by omega
      have e2 : IntKind.i64.wrap ((n : Int) + 1) = (n1 : Int) := by rw [IntKind.wrap_i64]; omega
      have e3 : (n1 : Int) ≤ cap := by omega
      rw [hn1] at HT
      clear h hT hF hP hg hn hx hb hbl hr hs
      go_enter Try.func41, Try.ntmps41
      go_wp2_with fail
      refine H.out.now.mono ?_
      rintro e w2 ⟨rfl, rfl⟩
      go_wp2_with fail
      refine HF.out.mono ?_
      rintro e w3 ⟨rfl, b3⟩
      go_wp2_with fail
      refine (HT.out _ b3).mono ?_
      rintro e w4 ⟨rfl, b4⟩
      go_wp2_with fail
      go_ret
      exact ⟨rfl, b3.trans (b4.mono b3.size)⟩
    · have hF := find_big w (some ⟨g, off, none⟩) cap L i n false hP (by omega) hg hi hn hb
      have HF := Lib.hid hF
      have HT := Lib.hid (hT n hnl x (by rw [← hbl]; exact hx))
      have H := Lib.hid h
      have n2 : n ≤ cap := by omega
      have n3 : (n : Int) ≤ cap := by omega
      clear h hT hF hP hg hn hx hb hbl hr hs
      go_enter Try.func41, Try.ntmps41
      go_wp2_with fail
      refine H.out.now.mono ?_
      rintro e w2 ⟨rfl, rfl⟩
      go_wp2_with fail
      refine HF.out.mono ?_
      rintro e w3 ⟨rfl, b3⟩
      go_wp2_with fail
      refine (HT.out _ b3).mono ?_
      rintro e w4 ⟨rfl, b4⟩
      go_wp2_with fail
      go_ret
      exact ⟨rfl, b3.trans (b4.mono b3.size)⟩
end Go.Proofs.Ytdblicfcfmfneaa

namespace Go.Proofs.Ytdblicfcfmfneaa
set_option linter.unusedVariables false
set_option linter.unusedSimpArgs false
open Go.RowKit

set_option maxRecDepth 100000 in
set_option maxHeartbeats 1000000 in
theorem slast_none (w : World) (p A : Option Addr) (cap : Nat) (h : OwnsV w p A 0 cap) :
    Calls Try.prog 54 #[.pointer p] w fun e w' => e = .returned (.tuple #[.agg #[.int .i64 0, .int .u64 0], .bool false]) ∧ Below w.heap.size w w' := by
  have hB : Below w.heap.size w (w.alloc (.cells #[.int .i64 0, .int .u64 0] 34)) := (Below.refl w.heap.size w).alloc (Nat.le_refl _) _
  have HB := Lib.hid hB
  have hO : OwnsV (w.alloc (.cells #[.int .i64 0, .int .u64 0] 34)) p A 0 cap := fun w' hb => h w' (hB.trans (hb.mono hB.size))
  have H := Lib.hid (slen_of _ p A 0 cap hO)
  clear h hB hO
  go_enter Try.func54, Try.ntmps54
  go_wp2_with fail
  refine H.out.mono ?_
  rintro e w2 ⟨rfl, rfl⟩
  go_wp2_with fail
  exact bodyPost_ret (v := .tuple #[.agg #[.int .i64 0, .int .u64 0], .bool false]) (by simp [results, Try.results54, go_sem]) rfl ⟨rfl, HB.out⟩

/-- A strip on its way: its block holds these; all else that was is as it was. -/
structure Left (w : World) (B : Nat) (m : Int) (V : Value) (t : Int) (X : World) : Prop where
  b : X.heap[B]? = some (.cells #[.int .i64 m, V, .int .u64 t] 71 (0, 0))
  k : Keeps (fun k => k = B) w X
theorem Left.start {w w2 : World} {B : Nat} {A : Option Addr} {n cap : Nat} {m t : Int} {L : List PairV} (h : LayS w B A n cap m t L) (b2 : Below w.heap.size w w2) (V : Value) (o : Obj) : Left w B m V t ((w2.setCell ⟨B, 1, none⟩ V).alloc o) := by
  have h1 : (w2.setCell ⟨B, 1, none⟩ V).heap[B]? = some (.cells #[.int .i64 m, V, .int .u64 t] 71 (0, 0)) := set_cells8 (h.call b2).b 1 V
  exact ⟨(heap_alloc_old _ _ (lt_of_block h1)).trans h1, (Keeps.set (S := fun k => k = B) (Keeps.of_below b2) 1 V (Or.inl rfl)).new o⟩
theorem Left.draws {w X : World} {B : Nat} {m t : Int} {V : Value} (h : Left w B m V t X) (n : Nat) : Left w B m V t (X.drewN n) := ⟨((below_drewN (Below.refl X.heap.size X) n).block _ (lt_of_block h.b)).trans h.b, h.k.draws n⟩
theorem Left.total {w X : World} {B : Nat} {m t : Int} {V : Value} (h : Left w B m V t X) (t' : Int) : Left w B m V t' (X.setCell ⟨B, 2, none⟩ (.int .u64 t')) := ⟨set_cells8 h.b 2 _, h.k.set 2 _ (Or.inl rfl)⟩
theorem Left.box {w X : World} {B : Nat} {m t : Int} {V : Value} (h : Left w B m V t X) (hB : B < w.heap.size) (o : Nat) (u : Value) : Left w B m V t (X.setCell ⟨w.heap.size, o, none⟩ u) :=
  ⟨by rw [Below.heap_setCell _ _ _ _ (by show B ≠ w.heap.size; omega)]; exact h.b, h.k.set o u (Or.inr (Nat.le_refl _))⟩
theorem left_facts {w w2 : World} {B : Nat} {A : Option Addr} {n cap : Nat} {m t : Int} {L : List PairV} (h : LayS w B A n cap m t L) (b2 : Below w.heap.size w w2) (hz : w2.heap.size = w.heap.size + 1) (hw : Two w2 w.heap.size (.int .i64 0) (.int .u64 0)) (V : Value) (px pc : Int) :
    ∃ X, (w2.setCell ⟨B, 1, none⟩ V).alloc (.cells #[.int .i64 px, .int .u64 pc] 34) = X ∧ Left w B m V t X ∧ X.cell? ⟨B, 2, none⟩ = some (.int .u64 t) ∧ X.frozen? ⟨B, 2, none⟩ = false ∧
      X.cell? ⟨w.heap.size + 1, 0, none⟩ = some (.int .i64 px) ∧ X.cell? ⟨w.heap.size + 1, 1, none⟩ = some (.int .u64 pc) ∧ Two X w.heap.size (.int .i64 0) (.int .u64 0) := by
  have h1 := Left.start h b2 V (.cells #[.int .i64 px, .int .u64 pc] 34)
  have hsz : (w2.setCell ⟨B, 1, none⟩ V).heap.size = w.heap.size + 1 := by simpa [World.setCell] using hz
  have h2 : ((w2.setCell ⟨B, 1, none⟩ V).alloc (.cells #[.int .i64 px, .int .u64 pc] 34)).heap[w.heap.size + 1]? = some (.cells #[.int .i64 px, .int .u64 pc] 34 (0, 0)) := by
    have := heap_alloc_new (w2.setCell ⟨B, 1, none⟩ V) (.cells #[.int .i64 px, .int .u64 pc] 34)
    rwa [hsz] at this
  have hBl := h.lt
  refine ⟨_, rfl, h1, by rw [Joins.cell_of_block h1.b]; rfl, free8 h1.b _, by rw [Joins.cell_of_block h2]; rfl, by rw [Joins.cell_of_block h2]; rfl, ?_⟩
  refine hw.block ?_
  rw [heap_alloc_old _ _ (by rw [hsz]; omega), Below.heap_setCell _ _ _ _ (by show w.heap.size ≠ B; omega)]
theorem left_done {w X : World} {B : Nat} {m t : Int} {V : Value} {px pc : Int} (h : Left w B m V t X) (hB : B < w.heap.size) (p0 : X.cell? ⟨w.heap.size + 1, 0, none⟩ = some (.int .i64 px)) (p1 : X.cell? ⟨w.heap.size + 1, 1, none⟩ = some (.int .u64 pc)) (hw : Two X w.heap.size (.int .i64 0) (.int .u64 0)) (t' : Int) :
    ∃ Y, (X.setCell ⟨B, 2, none⟩ (.int .u64 t')).drew = Y ∧ Y.cell? ⟨w.heap.size + 1, 0, none⟩ = some (.int .i64 px) ∧ Y.cell? ⟨w.heap.size + 1, 1, none⟩ = some (.int .u64 pc) ∧ Two Y w.heap.size (.int .i64 0) (.int .u64 0) ∧
      (Y.setCell ⟨w.heap.size, 0, none⟩ (.int .i64 px)).cell? ⟨w.heap.size, 0, none⟩ = some (.int .i64 px) ∧
      ((Y.setCell ⟨w.heap.size, 0, none⟩ (.int .i64 px)).setCell ⟨w.heap.size, 1, none⟩ (.int .u64 pc)).cell? ⟨w.heap.size, 1, none⟩ = some (.int .u64 pc) ∧
      Left w B m V t' ((Y.setCell ⟨w.heap.size, 0, none⟩ (.int .i64 px)).setCell ⟨w.heap.size, 1, none⟩ (.int .u64 pc)) := by
  have hL : Left w B m V t' ((X.setCell ⟨B, 2, none⟩ (.int .u64 t')).drew) := (h.total t').draws 1
  have e : ∀ k, k ≠ B → ((X.setCell ⟨B, 2, none⟩ (.int .u64 t')).drew).heap[k]? = X.heap[k]? := fun k hk => Below.heap_setCell _ _ _ _ hk
  have hT : Two ((X.setCell ⟨B, 2, none⟩ (.int .u64 t')).drew) w.heap.size (.int .i64 0) (.int .u64 0) := hw.block (e _ (by omega))
  refine ⟨_, rfl, (World.cell?_of_block (a := ⟨w.heap.size + 1, 0, none⟩) (e (w.heap.size + 1) (by omega))).trans p0, (World.cell?_of_block (a := ⟨w.heap.size + 1, 1, none⟩) (e (w.heap.size + 1) (by omega))).trans p1, hT, World.cell?_setCell_same _ _ _ hT.c0, ?_, (hL.box hB _ _).box hB _ _⟩
  exact World.cell?_setCell_same _ _ _ (u := .int .u64 0) (by rw [World.cell?_setCell_other _ _ _ _ (two_off (by omega))]; exact hT.c1)
theorem left_end {w X : World} {B : Nat} {A A' : Option Addr} {n n' cap cap' : Nat} {m t t' : Int} {L L' : List PairV} {S : Nat → Prop} (h : LayS w B A n cap m t L) (hS : ∀ k, S k ↔ k = B ∨ blkA A = some k)
    (hA : ∀ k, blkA A' = some k → blkA A = some k) (hr : Slab w A' cap' L') (hn : L'.length = n') (hst : Stp m L') (hm : I64 m) (ht : sumP L' = t') (hX : Left w B m (.slice A' n' cap') t' X) :
    ∃ S', StX X B S' m L' ∧ Keeps S w X ∧ (∀ k, S' k → S k ∨ w.heap.size ≤ k) := by
  subst hn ht
  refine ⟨fun k => k = B ∨ blkA A' = some k, ⟨hst, hm, A', cap', ⟨hX.b, ?_⟩, fun k => Iff.rfl⟩, ?_, ?_⟩
  · exact hr.keep fun k hk => hX.k.block k (hr.lt hk) (h.ne (hA k hk))
  · exact ⟨hX.k.os, hX.k.tape, hX.k.output, hX.k.size, fun k hk hn => hX.k.block k hk (fun e => hn ((hS k).2 (Or.inl e)))⟩
  · rintro k (rfl | hk)
    · exact Or.inl ((hS k).2 (Or.inl rfl))
    · exact Or.inl ((hS k).2 (Or.inr (hA k hk)))

set_option maxRecDepth 100000 in
set_option maxHeartbeats 4000000 in
theorem slast_some (w : World) (B : Nat) (S : Nat → Prop) (m : Int) (L : List PairV) (h : StX w B S m L) (hl : L.length ≤ 900) (hne : L ≠ []) :
    Calls Try.prog 54 #[.pointer (some ⟨B, 0, none⟩)] w fun e w' => ∃ S', e = .returned (.tuple #[.agg #[.int .i64 (lasP L).1, .int .u64 (lasP L).2], .bool (!L.isEmpty)]) ∧ StX w' B S' m L.dropLast ∧ Keeps S w w' ∧ (∀ k, S' k → S k ∨ w.heap.size ≤ k) := by
  have HT8 := Lib.hid (stp_front h.1)
  obtain ⟨hst, hm, A, cap, hL, hS⟩ := h
  obtain ⟨N, hN⟩ : ∃ N, L.length = N := ⟨_, rfl⟩
  have hpos : 0 < N := by rw [← hN]; cases L with
    | nil => exact absurd rfl hne
    | cons p r => simp
  obtain ⟨nn, hnn⟩ : ∃ nn, N - 1 = nn := ⟨_, rfl⟩
  obtain ⟨px, pc, hx0⟩ : ∃ px pc, L[nn]? = some (px, pc) := by
    have h1 : nn < L.length := by omega
    exact ⟨L[nn].1, L[nn].2, List.getElem?_eq_getElem h1⟩
  have htk : L.dropLast = L.take nn := by rw [List.dropLast_eq_take, hN, hnn]
  have HF : Hid (lasP L = (px, pc) ∧ (!L.isEmpty) = true ∧ L.dropLast.length = nn ∧ sumP L.dropLast = sumP L - pc ∧ 0 ≤ pc) := Lib.hid (by
    have hok := ok_pos hst.ok
    refine ⟨?_, ?_, ?_, ?_, hok (px, pc) (List.mem_of_getElem? hx0)⟩
    · unfold lasP; rw [List.getLast?_eq_getElem?, hN, hnn, hx0]; rfl
    · cases L with
      | nil => exact absurd rfl hne
      | cons p r => rfl
    · rw [htk, List.length_take]; omega
    · have h1 := sum_step' hx0
      rw [List.take_of_length_le (by omega)] at h1
      rw [htk, h1]
      show _ = sumP (L.take nn) + pc - pc
      omega)
  rw [HF.out.1, HF.out.2.1]
  obtain ⟨g, off, rfl, hbl, d0, d1⟩ := hL.row.pairs.at_ nn _ hx0
  simp only at d0 d1
  have hfit := hL.row.fit
  have hpt : Pairs w (some ⟨g, off, none⟩) L.dropLast := by rw [htk]; exact pairs_low (hi := L.drop nn) (by rw [List.take_append_drop]; exact hL.row.pairs)
  have hs0 := sumP_take (L := L) nn (ok_pos hst.ok)
  rw [← htk] at hs0
  have hs1 := hst.sum
  obtain ⟨t, ht⟩ : ∃ t, sumP L = t := ⟨_, rfl⟩
  have h2 := HF.out.2.2.2.1
  have h3 := HF.out.2.2.2.2
  rw [ht] at hs0 hs1 h2
  rw [h2] at hs0
  rw [ht, hN] at hL
  have ut : IntKind.u64.wrap (t - pc) = t - pc := by rw [IntKind.wrap_u64]; omega
  have hBw := hL.lt
  have hBg : g ≠ B := hL.ne rfl
  have HL := Lib.hid hL
  have HS := Lib.hid hS
  have HM := Lib.hid hm
  have HR1 : Hid (Slab w (some ⟨g, off, none⟩) cap L.dropLast) := Lib.hid ⟨hpt, by have := HF.out.2.2.1; omega, hL.row.blk, HL.out.row.room, HL.out.row.capm⟩
  have kk : (0 : Int) < N := by omega
  have kk1 : ((N : Int) == 0) = false := by simp; omega
  have u1 : IntKind.i64.wrap ((N : Int) - 1) = (nn : Int) := by rw [IntKind.wrap_i64]; omega
  have u2 : (N : Int) - 1 = (nn : Int) := by omega
  have u3 : (nn : Int) < (N : Int) := by omega
  have u4 : (0 : Int) ≤ (nn : Int) := by omega
  have u5 : IntKind.i64.wrap (nn : Int) = (nn : Int) := by rw [IntKind.wrap_i64]; omega
  have u6 : nn ≤ cap := by omega
  have u7 : (nn : Int) ≤ (cap : Int) := by omega
  obtain ⟨w2, hw2⟩ : ∃ w2, (w.alloc (.cells #[.int .i64 0, .int .u64 0] 34)) = w2 := ⟨_, rfl⟩
  have b2 : Below w.heap.size w w2 := by rw [← hw2]; exact (Below.refl _ _).alloc (Nat.le_refl _) _
  have hO2 : OwnsV w2 (some ⟨B, 0, none⟩) (some ⟨g, off, none⟩) N cap := owns_at (cell_later b2 hL.c1)
  have H := Lib.hid (slen_of _ _ _ _ _ hO2)
  have q1 := cell_later b2 hL.c1
  have e0 := cell_later b2 d0
  have e1 := cell_later b2 d1
  have hz2 : w2.heap.size = w.heap.size + 1 := by rw [← hw2]; simp
  have B2 := Lib.hid b2
  have f1 : w2.frozen? ⟨B, 1, none⟩ = false := (hL.call b2).f 1
  have HW2 : Hid (Two w2 w.heap.size (.int .i64 0) (.int .u64 0)) := Lib.hid (by rw [← hw2]; exact Two.new _ _ _ _)
  have hN9 : N ≤ 900 := by omega
  have HSUM := Lib.hid h2
  clear hst hm hx0 hN hL hS hne hl hnn hfit hpt ht h2 h3 hO2 b2 d0 d1 hbl htk
  go_enter Try.func54, Try.ntmps54
  go_wp2_with fail
  clear hw2
  refine H.out.mono ?_
  rintro e w3 ⟨rfl, rfl⟩
  go_wp2_with fail
  obtain ⟨X, hX, hLf, x2, xf, p0, p1, hTw⟩ := left_facts HL.out B2.out hz2 HW2.out (.slice (some ⟨g, off, none⟩) nn cap) px pc
  rw [hX]
  clear hX
  have HLF := Lib.hid hLf
  have HTW := Lib.hid hTw
  clear hLf hTw e0 e1 q1
  go_region
  obtain ⟨Y, hY, y0, y1, ⟨j0, j1, j2, j3⟩, q5, q6, hLY⟩ := left_done HLF.out hBw p0 p1 HTW.out (t - pc)
  rw [hY]
  have Q5 := Lib.hid q5
  have Q6 := Lib.hid q6
  have HLY := Lib.hid hLY
  clear hY q5 q6 hLY
  go_wp2_with fail
  refine bodyPost_ret (v := .tuple #[.agg #[.int .i64 px, .int .u64 pc], .bool true]) (by simp [results, Try.results54, go_sem, Q5.out, Q6.out]) rfl ?_
  obtain ⟨S', hs1, hs2, hs3⟩ := left_end HL.out HS.out (fun k hk => hk) HR1.out HF.out.2.2.1 HT8.out HM.out HSUM.out HLY.out
  exact ⟨S', rfl, hs1, hs2, hs3⟩

theorem empty_len {L : List PairV} (h : L = []) : L.length = 0 := by rw [h]; rfl

theorem slast_any (w : World) (B : Nat) (S : Nat → Prop) (m : Int) (L : List PairV) (h : StX w B S m L) (hl : L.length ≤ 900) :
    Calls Try.prog 54 #[.pointer (some ⟨B, 0, none⟩)] w fun e w' => ∃ S', e = .returned (.tuple #[.agg #[.int .i64 (lasP L).1, .int .u64 (lasP L).2], .bool (!L.isEmpty)]) ∧ StX w' B S' m L.dropLast ∧ Keeps S w w' ∧ (∀ k, S' k → S k ∨ w.heap.size ≤ k) := by
  by_cases hne : L = []
  · subst hne
    have hX := h
    obtain ⟨hst, hm, A, cap, hL, hS⟩ := h
    refine (slast_none w _ A cap (owns_at hL.c1)).mono ?_
    rintro e w1 ⟨rfl, b1⟩
    exact ⟨S, rfl, stx_keep _ _ _ _ _ _ hX (fun k hk => b1.block k (stx_lt _ _ _ _ _ hX k hk)), Keeps.of_below b1, fun k hk => Or.inl hk⟩
  · exact slast_some w B S m L h hl hne
end Go.Proofs.Ytdblicfcfmfneaa

namespace Go.Proofs.Ytdblicfcfmfneaa
set_option linter.unusedVariables false
set_option linter.unusedSimpArgs false
open Go.RowKit

theorem same_below {P : Ending → Prop} {w : World} {e : Ending} {w' : World} (h : P e ∧ w = w') : P e ∧ Below w.heap.size w w' := by
  obtain ⟨h1, rfl⟩ := h
  exact ⟨h1, Below.refl _ _⟩
theorem strip_does : StripDoes StX where
  keep := stx_keep
  lt := stx_lt
  stp := fun w B S m L h => h.1
  cells := stx_cells
  new := fun w m h1 h2 => snew_any w m h1 h2
  bad := fun w m h1 h2 => sbad_any w m h1 h2
  add := fun w B S m L i c h hl hi hc => sadd_any w B S m L i c h hl hi hc
  last := fun w B S m L h hl => slast_any w B S m L h hl
  at_ := fun w B S m L i h hl hi => by
    obtain ⟨hst, hm, A, cap, hL, hS⟩ := h
    exact sat_of w _ A cap L i (owns_at hL.c1) hL.row.pairs hst.good (by omega) hi
  total := fun w B S m L h hl => by
    obtain ⟨hst, hm, A, cap, hL, hS⟩ := h
    exact (stotal_at w B _ hL.c2).mono fun e w' => same_below (P := fun e => e = _)
  len := fun w B S m L h hl => by
    obtain ⟨hst, hm, A, cap, hL, hS⟩ := h
    exact (slen_of w _ A _ cap (owns_at hL.c1)).mono fun e w' => same_below (P := fun e => e = _)
  ends := fun w B S m L h hl => by
    obtain ⟨hst, hm, A, cap, hL, hS⟩ := h
    by_cases hne : L = []
    · subst hne
      exact sends_none w _ A cap (owns_at hL.c1)
    · have hpos : 0 < L.length := by cases L with
        | nil => exact absurd rfl hne
        | cons p r => simp
      obtain ⟨px, pc, hx0⟩ : ∃ px pc, L[0]? = some (px, pc) := ⟨L[0].1, L[0].2, List.getElem?_eq_getElem hpos⟩
      obtain ⟨qx, qc, hx1⟩ : ∃ qx qc, L[L.length - 1]? = some (qx, qc) := ⟨L[L.length - 1].1, L[L.length - 1].2, List.getElem?_eq_getElem (by omega)⟩
      have h1 : (firP L).1 = px := by unfold firP; rw [List.head?_eq_getElem?, hx0]; rfl
      have h2 : (lasP L).1 = qx := by unfold lasP; rw [List.getLast?_eq_getElem?, hx1]; rfl
      have h3 : (!L.isEmpty) = true := by cases L with
        | nil => exact absurd rfl hne
        | cons p r => rfl
      rw [h1, h2, h3]
      exact sends_of w _ A cap L.length px pc qx qc L (owns_at hL.c1) hL.row.pairs rfl hpos (by omega) hx0 hx1
  pairs := fun w B S m L h hl => by
    obtain ⟨hst, hm, A, cap, hL, hS⟩ := h
    exact spairs_of w _ A cap L (owns_at hL.c1) hL.row (by omega)
  find := fun w B S m L t h hl ht => by
    obtain ⟨hst, hm, A, cap, hL, hS⟩ := h
    exact sfind_of w _ A cap L t _ _ (owns_at hL.c1) hL.row.pairs (by omega) ht (by have := hst.sum; omega) rfl rfl
  below := fun w B S m L i h hl hi => by
    obtain ⟨hst, hm, A, cap, hL, hS⟩ := h
    exact sbelow_of w _ A cap L i _ (owns_at hL.c1) hL.row hst.good (by omega) hi hst.sum rfl
theorem strip_nil : StripNil where
  add := fun w i c hi hc => sadd_none w i c hi hc
  last := fun w => slast_none w none none 0 (owns_none w)
  at_ := fun w i hi => sat_of w none none 0 [] i (owns_none w) (Pairs.nil w) good_nil (by simp) hi
  total := fun w => (stotal_none w).mono fun e w' => same_below (P := fun e => e = _)
  len := fun w => (slen_of w none none 0 0 (owns_none w)).mono fun e w' => same_below (P := fun e => e = _)
  ends := fun w => sends_none w none none 0 (owns_none w)
  pairs := fun w => spairs_none w
  find := fun w t ht => sfind_of w none none 0 [] t 0 false (owns_none w) (Pairs.nil w) (by simp) ht (by decide) (by unfold findP; split <;> rfl) (by unfold findP; split <;> rfl)
  below := fun w i hi => sbelow_none w none i (owns_none w) hi
end Go.Proofs.Ytdblicfcfmfneaa

/-
  Package highcap does what the laws ask of it.
-/
namespace Go.Proofs.Ytdblicfcfmfneaa
set_option linter.unusedVariables false
set_option linter.unusedSimpArgs false
open Go.RowKit

/-- A highcap over such strips. -/
abbrev HwX := HighX StX
theorem high_does : HighDoes HwX where
  keep := fun w w' B S m K T h hk => ⟨h.1, hraw_keep strip_does h.2 hk⟩
  lt := fun w B S m K T h => hraw_lt strip_does h.2
  lwp := fun w B S m K T h => h.1
  new := fun w m h1 h2 => (hlnew_any strip_does w m h1 h2).mono fun e w' ⟨B, S, he, hr, hS, hb⟩ => ⟨B, S, he, ⟨Hgp.nil h1 h2, hr⟩, hS, hb⟩
  bad := fun w m hm hb => hlbad_any strip_does w m hm hb
  add := fun w B S m K T i c h hl hi hc => hladd_any strip_does w B S m K T i c h hl hi hc
  merge := fun w B S m K T B' S' K' T' h h' hd hl hl' hs => (hlmerge_any strip_does w B S m K T B' S' K' T' h h' hd hl hl' hs).mono fun e w' ⟨he, S2, hr, hk, hS⟩ => ⟨S2, he, ⟨h.1.join h'.1 hs, hr⟩, hk, hS⟩
  other := fun w B S m K T B' S' m' K' T' h h' hm => by
    obtain ⟨_, C, S0, hb, _⟩ := h
    obtain ⟨_, C', S0', hb', _⟩ := h'
    exact hlmerge_other w B B' m m' (three_cells hb).1 (three_cells hb').1 hm
  mnil := fun w B S m K T h => hlmerge_none w B
  total := fun w B S m K T h hl => hltotal_raw strip_does h (by omega)
  lost := fun w B S m K T h => by
    obtain ⟨_, C, S0, hb, _⟩ := h
    exact (hllost_at w B _ (three_cells hb).2.2).mono fun e w' => same_below (P := fun e => e = _)
  pairs := fun w B S m K T h hl => by
    obtain ⟨_, C, S0, hb, hst, _⟩ := h
    refine hlpairs_of w _ _ _ (ownsh_at (three_cells hb).2.1) (fun e w' h => ?_) (strip_does.pairs _ _ _ _ _ hst (by omega))
    obtain ⟨v, rfl, ho, _⟩ := h
    obtain ⟨A, cap, rfl⟩ := ho.form
    exact ⟨A, _, cap, rfl⟩
  at_ := fun w B S m K T i h hl hi => by
    obtain ⟨_, C, S0, hb, hst, _⟩ := h
    exact hlat_of w _ _ i _ (ownsh_at (three_cells hb).2.1) (strip_does.at_ _ _ _ _ _ i hst (by omega) hi)
  most := fun w B S m K T h => by
    obtain ⟨_, C, S0, hb, _⟩ := h
    exact (hlmost_at w B _ (three_cells hb).1).mono fun e w' => same_below (P := fun e => e = _)
  find := fun w B S m K T t h hl ht => by
    obtain ⟨hp, C, S0, hb, hst, _⟩ := h
    exact hlfind_of w _ _ t _ _ (ownsh_at (three_cells hb).2.1) ht (strip_does.find _ _ _ _ _ _ hst (by omega) ht)
  below := fun w B S m K T i h hl hi => by
    obtain ⟨hp, C, S0, hb, hst, _⟩ := h
    have h1 := hp.sum
    have h2 := hp.top
    have h3 := hp.pos
    have h4 := below_le (L := K) i (ok_pos hp.ok)
    have h5 : 0 ≤ belowP K i := (sumP_filter _ (ok_pos hp.ok)).1
    obtain ⟨u, hu⟩ : ∃ u, losB m K i = u := ⟨_, rfl⟩
    refine hlbelow_of w _ _ (T - sumP K) i (belowP K i) _ u (ownsh_at (three_cells hb).2.1) (fun w' hw => ?_) (fun _ => ⟨B, rfl, (three_cells hb).2.2⟩) (fun w' hw => ?_) h5 (by omega) (by omega) ?_
    · exact hloses_of w' _ _ m K i u (ownsh_at (cell_later hw (three_cells hb).2.1)) hi (end_i64 hp.ok) (beg_i64 hp.ok) hp.m1 hp.m2 (fun _ => ⟨B, rfl, cell_later hw (three_cells hb).1⟩) (strip_does.ends _ _ _ _ _ (strip_does.call hst hw) (by omega)) hu
    · exact strip_does.below _ _ _ _ _ i (strip_does.call hst hw) (by omega) hi
    · unfold highBH
      by_cases h : K ≠ [] ∧ m ≤ i - begP K
      · rw [if_pos h, if_pos (by rw [← hu]; exact los_true.2 h)]
      · rw [if_neg h, if_neg (by rw [← hu]; exact fun e => h (los_true.1 e))]
  load := fun w m A cap L l m1 m2 hP hl hw hb => (hlload_any strip_does w m A cap L l m1 m2 hP hl hw hb).mono fun e w' ⟨B, S, he, hr, hS, hbb⟩ => by
    obtain ⟨h1, h2, h3, h4, h5⟩ := load_true hb
    refine ⟨B, S, he, ⟨⟨h1, hP.ok, ?_, by have := hw.1; omega, h4, m1, m2⟩, ?_⟩, hS, hbb⟩
    · have := htake_kept (k := L.length) (m := m) (by omega) h1 h5
      rwa [List.take_length] at this
    · rw [show sumP L + l - sumP L = l by omega]
      exact hr
  unfit := fun w m A cap L l m1 m2 hP hl hw hb => hlunfit_any strip_does w m A cap L l m1 m2 hP hl hw hb

set_option maxHeartbeats 400000 in
theorem hladd_nil (w : World) (i c : Int) (hi : I64 i) (hc : Word c) : Calls Try.prog 11 #[.pointer none, .int .i64 i, .int .u64 c] w fun e w' => e = .returned (.int .i64 2) ∧ Below w.heap.size w w' := by
  go_enter Try.func11, Try.ntmps11
  go_wp2_with fail
  go_ret
  exact ⟨rfl, Below.refl _ _⟩

theorem high_nil : HighNil where
  add := hladd_nil
  merge := hlmerge_nil
  total := fun w => hltotal_of w none none 0 0 (ownsh_none w) (lostsh_none w) (strip_nil.total w) (by decide) (by decide) (by decide)
  lost := fun w => (hllost_none w).mono fun e w' => same_below (P := fun e => e = _)
  pairs := fun w => hlpairs_of w none none _ (ownsh_none w) (fun e w' h => by
    obtain ⟨A, cap, rfl, _⟩ := h
    exact ⟨A, 0, cap, rfl⟩) (strip_nil.pairs w)
  at_ := fun w i hi => hlat_of w none none i 0 (ownsh_none w) (strip_nil.at_ w i hi)
  most := fun w => (hlmost_none w).mono fun e w' => same_below (P := fun e => e = _)
  find := fun w t ht => hlfind_of w none none t 0 false (ownsh_none w) ht (strip_nil.find w t ht)
  below := fun w i hi => by
    refine hlbelow_of w none none 0 i 0 0 false (ownsh_none w) (fun w' hw => ?_) (fun h => by cases h) (fun w' hw => strip_nil.below w' i hi) (by decide) (by decide) (by decide) (by decide)
    exact hloses_of w' none none 1 [] i false (ownsh_none w') hi ⟨by decide, by decide⟩ ⟨by decide, by decide⟩ (by decide) (by decide) (fun h => absurd rfl h) (strip_nil.ends w') rfl
end Go.Proofs.Ytdblicfcfmfneaa

/-
  How an argument of the laws is opened, and shut again: a wide number, a fraction, a word.
-/
namespace Go.Proofs.Ytdblicfcfmfneaa
set_option linter.unusedVariables false
set_option maxRecDepth 100000
open Go.ChangeShapes Go.WideShapes Go.ChangeAt Go.RowKit Go.Joins

theorem own : ownKnob Try.prog.godebug = none := by kernel_rfl
theorem laidOut : laidOutB Try.prog = true := by kernel_rfl
theorem word_of_wf {x : Int} (h : (Lit.int .u64 x).wf = true) : Word x := by
  simp [Lit.wf, IntKind.min, IntKind.max, IntKind.signed, IntKind.bits] at h
  exact ⟨by omega, by omega⟩
end Go.Proofs.Ytdblicfcfmfneaa

/-
  How arguments are opened where the reach counts: bytes, half words, strings.
-/
namespace Go.Proofs.Ytdblicfcfmfneaa
set_option linter.unusedVariables false
open Go.ChangeShapes Go.WideShapes Go.ChangeAt Go.RowKit Go.Joins

theorem byte_of_wf {x : Int} (h : (Lit.int .u8 x).wf = true) : 0 ≤ x ∧ x < 256 := by
  simp [Lit.wf, IntKind.min, IntKind.max, IntKind.signed, IntKind.bits] at h
  exact ⟨by omega, by omega⟩
theorem half_of_wf {x : Int} (h : (Lit.int .u32 x).wf = true) : 0 ≤ x ∧ x < 4294967296 := by
  simp [Lit.wf, IntKind.min, IntKind.max, IntKind.signed, IntKind.bits] at h
  exact ⟨by omega, by omega⟩
theorem size_reach {s : ByteArray} (h : s.data.toList.length ≤ reachBytes) : s.size ≤ 140737488351232 := by
  rw [Lib.size_eq]; exact h
end Go.Proofs.Ytdblicfcfmfneaa

/-
  How a row of pairs, and a row of rows, that comes in as an argument is opened.
  How a pair that comes in as an argument by value is opened, and shut again.
-/
namespace Go.Proofs.Ytdblicfcfmfneaa
set_option linter.unusedVariables false
set_option linter.unusedSimpArgs false
set_option maxRecDepth 100000
open Go.ChangeShapes Go.WideShapes Go.ChangeAt Go.RowKit Go.Joins

instance : Inhabited RowV := ⟨⟨none, 0, []⟩⟩
theorem add_deep (a : Addr) (i j : Nat) : (a.add i).add j = a.add (i + j) := Go.Deep.add_add a i j
theorem cellsPair : Try.prog.cellsOf 34 = 2 := by kernel_rfl
theorem bytesPair : Try.prog.bytesOf 34 = 16 := by kernel_rfl
theorem cellsRow2 : Try.prog.cellsOf 22 = 1 := by kernel_rfl
theorem bytesRow2 : Try.prog.bytesOf 22 = 24 := by kernel_rfl
/-- Two cells that read as a pair. -/
theorem open_pair {H : Type} {enc : TypeId × Value → H} {W : World} {base n : Nat} {spare : Nat → Bool} {held : Bool} {ad : Addr} {cs : List Value} {d : DataW H} {pl : List MemPlace}
    (hc : W.cells? base ad 2 = some cs) (h : DataW.trod enc Try.prog W base spare held n 34 cs = some (d, pl)) :
    ∃ p : PairV, okP p ∧ W.cell? (ad.add 0) = some (.int .i64 p.1) ∧ W.cell? (ad.add 1) = some (.int .u64 p.2) := by
  obtain ⟨_, hl, hat⟩ := World.cells?_some hc
  obtain ⟨ys, m, _, hx, _, hyl, hf⟩ := DataW.trod_struct Try.underlying34 h
  match cs, hl with
  | [x0, x1], _ =>
    have h0 := hf 0 _ rfl
    have h1 := hf 1 _ rfl
    match ys, hyl with
    | [y0, y1], _ =>
      obtain ⟨i, e0, r0, w0⟩ := DataW.trod_int Try.underlying3 h0
      obtain ⟨c, e1, r1, w1⟩ := DataW.trod_int Try.underlying32 h1
      have g0 : [x0] = [.int .i64 i] := e0
      have g1 : [x1] = [.int .u64 c] := e1
      simp only [List.cons.injEq, and_true] at g0 g1
      subst g0 g1
      exact ⟨(i, c), ⟨i64_of_wf w0, word_of_wf w1⟩, hat 0 (by omega), hat 1 (by omega)⟩
/-- Cells that read as a row of pairs. -/
theorem open_row {H : Type} {enc : TypeId × Value → H} {W : World} {n : Nat} {cs : List Value} {d : DataW H} {pl : List MemPlace}
    (hf : DataW.trod enc Try.prog W 0 (fun _ => true) true n 22 cs = some (d, pl)) (hz : ∀ n ∈ DataW.weights Try.prog 22 d, n ≤ reachBytes) :
    ∃ A cap L, cs = [.slice A (List.length L) cap] ∧ Pairs W A L ∧ L.length ≤ 140737488351232 := by
  rcases Go.Deep.open_slice Try.underlying22 hf with ⟨hcs, hx⟩ | ⟨a, len, cap, m, n, D, Pl, hcs, _, hl, hm, hmm, hx, hi⟩
  · exact ⟨none, 0, [], hcs, Pairs.nil W, Nat.zero_le _⟩
  · simp only [if_true] at hmm
    obtain rfl : cap = m := hmm.symm
    simp only [Prod.mk.injEq] at hx
    obtain ⟨rfl, rfl⟩ := hx
    have hw : DataW.weights Try.prog 22 (.slice ((List.range len).map D) ((List.range (cap - len)).map fun j => D (len + j))) =
        (((List.range len).map D).length + ((List.range (cap - len)).map fun j => D (len + j)).length) * Try.prog.bytesOf 34 ::
        (DataW.weightsAll Try.prog 34 ((List.range len).map D) ++ DataW.weightsAll Try.prog 34 ((List.range (cap - len)).map fun j => D (len + j))) := by
      conv => lhs; unfold DataW.weights
      rw [Try.underlying22]
    have hlen : len ≤ 140737488351232 := by
      have := hz _ (by rw [hw]; exact List.mem_cons_self)
      rw [bytesPair] at this
      simp only [List.length_map, List.length_range, reachBytes] at this
      omega
    have hall : ∀ i, i < len → ∃ p : PairV, okP p ∧ W.cell? (a.add (i * 2)) = some (.int .i64 p.1) ∧ W.cell? (a.add (i * 2 + 1)) = some (.int .u64 p.2) := by
      intro i hi'
      obtain ⟨cs', hc, ht⟩ := hi i (by omega)
      rw [cellsPair] at hc
      obtain ⟨p, i1, c0, c1⟩ := open_pair hc ht
      rw [add_deep] at c0 c1
      exact ⟨p, i1, c0, c1⟩
    obtain ⟨f, hf'⟩ := Go.Deep.choose_lt hall
    refine ⟨some a, cap, (List.range len).map f, by rw [hcs]; simp, ⟨?_, ?_⟩, by simpa using hlen⟩
    · intro p hp
      obtain ⟨i, hi1, rfl⟩ := List.mem_map.1 hp
      exact (hf' i (List.mem_range.1 hi1)).1
    · intro i p hp
      have hil : i < len := by
        rcases Nat.lt_or_ge i len with h | h
        · exact h
        · rw [List.getElem?_eq_none (by simpa using h)] at hp; cases hp
      simp only [List.getElem?_map, List.getElem?_range hil, Option.map_some, Option.some.injEq] at hp
      subst hp
      obtain ⟨_, c0, c1⟩ := hf' i hil
      obtain ⟨b, off, spot⟩ := a
      have hspot : spot = none := by
        have z0 := (hf' 0 (by omega)).2.1
        simpa [Addr.add] using World.cell?_spot z0
      subst hspot
      have hb : b < W.heap.size := by
        have := World.block_lt_of_cell? W _ c0
        revert this; unfold Addr.add; split <;> simp
      refine ⟨b, off, rfl, hb, ?_, ?_⟩
      · rw [← add_flat]; exact c0
      · rw [Nat.add_assoc, ← add_flat]; exact c1

theorem open_pairs {H : Type} {enc : TypeId × Value → H} {W : World} {base : Nat} {v : Value} {d : DataW H} {p : List MemPlace}
    (hv : Value.okWide Try.prog W .any base 22 v) (h : DataW.Trod enc Try.prog W 0 (fun _ => true) true 22 v d p)
    (hz : ∀ n ∈ DataW.weights Try.prog 22 d, n ≤ reachBytes) :
    ∃ A cap L, v = .slice A (List.length L) cap ∧ Pairs W A L ∧ L.length ≤ 140737488351232 := by
  obtain ⟨a0, len, cap, rfl⟩ := okWide_slice Try.underlying22 hv
  obtain ⟨fuel, hf⟩ := h
  obtain ⟨A, cap', L, hcs, hP, hl⟩ := open_row hf hz
  simp [Value.cells] at hcs
  obtain ⟨rfl, rfl, rfl⟩ := hcs
  exact ⟨_, _, L, rfl, hP, hl⟩

end Go.Proofs.Ytdblicfcfmfneaa

namespace Go.Proofs.Ytdblicfcfmfneaa
set_option maxRecDepth 100000
set_option linter.unusedVariables false
set_option linter.unusedSimpArgs false
open Go.ChangeShapes Go.WideShapes Go.ChangeAt Go.RowKit Go.Joins

theorem pair_reads {H : Type} {enc : TypeId × Value → H} {a b : Int} (wa : (Lit.int .i64 a).wf = true) (wb : (Lit.int .u64 b).wf = true) (W' : World) (sp : Nat → Bool) :
    DataW.Trod enc Try.prog W' 0 sp true 34 (.agg #[.int .i64 a, .int .u64 b]) (.agg [.lit (.int .i64 a), .lit (.int .u64 b)]) [] :=
  shut_agg2 (y0 := (.lit (.int .i64 a), [])) (y1 := (.lit (.int .u64 b), [])) Try.underlying34 (by kernel_rfl) cellsPair ⟨1, by simp [DataW.trod, Try.underlying3, wa]⟩ ⟨1, by simp [DataW.trod, Try.underlying32, wb]⟩
theorem pair_opens {H : Type} {enc : TypeId × Value → H} {W : World} {r : Reach} {b0 : Nat} {sp : Nat → Bool} {v : Value} {d : DataW H} {p : List MemPlace} (hv : Value.okWide Try.prog W r b0 34 v) (h : DataW.Trod enc Try.prog W 0 sp true 34 v d p) :
    ∃ a b : Int, v = .agg #[.int .i64 a, .int .u64 b] ∧ d = .agg [.lit (.int .i64 a), .lit (.int .u64 b)] ∧ p = [] ∧ (Lit.int .i64 a).wf = true ∧ (Lit.int .u64 b).wf = true := by
  obtain ⟨c0, c1, y0, y1, m, rfl, rfl, rfl, hy0, hy1⟩ := open_agg2 Try.underlying34 (by kernel_rfl) cellsPair hv h
  obtain ⟨a, e0, rfl, wa⟩ := DataW.trod_int Try.underlying3 hy0
  obtain ⟨b, e1, rfl, wb⟩ := DataW.trod_int Try.underlying32 hy1
  simp at e0 e1
  subst e0 e1
  exact ⟨a, b, rfl, rfl, rfl, wa, wb⟩
end Go.Proofs.Ytdblicfcfmfneaa

/-
  Walks: layer 9's reference: end, keeps, Kept, Lost, Find.
-/
namespace Go.Proofs.Ytdblicfcfmfneaa
set_option linter.unusedVariables false
set_option linter.unusedSimpArgs false
open Go.RowKit

set_option maxRecDepth 100000 in
set_option maxHeartbeats 1000000 in
theorem hrend_any (w : World) (M cap : Nat) (A : List PairV) (a : Option Addr) (e : Int) (hc : w.cell? ⟨M, 1, none⟩ = some (.slice a A.length cap)) (hP : Pairs w a A) (hne : A ≠ []) (hl : A.length ≤ 1000) (he : begP A = e) :
    Calls Try.prog 46 #[.pointer (some ⟨M, 0, none⟩)] w fun e' w' => e' = .returned (.int .i64 e) ∧ ∃ n, w' = w.drewN n := by
  have hpos : 0 < A.length := by cases A with
    | nil => exact absurd rfl hne
    | cons p r => simp
  obtain ⟨qx, qc, hx1⟩ : ∃ qx qc, A[0]? = some (qx, qc) := ⟨A[0].1, A[0].2, List.getElem?_eq_getElem hpos⟩
  have h2 : qx = e := by rw [← he]; unfold begP firP; rw [List.head?_eq_getElem?, hx1]; rfl
  subst h2
  obtain ⟨g, off, rfl, hbl, d0, _⟩ := hP.at_ 0 _ hx1
  simp only [Nat.zero_mul, Nat.add_zero] at d0
  obtain ⟨N, hN⟩ : ∃ N, A.length = N := ⟨_, rfl⟩
  rw [hN] at hc hpos hl
  have u3 : (0 : Int) < (N : Int) := by omega
  clear hP hne hN hx1 hbl he hl
  go_enter Try.func46, Try.ntmps46
  go_wp2_with fail
  go_ret
  exact ⟨rfl, 0, rfl⟩

set_option maxRecDepth 100000 in
set_option maxHeartbeats 1000000 in
theorem hrkeeps_any (w : World) (M cap : Nat) (m : Int) (A : List PairV) (a : Option Addr) (i : Int) (b : Bool) (h0 : w.cell? ⟨M, 0, none⟩ = some (.int .i64 m)) (hc : w.cell? ⟨M, 1, none⟩ = some (.slice a A.length cap)) (hP : Pairs w a A) (hne : A ≠ []) (hl : A.length ≤ 1000) (m0 : 0 ≤ m) (m1 : m ≤ 4096) (hi : I64 i) (hle : begP A ≤ i) (hb : decide (i - begP A < m) = b) :
    Calls Try.prog 35 #[.pointer (some ⟨M, 0, none⟩), .int .i64 i] w fun e' w' => e' = .returned (.bool b) ∧ ∃ n, w' = w.drewN n := by
  have he := beg_i64 hP.ok
  have HE : Hid (∀ n, Calls Try.prog 46 #[.pointer (some ⟨M, 0, none⟩)] (w.drewN n) fun e' w' => e' = .returned (.int .i64 (begP A)) ∧ ∃ k, w' = (w.drewN n).drewN k) := Lib.hid (fun n => by
    have hb := below_drewN (Below.refl w.heap.size w) n
    exact hrend_any _ M cap A a _ (cell_later hb hc) (hP.call hb) hne hl rfl)
  obtain ⟨e, hee⟩ : ∃ e, begP A = e := ⟨_, rfl⟩
  rw [hee] at he hle hb HE
  obtain ⟨e0, e1⟩ := he
  obtain ⟨i0, i1⟩ := hi
  obtain ⟨ue, hue⟩ : ∃ u, IntKind.u64.wrap e = u := ⟨_, rfl⟩
  obtain ⟨ui, hui⟩ : ∃ u, IntKind.u64.wrap i = u := ⟨_, rfl⟩
  have hsub : IntKind.u64.wrap (ui - ue) = i - e := by rw [← hue, ← hui, IntKind.wrap_u64, IntKind.wrap_u64, IntKind.wrap_u64]; omega
  have hm : IntKind.u64.wrap m = m := by rw [IntKind.wrap_u64]; omega
  have HB := Lib.hid hb
  clear hc hP hne hl hee hb
  go_enter Try.func35, Try.ntmps35
  go_wp2_with fail
  go_quiet ((go_at_call 46; exact Calls.quiet_of (HE.out _)))
  go_wp2_with fail
  go_ret
  exact ⟨by rw [← HB.out]; rfl, nq, rfl⟩

set_option maxRecDepth 100000 in
set_option maxHeartbeats 2000000 in
theorem hrkept_of (w : World) (M : Nat) (m : Int) (a : Option Addr) (cap : Nat) (A : List PairV) (hP : Pairs w a A) (c0 : w.cell? ⟨M, 0, none⟩ = some (.int .i64 m)) (c1 : w.cell? ⟨M, 1, none⟩ = some (.slice a A.length cap)) (hg : GoodP A) (hl : A.length ≤ 1000) (m0 : 0 ≤ m) (m1 : m ≤ 4096) :
    Calls Try.prog 13 #[.pointer (some ⟨M, 0, none⟩)] w fun e' w' => ∃ u, e' = .returned u ∧ OwnP w' w.heap.size u (keepH m A) ∧ Below w.heap.size w w' := by
  have ho := hP.ok
  have HI := Lib.hid hP
  have HG := Lib.hid hg
  have HC0 := Lib.hid c0
  have HC1 := Lib.hid c1
  have HL := Lib.hid hl
  obtain ⟨x, hx⟩ : ∃ x, begP A + m = x := ⟨_, rfl⟩
  have HX := Lib.hid hx
  have HKP : Hid (keepH m A = lowP A x) := Lib.hid (by unfold keepH; rw [hx])
  rw [HKP.out]
  clear hP hg ho c0 hx
  go_enter Try.func13, Try.ntmps13
  go_wp2_with fail
  go_loopw [3, 11] (fun s j wr => ∃ (k : Nat), k ≤ A.length ∧ j = .int .i64 k ∧ OwnP wr w.heap.size s (lowP (A.take k) x) ∧ Below w.heap.size w wr) (fun _ j _ => A.length - (intOf j).toNat)
  case atStart => exact ⟨0, Nat.zero_le _, rfl, OwnP.nil _ _, Below.refl _ _⟩
  case round =>
    clear c1
    obtain ⟨k, hk, rfl, hown, hb2⟩ := hrel
    have hbs := hb2.size
    by_cases hlt : k < A.length
    · have kk : (k : Int) < A.length := by omega
      have hxk : A[k]? = some A[k] := List.getElem?_eq_getElem hlt
      generalize hit : A[k] = p at *
      obtain ⟨px, pc⟩ := p
      obtain ⟨b0, off, rfl, hbl, c0, c1⟩ := (HI.out.call hb2).at_ k _ hxk
      simp only at c0 c1
      have HS := Lib.hid (low_step hxk x)
      have HLL := Lib.hid (low_len A x k)
      have hok := HI.out.ok _ (List.mem_of_getElem? hxk)
      have hle := beg_le HG.out _ (List.mem_of_getElem? hxk)
      have hne : A ≠ [] := by intro h; rw [h] at hlt; exact absurd hlt (Nat.not_lt_zero _)
      simp only at HS hle
      have hba : Below w.heap.size w (wr.alloc (.cells #[.int .i64 px, .int .u64 pc] 34)) := hb2.alloc hbs _
      have HKS : Hid (∀ b, decide (px < x) = b → Calls Try.prog 35 #[.pointer (some ⟨M, 0, none⟩), .int .i64 px] (wr.alloc (.cells #[.int .i64 px, .int .u64 pc] 34)) fun e' w' => e' = .returned (.bool b) ∧ ∃ n, w' = (wr.alloc (.cells #[.int .i64 px, .int .u64 pc] 34)).drewN n) := Lib.hid (fun b hb =>
        hrkeeps_any _ M cap m A _ px b (cell_later hba HC0.out) (cell_later hba HC1.out) (HI.out.call hba) hne HL.out m0 m1 hok.1 hle (by
          rw [← hb]; have := HX.out
          by_cases h : px < x
          · rw [decide_eq_true h, decide_eq_true (by omega)]
          · rw [decide_eq_false h, decide_eq_false (by omega)]))
      obtain ⟨⟨o1, o2⟩, o3, o4⟩ := hok
      have HBA := Lib.hid hba
      clear hxk hit hba hle hne
      by_cases hc : px < x
      · rw [if_pos hc] at HS
        have HK2 := Lib.hid (HKS.out true (decide_eq_true hc))
        obtain ⟨vA, vk, rfl⟩ := hown.form
        have HO := Lib.hid hown
        clear hown HKS
        go_wp2_with fail
        refine HK2.out.mono ?_
        rintro e' w2 ⟨rfl, n, rfl⟩
        have hb3 : Below w.heap.size w ((wr.alloc (.cells #[.int .i64 px, .int .u64 pc] 34)).drewN n) := below_drewN HBA.out n
        have hO3 : OwnP ((wr.alloc (.cells #[.int .i64 px, .int .u64 pc] 34)).drewN n) w.heap.size (.slice vA (lowP (A.take k) x).length vk) (lowP (A.take k) x) := (HO.out.alloc _).call (below_drewN (Below.refl _ _) n)
        obtain ⟨q0, q1⟩ : ((wr.alloc (.cells #[.int .i64 px, .int .u64 pc] 34)).drewN n).cell? ⟨wr.heap.size, 0, none⟩ = some (.int .i64 px) ∧ ((wr.alloc (.cells #[.int .i64 px, .int .u64 pc] 34)).drewN n).cell? ⟨wr.heap.size, 1, none⟩ = some (.int .u64 pc) := by
          have h := two_new9 wr (.int .i64 px) (.int .u64 pc) 34
          exact ⟨cell_later (below_drewN (Below.refl _ _) n) h.1, cell_later (below_drewN (Below.refl _ _) n) h.2⟩
        have hsz : ((wr.alloc (.cells #[.int .i64 px, .int .u64 pc] 34)).drewN n).heap.size = wr.heap.size + 1 := by
          show (wr.alloc _).heap.size = _; simp
        generalize (wr.alloc (.cells #[.int .i64 px, .int .u64 pc] 34)).drewN n = wY at *
        have HO3 := Lib.hid hO3
        have HB3 := Lib.hid hb3
        have HSZ := Lib.hid hsz
        clear hO3 hb3 hsz
        go_wp2_with (at_builtin; refine wpList_append_pair rfl _ _ rfl w.heap.size _ _ wY.heap.size (px, pc) rfl (HO3.out.alloc _) rfl ?c1 ?c2 ?c3 ?c4 ?_)
        case c3 => have := HLL.out; omega
        case c4 => have := HB3.out.size; simp; omega
        intro v' w1 hown' hgrow
        have hb4 := OwnP.below (HO3.out.alloc _) (HB3.out.alloc HB3.out.size _) hgrow (by have := HB3.out.size; simp; omega)
        rw [← HS.out] at hown'
        clear hgrow
        go_wp2_with fail
        go_roundw
        case rel => exact ⟨k + 1, by omega, by go_num, hown', hb4⟩
        case measure => simp [intOf]; omega
      · rw [if_neg hc, List.append_nil] at HS
        have HK2 := Lib.hid (HKS.out false (decide_eq_false hc))
        rw [← HS.out] at hown
        have HO := Lib.hid hown
        clear hown HKS
        go_wp2_with fail
        refine HK2.out.mono ?_
        rintro e' w2 ⟨rfl, n, rfl⟩
        go_wp2_with fail
        go_roundw
        case rel => exact ⟨k + 1, by omega, by go_num, (HO.out.alloc _).call (below_drewN (Below.refl _ _) n), below_drewN HBA.out n⟩
        case measure => simp [intOf]; omega
    · obtain rfl : k = A.length := by omega
      rw [List.take_length] at hown
      have kk : ¬ (A.length : Int) < A.length := by omega
      obtain ⟨vA, vk, rfl⟩ := hown.form
      have HO := Lib.hid hown
      clear hown
      go_wp2_with fail
      go_ret
      exact ⟨_, rfl, HO.out, hb2⟩

set_option maxRecDepth 100000 in
set_option maxHeartbeats 2000000 in
theorem hrlost_of (w : World) (M : Nat) (m : Int) (a : Option Addr) (cap : Nat) (A : List PairV) (t : Int) (hP : Pairs w a A) (c0 : w.cell? ⟨M, 0, none⟩ = some (.int .i64 m)) (c1 : w.cell? ⟨M, 1, none⟩ = some (.slice a A.length cap)) (hg : GoodP A) (hl : A.length ≤ 1000) (m0 : 0 ≤ m) (m1 : m ≤ 4096) (hs : sumP A ≤ 9223372036854775807) (ht : sumP A - sumP (keepH m A) = t) :
    Calls Try.prog 17 #[.pointer (some ⟨M, 0, none⟩)] w fun e' w' => e' = .returned (.int .u64 t) ∧ Below w.heap.size w w' := by
  have ho := hP.ok
  have HI := Lib.hid hP
  have HG := Lib.hid hg
  have HC0 := Lib.hid c0
  have HC1 := Lib.hid c1
  have HL := Lib.hid hl
  obtain ⟨x, hx⟩ : ∃ x, begP A + m = x := ⟨_, rfl⟩
  have HX := Lib.hid hx
  have HKP : Hid (sumP A - sumP (lowP A x) = t) := Lib.hid (by rw [← ht]; unfold keepH; rw [hx])
  have HTK : Hid (∀ k, 0 ≤ sumP (A.take k) - sumP (lowP (A.take k) x) ∧ sumP (A.take k) - sumP (lowP (A.take k) x) ≤ 9223372036854775807) := Lib.hid (fun k => by
    have h1 := sumP_take (L := A) k (ok_pos ho)
    have h2 := sumP_filter (fun p : PairV => decide (p.1 < x)) (L := A.take k) (fun p hp => ok_pos ho p (List.mem_of_mem_take hp))
    have h3 : sumP (lowP (A.take k) x) = sumP ((A.take k).filter fun p : PairV => decide (p.1 < x)) := rfl
    omega)
  clear hP hg ho c0 hx ht
  go_enter Try.func17, Try.ntmps17
  go_wp2_with fail
  go_loopw [3, 11] (fun s j wr => ∃ (k : Nat) (n : Int), k ≤ A.length ∧ j = .int .i64 k ∧ s = .int .u64 n ∧ n = sumP (A.take k) - sumP (lowP (A.take k) x) ∧ Below w.heap.size w wr) (fun _ j _ => A.length - (intOf j).toNat)
  case atStart => exact ⟨0, 0, Nat.zero_le _, rfl, rfl, rfl, Below.refl _ _⟩
  case round =>
    clear c1
    obtain ⟨k, n, hk, rfl, rfl, hn, hb2⟩ := hrel
    have hbs := hb2.size
    have HN := Lib.hid hn
    by_cases hlt : k < A.length
    · have kk : (k : Int) < A.length := by omega
      have hxk : A[k]? = some A[k] := List.getElem?_eq_getElem hlt
      generalize hit : A[k] = p at *
      obtain ⟨px, pc⟩ := p
      obtain ⟨b0, off, rfl, hbl, c0, c1⟩ := (HI.out.call hb2).at_ k _ hxk
      simp only at c0 c1
      have HS := Lib.hid (low_step hxk x)
      have HSS : Hid (sumP (A.take (k + 1)) = sumP (A.take k) + pc) := Lib.hid (by rw [take_snocP hxk, sumP_app, sumP_one])
      have hok := HI.out.ok _ (List.mem_of_getElem? hxk)
      have hle := beg_le HG.out _ (List.mem_of_getElem? hxk)
      have hne : A ≠ [] := by intro h; rw [h] at hlt; exact absurd hlt (Nat.not_lt_zero _)
      simp only at HS hle
      have hba : Below w.heap.size w (wr.alloc (.cells #[.int .i64 px, .int .u64 pc] 34)) := hb2.alloc hbs _
      have HKS : Hid (∀ b, decide (px < x) = b → Calls Try.prog 35 #[.pointer (some ⟨M, 0, none⟩), .int .i64 px] (wr.alloc (.cells #[.int .i64 px, .int .u64 pc] 34)) fun e' w' => e' = .returned (.bool b) ∧ ∃ n, w' = (wr.alloc (.cells #[.int .i64 px, .int .u64 pc] 34)).drewN n) := Lib.hid (fun b hb =>
        hrkeeps_any _ M cap m A _ px b (cell_later hba HC0.out) (cell_later hba HC1.out) (HI.out.call hba) hne HL.out m0 m1 hok.1 hle (by
          rw [← hb]; have := HX.out
          by_cases h : px < x
          · rw [decide_eq_true h, decide_eq_true (by omega)]
          · rw [decide_eq_false h, decide_eq_false (by omega)]))
      obtain ⟨⟨o1, o2⟩, o3, o4⟩ := hok
      simp only at o3 o4
      have HBA := Lib.hid hba
      have t0 := HTK.out k
      have t1 := HTK.out (k + 1)
      have hnn : n = sumP (A.take k) - sumP (lowP (A.take k) x) := HN.out
      clear hxk hit hba hle hne hn
      by_cases hc : px < x
      · rw [if_pos hc] at HS
        have HK2 := Lib.hid (HKS.out true (decide_eq_true hc))
        have HE : Hid (n = sumP (A.take (k + 1)) - sumP (lowP (A.take (k + 1)) x)) := Lib.hid (by rw [HS.out, HSS.out, sumP_app, sumP_one]; omega)
        clear HKS t0 t1 hnn
        go_wp2_with fail
        refine HK2.out.mono ?_
        rintro e' w2 ⟨rfl, d, rfl⟩
        go_wp2_with fail
        go_roundw
        case rel => exact ⟨k + 1, n, by omega, by go_num, rfl, HE.out, below_drewN HBA.out d⟩
        case measure => simp [intOf]; omega
      · rw [if_neg hc, List.append_nil] at HS
        have HK2 := Lib.hid (HKS.out false (decide_eq_false hc))
        rw [HS.out, HSS.out] at t1
        have hw : IntKind.u64.wrap (n + pc) = n + pc := by rw [IntKind.wrap_u64]; omega
        have HE : Hid (n + pc = sumP (A.take (k + 1)) - sumP (lowP (A.take (k + 1)) x)) := Lib.hid (by rw [HS.out, HSS.out]; omega)
        have q0 : ((wr.alloc (.cells #[.int .i64 px, .int .u64 pc] 34))).cell? ⟨wr.heap.size, 1, none⟩ = some (.int .u64 pc) := (two_new9 wr _ _ _).2
        clear HKS t0 t1 hnn
        go_wp2_with fail
        refine HK2.out.mono ?_
        rintro e' w2 ⟨rfl, d, rfl⟩
        have q1 := cell_later (below_drewN (Below.refl (wr.alloc (.cells #[.int .i64 px, .int .u64 pc] 34)).heap.size (wr.alloc (.cells #[.int .i64 px, .int .u64 pc] 34))) d) q0
        go_wp2_with fail
        go_roundw
        case rel => exact ⟨k + 1, n + pc, by omega, by go_num, by first | rfl | rw [hw], HE.out, below_drewN HBA.out d⟩
        case measure => simp [intOf]; omega
    · obtain rfl : k = A.length := by omega
      have kk : ¬ (A.length : Int) < A.length := by omega
      have HE : Hid (n = t) := Lib.hid (by rw [HN.out, List.take_length]; exact HKP.out)
      clear hn
      go_wp2_with fail
      go_ret
      exact ⟨ret_int HE.out, hb2⟩

theorem hrkept_any (w : World) (M : Nat) (m : Int) (v : Value) (A : List PairV) (h : RefS w M m v A) (hg : GoodP A) (ho : ∀ p, p ∈ A → okP p) (hl : A.length ≤ 1000) (m0 : 0 ≤ m) (m1 : m ≤ 4096) :
    Calls Try.prog 13 #[.pointer (some ⟨M, 0, none⟩)] w fun e' w' => ∃ u, e' = .returned u ∧ OwnP w' w.heap.size u (keepH m A) ∧ Below w.heap.size w w' := by
  obtain ⟨a, cap, rfl, hP, c0, c1⟩ := h.row ho
  exact hrkept_of w M m a cap A hP c0 c1 hg hl m0 m1
theorem hrlost_any (w : World) (M : Nat) (m : Int) (v : Value) (A : List PairV) (t : Int) (h : RefS w M m v A) (hg : GoodP A) (ho : ∀ p, p ∈ A → okP p) (hl : A.length ≤ 1000) (m0 : 0 ≤ m) (m1 : m ≤ 4096) (hs : sumP A ≤ 9223372036854775807) (ht : sumP A - sumP (keepH m A) = t) :
    Calls Try.prog 17 #[.pointer (some ⟨M, 0, none⟩)] w fun e' w' => e' = .returned (.int .u64 t) ∧ Below w.heap.size w w' := by
  obtain ⟨a, cap, rfl, hP, c0, c1⟩ := h.row ho
  exact hrlost_of w M m a cap A t hP c0 c1 hg hl m0 m1 hs ht

set_option maxRecDepth 100000 in
set_option maxHeartbeats 2000000 in
theorem hrlfind_any (w : World) (M : Nat) (m : Int) (v : Value) (A : List PairV) (t x : Int) (fb : Bool) (h : RefS w M m v A) (hg : GoodP A) (ho : ∀ p, p ∈ A → okP p) (hl : A.length ≤ 1000) (m0 : 0 ≤ m) (m1 : m ≤ 4096) (hs : sumP A < 18446744073709551616) (ht : Word t)
    (hx : (match findP A t with | none => none | some x => if x - begP A < m then some x else none).getD 0 = x) (hb : (match findP A t with | none => none | some x => if x - begP A < m then some x else none).isSome = fb) :
    Calls Try.prog 25 #[.pointer (some ⟨M, 0, none⟩), .int .u64 t] w fun e' w' => e' = .returned (.tuple #[.int .i64 x, .bool fb]) ∧ Below w.heap.size w w' := by
  obtain ⟨a, cap, rfl, hP, c0, c1⟩ := h.row ho
  have HC0 := Lib.hid c0
  have HC1 := Lib.hid c1
  have HI := Lib.hid hP
  have HL := Lib.hid hl
  have hseek : ∀ (L : List PairV) (s x : Int), seekP t s L = some x → ∃ p, p ∈ L ∧ p.1 = x := by
    intro L
    induction L with
    | nil => intro s x h; cases h
    | cons p r ih =>
      intro s x h
      rw [seek_cons] at h
      split at h
      · exact ⟨p, by simp, Option.some.inj h⟩
      · obtain ⟨q, hq, e⟩ := ih _ x h
        exact ⟨q, List.mem_cons_of_mem _ hq, e⟩
  cases hf : findP A t with
  | none =>
    rw [hf] at hx hb
    have h1 : x = 0 := hx.symm
    have h2 : fb = false := hb.symm
    subst h1 h2
    have HF := Lib.hid (rfind_any w a cap A t 0 false hP hl ht hs (by rw [hf]; rfl) (by rw [hf]; rfl))
    clear h hP hg ho hl hs hx hb hf hseek c0
    go_enter Try.func25, Try.ntmps25
    go_wp2_with fail
    refine HF.out.mono ?_
    rintro e' w2 ⟨rfl, b2⟩
    go_wp2_with fail
    go_ret2
    exact ⟨rfl, b2⟩
  | some y =>
    rw [hf] at hx hb
    obtain ⟨p, hp, hpy⟩ : ∃ p, p ∈ A ∧ p.1 = y := by
      unfold findP at hf
      split at hf
      · exact hseek A 0 y hf
      · cases hf
    have hne : A ≠ [] := by rintro rfl; cases hp
    have hyi : I64 y := by rw [← hpy]; exact (ho p hp).1
    have hyl : begP A ≤ y := by rw [← hpy]; exact beg_le hg p hp
    have HF := Lib.hid (rfind_any w a cap A t y true hP hl ht hs (by rw [hf]; rfl) (by rw [hf]; rfl))
    have HK : Hid (∀ w', Below w.heap.size w w' → ∀ b, decide (y - begP A < m) = b → Calls Try.prog 35 #[.pointer (some ⟨M, 0, none⟩), .int .i64 y] w' fun e' w'' => e' = .returned (.bool b) ∧ ∃ n, w'' = w'.drewN n) := Lib.hid (fun w' hw b hb =>
      hrkeeps_any w' M cap m A _ y b (cell_later hw HC0.out) (cell_later hw HC1.out) (HI.out.call hw) hne HL.out m0 m1 hyi hyl hb)
    by_cases hc : y - begP A < m
    · have h1 : x = y := by rw [← hx]; show (if y - begP A < m then some y else none).getD 0 = y; rw [if_pos hc]; rfl
      have h2 : fb = true := by rw [← hb]; show (if y - begP A < m then some y else none).isSome = true; rw [if_pos hc]; rfl
      subst h1 h2
      have HK2 := Lib.hid (fun w' hw => HK.out w' hw true (decide_eq_true hc))
      clear h hP hg ho hl hs hx hb hf hseek c0 hp hpy hne hyi hyl HK hc
      go_enter Try.func25, Try.ntmps25
      go_wp2_with fail
      refine HF.out.mono ?_
      rintro e' w2 ⟨rfl, b2⟩
      go_wp2_with fail
      refine (HK2.out _ b2).mono ?_
      rintro e' w3 ⟨rfl, n, rfl⟩
      go_wp2_with fail
      go_ret2
      exact ⟨rfl, below_drewN b2 n⟩
    · have h1 : x = 0 := by rw [← hx]; show (if y - begP A < m then some y else none).getD 0 = 0; rw [if_neg hc]; rfl
      have h2 : fb = false := by rw [← hb]; show (if y - begP A < m then some y else none).isSome = false; rw [if_neg hc]; rfl
      subst h1 h2
      have HK2 := Lib.hid (fun w' hw => HK.out w' hw false (decide_eq_false hc))
      clear h hP hg ho hl hs hx hb hf hseek c0 hp hpy hne hyi hyl HK hc
      go_enter Try.func25, Try.ntmps25
      go_wp2_with fail
      refine HF.out.mono ?_
      rintro e' w2 ⟨rfl, b2⟩
      go_wp2_with fail
      refine (HK2.out _ b2).mono ?_
      rintro e' w3 ⟨rfl, n, rfl⟩
      go_wp2_with fail
      go_ret2
      exact ⟨rfl, below_drewN b2 n⟩
end Go.Proofs.Ytdblicfcfmfneaa

/-
  The laws of highcap: alive, great, build.
-/
namespace Go.Proofs.Ytdblicfcfmfneaa
set_option linter.unusedVariables false
set_option linter.unusedSimpArgs false
open Go.RowKit

theorem hw_alive : lwErr 0 1 = 0 ∧ hgRow 2 [] 0 5 1 = [(5, 1)] ∧ lwSum 0 1 = 1 ∧ lwErr 1 1 = 0 ∧ hgRow 2 [(5, 1)] 1 7 1 = [(5, 1)] ∧ lwSum 1 1 = 2 ∧ (2 : Int) - sumP [(5, 1)] = 1 ∧ countP [(5, 1)] 5 = 1 := by decide

set_option maxRecDepth 100000 in
set_option maxHeartbeats 1000000 in
theorem lalive_any {Hw : World → Nat → (Nat → Prop) → Int → List PairV → Int → Prop} (D : HighDoes Hw) (w : World) :
    Calls Try.prog 8 #[] w fun e w' => e = .returned (.bool true) ∧ Below w.heap.size w w' := by
  have HD := Lib.hid D
  obtain ⟨e1, r1, s1, e2, r2, s2, l2, c2⟩ := hw_alive
  have E1 := Lib.hid e1
  have R1 := Lib.hid r1
  have S1 := Lib.hid s1
  have E2 := Lib.hid e2
  have R2 := Lib.hid r2
  have S2 := Lib.hid s2
  have L2 := Lib.hid l2
  have C2 := Lib.hid c2
  clear D e1 r1 s1 e2 r2 s2 l2 c2
  go_enter Try.func8, Try.ntmps8
  go_wp2_with fail
  refine (HD.out.new _ 2 (by decide) (by decide)).mono ?_
  rintro e w1 ⟨B, S, rfl, h1, hs1, b1⟩
  have H1 := Lib.hid h1
  have HS1 := Lib.hid hs1
  have z1 := b1.size
  clear h1 hs1
  go_wp2_with fail
  refine (HD.out.add _ B S 2 [] 0 5 1 H1.out (by decide) ⟨by decide, by decide⟩ ⟨by decide, by decide⟩).mono ?_
  rintro e w2 ⟨S', rfl, h2, k2, hs2⟩
  rw [E1.out]
  rw [R1.out, S1.out] at h2
  have b2 := k2.below b1 z1 HS1.out
  have H2 := Lib.hid h2
  have HS2 : Hid (∀ k, S' k → w.heap.size ≤ k) := Lib.hid fun k hk => by rcases hs2 k hk with h | h; exact HS1.out k h; omega
  have z2 := b2.size
  clear h2 k2 hs2 b1
  go_wp2_with fail
  refine (HD.out.add _ B S' 2 [(5, 1)] 1 7 1 H2.out (by decide) ⟨by decide, by decide⟩ ⟨by decide, by decide⟩).mono ?_
  rintro e w3 ⟨S3, rfl, h3, k3, hs3⟩
  rw [E2.out]
  rw [R2.out, S2.out] at h3
  have b3 := k3.below b2 z2 HS2.out
  have H3 := Lib.hid h3
  have z3 := b3.size
  clear h3 k3 hs3 b2
  go_wp2_with fail
  refine (HD.out.lost _ B S3 2 [(5, 1)] 2 H3.out).mono ?_
  rintro e w4 ⟨rfl, b4⟩
  rw [L2.out]
  have H4 := Lib.hid (HD.out.call H3.out b4)
  have b5 := b3.trans (b4.mono z3)
  have z5 := b5.size
  clear b4 b3
  go_wp2_with fail
  refine (HD.out.total _ B S3 2 [(5, 1)] 2 H4.out (by decide)).mono ?_
  rintro e w6 ⟨rfl, b6⟩
  have H6 := Lib.hid (HD.out.call H4.out b6)
  have b7 := b5.trans (b6.mono z5)
  have z7 := b7.size
  clear b6 b5
  go_wp2_with fail
  refine (HD.out.at_ _ B S3 2 [(5, 1)] 2 5 H6.out (by decide) ⟨by decide, by decide⟩).mono ?_
  rintro e w8 ⟨rfl, b8⟩
  rw [C2.out]
  have b9 := b7.trans (b8.mono z7)
  clear b7 b8
  go_wp2_with fail
  go_ret
  exact ⟨rfl, b9⟩

/-- More than is played. -/
def fineP (p : PairV) : Bool := decide (0 < p.2) && decide (p.2 ≤ 1125899906842624)
def grtB (m : Int) (L : List PairV) : Bool := !(L.all fineP) || decide (60 < L.length) || decide (m < 1) || decide (4096 < m)
def FineTo (L : List PairV) (k : Nat) : Prop := (L.take k).all fineP = true
theorem fine_step {L : List PairV} {k : Nat} {p : PairV} (h : FineTo L k) (hk : L[k]? = some p) (hp : fineP p = true) : FineTo L (k + 1) := by
  unfold FineTo at *
  rw [take_snocP hk, List.all_append, h]
  simp [hp]
theorem fine_not {L : List PairV} {k : Nat} {p : PairV} (hk : L[k]? = some p) (hp : fineP p = false) : L.all fineP = false := by
  cases h : L.all fineP with
  | false => rfl
  | true => have := List.all_eq_true.1 h p (List.mem_of_getElem? hk); rw [hp] at this; cases this
structure Played (m : Int) (L : List PairV) : Prop where
  each : ∀ p, p ∈ L → 0 < p.2 ∧ p.2 ≤ 1125899906842624
  len : L.length ≤ 60
  m1 : 1 ≤ m
  m2 : m ≤ 4096
theorem grt_false {m : Int} {L : List PairV} : grtB m L = false ↔ Played m L := by
  unfold grtB
  simp only [Bool.or_eq_false_iff, Bool.not_eq_false', decide_eq_false_iff_not, List.all_eq_true]
  constructor
  · rintro ⟨⟨⟨h1, h2⟩, h3⟩, h4⟩
    refine ⟨fun p hp => ?_, by omega, by omega, by omega⟩
    have := h1 p hp
    unfold fineP at this
    simp only [Bool.and_eq_true, decide_eq_true_eq] at this
    exact this
  · rintro ⟨h1, h2, h3, h4⟩
    refine ⟨⟨⟨fun p hp => ?_, by omega⟩, by omega⟩, by omega⟩
    unfold fineP
    simp only [Bool.and_eq_true, decide_eq_true_eq]
    exact h1 p hp

set_option maxRecDepth 100000 in
set_option maxHeartbeats 2000000 in
theorem grt_any (w : World) (m : Int) (A : Option Addr) (cap : Nat) (L : List PairV) (b : Bool) (h : Pairs w A L) (hl : L.length ≤ 140737488351232) (hm : I64 m) (hb : grtB m L = b) :
    Calls Try.prog 9 #[.int .i64 m, .slice A L.length cap] w fun e w' => e = .returned (.bool b) ∧ Below w.heap.size w w' := by
  have HP := Lib.hid h
  have HB := Lib.hid hb
  obtain ⟨m0, m1⟩ := hm
  clear h hb
  go_enter Try.func9, Try.ntmps9
  go_wp2_with fail
  go_loopw [9] (fun j wr => ∃ (k : Nat), k ≤ L.length ∧ j = .int .i64 k ∧ FineTo L k ∧ Below w.heap.size w wr) (fun j _ => L.length - (intOf j).toNat)
  case atStart => exact ⟨0, Nat.zero_le _, rfl, rfl, Below.refl _ _⟩
  case round =>
    obtain ⟨k, hk, rfl, hf, hb2⟩ := hrel
    have hbs := hb2.size
    have HF := Lib.hid hf
    clear hf
    by_cases hlt : k < L.length
    · have kk : (k : Int) < L.length := by omega
      have hxk : L[k]? = some L[k] := List.getElem?_eq_getElem hlt
      generalize hit : L[k] = x at *
      obtain ⟨xi, xc⟩ := x
      obtain ⟨b1, off, rfl, hbl, c0, c1⟩ := (HP.out.call hb2).at_ k _ hxk
      simp only at c0 c1
      have hok := HP.out.ok _ (List.mem_of_getElem? hxk)
      obtain ⟨⟨o1, o2⟩, o3, o4⟩ := hok
      simp only at o1 o2 o3 o4
      have HXK := Lib.hid hxk
      have hba := hb2.alloc hbs (.cells #[.int .i64 xi, .int .u64 xc] 34)
      clear hxk hit
      by_cases h1 : 1125899906842624 < xc
      · have HN : Hid (true = b) := Lib.hid (by
          rw [← HB.out]; unfold grtB
          rw [fine_not HXK.out (by unfold fineP; simp only []; rw [decide_eq_false (show ¬ xc ≤ 1125899906842624 by omega), Bool.and_false])]; simp)
        go_wp2_with fail
        go_ret
        exact ⟨by rw [← HN.out]; rfl, hba⟩
      · by_cases h2 : xc = 0
        · have HN : Hid (true = b) := Lib.hid (by
            rw [← HB.out]; unfold grtB
            rw [fine_not HXK.out (by unfold fineP; simp only []; rw [decide_eq_false (show ¬ 0 < xc by omega), Bool.false_and])]; simp)
          subst h2
          go_wp2_with fail
          go_ret
          exact ⟨by rw [← HN.out]; rfl, hba⟩
        · have h3 : (xc == 0) = false := by simp [h2]
          have HN := Lib.hid (fine_step HF.out HXK.out (by unfold fineP; simp only []; rw [decide_eq_true (show 0 < xc by omega), decide_eq_true (show xc ≤ 1125899906842624 by omega)]; rfl))
          go_wp2_with fail
          go_roundw
          case rel => exact ⟨k + 1, by omega, by go_num, HN.out, hba⟩
          case measure => simp [intOf]; omega
    · obtain rfl : k = L.length := by omega
      have kk : ¬ (L.length : Int) < L.length := by omega
      have hf : L.all fineP = true := by have := HF.out; unfold FineTo at this; rwa [List.take_length] at this
      have hbb : (decide (60 < L.length) || decide (m < 1) || decide (4096 < m)) = b := by
        rw [← HB.out]; unfold grtB; rw [hf]; simp
      have HBB := Lib.hid hbb
      clear hf hbb
      by_cases g1 : 60 < L.length
      · have g1' : (60 : Int) < L.length := by omega
        have E : Hid (true = b) := Lib.hid (by rw [← HBB.out, decide_eq_true g1]; simp)
        go_wp2_with fail
        go_ret
        exact ⟨by rw [← E.out]; rfl, hb2⟩
      · have g1' : ¬ (60 : Int) < L.length := by omega
        by_cases g2 : m < 1
        · have E : Hid (true = b) := Lib.hid (by rw [← HBB.out, decide_eq_true g2]; simp)
          go_wp2_with fail
          go_ret
          exact ⟨by rw [← E.out]; rfl, hb2⟩
        · have E : Hid (decide (4096 < m) = b) := Lib.hid (by rw [← HBB.out, decide_eq_false g1, decide_eq_false g2]; simp)
          go_wp2_with fail
          go_ret
          exact ⟨by rw [← E.out]; rfl, hb2⟩

/-- All that was added so far. -/
structure Sum50 (A : List PairV) (k : Nat) : Prop where
  good : GoodP A
  ok : ∀ p, p ∈ A → okP p
  len : A.length ≤ k
  sum : sumP A ≤ k * 1125899906842624
theorem Sum50.nil : Sum50 [] 0 := ⟨good_nil, fun p h => (by cases h), Nat.le_refl _, Int.le_refl _⟩
theorem Sum50.add {A : List PairV} {k : Nat} (h : Sum50 A k) {p : PairV} (hp : okP p) (h0 : 0 < p.2) (hc : p.2 ≤ 1125899906842624) (hk : k ≤ 1000) : Sum50 (addP A p.1 p.2) (k + 1) ∧ sumP (addP A p.1 p.2) = sumP A + p.2 := by
  have h1 := count_le_sum p.1 (ok_pos h.ok)
  have h2 := h.sum
  have hs := add_sum (L := A) (i := p.1) (c := p.2) (by omega)
  exact ⟨⟨add_good h.good (by omega), add_ok h.ok hp.1 (by omega), Nat.le_trans (add_len _ _ _) (by have := h.len; omega), by rw [hs]; push_cast; omega⟩, hs⟩
/-- A highcap and all that was added to it, side by side. -/
structure SideH (Hw : World → Nat → (Nat → Prop) → Int → List PairV → Int → Prop) (base : Nat) (w : World) (B : Nat) (S : Nat → Prop) (m : Int) (A : List PairV) (M : Nat) (v : Value) : Prop where
  st : Hw w B S m (keepH m A) (sumP A)
  rf : RefS w M m v A
  above : ∀ x, S x → base ≤ x
  apart : ∀ x, S x → x ≠ M ∧ v.ownBlock ≠ some x
  mab : base ≤ M
theorem SideH.call {Hw : World → Nat → (Nat → Prop) → Int → List PairV → Int → Prop} (D : HighDoes Hw) {base : Nat} {w w' : World} {B : Nat} {S : Nat → Prop} {m : Int} {A : List PairV} {M : Nat} {v : Value} (h : SideH Hw base w B S m A M v) (hb : Below w.heap.size w w') : SideH Hw base w' B S m A M v :=
  ⟨D.call h.st hb, h.rf.call hb, h.above, h.apart, h.mab⟩
theorem SideH.past {Hw : World → Nat → (Nat → Prop) → Int → List PairV → Int → Prop} {base : Nat} {w w3 : World} {B : Nat} {S : Nat → Prop} {m : Int} {A : List PairV} {M : Nat} {v : Value} (h : SideH Hw base w B S m A M v) (k3 : Keeps S w w3) : RefS w3 M m v A :=
  h.rf.past k3 (fun hx => (h.apart _ hx).1 rfl) (fun g hg hx => (h.apart g hx).2 hg)
/-- .. behind an addition to both. -/
theorem SideH.step {Hw : World → Nat → (Nat → Prop) → Int → List PairV → Int → Prop} (D : HighDoes Hw) {base : Nat} {w w3 wm : World} {B : Nat} {S S3 : Nat → Prop} {m : Int} {A A' : List PairV} {M : Nat} {v v4 : Value} (h : SideH Hw base w B S m A M v)
    (h3 : Hw w3 B S3 m (keepH m A') (sumP A')) (k3 : Keeps S w w3) (hs3 : ∀ k, S3 k → S k ∨ w.heap.size ≤ k) (hbase : base ≤ w.heap.size) (hm : Below w3.heap.size w3 wm) (ho : OwnP wm w3.heap.size v4 A') : SideH Hw base (wm.setCell ⟨M, 1, none⟩ v4) B S3 m A' M v4 := by
  have hM := h.rf.lt
  have z3 := k3.size
  have hlt3 := D.lt _ _ _ _ _ _ h3
  have hr := h.past k3
  have hS3 : ∀ x, S3 x → base ≤ x ∧ x ≠ M := fun x hx => by
    rcases hs3 x hx with a | a
    · exact ⟨h.above x a, (h.apart x a).1⟩
    · exact ⟨by omega, by omega⟩
  obtain ⟨⟨v', hr', hv'⟩, _⟩ := Done8.put hr hm ho
  have hg := grown_setCell wm M 1 v4
  have hc : RefS (wm.setCell ⟨M, 1, none⟩ v4) M m v4 A' := ⟨(hr.1.call hm).put1 v4, own_set8 (own_mono8 ho (by omega)) (by omega) _⟩
  refine ⟨D.keep _ _ _ _ _ _ _ (D.call h3 hm) fun x hx => hg.block x (by have := hlt3 x hx; have := hm.size; omega) (fun e => (hS3 x hx).2 (Option.some.inj e)), hc, fun x hx => (hS3 x hx).1, fun x hx => ⟨(hS3 x hx).2, fun e => ?_⟩, h.mab⟩
  have := (ho.lt x e).1
  have := hlt3 x hx
  omega

set_option maxRecDepth 100000 in
set_option maxHeartbeats 4000000 in
theorem build_any {Hw : World → Nat → (Nat → Prop) → Int → List PairV → Int → Prop} (D : HighDoes Hw) (w : World) (m : Int) (A : Option Addr) (cap : Nat) (L : List PairV) (h : Pairs w A L) (hp : ∀ p, p ∈ L → 0 < p.2 ∧ p.2 ≤ 1125899906842624) (hl : L.length ≤ 120) (m1 : 1 ≤ m) (m2 : m ≤ 4096) :
    Calls Try.prog 23 #[.int .i64 m, .slice A L.length cap] w fun e w' => ∃ B S M v, e = .returned (.tuple #[.pointer (some ⟨B, 0, none⟩), .pointer (some ⟨M, 0, none⟩)]) ∧ SideH Hw w.heap.size w' B S m (foldP L) M v ∧ Sum50 (foldP L) L.length ∧ Below w.heap.size w w' := by
  have HD := Lib.hid D
  have HP := Lib.hid h
  have HE := Lib.hid hp
  have HL := Lib.hid hl
  clear D h hp
  go_enter Try.func23, Try.ntmps23
  go_wp2_with fail
  refine (HD.out.new _ m m1 m2).mono ?_
  rintro e w1 ⟨B, S, rfl, h1, hs1, b1⟩
  obtain ⟨M, hM⟩ : ∃ M, w1.heap.size = M := ⟨_, rfl⟩
  have hlt1 := HD.out.lt _ _ _ _ _ _ h1
  have hbm : Below w1.heap.size w1 (w1.alloc (.cells #[.int .i64 m, .slice none 0 0] 31)) := (Below.refl _ _).alloc (Nat.le_refl _) _
  have HSD : Hid (SideH Hw w.heap.size (w1.alloc (.cells #[.int .i64 m, .slice none 0 0] 31)) B S m [] M (.slice none 0 0)) := Lib.hid
    ⟨HD.out.call h1 hbm, by rw [← hM]; exact RefS.mk_new w1 m _, hs1, fun x hx => ⟨by have := hlt1 x hx; omega, by simp [Value.ownBlock]⟩, by rw [← hM]; exact b1.size⟩
  have hbb := b1.alloc b1.size (.cells #[.int .i64 m, .slice none 0 0] 31)
  clear h1 hs1 b1 hlt1 hbm
  go_wp2_with fail
  clear hM
  go_loopg [21] L.length (fun g j wr => ∃ (k : Nat) (S' : Nat → Prop) (v : Value) (R : List PairV), k ≤ L.length ∧ g = L.length - k ∧ j = .int .i64 k ∧ R = foldP (L.take k) ∧ SideH Hw w.heap.size wr B S' m R M v ∧ Sum50 R k ∧ Below w.heap.size w wr)
  case atStart => exact ⟨0, S, _, [], Nat.zero_le _, rfl, rfl, rfl, HSD.out, Sum50.nil, hbb⟩
  case round =>
    clear hbb HSD
    obtain ⟨k, S', v, R, hk, rfl, rfl, hR, hsd, hsum, hb2⟩ := hrel
    have hbs := hb2.size
    have HSD := Lib.hid hsd
    have HSM := Lib.hid hsum
    have HRR := Lib.hid hR
    clear hsd hsum hR
    by_cases hlt : k < L.length
    · have kk : (k : Int) < L.length := by omega
      have hxk : L[k]? = some L[k] := List.getElem?_eq_getElem hlt
      generalize hit : L[k] = x at *
      obtain ⟨xi, xc⟩ := x
      obtain ⟨b1, off, rfl, hbl, c0, c1⟩ := (HP.out.call hb2).at_ k _ hxk
      simp only at c0 c1
      have hok := HP.out.ok _ (List.mem_of_getElem? hxk)
      have hfe := HE.out _ (List.mem_of_getElem? hxk)
      have HOK := Lib.hid hok
      obtain ⟨hs50, hsadd⟩ := HSM.out.add hok hfe.1 hfe.2 (by omega)
      simp only at hs50 hsadd hfe
      have hRk : addP R xi xc = foldP (L.take (k + 1)) := by rw [take_snocP hxk, fold_snoc, ← HRR.out]
      have HRK := Lib.hid hRk
      have HS50 := Lib.hid hs50
      have HSA := Lib.hid hsadd
      obtain ⟨⟨o1, o2⟩, o3, o4⟩ := hok
      simp only at o1 o2 o3 o4
      have hba := hb2.alloc hbs (.cells #[.int .i64 xi, .int .u64 xc] 34)
      have HSDA := Lib.hid (SideH.call HD.out HSD.out ((Below.refl _ _).alloc (Nat.le_refl _) (.cells #[.int .i64 xi, .int .u64 xc] 34)))
      have hz : lwErr (sumP R) xc = 0 := by
        have h3 := HSM.out.sum
        unfold lwErr; rw [if_neg (by omega), if_neg (by omega)]
      have hcn := count_le_sum xi (ok_pos HSM.out.ok)
      have hle : (keepH m R).length ≤ 700 := Nat.le_trans (keeph_le m R) (by have := HSM.out.len; omega)
      have hrow : hgRow m (keepH m R) (sumP R) xi xc = keepH m (addP R xi xc) := by
        unfold hgRow; rw [if_pos hz]; exact keeph_add (by omega) HSM.out.good (by have := HSM.out.sum; omega) hfe.1
      have hsumm : lwSum (sumP R) xc = sumP (addP R xi xc) := by unfold lwSum; rw [if_pos hz, hsadd]
      have HADD := Lib.hid (HD.out.add _ B S' m (keepH m R) (sumP R) xi xc HSDA.out.st hle HOK.out.1 HOK.out.2)
      rw [hz, hrow, hsumm] at HADD
      have HBA := Lib.hid hba
      obtain ⟨q0, q1⟩ := two_new9 wr (.int .i64 xi) (.int .u64 xc) 34
      obtain ⟨wa, hwa⟩ : ∃ wa, wr.alloc (.cells #[.int .i64 xi, .int .u64 xc] 34) = wa := ⟨_, rfl⟩
      have hza : wa.heap.size = wr.heap.size + 1 := by rw [← hwa]; simp
      rw [hwa] at HSDA HADD HBA q0 q1
      have HZA := Lib.hid hza
      clear hxk hit hs50 hsadd hRk hz hrow hsumm hle hcn hba hza
      go_wp2_with fail
      clear hwa
      refine HADD.out.mono ?_
      rintro e w3 ⟨S3, rfl, h3, k3, hs3⟩
      have hnw : ¬ S' wr.heap.size := fun hx => by have := HD.out.lt _ _ _ _ _ _ HSD.out.st _ hx; omega
      have p0 := k3.cell hnw q0
      have p1 := k3.cell hnw q1
      have hr3 := HSDA.out.past k3
      obtain ⟨av, cv, hve, hPv, d0, d1⟩ := hr3.row HSM.out.ok
      have H3 := Lib.hid h3
      have K3 := Lib.hid k3
      have HS3 := Lib.hid hs3
      have HPV := Lib.hid hPv
      have hb3 := k3.below HBA.out HBA.out.size HSDA.out.above
      have HB3 := Lib.hid hb3
      have frC : Hid (∀ wx, Below w3.drew.heap.size w3.drew wx → wx.frozen? ⟨M, 1, none⟩ = false) := Lib.hid (fun wx hx => (hr3.1.call ((Below.refl _ _).drew.trans hx)).f1)
      have HADR : Hid (∀ wx, Below w3.heap.size w3 wx → Calls Try.prog 12 #[.slice av R.length cv, .int .i64 xi, .int .u64 xc] wx fun e w' => ∃ v, e = .returned v ∧ OwnP w' wx.heap.size v (addP R xi xc) ∧ Below wx.heap.size wx w') := Lib.hid (fun wx hx =>
        radd_any wx av cv R xi xc _ (HPV.out.call hx) (by have := HSM.out.len; omega) HOK.out.1 HOK.out.2 rfl (by have := count_le_sum xi (ok_pos HSM.out.ok); have := HSM.out.sum; omega))
      clear h3 k3 hs3 hPv hb3 hr3 hnw
      go_wp2_with fail
      go_region_with (go_at_call 12; refine (HADR.out _ (Below.refl _ _).drew).mono ?_; rintro e wC ⟨v4, rfl, ho4, hbC⟩; obtain ⟨A4, c4, rfl⟩ := ho4.form; have gC := cell_later ((Below.refl w3.heap.size w3).drew.trans hbC) d1; have fC := frC.out _ hbC)
      all_goals
        have hbC2 : Below w3.heap.size w3 wC := (Below.refl w3.heap.size w3).drew.trans hbC
        have hst := SideH.step HD.out HSDA.out H3.out K3.out HS3.out HBA.out.size hbC2 ho4
        have hb9 := (HB3.out.trans (hbC2.mono HB3.out.size)).setCell (p := ⟨M, 1, none⟩) HSDA.out.mab (.slice A4 (addP R xi xc).length c4)
        have HST := Lib.hid hst
        have HB9 := Lib.hid hb9
        clear hst hb9 ho4 hbC hbC2 gC fC d0 d1 p0 p1 q0 q1 c0 c1
        go_wp2_with fail
        go_roundg (L.length - (k + 1))
        case measure => omega
        case rel => exact ⟨k + 1, S3, _, _, hlt, rfl, by go_num, HRK.out, HST.out, HS50.out, HB9.out⟩
    · obtain rfl : k = L.length := by omega
      have kk : ¬ (L.length : Int) < L.length := by omega
      have hR : R = foldP L := by have := HRR.out; rwa [List.take_length] at this
      subst hR
      go_wp2_with fail
      refine bodyPost_ret (v := .tuple #[.pointer (some ⟨B, 0, none⟩), .pointer (some ⟨M, 0, none⟩)]) (by simp [results, Try.results23, go_sem]) rfl ?_
      exact ⟨B, S', M, rfl, ⟨v, HSD.out⟩, HSM.out, hb2⟩
end Go.Proofs.Ytdblicfcfmfneaa
