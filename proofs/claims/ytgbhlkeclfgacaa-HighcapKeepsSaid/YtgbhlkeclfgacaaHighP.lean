/-
  How package highcap lays a highcap in memory; walks: own, Lost, Most, Total, Pairs, At, Find, under, Below, of a highcap and of a nil one.
  Walks: package highcap: Below; drop, put of a highcap.
-/
import Derived.Test.YtgbhlkeclfgacaaHighC
import Derived.Test.YtgbhlkeclfgacaaCap
import Derived.Test.YtgbhlkeclfgacaaSignA
import Derived.Test.YtgbhlkeclfgacaaPlus
import Derived.Test.YtgbhlkeclfgacaaGrew
import Derived.Deep.LoopGhost
import Derived.Deep.RegionHeld3
import Derived.Deep.RegionWith
namespace Go.Proofs.Ytgbhlkeclfgacaa
set_option linter.unusedVariables false
set_option linter.unusedSimpArgs false
open Go.RowKit

/-- At block B lies a highcap of m indexes that keeps K, l being lost; S are its blocks. -/
def HighRaw (St : World → Nat → (Nat → Prop) → Int → List PairV → Prop) (w : World) (B : Nat) (S : Nat → Prop) (m : Int) (K : List PairV) (l : Int) : Prop :=
  ∃ C S0, w.heap[B]? = some (.cells #[.int .i64 m, .pointer (some ⟨C, 0, none⟩), .int .u64 l] 63 (0, 0)) ∧ St w C S0 m K ∧ ¬ S0 B ∧ ∀ k, S k ↔ k = B ∨ S0 k
section
variable {St : World → Nat → (Nat → Prop) → Int → List PairV → Prop} (D : StripDoes St)
include D
theorem hraw_lt {w : World} {B : Nat} {S : Nat → Prop} {m l : Int} {K : List PairV} (h : HighRaw St w B S m K l) : ∀ k, S k → k < w.heap.size := by
  obtain ⟨C, S0, hb, hst, hn, hS⟩ := h
  intro k hk
  rcases (hS k).1 hk with rfl | h
  · exact lt_of_block hb
  · exact D.lt _ _ _ _ _ hst k h
theorem hraw_keep {w w' : World} {B : Nat} {S : Nat → Prop} {m l : Int} {K : List PairV} (h : HighRaw St w B S m K l) (hk : ∀ k, S k → w'.heap[k]? = w.heap[k]?) : HighRaw St w' B S m K l := by
  obtain ⟨C, S0, hb, hst, hn, hS⟩ := h
  exact ⟨C, S0, (hk B ((hS B).2 (Or.inl rfl))).trans hb, D.keep _ _ _ _ _ _ hst (fun k h => hk k ((hS k).2 (Or.inr h))), hn, hS⟩
theorem hraw_call {w w' : World} {B : Nat} {S : Nat → Prop} {m l : Int} {K : List PairV} (h : HighRaw St w B S m K l) (hb : Below w.heap.size w w') : HighRaw St w' B S m K l :=
  hraw_keep D h fun k hk => hb.block k (hraw_lt D h k hk)
theorem hraw_cells {w : World} {B : Nat} {S : Nat → Prop} {m l : Int} {K : List PairV} (h : HighRaw St w B S m K l) : ∀ k, S k → ∃ cs t z, w.heap[k]? = some (.cells cs t z) := by
  obtain ⟨C, S0, hb, hst, hn, hS⟩ := h
  intro k hk
  rcases (hS k).1 hk with rfl | h
  · exact ⟨_, _, _, hb⟩
  · exact D.cells _ _ _ _ _ hst k h
/-- The lost ones are counted anew. -/
theorem hraw_lost {w : World} {B : Nat} {S : Nat → Prop} {m l : Int} {K : List PairV} (h : HighRaw St w B S m K l) (l' : Int) : HighRaw St (w.setCell ⟨B, 2, none⟩ (.int .u64 l')) B S m K l' := by
  obtain ⟨C, S0, hb, hst, hn, hS⟩ := h
  refine ⟨C, S0, set_cells8 hb 2 _, D.keep _ _ _ _ _ _ hst (fun k hk => Below.heap_setCell _ _ _ _ (by show k ≠ B; rintro rfl; exact hn hk)), hn, hS⟩
end
theorem hraw_B {St : World → Nat → (Nat → Prop) → Int → List PairV → Prop} {w : World} {B : Nat} {S : Nat → Prop} {m l : Int} {K : List PairV} (h : HighRaw St w B S m K l) : S B := by
  obtain ⟨C, S0, hb, hst, hn, hS⟩ := h
  exact (hS B).2 (Or.inl rfl)

set_option maxHeartbeats 400000 in
theorem hlown_at (w : World) (B : Nat) (v : Value) (h : w.cell? ⟨B, 1, none⟩ = some v) :
    Calls Try.prog 36 #[.pointer (some ⟨B, 0, none⟩)] w fun e w' => e = .returned v ∧ w = w' := by
  go_enter Try.func36, Try.ntmps36
  go_wp2_with fail
  go_ret
  exact ⟨rfl, rfl⟩
set_option maxHeartbeats 400000 in
theorem hlown_none (w : World) :
    Calls Try.prog 36 #[.pointer none] w fun e w' => e = .returned (.pointer none) ∧ w = w' := by
  go_enter Try.func36, Try.ntmps36
  go_wp2_with fail
  go_ret
  exact ⟨rfl, rfl⟩

set_option maxHeartbeats 400000 in
theorem hllost_at (w : World) (B : Nat) (l : Int) (h : w.cell? ⟨B, 2, none⟩ = some (.int .u64 l)) :
    Calls Try.prog 16 #[.pointer (some ⟨B, 0, none⟩)] w fun e w' => e = .returned (.int .u64 l) ∧ w = w' := by
  go_enter Try.func16, Try.ntmps16
  go_wp2_with fail
  go_ret
  exact ⟨rfl, rfl⟩
set_option maxHeartbeats 400000 in
theorem hllost_none (w : World) :
    Calls Try.prog 16 #[.pointer none] w fun e w' => e = .returned (.int .u64 0) ∧ w = w' := by
  go_enter Try.func16, Try.ntmps16
  go_wp2_with fail
  go_ret
  exact ⟨rfl, rfl⟩

set_option maxHeartbeats 400000 in
theorem hlmost_at (w : World) (B : Nat) (m : Int) (h : w.cell? ⟨B, 0, none⟩ = some (.int .i64 m)) :
    Calls Try.prog 22 #[.pointer (some ⟨B, 0, none⟩)] w fun e w' => e = .returned (.int .i64 m) ∧ w = w' := by
  go_enter Try.func22, Try.ntmps22
  go_wp2_with fail
  go_ret
  exact ⟨rfl, rfl⟩
set_option maxHeartbeats 400000 in
theorem hlmost_none (w : World) :
    Calls Try.prog 22 #[.pointer none] w fun e w' => e = .returned (.int .i64 0) ∧ w = w' := by
  go_enter Try.func22, Try.ntmps22
  go_wp2_with fail
  go_ret
  exact ⟨rfl, rfl⟩

set_option maxHeartbeats 400000 in
theorem hlgap_any (a b : Int) (ha : I64 a) (hb : I64 b) (w : World) :
    Calls Try.prog 52 #[.int .i64 a, .int .i64 b] w fun e w' => e = .returned (.int .u64 (gap a b)) ∧ w = w' := by
  have H := Lib.hid (gap_any a b ha hb)
  obtain ⟨a0, a1⟩ := ha
  obtain ⟨b0, b1⟩ := hb
  go_enter Try.func52, Try.ntmps52
  go_wp2_with fail
  refine (H.out _).mono ?_
  rintro e w2 ⟨rfl, rfl⟩
  go_wp2_with fail
  go_ret
  exact ⟨rfl, rfl⟩

/-- What a highcap, or a nil one, has of its own: a strip, or none. -/
def OwnsH (w : World) (p q : Option Addr) : Prop := ∀ w', Below w.heap.size w w' → Calls Try.prog 36 #[.pointer p] w' fun e w'' => e = .returned (.pointer q) ∧ w' = w''
theorem ownsh_at {w : World} {B : Nat} {q : Option Addr} (h : w.cell? ⟨B, 1, none⟩ = some (.pointer q)) : OwnsH w (some ⟨B, 0, none⟩) q := fun w' hb => hlown_at w' B _ (cell_later hb h)
theorem ownsh_none (w : World) : OwnsH w none none := fun w' _ => hlown_none w'
def LostsH (w : World) (p : Option Addr) (l : Int) : Prop := ∀ w', Below w.heap.size w w' → Calls Try.prog 16 #[.pointer p] w' fun e w'' => e = .returned (.int .u64 l) ∧ w' = w''
theorem lostsh_at {w : World} {B : Nat} {l : Int} (h : w.cell? ⟨B, 2, none⟩ = some (.int .u64 l)) : LostsH w (some ⟨B, 0, none⟩) l := fun w' hb => hllost_at w' B _ (cell_later hb h)
theorem lostsh_none (w : World) : LostsH w none 0 := fun w' _ => hllost_none w'

set_option maxHeartbeats 400000 in
theorem hltotal_of (w : World) (p q : Option Addr) (l s : Int) (h : OwnsH w p q) (hl : LostsH w p l) (hs : Calls Try.prog 38 #[.pointer q] w fun e w' => e = .returned (.int .u64 s) ∧ Below w.heap.size w w') (l0 : 0 ≤ l) (s0 : 0 ≤ s) (hb : l + s < 18446744073709551616) :
    Calls Try.prog 18 #[.pointer p] w fun e w' => e = .returned (.int .u64 (l + s)) ∧ Below w.heap.size w w' := by
  have H := Lib.hid h
  have HL := Lib.hid hl
  have HS := Lib.hid hs
  clear h hl hs
  go_enter Try.func18, Try.ntmps18
  go_wp2_with fail
  refine (HL.out _ (Below.refl _ _)).mono ?_
  rintro e w2 ⟨rfl, rfl⟩
  go_wp2_with fail
  refine (H.out _ (Below.refl _ _)).mono ?_
  rintro e w3 ⟨rfl, rfl⟩
  go_wp2_with fail
  refine HS.out.mono ?_
  rintro e w4 ⟨rfl, b4⟩
  go_wp2_with fail
  go_ret
  exact ⟨rfl, b4⟩

set_option maxHeartbeats 400000 in
theorem hlpairs_of (w : World) (p q : Option Addr) (R : Ending → World → Prop) (h : OwnsH w p q) (hR : ∀ e w', R e w' → ∃ A n cap, e = .returned (.slice A n cap)) (hs : Calls Try.prog 37 #[.pointer q] w R) :
    Calls Try.prog 15 #[.pointer p] w R := by
  have H := Lib.hid h
  have HS := Lib.hid hs
  have HR := Lib.hid hR
  clear h hs hR
  go_enter Try.func15, Try.ntmps15
  go_wp2_with fail
  refine (H.out _ (Below.refl _ _)).mono ?_
  rintro e w3 ⟨rfl, rfl⟩
  go_wp2_with fail
  refine HS.out.mono ?_
  rintro e w4 h4
  obtain ⟨A, n, cap, rfl⟩ := HR.out _ _ h4
  have H4 := Lib.hid h4
  clear h4
  go_wp2_with fail
  exact H4.out

set_option maxHeartbeats 400000 in
theorem hlat_of (w : World) (p q : Option Addr) (i n : Int) (h : OwnsH w p q) (hs : Calls Try.prog 39 #[.pointer q, .int .i64 i] w fun e w' => e = .returned (.int .u64 n) ∧ Below w.heap.size w w') :
    Calls Try.prog 20 #[.pointer p, .int .i64 i] w fun e w' => e = .returned (.int .u64 n) ∧ Below w.heap.size w w' := by
  have H := Lib.hid h
  have HS := Lib.hid hs
  clear h hs
  go_enter Try.func20, Try.ntmps20
  go_wp2_with fail
  refine (H.out _ (Below.refl _ _)).mono ?_
  rintro e w3 ⟨rfl, rfl⟩
  go_wp2_with fail
  refine HS.out.mono ?_
  rintro e w4 ⟨rfl, b4⟩
  go_wp2_with fail
  go_ret
  exact ⟨rfl, b4⟩

set_option maxHeartbeats 400000 in
theorem hlfind_of (w : World) (p q : Option Addr) (t x : Int) (fb : Bool) (h : OwnsH w p q) (ht : Word t)
    (hs : Calls Try.prog 40 #[.pointer q, .int .u64 t] w fun e w' => e = .returned (.tuple #[.int .i64 x, .bool fb]) ∧ Below w.heap.size w w') :
    Calls Try.prog 24 #[.pointer p, .int .u64 t] w fun e w' => e = .returned (.tuple #[.int .i64 x, .bool fb]) ∧ Below w.heap.size w w' := by
  have H := Lib.hid h
  have HS := Lib.hid hs
  obtain ⟨t0, t1⟩ := ht
  clear h hs
  go_enter Try.func24, Try.ntmps24
  go_wp2_with fail
  refine (H.out _ (Below.refl _ _)).mono ?_
  rintro e w3 ⟨rfl, rfl⟩
  go_wp2_with fail
  refine HS.out.mono ?_
  rintro e w4 ⟨rfl, b4⟩
  go_wp2_with fail
  go_ret2
  exact ⟨rfl, b4⟩

/-- Whether an index lies too far above the beginning. -/
def losB (m : Int) (K : List PairV) (i : Int) : Bool := decide (K ≠ [] ∧ m ≤ i - begP K)
theorem los_true {m : Int} {K : List PairV} {i : Int} : losB m K i = true ↔ K ≠ [] ∧ m ≤ i - begP K := by unfold losB; exact decide_eq_true_iff
theorem los_false {m : Int} {K : List PairV} {i : Int} (h : losB m K i = false) : K = [] ∨ i < begP K + m := by
  unfold losB at h
  have := of_decide_eq_false h
  by_cases hk : K = []
  · exact Or.inl hk
  · right
    by_cases h2 : i < begP K + m
    · exact h2
    · exact absurd ⟨hk, by omega⟩ this

set_option maxHeartbeats 1000000 in
theorem hloses_of (w : World) (p q : Option Addr) (m : Int) (K : List PairV) (i : Int) (b : Bool) (h : OwnsH w p q) (hi : I64 i) (he : I64 (lasP K).1) (hf : I64 (begP K)) (m1 : 1 ≤ m) (m2 : m ≤ 4096)
    (hc : K ≠ [] → ∃ B, p = some ⟨B, 0, none⟩ ∧ w.cell? ⟨B, 0, none⟩ = some (.int .i64 m))
    (hs : Calls Try.prog 51 #[.pointer q] w fun e w' => e = .returned (.tuple #[.int .i64 (firP K).1, .int .i64 (lasP K).1, .bool (!K.isEmpty)]) ∧ Below w.heap.size w w')
    (hb : losB m K i = b) :
    Calls Try.prog 42 #[.pointer p, .int .i64 i] w fun e w' => e = .returned (.bool b) ∧ Below w.heap.size w w' := by
  have hs' : Calls Try.prog 51 #[.pointer q] w fun e w' => e = .returned (.tuple #[.int .i64 (begP K), .int .i64 (lasP K).1, .bool (!K.isEmpty)]) ∧ Below w.heap.size w w' := hs
  have HG := Lib.hid (hlgap_any (begP K) i hf hi)
  have H := Lib.hid h
  have hgp : ∀ z, begP K = z → z < i → gap (begP K) i = i - z := fun z hz hlt => by unfold gap; rw [hz]; split <;> omega
  obtain ⟨f, hf'⟩ : ∃ f, (lasP K).1 = f := ⟨_, rfl⟩
  rw [hf'] at hs' he
  by_cases hk : K = []
  · have hbb : b = false := by rw [← hb]; unfold losB; exact decide_eq_false (fun h => h.1 hk)
    have he2 : (!K.isEmpty) = false := by rw [hk]; rfl
    obtain ⟨z, hz⟩ : ∃ z, begP K = z := ⟨_, rfl⟩
    rw [he2, hz] at hs'
    rw [hz] at hf
    subst hbb
    have HS := Lib.hid hs'
    obtain ⟨z0, z1⟩ := hf
    obtain ⟨i0, i1⟩ := hi
    clear h hs hs' hb hz HG hc he2 hgp
    go_enter Try.func42, Try.ntmps42
    go_wp2_with fail
    refine (H.out _ (Below.refl _ _)).mono ?_
    rintro e w3 ⟨rfl, rfl⟩
    go_wp2_with fail
    refine HS.out.mono ?_
    rintro e w4 ⟨rfl, b4⟩
    go_wp2_with fail
    go_quiet (fail)
    go_wp2_with fail
    go_ret
    exact ⟨rfl, below_drewN b4 _⟩
  · obtain ⟨B, rfl, hcell⟩ := hc hk
    have he2 : (!K.isEmpty) = true := by cases K with
      | nil => exact absurd rfl hk
      | cons a b => rfl
    have hbb : decide (m ≤ i - begP K) = b := by
      rw [← hb]; unfold losB
      by_cases h1 : m ≤ i - begP K
      · rw [decide_eq_true h1, decide_eq_true ⟨hk, h1⟩]
      · rw [decide_eq_false h1, decide_eq_false (fun h => h1 h.2)]
    have hg := hgp _ rfl
    have e1 : IntKind.u64.wrap m = m := by rw [IntKind.wrap_u64]; omega
    rcases lt_or_geI (begP K) i with hlt | hlt
    · rw [hg hlt] at HG
      obtain ⟨z, hz⟩ : ∃ z, begP K = z := ⟨_, rfl⟩
      rw [he2, hz] at hs'
      rw [hz] at hf hbb HG hlt
      obtain ⟨d, hd⟩ : ∃ d, i - z = d := ⟨_, rfl⟩
      rw [hd] at HG hbb
      have HS := Lib.hid hs'
      have HBB := Lib.hid hbb
      obtain ⟨z0, z1⟩ := hf
      obtain ⟨i0, i1⟩ := hi
      have HGAP : Hid (∀ w, Calls Try.prog 52 #[.int .i64 z, .int .i64 i] w fun e w' => e = .returned (.int .u64 d) ∧ w' = w) := Lib.hid (fun w => (HG.out w).mono fun e w' ⟨h1, h2⟩ => ⟨h1, h2.symm⟩)
      have d0 : 0 ≤ d := by omega
      have hlt2 : decide (z < i) = true := decide_eq_true hlt
      clear h hs hs' hb hz HG hc he2 hgp hbb hg hk hd
      go_enter Try.func42, Try.ntmps42
      go_wp2_with fail
      refine (H.out _ (Below.refl _ _)).mono ?_
      rintro e w3 ⟨rfl, rfl⟩
      go_wp2_with fail
      refine HS.out.mono ?_
      rintro e w4 ⟨rfl, b4⟩
      have c4 := cell_later b4 hcell
      go_wp2_with fail
      go_quiet ((go_at_call 52; exact Calls.quiet_of_same (HGAP.out _)))
      go_wp2_with fail
      go_ret
      exact ⟨by rw [← HBB.out]; rfl, below_drewN b4 _⟩
    · have hb3 : b = false := by rw [← hbb]; exact decide_eq_false (by omega)
      subst hb3
      obtain ⟨z, hz⟩ : ∃ z, begP K = z := ⟨_, rfl⟩
      rw [he2, hz] at hs'
      rw [hz] at hf hlt
      have HS := Lib.hid hs'
      obtain ⟨z0, z1⟩ := hf
      obtain ⟨i0, i1⟩ := hi
      have hlt' : ¬ z < i := by omega
      have hlt2 : decide (z < i) = false := decide_eq_false hlt'
      clear h hs hs' hb hz HG hc he2 hgp hbb hg hk
      go_enter Try.func42, Try.ntmps42
      go_wp2_with fail
      refine (H.out _ (Below.refl _ _)).mono ?_
      rintro e w3 ⟨rfl, rfl⟩
      go_wp2_with fail
      refine HS.out.mono ?_
      rintro e w4 ⟨rfl, b4⟩
      go_wp2_with fail
      go_quiet (fail)
      go_wp2_with fail
      go_ret
      exact ⟨rfl, below_drewN b4 _⟩
end Go.Proofs.Ytgbhlkeclfgacaa

namespace Go.Proofs.Ytgbhlkeclfgacaa
set_option linter.unusedVariables false
set_option linter.unusedSimpArgs false
open Go.RowKit

/-- Whether an index is lost, of whatever has such an own strip. -/
def LosesH (w : World) (p : Option Addr) (i : Int) (b : Bool) : Prop := ∀ w', Below w.heap.size w w' → Calls Try.prog 42 #[.pointer p, .int .i64 i] w' fun e w'' => e = .returned (.bool b) ∧ Below w'.heap.size w' w''

set_option maxRecDepth 100000 in
set_option maxHeartbeats 1000000 in
theorem hlbelow_of (w : World) (p q : Option Addr) (l i s b : Int) (u : Bool) (h : OwnsH w p q) (hu : LosesH w p i u) (hl : u = true → ∃ B, p = some ⟨B, 0, none⟩ ∧ w.cell? ⟨B, 2, none⟩ = some (.int .u64 l))
    (hs : ∀ w', Below w.heap.size w w' → Calls Try.prog 41 #[.pointer q, .int .i64 i] w' fun e w'' => e = .returned (.int .u64 s) ∧ Below w'.heap.size w' w'') (s0 : 0 ≤ s) (l0 : 0 ≤ l) (hsl : s + l < 18446744073709551616)
    (hb : b = if u = true then s + l else s) :
    Calls Try.prog 26 #[.pointer p, .int .i64 i] w fun e w' => e = .returned (.tuple #[.int .u64 s, .int .u64 b]) ∧ Below w.heap.size w w' := by
  have H := Lib.hid h
  have HU := Lib.hid hu
  have HS := Lib.hid hs
  have e2 : IntKind.u64.wrap (s + l) = s + l := by rw [IntKind.wrap_u64]; omega
  cases u with
  | true =>
    obtain ⟨B, rfl, hcell⟩ := hl rfl
    rw [if_pos rfl] at hb
    subst hb
    clear h hu hs hl
    go_enter Try.func26, Try.ntmps26
    go_wp2_with fail
    refine (H.out _ (Below.refl _ _)).mono ?_
    rintro e w2 ⟨rfl, rfl⟩
    go_wp2_with fail
    refine (HS.out _ (Below.refl _ _)).mono ?_
    rintro e w3 ⟨rfl, b3⟩
    go_wp2_with fail
    refine (HU.out _ b3).mono ?_
    rintro e w4 ⟨rfl, b4⟩
    have b5 := b3.trans (b4.mono b3.size)
    have c5 := cell_later b5 hcell
    go_wp2_with fail
    go_quiet (fail)
    go_wp2_with fail
    go_ret2
    exact ⟨rfl, below_drewN b5 _⟩
  | false =>
    rw [if_neg (by decide)] at hb
    subst hb
    clear h hu hs hl
    go_enter Try.func26, Try.ntmps26
    go_wp2_with fail
    refine (H.out _ (Below.refl _ _)).mono ?_
    rintro e w2 ⟨rfl, rfl⟩
    go_wp2_with fail
    refine (HS.out _ (Below.refl _ _)).mono ?_
    rintro e w3 ⟨rfl, b3⟩
    go_wp2_with fail
    refine (HU.out _ b3).mono ?_
    rintro e w4 ⟨rfl, b4⟩
    have b5 := b3.trans (b4.mono b3.size)
    go_wp2_with fail
    go_ret2
    exact ⟨rfl, b5⟩

/-- How a round of drop stands: so many pairs are left. -/
def DropH (St : World → Nat → (Nat → Prop) → Int → List PairV → Prop) (w : World) (B : Nat) (S : Nat → Prop) (m : Int) (K : List PairV) (l i : Int) (k : Nat) (wr : World) : Prop :=
  ∃ S', HighRaw St wr B S' m (K.take k) (wrU (l + sumP (K.drop k))) ∧ Keeps S w wr ∧ (∀ j, S' j → S j ∨ w.heap.size ≤ j) ∧ ∀ p, p ∈ K.drop k → m ≤ gap i p.1
/-- What drop comes to. -/
def DroptH (St : World → Nat → (Nat → Prop) → Int → List PairV → Prop) (w : World) (B : Nat) (S : Nat → Prop) (m : Int) (K : List PairV) (l i : Int) (w' : World) : Prop :=
  ∃ k, k ≤ K.length ∧ DropH St w B S m K l i k w' ∧ (K.take k = [] ∨ gap i (lasP (K.take k)).1 < m)
theorem las_take {K : List PairV} {k : Nat} {p : PairV} (h : K[k]? = some p) : lasP (K.take (k + 1)) = p := by
  rw [take_snocP h, las_snoc]
theorem front_take {K : List PairV} {k : Nat} {p : PairV} (h : K[k]? = some p) : (K.take (k + 1)).dropLast = K.take k := by
  rw [take_snocP h, List.dropLast_concat]
theorem drop_step' {K : List PairV} {k : Nat} {p : PairV} (h : K[k]? = some p) : K.drop k = p :: K.drop (k + 1) := by
  obtain ⟨h1, rfl⟩ := List.getElem?_eq_some_iff.1 h
  exact List.drop_eq_getElem_cons h1
/-- A strip's own call, seen from the highcap. -/
theorem hraw_strip {St : World → Nat → (Nat → Prop) → Int → List PairV → Prop} {w w' : World} {B C : Nat} {S0 S1 : Nat → Prop} {m l : Int} {K : List PairV} (hb : w.heap[B]? = some (.cells #[.int .i64 m, .pointer (some ⟨C, 0, none⟩), .int .u64 l] 63 (0, 0)))
    (hn : ¬ S0 B) (hk : Keeps S0 w w') (hst : St w' C S1 m K) (hS : ∀ k, S1 k → S0 k ∨ w.heap.size ≤ k) : HighRaw St w' B (fun k => k = B ∨ S1 k) m K l := by
  have hlt := lt_of_block hb
  exact ⟨C, S1, (hk.block B hlt hn).trans hb, hst, fun h => by rcases hS B h with h1 | h1; exact hn h1; omega, fun k => Iff.rfl⟩

set_option maxRecDepth 100000 in
set_option maxHeartbeats 4000000 in
theorem hldrop_any {St : World → Nat → (Nat → Prop) → Int → List PairV → Prop} (D : StripDoes St) (w : World) (B : Nat) (S : Nat → Prop) (m : Int) (K : List PairV) (l i : Int) (h : HighRaw St w B S m K l) (hl : K.length ≤ 900) (hi : I64 i) (m1 : 1 ≤ m) (m2 : m ≤ 4096) (lw : Word l) :
    Calls Try.prog 44 #[.pointer (some ⟨B, 0, none⟩), .int .i64 i] w fun e w' => e = .returned (.tuple #[]) ∧ DroptH St w B S m K l i w' := by
  obtain ⟨C0, S00, hb0, hst0, _⟩ := id h
  have hok0 := (D.stp _ _ _ _ _ hst0).ok
  have HD := Lib.hid D
  have HO := Lib.hid hok0
  have HL := Lib.hid hl
  have HI := Lib.hid hi
  have H0 : Hid (DropH St w B S m K l i K.length w) := Lib.hid ⟨S, by rw [List.take_length, List.drop_length, sumP_nil, Int.add_zero, wrU_id lw.1 lw.2]; exact h, Keeps.refl _ _, fun j hj => Or.inl hj, fun p hp => by rw [List.drop_length] at hp; cases hp⟩
  have e1 : IntKind.u64.wrap m = m := by rw [IntKind.wrap_u64]; omega
  obtain ⟨i0, i1⟩ := hi
  clear D h hl hb0 hst0 hok0
  go_enter Try.func44, Try.ntmps44
  go_wp2_with fail
  go_loopg [] K.length (fun g wr => ∃ k : Nat, k ≤ K.length ∧ g = k ∧ DropH St w B S m K l i k wr)
  case atStart => exact ⟨K.length, Nat.le_refl _, rfl, H0.out⟩
  case round =>
    clear H0
    obtain ⟨k, hk, hgk, hR⟩ := hrel
    obtain ⟨S', hraw, hkp, hSS, hfar⟩ := hR
    have HRAW := Lib.hid hraw
    have HKP := Lib.hid hkp
    have HSS := Lib.hid hSS
    have HF := Lib.hid hfar
    obtain ⟨C, S0, hb, hst, hn, hS⟩ := hraw
    obtain ⟨c0, c1, c2⟩ := three_cells hb
    have HB := Lib.hid hb
    have HST := Lib.hid hst
    have HNB := Lib.hid hn
    have HS := Lib.hid hS
    have hlen : Hid ((K.take k).length ≤ 900) := Lib.hid (by rw [List.length_take]; have := HL.out; omega)
    have f2 := free8 hb 2
    clear hb hst hn hS hkp hSS hfar
    cases k with
    | succ k =>
      have hlt : k < K.length := by omega
      have hxk : K[k]? = some K[k] := List.getElem?_eq_getElem hlt
      generalize hit : K[k] = p at *
      have hok := HO.out p (List.mem_of_getElem? hxk)
      obtain ⟨px, pc⟩ := p
      have hF := las_take hxk
      have hE : (!(K.take (k + 1)).isEmpty) = true := by
        cases hd : K.take (k + 1) with
        | nil => have := congrArg List.length hd; rw [List.length_take, List.length_nil] at this; omega
        | cons a b => rfl
      have HSTEP : Hid (sumP (K.drop k) = pc + sumP (K.drop (k + 1))) := Lib.hid (by rw [drop_step' hxk, sumP_cons])
      have HEND := Lib.hid (HD.out.ends _ C S0 m _ HST.out hlen.out)
      have HFIR := Lib.hid (HD.out.last _ C S0 m _ HST.out hlen.out)
      rw [hF, hE] at HEND HFIR
      obtain ⟨z, hz⟩ : ∃ z, (firP (K.take (k + 1))).1 = z := ⟨_, rfl⟩
      rw [hz] at HEND
      obtain ⟨lk, hlk⟩ : ∃ lk, wrU (l + sumP (K.drop (k + 1))) = lk := ⟨_, rfl⟩
      obtain ⟨lk', hlk'⟩ : ∃ lk', wrU (l + sumP (K.drop k)) = lk' := ⟨_, rfl⟩
      have hlk0 : 0 ≤ lk ∧ lk < 18446744073709551616 := by rw [← hlk]; exact wrU_word _
      have HLK := Lib.hid hlk
      have HLK' := Lib.hid hlk'
      rw [hlk] at c2
      obtain ⟨⟨x0, x1⟩, y0, y1⟩ := hok
      simp only at x0 x1 y0 y1
      have u2 : IntKind.u64.wrap (lk + pc) = lk' := by rw [← hlk, ← hlk', wrU_add, HSTEP.out, Int.add_assoc, Int.add_comm pc]
      obtain ⟨d, hd⟩ : ∃ d, gap i px = d := ⟨_, rfl⟩
      have HP : Hid (m ≤ d → ∀ q, q ∈ K.drop k → m ≤ gap i q.1) := Lib.hid (fun hle q hq => by
        rw [drop_step' hxk] at hq
        rcases List.mem_cons.1 hq with h1 | h1
        · subst h1; rw [hd]; exact hle
        · exact HF.out q h1)
      have HQ : Hid (d < m → gap i (lasP (K.take (k + 1))).1 < m) := Lib.hid (fun hlt => by rw [hF, hd]; exact hlt)
      have HTL : Hid ((K.take (k + 1)).dropLast = K.take k) := Lib.hid (front_take hxk)
      have HGP : Hid (∀ w, Calls Try.prog 52 #[.int .i64 i, .int .i64 px] w fun e w' => e = .returned (.int .u64 d) ∧ w' = w) := Lib.hid (by rw [← hd]; exact fun w => (hlgap_any i px HI.out ⟨x0, x1⟩ w).mono fun e w' ⟨h1, h2⟩ => ⟨h1, h2.symm⟩)
      have HFIR' : Hid (∀ w', St w' C S0 m (K.take (k + 1)) → Calls Try.prog 54 #[.pointer (some ⟨C, 0, none⟩)] w' fun e w'' => ∃ S', e = .returned (.tuple #[.agg #[.int .i64 px, .int .u64 pc], .bool true]) ∧ St w'' C S' m (K.take k) ∧ Keeps S0 w' w'' ∧ (∀ k, S' k → S0 k ∨ w'.heap.size ≤ k)) := Lib.hid (fun w' h => by
        have := HD.out.last w' C S0 m _ h hlen.out
        rw [hF, hE, HTL.out] at this
        exact this)
      clear hit hz hlk hlk' hxk hF hE hd HFIR
      go_wp2_with fail
      refine HEND.out.mono ?_
      rintro e w2 ⟨rfl, b2⟩
      have d0 := cell_later b2 c0
      have d1 := cell_later b2 c1
      have d2 := cell_later b2 c2
      by_cases hdm : d < m
      · have HQ' := Lib.hid (HQ.out hdm)
        clear HP HQ
        go_wp2_with fail
        go_quiet ((go_at_call 52; exact Calls.quiet_of_same (HGP.out _)))
        go_wp2_with fail
        refine bodyPost_ret (results_none rfl _ _ _) rfl ?_
        have b3 : Below wr.heap.size wr (w2.drewN nq) := below_drewN b2 _
        exact ⟨rfl, k + 1, hk, ⟨S', hraw_call HD.out HRAW.out b3, HKP.out.trans (Keeps.of_below (S := S') b3) HSS.out, HSS.out, HF.out⟩, Or.inr HQ'.out⟩
      · have HP' := Lib.hid (HP.out (by omega))
        clear HP HQ
        go_wp2_with fail
        go_quiet ((go_at_call 52; exact Calls.quiet_of_same (HGP.out _)))
        have b3 : Below wr.heap.size wr (w2.drewN nq) := below_drewN b2 _
        have HB3 := Lib.hid b3
        go_wp2_with fail
        refine (HFIR'.out _ (HD.out.call HST.out b3)).mono ?_
        rintro e w4 ⟨S1, rfl, hst4, k4, hs4⟩
        have g2 := k4.cell HNB.out (cell_later b3 c2)
        have HST4 := Lib.hid hst4
        have HK4 := Lib.hid k4
        have HS4 := Lib.hid hs4
        clear hst4 k4 hs4 d0 d1 d2
        go_wp2_with fail
        have hb4 := (HK4.out.block B (lt_of_block ((HB3.out.block B (lt_of_block HB.out)).trans HB.out)) HNB.out).trans ((HB3.out.block B (lt_of_block HB.out)).trans HB.out)
        obtain ⟨X, hX, bX, x2, xf, p0, p1⟩ := box_facts w4 hb4 g2 (.int .i64 px) (.int .u64 pc) 34
        rw [hX]
        have HBX := Lib.hid bX
        have HB4 := Lib.hid hb4
        clear hX bX hb4 g2
        go_region
        go_wp2_with fail
        go_roundg k
        case measure => omega
        case rel =>
          have hr : HighRaw St w4 B (fun k => k = B ∨ S1 k) m (K.take k) lk := hraw_strip ((HB3.out.block B (lt_of_block HB.out)).trans (by rw [← HLK.out]; exact HB.out)) HNB.out HK4.out HST4.out HS4.out
          have bx2 : Below w4.heap.size w4 X.drew := HBX.out.drew
          have h1 := hraw_lost HD.out (hraw_call HD.out hr bx2) lk'
          have hk1 : Keeps S w w4 := (HKP.out.trans (Keeps.of_below (S := S') HB3.out) HSS.out).trans HK4.out (fun j hj => by
            rcases HSS.out j ((HS.out j).2 (Or.inr hj)) with h | h
            · exact Or.inl h
            · exact Or.inr h)
          have hk2 : Keeps S w X.drew := hk1.trans (Keeps.of_below (S := S0) bx2) (fun j hj => by
            rcases HSS.out j ((HS.out j).2 (Or.inr hj)) with h | h
            · exact Or.inl h
            · exact Or.inr h)
          refine ⟨k, by omega, rfl, (fun k => k = B ∨ S1 k), ?_, hk2.set 2 _ (HSS.out B ((HS.out B).2 (Or.inl rfl))), ?_, HP'.out⟩
          · rw [HLK'.out]
            exact h1
          · rintro j (rfl | hj)
            · exact HSS.out _ ((HS.out _).2 (Or.inl rfl))
            · rcases HS4.out j hj with h | h
              · exact HSS.out j ((HS.out j).2 (Or.inr h))
              · have := HB3.out.size; have := HKP.out.size; exact Or.inr (by omega)
    | zero =>
      have hde : K.take 0 = [] := List.take_zero
      have HDE := Lib.hid hde
      have HEND := Lib.hid (HD.out.ends _ C S0 m _ HST.out hlen.out)
      rw [hde] at HEND
      obtain ⟨z, hz⟩ : ∃ z, (lasP ([] : List PairV)).1 = z := ⟨_, rfl⟩
      obtain ⟨y, hy⟩ : ∃ y, (firP ([] : List PairV)).1 = y := ⟨_, rfl⟩
      rw [hz, hy] at HEND
      clear hz hy hde
      go_wp2_with fail
      refine HEND.out.mono ?_
      rintro e w2 ⟨rfl, b2⟩
      go_wp2_with fail
      go_quiet (fail)
      go_wp2_with fail
      refine bodyPost_ret (results_none rfl _ _ _) rfl ?_
      have b3 : Below wr.heap.size wr (w2.drewN nq) := below_drewN b2 _
      exact ⟨rfl, _, hk, ⟨S', hraw_call HD.out HRAW.out b3, HKP.out.trans (Keeps.of_below (S := S') b3) HSS.out, HSS.out, HF.out⟩, Or.inl HDE.out⟩

/-- What comes to a highcap, that there is room for. -/
theorem hput_math {m : Int} {K : List PairV} {l i c : Int} (hm1 : 1 ≤ m) (hg : GoodP K) (ho : ∀ p, p ∈ K → okP p) (hk : keepH m K = K) (hi : I64 i) (hc : 0 < c) (h0 : 0 ≤ l) (hs : l + sumP K + c ≤ 9223372036854775807) (hf : K = [] ∨ i < begP K + m) :
    keepH m (addP K i c) = addP (lowP K (i + m)) i c ∧ stErr m (lowP K (i + m)) i c = 0 ∧ stRow m (lowP K (i + m)) i c = keepH m (addP K i c) ∧ sumP (keepH m (addP K i c)) = sumP (lowP K (i + m)) + c ∧ sumP (lowP K (i + m)) ≤ sumP K ∧ 0 ≤ sumP (lowP K (i + m)) ∧ (lowP K (i + m)).length ≤ K.length := by
  have h1 := count_le_sum i (ok_pos ho)
  have e := keeph_near (c := c) (by omega) hg hk (by omega) hc hf
  have hp := ok_pos ho
  have hs2 := sumP_filter (fun p : PairV => decide (p.1 < i + m)) hp
  have hs3 : sumP (lowP K (i + m)) ≤ sumP K ∧ 0 ≤ sumP (lowP K (i + m)) := ⟨hs2.2, hs2.1⟩
  have hlen := keeph_len (m := m) (L := addP K i c) (by omega) (add_good hg (by omega))
  rw [e] at hlen
  have hq : ∀ p, p ∈ lowP K (i + m) → 0 ≤ p.2 := fun p hh => hp p (lowP_mem hh).1
  have h2 := count_le_sum i hq
  have hz : stErr m (lowP K (i + m)) i c = 0 := by
    unfold stErr
    rw [if_neg (by omega), if_neg (by omega), if_neg (by omega)]
  exact ⟨e, hz, by unfold stRow; rw [if_pos hz, e], by rw [e, add_sum (by omega)], hs3.1, hs3.2, List.length_filter_le _ _⟩

/-- What putting comes to, whatever the numbers. -/
def PutH (St : World → Nat → (Nat → Prop) → Int → List PairV → Prop) (w : World) (B : Nat) (S : Nat → Prop) (m : Int) (K : List PairV) (l i c : Int) (w' : World) : Prop :=
  ∃ S' K' l', HighRaw St w' B S' m K' l' ∧ Keeps S w w' ∧ (∀ j, S' j → S j ∨ w.heap.size ≤ j) ∧ Word l' ∧ K'.length ≤ K.length + 1 ∧
    ((losB m K i = true ∧ K' = K ∧ l' = wrU (l + c)) ∨ (losB m K i = false ∧ ∃ k, k ≤ K.length ∧ (∀ p, p ∈ K.drop k → m ≤ gap i p.1) ∧ (K.take k = [] ∨ gap i (lasP (K.take k)).1 < m) ∧ K' = stRow m (K.take k) i c ∧ l' = wrU (l + sumP (K.drop k))))

set_option maxRecDepth 100000 in
set_option maxHeartbeats 4000000 in
theorem hlputw_any {St : World → Nat → (Nat → Prop) → Int → List PairV → Prop} (D : StripDoes St) (w : World) (B : Nat) (S : Nat → Prop) (m : Int) (K : List PairV) (l i c : Int) (h : HighRaw St w B S m K l) (hl : K.length ≤ 900) (hi : I64 i) (hc : Word c) (m1 : 1 ≤ m) (m2 : m ≤ 4096) (lw : Word l) :
    Calls Try.prog 34 #[.pointer (some ⟨B, 0, none⟩), .int .i64 i, .int .u64 c] w fun e w' => e = .returned (.tuple #[]) ∧ PutH St w B S m K l i c w' := by
  obtain ⟨C, S0, hb, hst, hn, hS⟩ := id h
  have ho := (D.stp _ _ _ _ _ hst).ok
  have hei := end_i64 ho
  obtain ⟨c0, c1, c2⟩ := three_cells hb
  obtain ⟨u, hu⟩ : ∃ u, losB m K i = u := ⟨_, rfl⟩
  have HUN : Hid (Calls Try.prog 42 #[.pointer (some ⟨B, 0, none⟩), .int .i64 i] w fun e w'' => e = .returned (.bool u) ∧ Below w.heap.size w w'') := Lib.hid
    (hloses_of w _ _ m K i u (ownsh_at c1) hi hei (beg_i64 ho) m1 m2 (fun _ => ⟨B, rfl, c0⟩) (D.ends _ C S0 m K hst hl) hu)
  have HD := Lib.hid D
  have HRAW := Lib.hid h
  have HB := Lib.hid hb
  have HU := Lib.hid hu
  have hlt := lt_of_block hb
  have HI := Lib.hid hi
  have HC := Lib.hid hc
  have HLW := Lib.hid lw
  obtain ⟨w0, w1⟩ := hc
  obtain ⟨i0, i1⟩ := hi
  obtain ⟨l0, l1⟩ := lw
  cases u with
  | true =>
    obtain ⟨l', hl'⟩ : ∃ l', wrU (l + c) = l' := ⟨_, rfl⟩
    have HL' := Lib.hid hl'
    have e2 : IntKind.u64.wrap (l + c) = l' := by rw [← hl', IntKind.wrap_u64]; rfl
    clear D h hl hst hn hS hb hu hei c1 ho hl'
    go_enter Try.func34, Try.ntmps34
    go_wp2_with fail
    refine HUN.out.mono ?_
    rintro e wA ⟨rfl, bw⟩
    have g2 := cell_later bw c2
    have gf : wA.frozen? ⟨B, 2, none⟩ = false := free8 ((bw.block B hlt).trans HB.out) 2
    have HBW := Lib.hid bw
    clear bw
    go_wp2_with fail
    refine bodyPost_ret (results_none rfl _ _ _) rfl ?_
    refine ⟨rfl, S, K, l', hraw_lost HD.out (hraw_call HD.out HRAW.out HBW.out) l', (Keeps.of_below HBW.out).set 2 _ (Or.inl (hraw_B HRAW.out)), fun j hj => Or.inl hj, by rw [← HL'.out]; exact wrU_word _, Nat.le_succ _, Or.inl ⟨HU.out, rfl, HL'.out.symm⟩⟩
  | false =>
    have HDROP : Hid (∀ w', Below w.heap.size w w' → Calls Try.prog 44 #[.pointer (some ⟨B, 0, none⟩), .int .i64 i] w' fun e w'' => e = .returned (.tuple #[]) ∧ DroptH St w' B S m K l i w'') :=
      Lib.hid fun w' hb' => hldrop_any D w' B S m K l i (hraw_call D h hb') hl HI.out m1 m2 HLW.out
    have HL := Lib.hid hl
    clear D h hl hst hn hS hb hu hei c1 c2 ho
    go_enter Try.func34, Try.ntmps34
    go_wp2_with fail
    refine HUN.out.mono ?_
    rintro e wA ⟨rfl, bw⟩
    have HBW := Lib.hid bw
    clear bw
    go_wp2_with fail
    refine (HDROP.out _ HBW.out).mono ?_
    rintro e w3 ⟨rfl, k, hk, ⟨S3, hr3, k3, hs3, hfk⟩, hfir⟩
    obtain ⟨R, hR⟩ : ∃ R, K.take k = R := ⟨_, rfl⟩
    have hRl : R.length ≤ K.length := by rw [← hR, List.length_take]; omega
    have HRL := Lib.hid hRl
    obtain ⟨lk, hlk⟩ : ∃ lk, wrU (l + sumP (K.drop k)) = lk := ⟨_, rfl⟩
    rw [hlk, hR] at hr3
    have HR := Lib.hid hR
    have HLK := Lib.hid hlk
    have HFK := Lib.hid hfk
    have HFI := Lib.hid hfir
    have HK := Lib.hid hk
    have HK3 := Lib.hid k3
    have HS3 := Lib.hid hs3
    obtain ⟨C3, S4, hb3, hst3, hn3, hSS3⟩ := hr3
    obtain ⟨d0, d1, d2⟩ := three_cells hb3
    have HB3 := Lib.hid hb3
    have HST3 := Lib.hid hst3
    have HN3 := Lib.hid hn3
    have HSS3 := Lib.hid hSS3
    clear hb3 hst3 hn3 hSS3 k3 hs3 d0 d2 hR hlk hfk hfir hRl hk c0
    go_wp2_with fail
    refine (HD.out.add _ C3 S4 m R i c HST3.out (by have := HRL.out; have := HL.out; omega) HI.out HC.out).mono ?_
    rintro e w5 ⟨S5, rfl, hst5, k5, hs5⟩
    have HST5 := Lib.hid hst5
    clear hst5
    go_wp2_with fail
    refine bodyPost_end (results_none rfl _ _ _) rfl ?_
    have hr5 := hraw_strip HB3.out HN3.out k5 HST5.out hs5
    refine ⟨rfl, _, _, lk, hr5, ((Keeps.of_below HBW.out).trans HK3.out (fun j hj => Or.inl hj)).trans k5 ?_, ?_, by rw [← HLK.out]; exact wrU_word _, by have := stRow_len m R i c; have := HRL.out; omega, Or.inr ⟨HU.out, k, HK.out, HFK.out, HFI.out, by rw [HR.out], HLK.out.symm⟩⟩
    · intro j hj
      rcases HS3.out j ((HSS3.out j).2 (Or.inr hj)) with h | h
      · exact Or.inl h
      · have := HBW.out.size; exact Or.inr (by omega)
    · rintro j (rfl | hj)
      · rcases HS3.out j ((HSS3.out j).2 (Or.inl rfl)) with h | h
        · exact Or.inl h
        · have := HBW.out.size; exact Or.inr (by omega)
      · rcases hs5 j hj with h | h
        · rcases HS3.out j ((HSS3.out j).2 (Or.inr h)) with h | h
          · exact Or.inl h
          · have := HBW.out.size; exact Or.inr (by omega)
        · have := HBW.out.size; have := HK3.out.size; exact Or.inr (by omega)

/-- .. where there is room. -/
theorem hput_eq {m : Int} {K : List PairV} {l i c : Int} {K' : List PairV} {l' : Int} (hcase : (losB m K i = true ∧ K' = K ∧ l' = wrU (l + c)) ∨ (losB m K i = false ∧ ∃ k, k ≤ K.length ∧ (∀ p, p ∈ K.drop k → m ≤ gap i p.1) ∧ (K.take k = [] ∨ gap i (lasP (K.take k)).1 < m) ∧ K' = stRow m (K.take k) i c ∧ l' = wrU (l + sumP (K.drop k))))
    (hg : GoodP K) (ho : ∀ p, p ∈ K → okP p) (hkp : keepH m K = K) (hi : I64 i) (hc : 0 < c) (m1 : 1 ≤ m) (l0 : 0 ≤ l) (hs : l + sumP K + c ≤ 9223372036854775807) :
    K' = keepH m (addP K i c) ∧ l' = l + sumP K + c - sumP (keepH m (addP K i c)) := by
  have hsp := sumP_pos (ok_pos ho)
  have hcn := count_le_sum i (ok_pos ho)
  rcases hcase with ⟨h1, rfl, rfl⟩ | ⟨h1, k, hkl, h2, h3, rfl, rfl⟩
  · have hfarK := los_true.1 h1
    rw [keeph_far (c := c) (by omega) hg hkp (by omega) hc hfarK.1 (by have := hfarK.2; omega), show l + sumP K' + c - sumP K' = l + c by omega]
    exact ⟨rfl, wrU_id (by omega) (by omega)⟩
  · have hnearK := los_false h1
    have hnear : ∀ p, p ∈ K → i - p.1 < m := fun p hp => by
      have := beg_le hg p hp
      rcases hnearK with h1 | h1
      · rw [h1] at hp; cases hp
      · omega
    obtain ⟨p1, p2, p3, p4, p5, p6, p7⟩ := hput_math (c := c) m1 hg ho hkp hi hc l0 hs hnearK
    have e : lowP K (i + m) = K.take k := by
      refine low_take hg (fun p hp => ?_) ?_
      · have h4 := h2 p hp
        have h5 := hnear p (List.mem_of_mem_drop hp)
        unfold gap at h4
        split at h4 <;> omega
      · rcases h3 with h | h
        · exact Or.inl h
        · right
          unfold gap at h
          split at h <;> omega
    have es := sum_low_take (K := K) (k := k)
    rw [e] at p3 p4 p5 p6
    rw [p3, wrU_id (by omega) (by omega), p4]
    exact ⟨rfl, by omega⟩
theorem hputw_strong {St : World → Nat → (Nat → Prop) → Int → List PairV → Prop} {w w' : World} {B : Nat} {S : Nat → Prop} {m : Int} {K : List PairV} {l i c : Int} (h : PutH St w B S m K l i c w') (hg : GoodP K) (ho : ∀ p, p ∈ K → okP p) (hkp : keepH m K = K) (hi : I64 i) (hc : 0 < c) (m1 : 1 ≤ m)
    (l0 : 0 ≤ l) (hs : l + sumP K + c ≤ 9223372036854775807) : ∃ S', HighRaw St w' B S' m (keepH m (addP K i c)) (l + sumP K + c - sumP (keepH m (addP K i c))) ∧ Keeps S w w' ∧ (∀ j, S' j → S j ∨ w.heap.size ≤ j) := by
  obtain ⟨S', K', l', hr, hk, hS, _, _, hcase⟩ := h
  obtain ⟨rfl, rfl⟩ := hput_eq hcase hg ho hkp hi hc m1 l0 hs
  exact ⟨S', hr, hk, hS⟩
theorem hlput_any {St : World → Nat → (Nat → Prop) → Int → List PairV → Prop} (D : StripDoes St) (w : World) (B : Nat) (S : Nat → Prop) (m : Int) (K : List PairV) (l i c : Int) (h : HighRaw St w B S m K l) (hg : GoodP K) (ho : ∀ p, p ∈ K → okP p) (hkp : keepH m K = K) (hl : K.length ≤ 900) (hi : I64 i) (hc : 0 < c) (m1 : 1 ≤ m) (m2 : m ≤ 4096)
    (l0 : 0 ≤ l) (hs : l + sumP K + c ≤ 9223372036854775807) :
    Calls Try.prog 34 #[.pointer (some ⟨B, 0, none⟩), .int .i64 i, .int .u64 c] w fun e w' => e = .returned (.tuple #[]) ∧ ∃ S', HighRaw St w' B S' m (keepH m (addP K i c)) (l + sumP K + c - sumP (keepH m (addP K i c))) ∧ Keeps S w w' ∧ (∀ j, S' j → S j ∨ w.heap.size ≤ j) := by
  have hsp := sumP_pos (ok_pos ho)
  exact (hlputw_any D w B S m K l i c h hl hi ⟨by omega, by omega⟩ m1 m2 ⟨l0, by omega⟩).mono fun e w' ⟨h1, h2⟩ => ⟨h1, hputw_strong h2 hg ho hkp hi hc m1 l0 hs⟩
end Go.Proofs.Ytgbhlkeclfgacaa
