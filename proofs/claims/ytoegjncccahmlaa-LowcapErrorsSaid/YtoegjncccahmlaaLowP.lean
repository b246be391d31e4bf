/-
  How package lowcap lays a lowcap in memory; walks: own, Lost, Most, Total, Pairs, At, Find, under, Below, of a lowcap and of a nil one.
  Walks: package lowcap: Below; drop, put of a lowcap.
-/
import Derived.Test.YtoegjncccahmlaaLowC
import Derived.Test.YtoegjncccahmlaaStripA
import Derived.Test.YtoegjncccahmlaaSignA
import Derived.Test.YtoegjncccahmlaaPlus
import Derived.Test.YtoegjncccahmlaaGrew
import Derived.Deep.LoopGhost
import Derived.Deep.RegionHeld3
import Derived.Deep.RegionWith
namespace Go.Proofs.Ytoegjncccahmlaa
set_option linter.unusedVariables false
set_option linter.unusedSimpArgs false
open Go.RowKit

/-- At block B lies a lowcap of m indexes that keeps K, l being lost; S are its blocks. -/
def LowRaw (St : World → Nat → (Nat → Prop) → Int → List PairV → Prop) (w : World) (B : Nat) (S : Nat → Prop) (m : Int) (K : List PairV) (l : Int) : Prop :=
  ∃ C S0, w.heap[B]? = some (.cells #[.int .i64 m, .pointer (some ⟨C, 0, none⟩), .int .u64 l] 63 (0, 0)) ∧ St w C S0 m K ∧ ¬ S0 B ∧ ∀ k, S k ↔ k = B ∨ S0 k
theorem three_cells {w : World} {B : Nat} {x y z : Value} {t : TypeId} (h : w.heap[B]? = some (.cells #[x, y, z] t (0, 0))) : w.cell? ⟨B, 0, none⟩ = some x ∧ w.cell? ⟨B, 1, none⟩ = some y ∧ w.cell? ⟨B, 2, none⟩ = some z := by
  refine ⟨?_, ?_, ?_⟩ <;> (rw [Joins.cell_of_block h]; rfl)
section
variable {St : World → Nat → (Nat → Prop) → Int → List PairV → Prop} (D : StripDoes St)
include D
theorem raw_lt {w : World} {B : Nat} {S : Nat → Prop} {m l : Int} {K : List PairV} (h : LowRaw St w B S m K l) : ∀ k, S k → k < w.heap.size := by
  obtain ⟨C, S0, hb, hst, hn, hS⟩ := h
  intro k hk
  rcases (hS k).1 hk with rfl | h
  · exact lt_of_block hb
  · exact D.lt _ _ _ _ _ hst k h
theorem raw_keep {w w' : World} {B : Nat} {S : Nat → Prop} {m l : Int} {K : List PairV} (h : LowRaw St w B S m K l) (hk : ∀ k, S k → w'.heap[k]? = w.heap[k]?) : LowRaw St w' B S m K l := by
  obtain ⟨C, S0, hb, hst, hn, hS⟩ := h
  exact ⟨C, S0, (hk B ((hS B).2 (Or.inl rfl))).trans hb, D.keep _ _ _ _ _ _ hst (fun k h => hk k ((hS k).2 (Or.inr h))), hn, hS⟩
theorem raw_call {w w' : World} {B : Nat} {S : Nat → Prop} {m l : Int} {K : List PairV} (h : LowRaw St w B S m K l) (hb : Below w.heap.size w w') : LowRaw St w' B S m K l :=
  raw_keep D h fun k hk => hb.block k (raw_lt D h k hk)
theorem raw_cells {w : World} {B : Nat} {S : Nat → Prop} {m l : Int} {K : List PairV} (h : LowRaw St w B S m K l) : ∀ k, S k → ∃ cs t z, w.heap[k]? = some (.cells cs t z) := by
  obtain ⟨C, S0, hb, hst, hn, hS⟩ := h
  intro k hk
  rcases (hS k).1 hk with rfl | h
  · exact ⟨_, _, _, hb⟩
  · exact D.cells _ _ _ _ _ hst k h
/-- The lost ones are counted anew. -/
theorem raw_lost {w : World} {B : Nat} {S : Nat → Prop} {m l : Int} {K : List PairV} (h : LowRaw St w B S m K l) (l' : Int) : LowRaw St (w.setCell ⟨B, 2, none⟩ (.int .u64 l')) B S m K l' := by
  obtain ⟨C, S0, hb, hst, hn, hS⟩ := h
  refine ⟨C, S0, set_cells8 hb 2 _, D.keep _ _ _ _ _ _ hst (fun k hk => Below.heap_setCell _ _ _ _ (by show k ≠ B; rintro rfl; exact hn hk)), hn, hS⟩
end
theorem raw_B {St : World → Nat → (Nat → Prop) → Int → List PairV → Prop} {w : World} {B : Nat} {S : Nat → Prop} {m l : Int} {K : List PairV} (h : LowRaw St w B S m K l) : S B := by
  obtain ⟨C, S0, hb, hst, hn, hS⟩ := h
  exact (hS B).2 (Or.inl rfl)

set_option maxHeartbeats 400000 in
theorem lown_at (w : World) (B : Nat) (v : Value) (h : w.cell? ⟨B, 1, none⟩ = some v) :
    Calls Try.prog 36 #[.pointer (some ⟨B, 0, none⟩)] w fun e w' => e = .returned v ∧ w = w' := by
  go_enter Try.func36, Try.ntmps36
  go_wp2_with fail
  go_ret
  exact ⟨rfl, rfl⟩
set_option maxHeartbeats 400000 in
theorem lown_none (w : World) :
    Calls Try.prog 36 #[.pointer none] w fun e w' => e = .returned (.pointer none) ∧ w = w' := by
  go_enter Try.func36, Try.ntmps36
  go_wp2_with fail
  go_ret
  exact ⟨rfl, rfl⟩

set_option maxHeartbeats 400000 in
theorem llost_at (w : World) (B : Nat) (l : Int) (h : w.cell? ⟨B, 2, none⟩ = some (.int .u64 l)) :
    Calls Try.prog 16 #[.pointer (some ⟨B, 0, none⟩)] w fun e w' => e = .returned (.int .u64 l) ∧ w = w' := by
  go_enter Try.func16, Try.ntmps16
  go_wp2_with fail
  go_ret
  exact ⟨rfl, rfl⟩
set_option maxHeartbeats 400000 in
theorem llost_none (w : World) :
    Calls Try.prog 16 #[.pointer none] w fun e w' => e = .returned (.int .u64 0) ∧ w = w' := by
  go_enter Try.func16, Try.ntmps16
  go_wp2_with fail
  go_ret
  exact ⟨rfl, rfl⟩

set_option maxHeartbeats 400000 in
theorem lmost_at (w : World) (B : Nat) (m : Int) (h : w.cell? ⟨B, 0, none⟩ = some (.int .i64 m)) :
    Calls Try.prog 22 #[.pointer (some ⟨B, 0, none⟩)] w fun e w' => e = .returned (.int .i64 m) ∧ w = w' := by
  go_enter Try.func22, Try.ntmps22
  go_wp2_with fail
  go_ret
  exact ⟨rfl, rfl⟩
set_option maxHeartbeats 400000 in
theorem lmost_none (w : World) :
    Calls Try.prog 22 #[.pointer none] w fun e w' => e = .returned (.int .i64 0) ∧ w = w' := by
  go_enter Try.func22, Try.ntmps22
  go_wp2_with fail
  go_ret
  exact ⟨rfl, rfl⟩

set_option maxHeartbeats 400000 in
theorem lgap_any (a b : Int) (ha : I64 a) (hb : I64 b) (w : World) :
    Calls Try.prog 52 #[.int .i64 a, .int .i64 b] w fun e w' => e = .returned (.int .u64 (gap a b)) ∧ w = w' := by
  have H := Lib.hid (gap_any a b ha hb)
  obtain ⟨a0, a1⟩ := ha
  obtain ⟨b0, b1⟩ := hb
  go_enter Try.func52, Try.ntmps52
  go_wp2_with fail
  refine (H.out _).mono ?_
  rintro e w2 ⟨rfl, rfl⟩
  go_wp2_with fail
  go_ret
  exact ⟨rfl, rfl⟩

/-- What a lowcap, or a nil one, has of its own: a strip, or none. -/
def OwnsL (w : World) (p q : Option Addr) : Prop := ∀ w', Below w.heap.size w w' → Calls Try.prog 36 #[.pointer p] w' fun e w'' => e = .returned (.pointer q) ∧ w' = w''
theorem ownsl_at {w : World} {B : Nat} {q : Option Addr} (h : w.cell? ⟨B, 1, none⟩ = some (.pointer q)) : OwnsL w (some ⟨B, 0, none⟩) q := fun w' hb => lown_at w' B _ (cell_later hb h)
theorem ownsl_none (w : World) : OwnsL w none none := fun w' _ => lown_none w'
def LostsL (w : World) (p : Option Addr) (l : Int) : Prop := ∀ w', Below w.heap.size w w' → Calls Try.prog 16 #[.pointer p] w' fun e w'' => e = .returned (.int .u64 l) ∧ w' = w''
theorem lostsl_at {w : World} {B : Nat} {l : Int} (h : w.cell? ⟨B, 2, none⟩ = some (.int .u64 l)) : LostsL w (some ⟨B, 0, none⟩) l := fun w' hb => llost_at w' B _ (cell_later hb h)
theorem lostsl_none (w : World) : LostsL w none 0 := fun w' _ => llost_none w'

set_option maxHeartbeats 400000 in
theorem ltotal_of (w : World) (p q : Option Addr) (l s : Int) (h : OwnsL w p q) (hl : LostsL w p l) (hs : Calls Try.prog 38 #[.pointer q] w fun e w' => e = .returned (.int .u64 s) ∧ Below w.heap.size w w') (l0 : 0 ≤ l) (s0 : 0 ≤ s) (hb : l + s < 18446744073709551616) :
    Calls Try.prog 18 #[.pointer p] w fun e w' => e = .returned (.int .u64 (l + s)) ∧ Below w.heap.size w w' := by
  have H := Lib.hid h
  have HL := Lib.hid hl
  have HS := Lib.hid hs
  clear h hl hs
  go_enter Try.func18, Try.ntmps18
  go_wp2_with fail
  refine (HL.out _ (Below.refl _ _)).mono ?_
  rintro e w2 ⟨rfl, rfl⟩
  go_wp2_with fail
  refine (H.out _ (Below.refl _ _)).mono ?_
  rintro e w3 ⟨rfl, rfl⟩
  go_wp2_with fail
  refine HS.out.mono ?_
  rintro e w4 ⟨rfl, b4⟩
  go_wp2_with fail
  go_ret
  exact ⟨rfl, b4⟩

set_option maxHeartbeats 400000 in
theorem lpairs_of (w : World) (p q : Option Addr) (R : Ending → World → Prop) (h : OwnsL w p q) (hR : ∀ e w', R e w' → ∃ A n cap, e = .returned (.slice A n cap)) (hs : Calls Try.prog 37 #[.pointer q] w R) :
    Calls Try.prog 15 #[.pointer p] w R := by
  have H := Lib.hid h
  have HS := Lib.hid hs
  have HR := Lib.hid hR
  clear h hs hR
  go_enter Try.func15, Try.ntmps15
  go_wp2_with fail
  refine (H.out _ (Below.refl _ _)).mono ?_
  rintro e w3 ⟨rfl, rfl⟩
  go_wp2_with fail
  refine HS.out.mono ?_
  rintro e w4 h4
  obtain ⟨A, n, cap, rfl⟩ := HR.out _ _ h4
  have H4 := Lib.hid h4
  clear h4
  go_wp2_with fail
  exact H4.out

set_option maxHeartbeats 400000 in
theorem lat_of (w : World) (p q : Option Addr) (i n : Int) (h : OwnsL w p q) (hs : Calls Try.prog 39 #[.pointer q, .int .i64 i] w fun e w' => e = .returned (.int .u64 n) ∧ Below w.heap.size w w') :
    Calls Try.prog 20 #[.pointer p, .int .i64 i] w fun e w' => e = .returned (.int .u64 n) ∧ Below w.heap.size w w' := by
  have H := Lib.hid h
  have HS := Lib.hid hs
  clear h hs
  go_enter Try.func20, Try.ntmps20
  go_wp2_with fail
  refine (H.out _ (Below.refl _ _)).mono ?_
  rintro e w3 ⟨rfl, rfl⟩
  go_wp2_with fail
  refine HS.out.mono ?_
  rintro e w4 ⟨rfl, b4⟩
  go_wp2_with fail
  go_ret
  exact ⟨rfl, b4⟩

set_option maxHeartbeats 400000 in
theorem lfind_of (w : World) (p q : Option Addr) (l t x : Int) (fb : Bool) (h : OwnsL w p q) (hl : LostsL w p l) (lw : Word l) (ht : Word t) (hz : t ≤ l → x = 0 ∧ fb = false)
    (hs : l < t → Calls Try.prog 40 #[.pointer q, .int .u64 (t - l)] w fun e w' => e = .returned (.tuple #[.int .i64 x, .bool fb]) ∧ Below w.heap.size w w') :
    Calls Try.prog 24 #[.pointer p, .int .u64 t] w fun e w' => e = .returned (.tuple #[.int .i64 x, .bool fb]) ∧ Below w.heap.size w w' := by
  have H := Lib.hid h
  have HL := Lib.hid hl
  obtain ⟨l0, l1⟩ := lw
  obtain ⟨t0, t1⟩ := ht
  by_cases hc : t ≤ l
  · obtain ⟨rfl, rfl⟩ := hz hc
    clear h hl hs hz
    go_enter Try.func24, Try.ntmps24
    go_wp2_with fail
    refine (HL.out _ (Below.refl _ _)).mono ?_
    rintro e w2 ⟨rfl, rfl⟩
    go_wp2_with fail
    go_ret2
    exact ⟨rfl, Below.refl _ _⟩
  · have HS := Lib.hid (hs (by omega))
    have hu : IntKind.u64.wrap (t - l) = t - l := by rw [IntKind.wrap_u64]; omega
    clear h hl hs hz
    go_enter Try.func24, Try.ntmps24
    go_wp2_with fail
    refine (HL.out _ (Below.refl _ _)).mono ?_
    rintro e w2 ⟨rfl, rfl⟩
    go_wp2_with fail
    refine (H.out _ (Below.refl _ _)).mono ?_
    rintro e w3 ⟨rfl, rfl⟩
    go_wp2_with fail
    refine HS.out.mono ?_
    rintro e w4 ⟨rfl, b4⟩
    go_wp2_with fail
    go_ret2
    exact ⟨rfl, b4⟩

/-- How far an index lies below the end. -/
def underV (K : List PairV) (i : Int) : Int := if K ≠ [] ∧ i < endP K then endP K - i else 0
theorem under_word {K : List PairV} {i : Int} (ho : ∀ p, p ∈ K → okP p) (hi : I64 i) : Word (underV K i) := by
  have h1 := end_i64 ho
  unfold I64 at h1 hi
  unfold underV Word
  split <;> omega

set_option maxHeartbeats 1000000 in
theorem lunder_of (w : World) (p q : Option Addr) (K : List PairV) (i : Int) (h : OwnsL w p q) (hi : I64 i) (he : I64 (endP K)) (hf : I64 (firP K).1)
    (hs : Calls Try.prog 51 #[.pointer q] w fun e w' => e = .returned (.tuple #[.int .i64 (firP K).1, .int .i64 (lasP K).1, .bool (!K.isEmpty)]) ∧ Below w.heap.size w w') :
    Calls Try.prog 41 #[.pointer p, .int .i64 i] w fun e w' => e = .returned (.int .u64 (underV K i)) ∧ Below w.heap.size w w' := by
  have hs' : Calls Try.prog 51 #[.pointer q] w fun e w' => e = .returned (.tuple #[.int .i64 (firP K).1, .int .i64 (endP K), .bool (!K.isEmpty)]) ∧ Below w.heap.size w w' := hs
  have HG := Lib.hid (lgap_any i (endP K) hi he)
  have H := Lib.hid h
  obtain ⟨f, hf'⟩ : ∃ f, (firP K).1 = f := ⟨_, rfl⟩
  have hge : ∀ z, endP K = z → i < z → gap i (endP K) = z - i := fun z hz hlt => by unfold gap; rw [hz]; split <;> omega
  rw [hf'] at hs' hf
  by_cases hk : K = []
  · have hu : underV K i = 0 := by unfold underV; rw [if_neg (fun h => h.1 hk)]
    have hb : (!K.isEmpty) = false := by rw [hk]; rfl
    rw [hu]
    rw [hb] at hs'
    obtain ⟨z, hz⟩ : ∃ z, endP K = z := ⟨_, rfl⟩
    rw [hz] at hs' he
    have HS := Lib.hid hs'
    clear h hs hs' hge hz HG hu hb
    go_enter Try.func41, Try.ntmps41
    go_wp2_with fail
    refine (H.out _ (Below.refl _ _)).mono ?_
    rintro e w3 ⟨rfl, rfl⟩
    go_wp2_with fail
    refine HS.out.mono ?_
    rintro e w4 ⟨rfl, b4⟩
    go_wp2_with fail
    go_ret
    exact ⟨rfl, b4⟩
  · have hb : (!K.isEmpty) = true := by cases K with
      | nil => exact absurd rfl hk
      | cons a b => rfl
    have hu : underV K i = if i < endP K then endP K - i else 0 := by
      unfold underV
      by_cases h1 : i < endP K
      · rw [if_pos ⟨hk, h1⟩, if_pos h1]
      · rw [if_neg (fun h => h1 h.2), if_neg h1]
    rw [hu]
    rw [hb] at hs'
    have hg := hge _ rfl
    rcases lt_or_geI i (endP K) with hlt | hlt
    · rw [if_pos hlt]
      rw [hg hlt] at HG
      obtain ⟨z, hz⟩ : ∃ z, endP K = z := ⟨_, rfl⟩
      rw [hz] at hs' he hlt HG ⊢
      have HS := Lib.hid hs'
      have hlt' : ¬ z ≤ i := by omega
      obtain ⟨z0, z1⟩ := he
      obtain ⟨i0, i1⟩ := hi
      clear h hs hs' hge hz hu hb hg hk
      go_enter Try.func41, Try.ntmps41
      go_wp2_with fail
      refine (H.out _ (Below.refl _ _)).mono ?_
      rintro e w3 ⟨rfl, rfl⟩
      go_wp2_with fail
      refine HS.out.mono ?_
      rintro e w4 ⟨rfl, b4⟩
      go_wp2_with fail
      refine (HG.out _).mono ?_
      rintro e w5 ⟨rfl, rfl⟩
      go_wp2_with fail
      go_ret
      exact ⟨rfl, b4⟩
    · rw [if_neg (by omega)]
      obtain ⟨z, hz⟩ : ∃ z, endP K = z := ⟨_, rfl⟩
      rw [hz] at hs' he hlt
      have HS := Lib.hid hs'
      obtain ⟨z0, z1⟩ := he
      obtain ⟨i0, i1⟩ := hi
      clear h hs hs' hge hz hu hb hg hk HG
      go_enter Try.func41, Try.ntmps41
      go_wp2_with fail
      refine (H.out _ (Below.refl _ _)).mono ?_
      rintro e w3 ⟨rfl, rfl⟩
      go_wp2_with fail
      refine HS.out.mono ?_
      rintro e w4 ⟨rfl, b4⟩
      go_wp2_with fail
      go_ret
      exact ⟨rfl, b4⟩
end Go.Proofs.Ytoegjncccahmlaa

namespace Go.Proofs.Ytoegjncccahmlaa
set_option linter.unusedVariables false
set_option linter.unusedSimpArgs false
open Go.RowKit

/-- How far an index lies below the end, of whatever has such an own strip. -/
def UndersL (w : World) (p : Option Addr) (i u : Int) : Prop := ∀ w', Below w.heap.size w w' → Calls Try.prog 41 #[.pointer p, .int .i64 i] w' fun e w'' => e = .returned (.int .u64 u) ∧ Below w'.heap.size w' w''
def MostsL (w : World) (p : Option Addr) (m : Int) : Prop := ∀ w', Below w.heap.size w w' → Calls Try.prog 22 #[.pointer p] w' fun e w'' => e = .returned (.int .i64 m) ∧ w' = w''

set_option maxRecDepth 100000 in
set_option maxHeartbeats 1000000 in
theorem lbelow_of (w : World) (p q : Option Addr) (m l i u s a b : Int) (h : OwnsL w p q) (hl : LostsL w p l) (hm : MostsL w p m) (hu : UndersL w p i u) (lw : Word l) (uw : Word u) (m0 : 0 ≤ m) (m1 : m ≤ 4096)
    (hs : ∀ w', Below w.heap.size w w' → Calls Try.prog 42 #[.pointer q, .int .i64 i] w' fun e w'' => e = .returned (.int .u64 s) ∧ Below w'.heap.size w' w'') (s0 : 0 ≤ s) (hsl : l + s < 18446744073709551616)
    (ha : a = if m < u then 0 else l + s) (hb : b = if m < u then l else l + s) :
    Calls Try.prog 26 #[.pointer p, .int .i64 i] w fun e w' => e = .returned (.tuple #[.int .u64 a, .int .u64 b]) ∧ Below w.heap.size w w' := by
  have H := Lib.hid h
  have HL := Lib.hid hl
  have HM := Lib.hid hm
  have HU := Lib.hid hu
  have HS := Lib.hid hs
  obtain ⟨l0, l1⟩ := lw
  obtain ⟨u0, u1⟩ := uw
  have e1 : IntKind.u64.wrap m = m := by rw [IntKind.wrap_u64]; omega
  have e2 : IntKind.u64.wrap (l + s) = l + s := by rw [IntKind.wrap_u64]; omega
  clear h hl hm hu hs
  by_cases hc : m < u
  · rw [if_pos hc] at ha hb
    subst ha hb
    go_enter Try.func26, Try.ntmps26
    go_wp2_with fail
    refine (HL.out _ (Below.refl _ _)).mono ?_
    rintro e w2 ⟨rfl, rfl⟩
    go_wp2_with fail
    refine (HU.out _ (Below.refl _ _)).mono ?_
    rintro e w3 ⟨rfl, b3⟩
    go_wp2_with fail
    refine (HM.out _ b3).mono ?_
    rintro e w4 ⟨rfl, rfl⟩
    go_wp2_with fail
    go_ret2
    exact ⟨rfl, b3⟩
  · rw [if_neg hc] at ha hb
    subst ha hb
    go_enter Try.func26, Try.ntmps26
    go_wp2_with fail
    refine (HL.out _ (Below.refl _ _)).mono ?_
    rintro e w2 ⟨rfl, rfl⟩
    go_wp2_with fail
    refine (HU.out _ (Below.refl _ _)).mono ?_
    rintro e w3 ⟨rfl, b3⟩
    go_wp2_with fail
    refine (HM.out _ b3).mono ?_
    rintro e w4 ⟨rfl, rfl⟩
    go_wp2_with fail
    refine (H.out _ b3).mono ?_
    rintro e w5 ⟨rfl, rfl⟩
    go_wp2_with fail
    refine (HS.out _ b3).mono ?_
    rintro e w6 ⟨rfl, b6⟩
    go_wp2_with fail
    go_ret2
    exact ⟨rfl, b3.trans (b6.mono b3.size)⟩

/-- A number that goes round. -/
def wrU (x : Int) : Int := x % 18446744073709551616
theorem wrU_word (x : Int) : Word (wrU x) := by unfold wrU Word; omega
theorem wrU_id {x : Int} (h : 0 ≤ x) (h2 : x < 18446744073709551616) : wrU x = x := by unfold wrU; omega
theorem wrU_add (x y : Int) : IntKind.u64.wrap (wrU x + y) = wrU (x + y) := by rw [IntKind.wrap_u64]; unfold wrU; omega
/-- How a round of drop stands: so many pairs have gone. -/
def DropR (St : World → Nat → (Nat → Prop) → Int → List PairV → Prop) (w : World) (B : Nat) (S : Nat → Prop) (m : Int) (K : List PairV) (l i : Int) (k : Nat) (wr : World) : Prop :=
  ∃ S', LowRaw St wr B S' m (K.drop k) (wrU (l + sumP (K.take k))) ∧ Keeps S w wr ∧ (∀ j, S' j → S j ∨ w.heap.size ≤ j) ∧ ∀ p, p ∈ K.take k → m ≤ gap p.1 i
/-- What drop comes to. -/
def Dropt (St : World → Nat → (Nat → Prop) → Int → List PairV → Prop) (w : World) (B : Nat) (S : Nat → Prop) (m : Int) (K : List PairV) (l i : Int) (w' : World) : Prop :=
  ∃ k, k ≤ K.length ∧ DropR St w B S m K l i k w' ∧ (K.drop k = [] ∨ gap (firP (K.drop k)).1 i < m)
theorem fir_drop {K : List PairV} {k : Nat} {p : PairV} (h : K[k]? = some p) : firP (K.drop k) = p := by
  unfold firP
  rw [List.head?_drop, h]; rfl
theorem Keeps.trans {S S1 : Nat → Prop} {w w1 w2 : World} (h : Keeps S w w1) (h1 : Keeps S1 w1 w2) (hS : ∀ k, S1 k → S k ∨ w.heap.size ≤ k) : Keeps S w w2 :=
  ⟨h1.os.trans h.os, h1.tape.trans h.tape, h1.output.trans h.output, Nat.le_trans h.size h1.size, fun k hk hn => (h1.block k (Nat.lt_of_lt_of_le hk h.size) (fun h2 => by rcases hS k h2 with h3 | h3; exact hn h3; omega)).trans (h.block k hk hn)⟩
/-- A strip's own call, seen from the lowcap. -/
theorem raw_strip {St : World → Nat → (Nat → Prop) → Int → List PairV → Prop} {w w' : World} {B C : Nat} {S0 S1 : Nat → Prop} {m l : Int} {K : List PairV} (hb : w.heap[B]? = some (.cells #[.int .i64 m, .pointer (some ⟨C, 0, none⟩), .int .u64 l] 63 (0, 0)))
    (hn : ¬ S0 B) (hk : Keeps S0 w w') (hst : St w' C S1 m K) (hS : ∀ k, S1 k → S0 k ∨ w.heap.size ≤ k) : LowRaw St w' B (fun k => k = B ∨ S1 k) m K l := by
  have hlt := lt_of_block hb
  exact ⟨C, S1, (hk.block B hlt hn).trans hb, hst, fun h => by rcases hS B h with h1 | h1; exact hn h1; omega, fun k => Iff.rfl⟩

/-- A pair is laid in a box of its own. -/
theorem box_facts (w4 : World) {B : Nat} {cs : Array Value} {T : TypeId} {v : Value} (hb : w4.heap[B]? = some (.cells cs T (0, 0))) (h2 : w4.cell? ⟨B, 2, none⟩ = some v) (x y : Value) (t : TypeId) :
    ∃ X, w4.alloc (.cells #[x, y] t) = X ∧ Below w4.heap.size w4 X ∧ X.cell? ⟨B, 2, none⟩ = some v ∧ X.frozen? ⟨B, 2, none⟩ = false ∧ X.cell? ⟨w4.heap.size, 0, none⟩ = some x ∧ X.cell? ⟨w4.heap.size, 1, none⟩ = some y := by
  have b : Below w4.heap.size w4 (w4.alloc (.cells #[x, y] t)) := (Below.refl _ _).alloc (Nat.le_refl _) _
  exact ⟨_, rfl, b, cell_later b h2, free8 ((b.block B (lt_of_block hb)).trans hb) 2, (two_new8 w4 x y t).1, (two_new8 w4 x y t).2⟩

set_option maxRecDepth 100000 in
set_option maxHeartbeats 4000000 in
theorem ldrop_any {St : World → Nat → (Nat → Prop) → Int → List PairV → Prop} (D : StripDoes St) (w : World) (B : Nat) (S : Nat → Prop) (m : Int) (K : List PairV) (l i : Int) (h : LowRaw St w B S m K l) (hl : K.length ≤ 900) (hi : I64 i) (m1 : 1 ≤ m) (m2 : m ≤ 4096) (lw : Word l) :
    Calls Try.prog 45 #[.pointer (some ⟨B, 0, none⟩), .int .i64 i] w fun e w' => e = .returned (.tuple #[]) ∧ Dropt St w B S m K l i w' := by
  obtain ⟨C0, S00, hb0, hst0, _⟩ := id h
  have hok0 := (D.stp _ _ _ _ _ hst0).ok
  have HD := Lib.hid D
  have HO := Lib.hid hok0
  have HL := Lib.hid hl
  have HI := Lib.hid hi
  have H0 : Hid (DropR St w B S m K l i 0 w) := Lib.hid ⟨S, by rw [List.take_zero, List.drop_zero, sumP_nil, Int.add_zero, wrU_id lw.1 lw.2]; exact h, Keeps.refl _ _, fun j hj => Or.inl hj, fun p hp => by rw [List.take_zero] at hp; cases hp⟩
  have e1 : IntKind.u64.wrap m = m := by rw [IntKind.wrap_u64]; omega
  obtain ⟨i0, i1⟩ := hi
  clear D h hl hb0 hst0 hok0
  go_enter Try.func45, Try.ntmps45
  go_wp2_with fail
  go_loopg [] K.length (fun g wr => ∃ k : Nat, k ≤ K.length ∧ g = K.length - k ∧ DropR St w B S m K l i k wr)
  case atStart => exact ⟨0, Nat.zero_le _, rfl, H0.out⟩
  case round =>
    clear H0
    obtain ⟨k, hk, rfl, hR⟩ := hrel
    obtain ⟨S', hraw, hkp, hSS, hfar⟩ := hR
    have HRAW := Lib.hid hraw
    have HKP := Lib.hid hkp
    have HSS := Lib.hid hSS
    have HF := Lib.hid hfar
    obtain ⟨C, S0, hb, hst, hn, hS⟩ := hraw
    obtain ⟨c0, c1, c2⟩ := three_cells hb
    have HB := Lib.hid hb
    have HST := Lib.hid hst
    have HNB := Lib.hid hn
    have HS := Lib.hid hS
    have hlen : Hid ((K.drop k).length ≤ 900) := Lib.hid (by rw [List.length_drop]; have := HL.out; omega)
    have f2 := free8 hb 2
    clear hb hst hn hS hkp hSS hfar
    by_cases hlt : k < K.length
    · have hxk : K[k]? = some K[k] := List.getElem?_eq_getElem hlt
      generalize hit : K[k] = p at *
      have hok := HO.out p (List.mem_of_getElem? hxk)
      obtain ⟨px, pc⟩ := p
      have hF := fir_drop hxk
      have hE : (!(K.drop k).isEmpty) = true := by
        cases hd : K.drop k with
        | nil => have := congrArg List.length hd; rw [List.length_drop, List.length_nil] at this; omega
        | cons a b => rfl
      have HSTEP : Hid (sumP (K.take (k + 1)) = sumP (K.take k) + pc) := Lib.hid (sum_step' hxk)
      have HEND := Lib.hid (HD.out.ends _ C S0 m _ HST.out hlen.out)
      have HFIR := Lib.hid (HD.out.first _ C S0 m _ HST.out hlen.out)
      rw [hF, hE] at HEND HFIR
      obtain ⟨z, hz⟩ : ∃ z, (lasP (K.drop k)).1 = z := ⟨_, rfl⟩
      rw [hz] at HEND
      obtain ⟨lk, hlk⟩ : ∃ lk, wrU (l + sumP (K.take k)) = lk := ⟨_, rfl⟩
      obtain ⟨lk', hlk'⟩ : ∃ lk', wrU (l + sumP (K.take (k + 1))) = lk' := ⟨_, rfl⟩
      have hlk0 : 0 ≤ lk ∧ lk < 18446744073709551616 := by rw [← hlk]; exact wrU_word _
      have HLK := Lib.hid hlk
      have HLK' := Lib.hid hlk'
      rw [hlk] at c2
      obtain ⟨⟨x0, x1⟩, y0, y1⟩ := hok
      simp only at x0 x1 y0 y1
      have u2 : IntKind.u64.wrap (lk + pc) = lk' := by rw [← hlk, ← hlk', wrU_add, HSTEP.out, Int.add_assoc]
      obtain ⟨d, hd⟩ : ∃ d, gap px i = d := ⟨_, rfl⟩
      have HP : Hid (m ≤ d → ∀ q, q ∈ K.take (k + 1) → m ≤ gap q.1 i) := Lib.hid (fun hle q hq => by
        rw [take_snocP hxk] at hq
        rcases List.mem_append.1 hq with h1 | h1
        · exact HF.out q h1
        · simp at h1; subst h1; rw [hd]; exact hle)
      have HQ : Hid (d < m → gap (firP (K.drop k)).1 i < m) := Lib.hid (fun hlt => by rw [hF, hd]; exact hlt)
      have HTL : Hid ((K.drop k).tail = K.drop (k + 1)) := Lib.hid (by rw [List.tail_drop])
      have HGP : Hid (∀ w, Calls Try.prog 52 #[.int .i64 px, .int .i64 i] w fun e w' => e = .returned (.int .u64 d) ∧ w' = w) := Lib.hid (by rw [← hd]; exact fun w => (lgap_any px i ⟨x0, x1⟩ HI.out w).mono fun e w' ⟨h1, h2⟩ => ⟨h1, h2.symm⟩)
      have HFIR' : Hid (∀ w', St w' C S0 m (K.drop k) → Calls Try.prog 56 #[.pointer (some ⟨C, 0, none⟩)] w' fun e w'' => ∃ S', e = .returned (.tuple #[.agg #[.int .i64 px, .int .u64 pc], .bool true]) ∧ St w'' C S' m (K.drop (k + 1)) ∧ Keeps S0 w' w'' ∧ (∀ k, S' k → S0 k ∨ w'.heap.size ≤ k)) := Lib.hid (fun w' h => by
        have := HD.out.first w' C S0 m _ h hlen.out
        rw [hF, hE, HTL.out] at this
        exact this)
      clear hit hz hlk hlk' hxk hF hE hd HFIR
      go_wp2_with fail
      refine HEND.out.mono ?_
      rintro e w2 ⟨rfl, b2⟩
      have d0 := cell_later b2 c0
      have d1 := cell_later b2 c1
      have d2 := cell_later b2 c2
      by_cases hdm : d < m
      · have HQ' := Lib.hid (HQ.out hdm)
        clear HP HQ
        go_wp2_with fail
        go_quiet ((go_at_call 52; exact Calls.quiet_of_same (HGP.out _)))
        go_wp2_with fail
        refine bodyPost_ret (results_none rfl _ _ _) rfl ?_
        have b3 : Below wr.heap.size wr (w2.drewN nq) := below_drewN b2 _
        exact ⟨rfl, k, hk, ⟨S', raw_call HD.out HRAW.out b3, HKP.out.trans (Keeps.of_below (S := S') b3) HSS.out, HSS.out, HF.out⟩, Or.inr HQ'.out⟩
      · have HP' := Lib.hid (HP.out (by omega))
        clear HP HQ
        go_wp2_with fail
        go_quiet ((go_at_call 52; exact Calls.quiet_of_same (HGP.out _)))
        have b3 : Below wr.heap.size wr (w2.drewN nq) := below_drewN b2 _
        have HB3 := Lib.hid b3
        go_wp2_with fail
        refine (HFIR'.out _ (HD.out.call HST.out b3)).mono ?_
        rintro e w4 ⟨S1, rfl, hst4, k4, hs4⟩
        have g2 := k4.cell HNB.out (cell_later b3 c2)
        have HST4 := Lib.hid hst4
        have HK4 := Lib.hid k4
        have HS4 := Lib.hid hs4
        clear hst4 k4 hs4 d0 d1 d2
        go_wp2_with fail
        have hb4 := (HK4.out.block B (lt_of_block ((HB3.out.block B (lt_of_block HB.out)).trans HB.out)) HNB.out).trans ((HB3.out.block B (lt_of_block HB.out)).trans HB.out)
        obtain ⟨X, hX, bX, x2, xf, p0, p1⟩ := box_facts w4 hb4 g2 (.int .i64 px) (.int .u64 pc) 34
        rw [hX]
        have HBX := Lib.hid bX
        have HB4 := Lib.hid hb4
        clear hX bX hb4 g2
        go_region
        go_wp2_with fail
        go_roundg (K.length - (k + 1))
        case measure => omega
        case rel =>
          have hr : LowRaw St w4 B (fun k => k = B ∨ S1 k) m (K.drop (k + 1)) lk := raw_strip ((HB3.out.block B (lt_of_block HB.out)).trans (by rw [← HLK.out]; exact HB.out)) HNB.out HK4.out HST4.out HS4.out
          have bx2 : Below w4.heap.size w4 X.drew := HBX.out.drew
          have h1 := raw_lost HD.out (raw_call HD.out hr bx2) lk'
          have hk1 : Keeps S w w4 := (HKP.out.trans (Keeps.of_below (S := S') HB3.out) HSS.out).trans HK4.out (fun j hj => by
            rcases HSS.out j ((HS.out j).2 (Or.inr hj)) with h | h
            · exact Or.inl h
            · exact Or.inr h)
          have hk2 : Keeps S w X.drew := hk1.trans (Keeps.of_below (S := S0) bx2) (fun j hj => by
            rcases HSS.out j ((HS.out j).2 (Or.inr hj)) with h | h
            · exact Or.inl h
            · exact Or.inr h)
          refine ⟨k + 1, by omega, rfl, (fun k => k = B ∨ S1 k), ?_, hk2.set 2 _ (HSS.out B ((HS.out B).2 (Or.inl rfl))), ?_, HP'.out⟩
          · rw [HLK'.out]
            exact h1
          · rintro j (rfl | hj)
            · exact HSS.out _ ((HS.out _).2 (Or.inl rfl))
            · rcases HS4.out j hj with h | h
              · exact HSS.out j ((HS.out j).2 (Or.inr h))
              · have := HB3.out.size; have := HKP.out.size; exact Or.inr (by omega)
    · obtain rfl : k = K.length := by omega
      have hde : K.drop K.length = [] := List.drop_length
      have HDE := Lib.hid hde
      have HEND := Lib.hid (HD.out.ends _ C S0 m _ HST.out hlen.out)
      rw [hde] at HEND
      obtain ⟨z, hz⟩ : ∃ z, (lasP ([] : List PairV)).1 = z := ⟨_, rfl⟩
      obtain ⟨y, hy⟩ : ∃ y, (firP ([] : List PairV)).1 = y := ⟨_, rfl⟩
      rw [hz, hy] at HEND
      clear hz hy hde
      go_wp2_with fail
      refine HEND.out.mono ?_
      rintro e w2 ⟨rfl, b2⟩
      go_wp2_with fail
      go_quiet (fail)
      go_wp2_with fail
      refine bodyPost_ret (results_none rfl _ _ _) rfl ?_
      have b3 : Below wr.heap.size wr (w2.drewN nq) := below_drewN b2 _
      exact ⟨rfl, _, hk, ⟨S', raw_call HD.out HRAW.out b3, HKP.out.trans (Keeps.of_below (S := S') b3) HSS.out, HSS.out, HF.out⟩, Or.inl HDE.out⟩

/-- What comes to a lowcap, that there is room for. -/
theorem put_math {m : Int} {K : List PairV} {l i c : Int} (hm1 : 1 ≤ m) (hg : GoodP K) (ho : ∀ p, p ∈ K → okP p) (hk : keepP m K = K) (hi : I64 i) (hc : 0 < c) (h0 : 0 ≤ l) (hs : l + sumP K + c ≤ 9223372036854775807) (hf : K = [] ∨ endP K - m < i) :
    keepP m (addP K i c) = addP (highP K (i - m)) i c ∧ stErr m (highP K (i - m)) i c = 0 ∧ stRow m (highP K (i - m)) i c = keepP m (addP K i c) ∧ sumP (keepP m (addP K i c)) = sumP (highP K (i - m)) + c ∧ sumP (highP K (i - m)) ≤ sumP K ∧ 0 ≤ sumP (highP K (i - m)) ∧ (highP K (i - m)).length ≤ K.length := by
  have h1 := count_le_sum i (ok_pos ho)
  have e := keep_near (c := c) (by omega) hg hk (by omega) hc hf
  have hp := ok_pos ho
  have hs2 := sumP_filter (fun p : PairV => decide (i - m < p.1)) hp
  have hs3 : sumP (highP K (i - m)) ≤ sumP K ∧ 0 ≤ sumP (highP K (i - m)) := ⟨hs2.2, hs2.1⟩
  have hlen := keep_len (m := m) (L := addP K i c) (by omega) (add_good hg (by omega))
  rw [e] at hlen
  have hq : ∀ p, p ∈ highP K (i - m) → 0 ≤ p.2 := fun p hh => hp p (highP_mem hh).1
  have h2 := count_le_sum i hq
  have hz : stErr m (highP K (i - m)) i c = 0 := by
    unfold stErr
    rw [if_neg (by omega), if_neg (by omega), if_neg (by omega)]
  exact ⟨e, hz, by unfold stRow; rw [if_pos hz, e], by rw [e, add_sum (by omega)], hs3.1, hs3.2, List.length_filter_le _ _⟩

/-- What putting comes to, whatever the numbers. -/
def PutW (St : World → Nat → (Nat → Prop) → Int → List PairV → Prop) (w : World) (B : Nat) (S : Nat → Prop) (m : Int) (K : List PairV) (l i c : Int) (w' : World) : Prop :=
  ∃ S' K' l', LowRaw St w' B S' m K' l' ∧ Keeps S w w' ∧ (∀ j, S' j → S j ∨ w.heap.size ≤ j) ∧ Word l' ∧ K'.length ≤ K.length + 1 ∧
    ((m ≤ underV K i ∧ K' = K ∧ l' = wrU (l + c)) ∨ (underV K i < m ∧ ∃ k, k ≤ K.length ∧ (∀ p, p ∈ K.take k → m ≤ gap p.1 i) ∧ (K.drop k = [] ∨ gap (firP (K.drop k)).1 i < m) ∧ K' = stRow m (K.drop k) i c ∧ l' = wrU (l + sumP (K.take k))))

set_option maxRecDepth 100000 in
set_option maxHeartbeats 4000000 in
theorem lputw_any {St : World → Nat → (Nat → Prop) → Int → List PairV → Prop} (D : StripDoes St) (w : World) (B : Nat) (S : Nat → Prop) (m : Int) (K : List PairV) (l i c : Int) (h : LowRaw St w B S m K l) (hl : K.length ≤ 900) (hi : I64 i) (hc : Word c) (m1 : 1 ≤ m) (m2 : m ≤ 4096) (lw : Word l) :
    Calls Try.prog 34 #[.pointer (some ⟨B, 0, none⟩), .int .i64 i, .int .u64 c] w fun e w' => e = .returned (.tuple #[]) ∧ PutW St w B S m K l i c w' := by
  obtain ⟨C, S0, hb, hst, hn, hS⟩ := id h
  have ho := (D.stp _ _ _ _ _ hst).ok
  have hei := end_i64 ho
  obtain ⟨c0, c1, c2⟩ := three_cells hb
  have hu := under_word ho hi
  obtain ⟨u, hu'⟩ : ∃ u, underV K i = u := ⟨_, rfl⟩
  have HUN : Hid (∀ w', Below w.heap.size w w' → Calls Try.prog 41 #[.pointer (some ⟨B, 0, none⟩), .int .i64 i] w' fun e w'' => e = .returned (.int .u64 u) ∧ Below w'.heap.size w' w'') := Lib.hid (fun w' hb' => by
    rw [← hu']
    exact lunder_of w' _ _ K i (ownsl_at (cell_later hb' c1)) hi hei (fir_i64 ho) (D.ends _ C S0 m K (D.call hst hb') hl))
  rw [hu'] at hu
  obtain ⟨u0, u1⟩ := hu
  have e1 : IntKind.u64.wrap m = m := by rw [IntKind.wrap_u64]; omega
  have HD := Lib.hid D
  have HRAW := Lib.hid h
  have HB := Lib.hid hb
  have HU := Lib.hid hu'
  have hlt := lt_of_block hb
  have HI := Lib.hid hi
  have HC := Lib.hid hc
  have HLW := Lib.hid lw
  obtain ⟨w0, w1⟩ := hc
  obtain ⟨i0, i1⟩ := hi
  obtain ⟨l0, l1⟩ := lw
  by_cases hfar : m ≤ u
  · have f2 := free8 hb 2
    obtain ⟨l', hl'⟩ : ∃ l', wrU (l + c) = l' := ⟨_, rfl⟩
    have HL' := Lib.hid hl'
    have e2 : IntKind.u64.wrap (l + c) = l' := by rw [← hl', IntKind.wrap_u64]; rfl
    clear D h hl hst hn hS hb hu' hei c1 ho hl'
    go_enter Try.func34, Try.ntmps34
    go_wp2_with fail
    go_region_held3 (fun w' => w'.cell? ⟨B, 0, none⟩ = some (.int .i64 m) ∧ Below w.heap.size w w')
      (first | exact ⟨by go_simp, (Below.refl _ _).drew⟩ | exact ⟨cell_later hbA (And.left (by assumption)), Below.trans (And.right (by assumption)) (hbA.mono (Below.size (And.right (by assumption))))⟩ | assumption)
      ((go_at_call 41; refine (HUN.out _ (And.right (by assumption))).mono ?_; rintro e wA ⟨rfl, hbA⟩))
    all_goals
      rename_i hHeld
      obtain ⟨g0, bw⟩ := hHeld
      have g2 := cell_later bw c2
      have gf : wA.frozen? ⟨B, 2, none⟩ = false := free8 ((bw.block B hlt).trans HB.out) 2
      have HBW := Lib.hid bw
      clear hbA bw
      go_wp2_with fail
      refine bodyPost_ret (results_none rfl _ _ _) rfl ?_
      refine ⟨rfl, S, K, l', raw_lost HD.out (raw_call HD.out HRAW.out HBW.out) l', (Keeps.of_below HBW.out).set 2 _ (Or.inl (raw_B HRAW.out)), fun j hj => Or.inl hj, by rw [← HL'.out]; exact wrU_word _, Nat.le_succ _, Or.inl ⟨by rw [HU.out]; exact hfar, rfl, HL'.out.symm⟩⟩
  · have HDROP : Hid (∀ w', Below w.heap.size w w' → Calls Try.prog 45 #[.pointer (some ⟨B, 0, none⟩), .int .i64 i] w' fun e w'' => e = .returned (.tuple #[]) ∧ Dropt St w' B S m K l i w'') :=
      Lib.hid fun w' hb' => ldrop_any D w' B S m K l i (raw_call D h hb') hl HI.out m1 m2 HLW.out
    have HL := Lib.hid hl
    clear D h hl hst hn hS hb hu' hei c1 c2 ho
    go_enter Try.func34, Try.ntmps34
    go_wp2_with fail
    go_region_held3 (fun w' => w'.cell? ⟨B, 0, none⟩ = some (.int .i64 m) ∧ Below w.heap.size w w')
      (first | exact ⟨by go_simp, (Below.refl _ _).drew⟩ | exact ⟨cell_later hbA (And.left (by assumption)), Below.trans (And.right (by assumption)) (hbA.mono (Below.size (And.right (by assumption))))⟩ | assumption)
      ((go_at_call 41; refine (HUN.out _ (And.right (by assumption))).mono ?_; rintro e wA ⟨rfl, hbA⟩))
    all_goals
      rename_i hHeld
      obtain ⟨g0, bw⟩ := hHeld
      have HBW := Lib.hid bw
      clear hbA bw
      go_wp2_with fail
      refine (HDROP.out _ HBW.out).mono ?_
      rintro e w3 ⟨rfl, k, hk, ⟨S3, hr3, k3, hs3, hfk⟩, hfir⟩
      obtain ⟨R, hR⟩ : ∃ R, K.drop k = R := ⟨_, rfl⟩
      have hRl : R.length ≤ K.length := by rw [← hR, List.length_drop]; omega
      have HRL := Lib.hid hRl
      obtain ⟨lk, hlk⟩ : ∃ lk, wrU (l + sumP (K.take k)) = lk := ⟨_, rfl⟩
      rw [hlk, hR] at hr3
      have HR := Lib.hid hR
      have HLK := Lib.hid hlk
      have HFK := Lib.hid hfk
      have HFI := Lib.hid hfir
      have HK := Lib.hid hk
      have HK3 := Lib.hid k3
      have HS3 := Lib.hid hs3
      obtain ⟨C3, S4, hb3, hst3, hn3, hSS3⟩ := hr3
      obtain ⟨d0, d1, d2⟩ := three_cells hb3
      have HB3 := Lib.hid hb3
      have HST3 := Lib.hid hst3
      have HN3 := Lib.hid hn3
      have HSS3 := Lib.hid hSS3
      clear hb3 hst3 hn3 hSS3 k3 hs3 g0 d0 d2 hR hlk hfk hfir hRl hk
      go_wp2_with fail
      refine (HD.out.add _ C3 S4 m R i c HST3.out (by have := HRL.out; have := HL.out; omega) HI.out HC.out).mono ?_
      rintro e w5 ⟨S5, rfl, hst5, k5, hs5⟩
      have HST5 := Lib.hid hst5
      clear hst5
      go_wp2_with fail
      refine bodyPost_end (results_none rfl _ _ _) rfl ?_
      have hr5 := raw_strip HB3.out HN3.out k5 HST5.out hs5
      refine ⟨rfl, _, _, lk, hr5, ((Keeps.of_below HBW.out).trans HK3.out (fun j hj => Or.inl hj)).trans k5 ?_, ?_, by rw [← HLK.out]; exact wrU_word _, by have := stRow_len m R i c; have := HRL.out; omega, Or.inr ⟨by rw [HU.out]; omega, k, HK.out, HFK.out, HFI.out, by rw [HR.out], HLK.out.symm⟩⟩
      · intro j hj
        rcases HS3.out j ((HSS3.out j).2 (Or.inr hj)) with h | h
        · exact Or.inl h
        · have := HBW.out.size; exact Or.inr (by omega)
      · rintro j (rfl | hj)
        · rcases HS3.out j ((HSS3.out j).2 (Or.inl rfl)) with h | h
          · exact Or.inl h
          · have := HBW.out.size; exact Or.inr (by omega)
        · rcases hs5 j hj with h | h
          · rcases HS3.out j ((HSS3.out j).2 (Or.inr h)) with h | h
            · exact Or.inl h
            · have := HBW.out.size; exact Or.inr (by omega)
          · have := HBW.out.size; have := HK3.out.size; exact Or.inr (by omega)

/-- .. where there is room. -/
theorem put_eq {m : Int} {K : List PairV} {l i c : Int} {K' : List PairV} {l' : Int} (hcase : (m ≤ underV K i ∧ K' = K ∧ l' = wrU (l + c)) ∨ (underV K i < m ∧ ∃ k, k ≤ K.length ∧ (∀ p, p ∈ K.take k → m ≤ gap p.1 i) ∧ (K.drop k = [] ∨ gap (firP (K.drop k)).1 i < m) ∧ K' = stRow m (K.drop k) i c ∧ l' = wrU (l + sumP (K.take k))))
    (hg : GoodP K) (ho : ∀ p, p ∈ K → okP p) (hkp : keepP m K = K) (hi : I64 i) (hc : 0 < c) (m1 : 1 ≤ m) (l0 : 0 ≤ l) (hs : l + sumP K + c ≤ 9223372036854775807) :
    K' = keepP m (addP K i c) ∧ l' = l + sumP K + c - sumP (keepP m (addP K i c)) := by
  have hsp := sumP_pos (ok_pos ho)
  have hcn := count_le_sum i (ok_pos ho)
  rcases hcase with ⟨h1, rfl, rfl⟩ | ⟨h1, k, hkl, h2, h3, rfl, rfl⟩
  · have hfarK : K' ≠ [] ∧ i ≤ endP K' - m := by
      unfold underV at h1
      split at h1
      · rename_i h1'; exact ⟨h1'.1, by omega⟩
      · omega
    rw [keep_far (c := c) (by omega) hg hkp (by omega) hc hfarK.1 hfarK.2, show l + sumP K' + c - sumP K' = l + c by omega]
    exact ⟨rfl, wrU_id (by omega) (by omega)⟩
  · have hnearK : K = [] ∨ endP K - m < i := by
      unfold underV at h1
      by_cases hk : K = []
      · exact Or.inl hk
      · right
        by_cases h2 : i < endP K
        · rw [if_pos ⟨hk, h2⟩] at h1; omega
        · omega
    have hnear : ∀ p, p ∈ K → p.1 - i < m := fun p hp => by
      have := end_ge hg p hp
      rcases hnearK with h1 | h1
      · rw [h1] at hp; cases hp
      · omega
    obtain ⟨p1, p2, p3, p4, p5, p6, p7⟩ := put_math (c := c) m1 hg ho hkp hi hc l0 hs hnearK
    have e : highP K (i - m) = K.drop k := by
      refine high_drop hg (fun p hp => ?_) ?_
      · have h4 := h2 p hp
        have h5 := hnear p (List.mem_of_mem_take hp)
        unfold gap at h4
        split at h4 <;> omega
      · rcases h3 with h | h
        · exact Or.inl h
        · right
          unfold gap at h
          split at h <;> omega
    have es := sum_high_drop (K := K) (k := k)
    rw [e] at p3 p4 p5 p6
    rw [p3, wrU_id (by omega) (by omega), p4]
    exact ⟨rfl, by omega⟩
theorem putw_strong {St : World → Nat → (Nat → Prop) → Int → List PairV → Prop} {w w' : World} {B : Nat} {S : Nat → Prop} {m : Int} {K : List PairV} {l i c : Int} (h : PutW St w B S m K l i c w') (hg : GoodP K) (ho : ∀ p, p ∈ K → okP p) (hkp : keepP m K = K) (hi : I64 i) (hc : 0 < c) (m1 : 1 ≤ m)
    (l0 : 0 ≤ l) (hs : l + sumP K + c ≤ 9223372036854775807) : ∃ S', LowRaw St w' B S' m (keepP m (addP K i c)) (l + sumP K + c - sumP (keepP m (addP K i c))) ∧ Keeps S w w' ∧ (∀ j, S' j → S j ∨ w.heap.size ≤ j) := by
  obtain ⟨S', K', l', hr, hk, hS, _, _, hcase⟩ := h
  obtain ⟨rfl, rfl⟩ := put_eq hcase hg ho hkp hi hc m1 l0 hs
  exact ⟨S', hr, hk, hS⟩
theorem lput_any {St : World → Nat → (Nat → Prop) → Int → List PairV → Prop} (D : StripDoes St) (w : World) (B : Nat) (S : Nat → Prop) (m : Int) (K : List PairV) (l i c : Int) (h : LowRaw St w B S m K l) (hg : GoodP K) (ho : ∀ p, p ∈ K → okP p) (hkp : keepP m K = K) (hl : K.length ≤ 900) (hi : I64 i) (hc : 0 < c) (m1 : 1 ≤ m) (m2 : m ≤ 4096)
    (l0 : 0 ≤ l) (hs : l + sumP K + c ≤ 9223372036854775807) :
    Calls Try.prog 34 #[.pointer (some ⟨B, 0, none⟩), .int .i64 i, .int .u64 c] w fun e w' => e = .returned (.tuple #[]) ∧ ∃ S', LowRaw St w' B S' m (keepP m (addP K i c)) (l + sumP K + c - sumP (keepP m (addP K i c))) ∧ Keeps S w w' ∧ (∀ j, S' j → S j ∨ w.heap.size ≤ j) := by
  have hsp := sumP_pos (ok_pos ho)
  exact (lputw_any D w B S m K l i c h hl hi ⟨by omega, by omega⟩ m1 m2 ⟨l0, by omega⟩).mono fun e w' ⟨h1, h2⟩ => ⟨h1, putw_strong h2 hg ho hkp hi hc m1 l0 hs⟩
end Go.Proofs.Ytoegjncccahmlaa
