/-
  Texts joined, in build order: LowP, RunsP, LowQ, Back, LowR, StripX, LowX, HighP, HighQ.
-/
import Derived.Test.YtcijflakldggaaaGreatK3
import Derived.Deep.LoopGhost
import Derived.Deep.RegionHeld3
import Derived.Deep.RegionWith
import Derived.RangeFuncNested
import Derived.RangeFuncBound
import Derived.RangeFuncCalls
import Derived.RangeFuncLeaves
import Derived.Shelf.Abstract
import Derived.Shelf.RegionOpen
import Derived.WalkKit
import Derived.OwnWalkIn
import Derived.TacticsInMore
import Derived.LoopNIn
import Derived.LoopIn
import Derived.Lib.SmallJoins
/-
  How package lowcap lays a lowcap in memory; walks: own, Lost, Most, Total, Pairs, At, Find, under, Below, of a lowcap and of a nil one.
  Walks: package lowcap: Below; drop, put of a lowcap.
-/
namespace Go.Proofs.YtcijflakldggaaaGreat
set_option linter.unusedVariables false
set_option linter.unusedSimpArgs false
open Go.RowKit

/-- At block B lies a lowcap of m indexes that keeps K, l being lost; S are its blocks. -/
def LowRaw (St : World → Nat → (Nat → Prop) → Int → List PairV → Prop) (w : World) (B : Nat) (S : Nat → Prop) (m : Int) (K : List PairV) (l : Int) : Prop :=
  ∃ C S0, w.heap[B]? = some (.cells #[.int .i64 m, .pointer (some ⟨C, 0, none⟩), .int .u64 l] 173 (0, 0)) ∧ St w C S0 m K ∧ ¬ S0 B ∧ ∀ k, S k ↔ k = B ∨ S0 k
section
variable {St : World → Nat → (Nat → Prop) → Int → List PairV → Prop} (D : StripDoes St)
include D
theorem raw_lt {w : World} {B : Nat} {S : Nat → Prop} {m l : Int} {K : List PairV} (h : LowRaw St w B S m K l) : ∀ k, S k → k < w.heap.size := by
  obtain ⟨C, S0, hb, hst, hn, hS⟩ := h
  intro k hk
  rcases (hS k).1 hk with rfl | h
  · exact lt_of_block hb
  · exact D.lt _ _ _ _ _ hst k h
theorem raw_keep {w w' : World} {B : Nat} {S : Nat → Prop} {m l : Int} {K : List PairV} (h : LowRaw St w B S m K l) (hk : ∀ k, S k → w'.heap[k]? = w.heap[k]?) : LowRaw St w' B S m K l := by
  obtain ⟨C, S0, hb, hst, hn, hS⟩ := h
  exact ⟨C, S0, (hk B ((hS B).2 (Or.inl rfl))).trans hb, D.keep _ _ _ _ _ _ hst (fun k h => hk k ((hS k).2 (Or.inr h))), hn, hS⟩
theorem raw_call {w w' : World} {B : Nat} {S : Nat → Prop} {m l : Int} {K : List PairV} (h : LowRaw St w B S m K l) (hb : Below w.heap.size w w') : LowRaw St w' B S m K l :=
  raw_keep D h fun k hk => hb.block k (raw_lt D h k hk)
theorem raw_cells {w : World} {B : Nat} {S : Nat → Prop} {m l : Int} {K : List PairV} (h : LowRaw St w B S m K l) : ∀ k, S k → ∃ cs t z, w.heap[k]? = some (.cells cs t z) := by
  obtain ⟨C, S0, hb, hst, hn, hS⟩ := h
  intro k hk
  rcases (hS k).1 hk with rfl | h
  · exact ⟨_, _, _, hb⟩
  · exact D.cells _ _ _ _ _ hst k h
/-- The lost ones are counted anew. -/
theorem raw_lost {w : World} {B : Nat} {S : Nat → Prop} {m l : Int} {K : List PairV} (h : LowRaw St w B S m K l) (l' : Int) : LowRaw St (w.setCell ⟨B, 2, none⟩ (.int .u64 l')) B S m K l' := by
  obtain ⟨C, S0, hb, hst, hn, hS⟩ := h
  refine ⟨C, S0, set_cells8 hb 2 _, D.keep _ _ _ _ _ _ hst (fun k hk => Below.heap_setCell _ _ _ _ (by show k ≠ B; rintro rfl; exact hn hk)), hn, hS⟩
end
theorem raw_B {St : World → Nat → (Nat → Prop) → Int → List PairV → Prop} {w : World} {B : Nat} {S : Nat → Prop} {m l : Int} {K : List PairV} (h : LowRaw St w B S m K l) : S B := by
  obtain ⟨C, S0, hb, hst, hn, hS⟩ := h
  exact (hS B).2 (Or.inl rfl)

set_option maxHeartbeats 400000 in
theorem lown_at (w : World) (B : Nat) (v : Value) (h : w.cell? ⟨B, 1, none⟩ = some v) :
    Calls Tryz.prog 111 #[.pointer (some ⟨B, 0, none⟩)] w fun e w' => e = .returned v ∧ w = w' := by
  go_enter Tryz.func111, Tryz.ntmps111
  go_wp2_with fail
  go_ret
  exact ⟨rfl, rfl⟩
set_option maxHeartbeats 400000 in
theorem lown_none (w : World) :
    Calls Tryz.prog 111 #[.pointer none] w fun e w' => e = .returned (.pointer none) ∧ w = w' := by
  go_enter Tryz.func111, Tryz.ntmps111
  go_wp2_with fail
  go_ret
  exact ⟨rfl, rfl⟩

set_option maxHeartbeats 400000 in
theorem llost_at (w : World) (B : Nat) (l : Int) (h : w.cell? ⟨B, 2, none⟩ = some (.int .u64 l)) :
    Calls Tryz.prog 110 #[.pointer (some ⟨B, 0, none⟩)] w fun e w' => e = .returned (.int .u64 l) ∧ w = w' := by
  go_enter Tryz.func110, Tryz.ntmps110
  go_wp2_with fail
  go_ret
  exact ⟨rfl, rfl⟩
set_option maxHeartbeats 400000 in
theorem llost_none (w : World) :
    Calls Tryz.prog 110 #[.pointer none] w fun e w' => e = .returned (.int .u64 0) ∧ w = w' := by
  go_enter Tryz.func110, Tryz.ntmps110
  go_wp2_with fail
  go_ret
  exact ⟨rfl, rfl⟩

set_option maxHeartbeats 400000 in
theorem lmost_at (w : World) (B : Nat) (m : Int) (h : w.cell? ⟨B, 0, none⟩ = some (.int .i64 m)) :
    Calls Tryz.prog 172 #[.pointer (some ⟨B, 0, none⟩)] w fun e w' => e = .returned (.int .i64 m) ∧ w = w' := by
  go_enter Tryz.func172, Tryz.ntmps172
  go_wp2_with fail
  go_ret
  exact ⟨rfl, rfl⟩
set_option maxHeartbeats 400000 in
theorem lmost_none (w : World) :
    Calls Tryz.prog 172 #[.pointer none] w fun e w' => e = .returned (.int .i64 0) ∧ w = w' := by
  go_enter Tryz.func172, Tryz.ntmps172
  go_wp2_with fail
  go_ret
  exact ⟨rfl, rfl⟩

set_option maxHeartbeats 400000 in
theorem lgap_any (a b : Int) (ha : I64 a) (hb : I64 b) (w : World) :
    Calls Tryz.prog 125 #[.int .i64 a, .int .i64 b] w fun e w' => e = .returned (.int .u64 (gap a b)) ∧ w = w' := by
  have H := Lib.hid (gap_any a b ha hb)
  obtain ⟨a0, a1⟩ := ha
  obtain ⟨b0, b1⟩ := hb
  go_enter Tryz.func125, Tryz.ntmps125
  go_wp2_with fail
  refine (H.out _).mono ?_
  rintro e w2 ⟨rfl, rfl⟩
  go_wp2_with fail
  go_ret
  exact ⟨rfl, rfl⟩

/-- What a lowcap, or a nil one, has of its own: a strip, or none. -/
def OwnsL (w : World) (p q : Option Addr) : Prop := ∀ w', Below w.heap.size w w' → Calls Tryz.prog 111 #[.pointer p] w' fun e w'' => e = .returned (.pointer q) ∧ w' = w''
theorem ownsl_at {w : World} {B : Nat} {q : Option Addr} (h : w.cell? ⟨B, 1, none⟩ = some (.pointer q)) : OwnsL w (some ⟨B, 0, none⟩) q := fun w' hb => lown_at w' B _ (cell_later hb h)
theorem ownsl_none (w : World) : OwnsL w none none := fun w' _ => lown_none w'
def LostsL (w : World) (p : Option Addr) (l : Int) : Prop := ∀ w', Below w.heap.size w w' → Calls Tryz.prog 110 #[.pointer p] w' fun e w'' => e = .returned (.int .u64 l) ∧ w' = w''
theorem lostsl_at {w : World} {B : Nat} {l : Int} (h : w.cell? ⟨B, 2, none⟩ = some (.int .u64 l)) : LostsL w (some ⟨B, 0, none⟩) l := fun w' hb => llost_at w' B _ (cell_later hb h)
theorem lostsl_none (w : World) : LostsL w none 0 := fun w' _ => llost_none w'

set_option maxHeartbeats 400000 in
theorem ltotal_of (w : World) (p q : Option Addr) (l s : Int) (h : OwnsL w p q) (hl : LostsL w p l) (hs : Calls Tryz.prog 112 #[.pointer q] w fun e w' => e = .returned (.int .u64 s) ∧ Below w.heap.size w w') (l0 : 0 ≤ l) (s0 : 0 ≤ s) (hb : l + s < 18446744073709551616) :
    Calls Tryz.prog 98 #[.pointer p] w fun e w' => e = .returned (.int .u64 (l + s)) ∧ Below w.heap.size w w' := by
  have H := Lib.hid h
  have HL := Lib.hid hl
  have HS := Lib.hid hs
  clear h hl hs
  go_enter Tryz.func98, Tryz.ntmps98
  go_wp2_with fail
  refine (HL.out _ (Below.refl _ _)).mono ?_
  rintro e w2 ⟨rfl, rfl⟩
  go_wp2_with fail
  refine (H.out _ (Below.refl _ _)).mono ?_
  rintro e w3 ⟨rfl, rfl⟩
  go_wp2_with fail
  refine HS.out.mono ?_
  rintro e w4 ⟨rfl, b4⟩
  go_wp2_with fail
  go_ret
  exact ⟨rfl, b4⟩

set_option maxHeartbeats 400000 in
theorem lpairs_of (w : World) (p q : Option Addr) (R : Ending → World → Prop) (h : OwnsL w p q) (hR : ∀ e w', R e w' → ∃ A n cap, e = .returned (.slice A n cap)) (hs : Calls Tryz.prog 114 #[.pointer q] w R) :
    Calls Tryz.prog 100 #[.pointer p] w R := by
  have H := Lib.hid h
  have HS := Lib.hid hs
  have HR := Lib.hid hR
  clear h hs hR
  go_enter Tryz.func100, Tryz.ntmps100
  go_wp2_with fail
  refine (H.out _ (Below.refl _ _)).mono ?_
  rintro e w3 ⟨rfl, rfl⟩
  go_wp2_with fail
  refine HS.out.mono ?_
  rintro e w4 h4
  obtain ⟨A, n, cap, rfl⟩ := HR.out _ _ h4
  have H4 := Lib.hid h4
  clear h4
  go_wp2_with fail
  exact H4.out

set_option maxHeartbeats 400000 in
theorem lfind_of (w : World) (p q : Option Addr) (l t x : Int) (fb : Bool) (h : OwnsL w p q) (hl : LostsL w p l) (lw : Word l) (ht : Word t) (hz : t ≤ l → x = 0 ∧ fb = false)
    (hs : l < t → Calls Tryz.prog 173 #[.pointer q, .int .u64 (t - l)] w fun e w' => e = .returned (.tuple #[.int .i64 x, .bool fb]) ∧ Below w.heap.size w w') :
    Calls Tryz.prog 171 #[.pointer p, .int .u64 t] w fun e w' => e = .returned (.tuple #[.int .i64 x, .bool fb]) ∧ Below w.heap.size w w' := by
  have H := Lib.hid h
  have HL := Lib.hid hl
  obtain ⟨l0, l1⟩ := lw
  obtain ⟨t0, t1⟩ := ht
  by_cases hc : t ≤ l
  · obtain ⟨rfl, rfl⟩ := hz hc
    clear h hl hs hz
    go_enter Tryz.func171, Tryz.ntmps171
    go_wp2_with fail
    refine (HL.out _ (Below.refl _ _)).mono ?_
    rintro e w2 ⟨rfl, rfl⟩
    go_wp2_with fail
    go_ret2
    exact ⟨rfl, Below.refl _ _⟩
  · have HS := Lib.hid (hs (by omega))
    have hu : IntKind.u64.wrap (t - l) = t - l := by rw [IntKind.wrap_u64]; omega
    clear h hl hs hz
    go_enter Tryz.func171, Tryz.ntmps171
    go_wp2_with fail
    refine (HL.out _ (Below.refl _ _)).mono ?_
    rintro e w2 ⟨rfl, rfl⟩
    go_wp2_with fail
    refine (H.out _ (Below.refl _ _)).mono ?_
    rintro e w3 ⟨rfl, rfl⟩
    go_wp2_with fail
    refine HS.out.mono ?_
    rintro e w4 ⟨rfl, b4⟩
    go_wp2_with fail
    go_ret2
    exact ⟨rfl, b4⟩

/-- How far an index lies below the end. -/
def underV (K : List PairV) (i : Int) : Int := if K ≠ [] ∧ i < endP K then endP K - i else 0
theorem under_word {K : List PairV} {i : Int} (ho : ∀ p, p ∈ K → okP p) (hi : I64 i) : Word (underV K i) := by
  have h1 := end_i64 ho
  unfold I64 at h1 hi
  unfold underV Word
  split <;> omega

set_option maxHeartbeats 1000000 in
theorem lunder_of (w : World) (p q : Option Addr) (K : List PairV) (i : Int) (h : OwnsL w p q) (hi : I64 i) (he : I64 (endP K)) (hf : I64 (firP K).1)
    (hs : Calls Tryz.prog 130 #[.pointer q] w fun e w' => e = .returned (.tuple #[.int .i64 (firP K).1, .int .i64 (lasP K).1, .bool (!K.isEmpty)]) ∧ Below w.heap.size w w') :
    Calls Tryz.prog 115 #[.pointer p, .int .i64 i] w fun e w' => e = .returned (.int .u64 (underV K i)) ∧ Below w.heap.size w w' := by
  have hs' : Calls Tryz.prog 130 #[.pointer q] w fun e w' => e = .returned (.tuple #[.int .i64 (firP K).1, .int .i64 (endP K), .bool (!K.isEmpty)]) ∧ Below w.heap.size w w' := hs
  have HG := Lib.hid (lgap_any i (endP K) hi he)
  have H := Lib.hid h
  obtain ⟨f, hf'⟩ : ∃ f, (firP K).1 = f := ⟨_, rfl⟩
  have hge : ∀ z, endP K = z → i < z → gap i (endP K) = z - i := fun z hz hlt => by unfold gap; rw [hz]; split <;> omega
  rw [hf'] at hs' hf
  by_cases hk : K = []
  · have hu : underV K i = 0 := by unfold underV; rw [if_neg (fun h => h.1 hk)]
    have hb : (!K.isEmpty) = false := by rw [hk]; rfl
    rw [hu]
    rw [hb] at hs'
    obtain ⟨z, hz⟩ : ∃ z, endP K = z := ⟨_, rfl⟩
    rw [hz] at hs' he
    have HS := Lib.hid hs'
    clear h hs hs' hge hz HG hu hb
    go_enter Tryz.func115, Tryz.ntmps115
    go_wp2_with fail
    refine (H.out _ (Below.refl _ _)).mono ?_
    rintro e w3 ⟨rfl, rfl⟩
    go_wp2_with fail
    refine HS.out.mono ?_
    rintro e w4 ⟨rfl, b4⟩
    go_wp2_with fail
    go_ret
    exact ⟨rfl, b4⟩
  · have hb : (!K.isEmpty) = true := by cases K with
      | nil => exact absurd rfl hk
      | cons a b => rfl
    have hu : underV K i = if i < endP K then endP K - i else 0 := by
      unfold underV
      by_cases h1 : i < endP K
      · rw [if_pos ⟨hk, h1⟩, if_pos h1]
      · rw [if_neg (fun h => h1 h.2), if_neg h1]
    rw [hu]
    rw [hb] at hs'
    have hg := hge _ rfl
    rcases lt_or_geI i (endP K) with hlt | hlt
    · rw [if_pos hlt]
      rw [hg hlt] at HG
      obtain ⟨z, hz⟩ : ∃ z, endP K = z := ⟨_, rfl⟩
      rw [hz] at hs' he hlt HG ⊢
      have HS := Lib.hid hs'
      have hlt' : ¬ z ≤ i := by omega
      obtain ⟨z0, z1⟩ := he
      obtain ⟨i0, i1⟩ := hi
      clear h hs hs' hge hz hu hb hg hk
      go_enter Tryz.func115, Tryz.ntmps115
      go_wp2_with fail
      refine (H.out _ (Below.refl _ _)).mono ?_
      rintro e w3 ⟨rfl, rfl⟩
      go_wp2_with fail
      refine HS.out.mono ?_
      rintro e w4 ⟨rfl, b4⟩
      go_wp2_with fail
      refine (HG.out _).mono ?_
      rintro e w5 ⟨rfl, rfl⟩
      go_wp2_with fail
      go_ret
      exact ⟨rfl, b4⟩
    · rw [if_neg (by omega)]
      obtain ⟨z, hz⟩ : ∃ z, endP K = z := ⟨_, rfl⟩
      rw [hz] at hs' he hlt
      have HS := Lib.hid hs'
      obtain ⟨z0, z1⟩ := he
      obtain ⟨i0, i1⟩ := hi
      clear h hs hs' hge hz hu hb hg hk HG
      go_enter Tryz.func115, Tryz.ntmps115
      go_wp2_with fail
      refine (H.out _ (Below.refl _ _)).mono ?_
      rintro e w3 ⟨rfl, rfl⟩
      go_wp2_with fail
      refine HS.out.mono ?_
      rintro e w4 ⟨rfl, b4⟩
      go_wp2_with fail
      go_ret
      exact ⟨rfl, b4⟩
end Go.Proofs.YtcijflakldggaaaGreat

namespace Go.Proofs.YtcijflakldggaaaGreat
set_option linter.unusedVariables false
set_option linter.unusedSimpArgs false
open Go.RowKit

/-- How far an index lies below the end, of whatever has such an own strip. -/
def UndersL (w : World) (p : Option Addr) (i u : Int) : Prop := ∀ w', Below w.heap.size w w' → Calls Tryz.prog 115 #[.pointer p, .int .i64 i] w' fun e w'' => e = .returned (.int .u64 u) ∧ Below w'.heap.size w' w''
def MostsL (w : World) (p : Option Addr) (m : Int) : Prop := ∀ w', Below w.heap.size w w' → Calls Tryz.prog 172 #[.pointer p] w' fun e w'' => e = .returned (.int .i64 m) ∧ w' = w''

/-- How a round of drop stands: so many pairs have gone. -/
def DropR (St : World → Nat → (Nat → Prop) → Int → List PairV → Prop) (w : World) (B : Nat) (S : Nat → Prop) (m : Int) (K : List PairV) (l i : Int) (k : Nat) (wr : World) : Prop :=
  ∃ S', LowRaw St wr B S' m (K.drop k) (wrU (l + sumP (K.take k))) ∧ Keeps S w wr ∧ (∀ j, S' j → S j ∨ w.heap.size ≤ j) ∧ ∀ p, p ∈ K.take k → m ≤ gap p.1 i
/-- What drop comes to. -/
def Dropt (St : World → Nat → (Nat → Prop) → Int → List PairV → Prop) (w : World) (B : Nat) (S : Nat → Prop) (m : Int) (K : List PairV) (l i : Int) (w' : World) : Prop :=
  ∃ k, k ≤ K.length ∧ DropR St w B S m K l i k w' ∧ (K.drop k = [] ∨ gap (firP (K.drop k)).1 i < m)
/-- A strip's own call, seen from the lowcap. -/
theorem raw_strip {St : World → Nat → (Nat → Prop) → Int → List PairV → Prop} {w w' : World} {B C : Nat} {S0 S1 : Nat → Prop} {m l : Int} {K : List PairV} (hb : w.heap[B]? = some (.cells #[.int .i64 m, .pointer (some ⟨C, 0, none⟩), .int .u64 l] 173 (0, 0)))
    (hn : ¬ S0 B) (hk : Keeps S0 w w') (hst : St w' C S1 m K) (hS : ∀ k, S1 k → S0 k ∨ w.heap.size ≤ k) : LowRaw St w' B (fun k => k = B ∨ S1 k) m K l := by
  have hlt := lt_of_block hb
  exact ⟨C, S1, (hk.block B hlt hn).trans hb, hst, fun h => by rcases hS B h with h1 | h1; exact hn h1; omega, fun k => Iff.rfl⟩

set_option maxRecDepth 100000 in
set_option maxHeartbeats 4000000 in
theorem ldrop_any {St : World → Nat → (Nat → Prop) → Int → List PairV → Prop} (D : StripDoes St) (w : World) (B : Nat) (S : Nat → Prop) (m : Int) (K : List PairV) (l i : Int) (h : LowRaw St w B S m K l) (hl : K.length ≤ 900) (hi : I64 i) (m1 : 1 ≤ m) (m2 : m ≤ 4096) (lw : Word l) :
    Calls Tryz.prog 116 #[.pointer (some ⟨B, 0, none⟩), .int .i64 i] w fun e w' => e = .returned (.tuple #[]) ∧ Dropt St w B S m K l i w' := by
  obtain ⟨C0, S00, hb0, hst0, _⟩ := id h
  have hok0 := (D.stp _ _ _ _ _ hst0).ok
  have HD := Lib.hid D
  have HO := Lib.hid hok0
  have HL := Lib.hid hl
  have HI := Lib.hid hi
  have H0 : Hid (DropR St w B S m K l i 0 w) := Lib.hid ⟨S, by rw [List.take_zero, List.drop_zero, sumP_nil, Int.add_zero, wrU_id lw.1 lw.2]; exact h, Keeps.refl _ _, fun j hj => Or.inl hj, fun p hp => by rw [List.take_zero] at hp; cases hp⟩
  have e1 : IntKind.u64.wrap m = m := by rw [IntKind.wrap_u64]; omega
  obtain ⟨i0, i1⟩ := hi
  clear D h hl hb0 hst0 hok0
  go_enter Tryz.func116, Tryz.ntmps116
  go_wp2_with fail
  go_loopg [] K.length (fun g wr => ∃ k : Nat, k ≤ K.length ∧ g = K.length - k ∧ DropR St w B S m K l i k wr)
  case atStart => exact ⟨0, Nat.zero_le _, rfl, H0.out⟩
  case round =>
    clear H0
    obtain ⟨k, hk, rfl, hR⟩ := hrel
    obtain ⟨S', hraw, hkp, hSS, hfar⟩ := hR
    have HRAW := Lib.hid hraw
    have HKP := Lib.hid hkp
    have HSS := Lib.hid hSS
    have HF := Lib.hid hfar
    obtain ⟨C, S0, hb, hst, hn, hS⟩ := hraw
    obtain ⟨c0, c1, c2⟩ := three_cells hb
    have HB := Lib.hid hb
    have HST := Lib.hid hst
    have HNB := Lib.hid hn
    have HS := Lib.hid hS
    have hlen : Hid ((K.drop k).length ≤ 900) := Lib.hid (by rw [List.length_drop]; have := HL.out; omega)
    have f2 := free8 hb 2
    clear hb hst hn hS hkp hSS hfar
    by_cases hlt : k < K.length
    · have hxk : K[k]? = some K[k] := List.getElem?_eq_getElem hlt
      generalize hit : K[k] = p at *
      have hok := HO.out p (List.mem_of_getElem? hxk)
      obtain ⟨px, pc⟩ := p
      have hF := fir_drop hxk
      have hE : (!(K.drop k).isEmpty) = true := by
        cases hd : K.drop k with
        | nil => have := congrArg List.length hd; rw [List.length_drop, List.length_nil] at this; omega
        | cons a b => rfl
      have HSTEP : Hid (sumP (K.take (k + 1)) = sumP (K.take k) + pc) := Lib.hid (sum_step' hxk)
      have HEND := Lib.hid (HD.out.ends _ C S0 m _ HST.out hlen.out)
      have HFIR := Lib.hid (HD.out.first _ C S0 m _ HST.out hlen.out)
      rw [hF, hE] at HEND HFIR
      obtain ⟨z, hz⟩ : ∃ z, (lasP (K.drop k)).1 = z := ⟨_, rfl⟩
      rw [hz] at HEND
      obtain ⟨lk, hlk⟩ : ∃ lk, wrU (l + sumP (K.take k)) = lk := ⟨_, rfl⟩
      obtain ⟨lk', hlk'⟩ : ∃ lk', wrU (l + sumP (K.take (k + 1))) = lk' := ⟨_, rfl⟩
      have hlk0 : 0 ≤ lk ∧ lk < 18446744073709551616 := by rw [← hlk]; exact wrU_word _
      have HLK := Lib.hid hlk
      have HLK' := Lib.hid hlk'
      rw [hlk] at c2
      obtain ⟨⟨x0, x1⟩, y0, y1⟩ := hok
      simp only at x0 x1 y0 y1
      have u2 : IntKind.u64.wrap (lk + pc) = lk' := by rw [← hlk, ← hlk', wrU_add, HSTEP.out, Int.add_assoc]
      obtain ⟨d, hd⟩ : ∃ d, gap px i = d := ⟨_, rfl⟩
      have HP : Hid (m ≤ d → ∀ q, q ∈ K.take (k + 1) → m ≤ gap q.1 i) := Lib.hid (fun hle q hq => by
        rw [take_snocP hxk] at hq
        rcases List.mem_append.1 hq with h1 | h1
        · exact HF.out q h1
        · simp at h1; subst h1; rw [hd]; exact hle)
      have HQ : Hid (d < m → gap (firP (K.drop k)).1 i < m) := Lib.hid (fun hlt => by rw [hF, hd]; exact hlt)
      have HTL : Hid ((K.drop k).tail = K.drop (k + 1)) := Lib.hid (by rw [List.tail_drop])
      have HGP : Hid (∀ w, Calls Tryz.prog 125 #[.int .i64 px, .int .i64 i] w fun e w' => e = .returned (.int .u64 d) ∧ w' = w) := Lib.hid (by rw [← hd]; exact fun w => (lgap_any px i ⟨x0, x1⟩ HI.out w).mono fun e w' ⟨h1, h2⟩ => ⟨h1, h2.symm⟩)
      have HFIR' : Hid (∀ w', St w' C S0 m (K.drop k) → Calls Tryz.prog 131 #[.pointer (some ⟨C, 0, none⟩)] w' fun e w'' => ∃ S', e = .returned (.tuple #[.agg #[.int .i64 px, .int .u64 pc], .bool true]) ∧ St w'' C S' m (K.drop (k + 1)) ∧ Keeps S0 w' w'' ∧ (∀ k, S' k → S0 k ∨ w'.heap.size ≤ k)) := Lib.hid (fun w' h => by
        have := HD.out.first w' C S0 m _ h hlen.out
        rw [hF, hE, HTL.out] at this
        exact this)
      clear hit hz hlk hlk' hxk hF hE hd HFIR
      go_wp2_with fail
      refine HEND.out.mono ?_
      rintro e w2 ⟨rfl, b2⟩
      have d0 := cell_later b2 c0
      have d1 := cell_later b2 c1
      have d2 := cell_later b2 c2
      by_cases hdm : d < m
      · have HQ' := Lib.hid (HQ.out hdm)
        clear HP HQ
        go_wp2_with fail
        go_quiet ((go_at_call 125; exact Calls.quiet_of_same (HGP.out _)))
        go_wp2_with fail
        refine bodyPost_ret (results_none rfl _ _ _) rfl ?_
        have b3 : Below wr.heap.size wr (w2.drewN nq) := below_drewN b2 _
        exact ⟨rfl, k, hk, ⟨S', raw_call HD.out HRAW.out b3, HKP.out.trans (Keeps.of_below (S := S') b3) HSS.out, HSS.out, HF.out⟩, Or.inr HQ'.out⟩
      · have HP' := Lib.hid (HP.out (by omega))
        clear HP HQ
        go_wp2_with fail
        go_quiet ((go_at_call 125; exact Calls.quiet_of_same (HGP.out _)))
        have b3 : Below wr.heap.size wr (w2.drewN nq) := below_drewN b2 _
        have HB3 := Lib.hid b3
        go_wp2_with fail
        refine (HFIR'.out _ (HD.out.call HST.out b3)).mono ?_
        rintro e w4 ⟨S1, rfl, hst4, k4, hs4⟩
        have g2 := k4.cell HNB.out (cell_later b3 c2)
        have HST4 := Lib.hid hst4
        have HK4 := Lib.hid k4
        have HS4 := Lib.hid hs4
        clear hst4 k4 hs4 d0 d1 d2
        go_wp2_with fail
        have hb4 := (HK4.out.block B (lt_of_block ((HB3.out.block B (lt_of_block HB.out)).trans HB.out)) HNB.out).trans ((HB3.out.block B (lt_of_block HB.out)).trans HB.out)
        obtain ⟨X, hX, bX, x2, xf, p0, p1⟩ := box_facts w4 hb4 g2 (.int .i64 px) (.int .u64 pc) 114
        rw [hX]
        have HBX := Lib.hid bX
        have HB4 := Lib.hid hb4
        clear hX bX hb4 g2
        go_region
        go_wp2_with fail
        go_roundg (K.length - (k + 1))
        case measure => omega
        case rel =>
          have hr : LowRaw St w4 B (fun k => k = B ∨ S1 k) m (K.drop (k + 1)) lk := raw_strip ((HB3.out.block B (lt_of_block HB.out)).trans (by rw [← HLK.out]; exact HB.out)) HNB.out HK4.out HST4.out HS4.out
          have bx2 : Below w4.heap.size w4 X.drew := HBX.out.drew
          have h1 := raw_lost HD.out (raw_call HD.out hr bx2) lk'
          have hk1 : Keeps S w w4 := (HKP.out.trans (Keeps.of_below (S := S') HB3.out) HSS.out).trans HK4.out (fun j hj => by
            rcases HSS.out j ((HS.out j).2 (Or.inr hj)) with h | h
            · exact Or.inl h
            · exact Or.inr h)
          have hk2 : Keeps S w X.drew := hk1.trans (Keeps.of_below (S := S0) bx2) (fun j hj => by
            rcases HSS.out j ((HS.out j).2 (Or.inr hj)) with h | h
            · exact Or.inl h
            · exact Or.inr h)
          refine ⟨k + 1, by omega, rfl, (fun k => k = B ∨ S1 k), ?_, hk2.set 2 _ (HSS.out B ((HS.out B).2 (Or.inl rfl))), ?_, HP'.out⟩
          · rw [HLK'.out]
            exact h1
          · rintro j (rfl | hj)
            · exact HSS.out _ ((HS.out _).2 (Or.inl rfl))
            · rcases HS4.out j hj with h | h
              · exact HSS.out j ((HS.out j).2 (Or.inr h))
              · have := HB3.out.size; have := HKP.out.size; exact Or.inr (by omega)
    · obtain rfl : k = K.length := by omega
      have hde : K.drop K.length = [] := List.drop_length
      have HDE := Lib.hid hde
      have HEND := Lib.hid (HD.out.ends _ C S0 m _ HST.out hlen.out)
      rw [hde] at HEND
      obtain ⟨z, hz⟩ : ∃ z, (lasP ([] : List PairV)).1 = z := ⟨_, rfl⟩
      obtain ⟨y, hy⟩ : ∃ y, (firP ([] : List PairV)).1 = y := ⟨_, rfl⟩
      rw [hz, hy] at HEND
      clear hz hy hde
      go_wp2_with fail
      refine HEND.out.mono ?_
      rintro e w2 ⟨rfl, b2⟩
      go_wp2_with fail
      go_quiet (fail)
      go_wp2_with fail
      refine bodyPost_ret (results_none rfl _ _ _) rfl ?_
      have b3 : Below wr.heap.size wr (w2.drewN nq) := below_drewN b2 _
      exact ⟨rfl, _, hk, ⟨S', raw_call HD.out HRAW.out b3, HKP.out.trans (Keeps.of_below (S := S') b3) HSS.out, HSS.out, HF.out⟩, Or.inl HDE.out⟩

/-- What comes to a lowcap, that there is room for. -/
theorem put_math {m : Int} {K : List PairV} {l i c : Int} (hm1 : 1 ≤ m) (hg : GoodP K) (ho : ∀ p, p ∈ K → okP p) (hk : keepP m K = K) (hi : I64 i) (hc : 0 < c) (h0 : 0 ≤ l) (hs : l + sumP K + c ≤ 9223372036854775807) (hf : K = [] ∨ endP K - m < i) :
    keepP m (addP K i c) = addP (highP K (i - m)) i c ∧ stErr m (highP K (i - m)) i c = 0 ∧ stRow m (highP K (i - m)) i c = keepP m (addP K i c) ∧ sumP (keepP m (addP K i c)) = sumP (highP K (i - m)) + c ∧ sumP (highP K (i - m)) ≤ sumP K ∧ 0 ≤ sumP (highP K (i - m)) ∧ (highP K (i - m)).length ≤ K.length := by
  have h1 := count_le_sum i (ok_pos ho)
  have e := keep_near (c := c) (by omega) hg hk (by omega) hc hf
  have hp := ok_pos ho
  have hs2 := sumP_filter (fun p : PairV => decide (i - m < p.1)) hp
  have hs3 : sumP (highP K (i - m)) ≤ sumP K ∧ 0 ≤ sumP (highP K (i - m)) := ⟨hs2.2, hs2.1⟩
  have hlen := keep_len (m := m) (L := addP K i c) (by omega) (add_good hg (by omega))
  rw [e] at hlen
  have hq : ∀ p, p ∈ highP K (i - m) → 0 ≤ p.2 := fun p hh => hp p (highP_mem hh).1
  have h2 := count_le_sum i hq
  have hz : stErr m (highP K (i - m)) i c = 0 := by
    unfold stErr
    rw [if_neg (by omega), if_neg (by omega), if_neg (by omega)]
  exact ⟨e, hz, by unfold stRow; rw [if_pos hz, e], by rw [e, add_sum (by omega)], hs3.1, hs3.2, List.length_filter_le _ _⟩

/-- What putting comes to, whatever the numbers. -/
def PutW (St : World → Nat → (Nat → Prop) → Int → List PairV → Prop) (w : World) (B : Nat) (S : Nat → Prop) (m : Int) (K : List PairV) (l i c : Int) (w' : World) : Prop :=
  ∃ S' K' l', LowRaw St w' B S' m K' l' ∧ Keeps S w w' ∧ (∀ j, S' j → S j ∨ w.heap.size ≤ j) ∧ Word l' ∧ K'.length ≤ K.length + 1 ∧
    ((m ≤ underV K i ∧ K' = K ∧ l' = wrU (l + c)) ∨ (underV K i < m ∧ ∃ k, k ≤ K.length ∧ (∀ p, p ∈ K.take k → m ≤ gap p.1 i) ∧ (K.drop k = [] ∨ gap (firP (K.drop k)).1 i < m) ∧ K' = stRow m (K.drop k) i c ∧ l' = wrU (l + sumP (K.take k))))

set_option maxRecDepth 100000 in
set_option maxHeartbeats 4000000 in
theorem lputw_any {St : World → Nat → (Nat → Prop) → Int → List PairV → Prop} (D : StripDoes St) (w : World) (B : Nat) (S : Nat → Prop) (m : Int) (K : List PairV) (l i c : Int) (h : LowRaw St w B S m K l) (hl : K.length ≤ 900) (hi : I64 i) (hc : Word c) (m1 : 1 ≤ m) (m2 : m ≤ 4096) (lw : Word l) :
    Calls Tryz.prog 101 #[.pointer (some ⟨B, 0, none⟩), .int .i64 i, .int .u64 c] w fun e w' => e = .returned (.tuple #[]) ∧ PutW St w B S m K l i c w' := by
  obtain ⟨C, S0, hb, hst, hn, hS⟩ := id h
  have ho := (D.stp _ _ _ _ _ hst).ok
  have hei := end_i64 ho
  obtain ⟨c0, c1, c2⟩ := three_cells hb
  have hu := under_word ho hi
  obtain ⟨u, hu'⟩ : ∃ u, underV K i = u := ⟨_, rfl⟩
  have HUN : Hid (∀ w', Below w.heap.size w w' → Calls Tryz.prog 115 #[.pointer (some ⟨B, 0, none⟩), .int .i64 i] w' fun e w'' => e = .returned (.int .u64 u) ∧ Below w'.heap.size w' w'') := Lib.hid (fun w' hb' => by
    rw [← hu']
    exact lunder_of w' _ _ K i (ownsl_at (cell_later hb' c1)) hi hei (fir_i64 ho) (D.ends _ C S0 m K (D.call hst hb') hl))
  rw [hu'] at hu
  obtain ⟨u0, u1⟩ := hu
  have e1 : IntKind.u64.wrap m = m := by rw [IntKind.wrap_u64]; omega
  have HD := Lib.hid D
  have HRAW := Lib.hid h
  have HB := Lib.hid hb
  have HU := Lib.hid hu'
  have hlt := lt_of_block hb
  have HI := Lib.hid hi
  have HC := Lib.hid hc
  have HLW := Lib.hid lw
  obtain ⟨w0, w1⟩ := hc
  obtain ⟨i0, i1⟩ := hi
  obtain ⟨l0, l1⟩ := lw
  by_cases hfar : m ≤ u
  · have f2 := free8 hb 2
    obtain ⟨l', hl'⟩ : ∃ l', wrU (l + c) = l' := ⟨_, rfl⟩
    have HL' := Lib.hid hl'
    have e2 : IntKind.u64.wrap (l + c) = l' := by rw [← hl', IntKind.wrap_u64]; rfl
    clear D h hl hst hn hS hb hu' hei c1 ho hl'
    go_enter Tryz.func101, Tryz.ntmps101
    go_wp2_with fail
    go_region_held3 (fun w' => w'.cell? ⟨B, 0, none⟩ = some (.int .i64 m) ∧ Below w.heap.size w w')
      (first | exact ⟨by go_simp, (Below.refl _ _).drew⟩ | exact ⟨cell_later hbA (And.left (by assumption)), Below.trans (And.right (by assumption)) (hbA.mono (Below.size (And.right (by assumption))))⟩ | assumption)
      ((go_at_call 115; refine (HUN.out _ (And.right (by assumption))).mono ?_; rintro e wA ⟨rfl, hbA⟩))
    all_goals
      rename_i hHeld
      obtain ⟨g0, bw⟩ := hHeld
      have g2 := cell_later bw c2
      have gf : wA.frozen? ⟨B, 2, none⟩ = false := free8 ((bw.block B hlt).trans HB.out) 2
      have HBW := Lib.hid bw
      clear hbA bw
      go_wp2_with fail
      refine bodyPost_ret (results_none rfl _ _ _) rfl ?_
      refine ⟨rfl, S, K, l', raw_lost HD.out (raw_call HD.out HRAW.out HBW.out) l', (Keeps.of_below HBW.out).set 2 _ (Or.inl (raw_B HRAW.out)), fun j hj => Or.inl hj, by rw [← HL'.out]; exact wrU_word _, Nat.le_succ _, Or.inl ⟨by rw [HU.out]; exact hfar, rfl, HL'.out.symm⟩⟩
  · have HDROP : Hid (∀ w', Below w.heap.size w w' → Calls Tryz.prog 116 #[.pointer (some ⟨B, 0, none⟩), .int .i64 i] w' fun e w'' => e = .returned (.tuple #[]) ∧ Dropt St w' B S m K l i w'') :=
      Lib.hid fun w' hb' => ldrop_any D w' B S m K l i (raw_call D h hb') hl HI.out m1 m2 HLW.out
    have HL := Lib.hid hl
    clear D h hl hst hn hS hb hu' hei c1 c2 ho
    go_enter Tryz.func101, Tryz.ntmps101
    go_wp2_with fail
    go_region_held3 (fun w' => w'.cell? ⟨B, 0, none⟩ = some (.int .i64 m) ∧ Below w.heap.size w w')
      (first | exact ⟨by go_simp, (Below.refl _ _).drew⟩ | exact ⟨cell_later hbA (And.left (by assumption)), Below.trans (And.right (by assumption)) (hbA.mono (Below.size (And.right (by assumption))))⟩ | assumption)
      ((go_at_call 115; refine (HUN.out _ (And.right (by assumption))).mono ?_; rintro e wA ⟨rfl, hbA⟩))
    all_goals
      rename_i hHeld
      obtain ⟨g0, bw⟩ := hHeld
      have HBW := Lib.hid bw
      clear hbA bw
      go_wp2_with fail
      refine (HDROP.out _ HBW.out).mono ?_
      rintro e w3 ⟨rfl, k, hk, ⟨S3, hr3, k3, hs3, hfk⟩, hfir⟩
      obtain ⟨R, hR⟩ : ∃ R, K.drop k = R := ⟨_, rfl⟩
      have hRl : R.length ≤ K.length := by rw [← hR, List.length_drop]; omega
      have HRL := Lib.hid hRl
      obtain ⟨lk, hlk⟩ : ∃ lk, wrU (l + sumP (K.take k)) = lk := ⟨_, rfl⟩
      rw [hlk, hR] at hr3
      have HR := Lib.hid hR
      have HLK := Lib.hid hlk
      have HFK := Lib.hid hfk
      have HFI := Lib.hid hfir
      have HK := Lib.hid hk
      have HK3 := Lib.hid k3
      have HS3 := Lib.hid hs3
      obtain ⟨C3, S4, hb3, hst3, hn3, hSS3⟩ := hr3
      obtain ⟨d0, d1, d2⟩ := three_cells hb3
      have HB3 := Lib.hid hb3
      have HST3 := Lib.hid hst3
      have HN3 := Lib.hid hn3
      have HSS3 := Lib.hid hSS3
      clear hb3 hst3 hn3 hSS3 k3 hs3 g0 d0 d2 hR hlk hfk hfir hRl hk
      go_wp2_with fail
      refine (HD.out.add _ C3 S4 m R i c HST3.out (by have := HRL.out; have := HL.out; omega) HI.out HC.out).mono ?_
      rintro e w5 ⟨S5, rfl, hst5, k5, hs5⟩
      have HST5 := Lib.hid hst5
      clear hst5
      go_wp2_with fail
      refine bodyPost_end (results_none rfl _ _ _) rfl ?_
      have hr5 := raw_strip HB3.out HN3.out k5 HST5.out hs5
      refine ⟨rfl, _, _, lk, hr5, ((Keeps.of_below HBW.out).trans HK3.out (fun j hj => Or.inl hj)).trans k5 ?_, ?_, by rw [← HLK.out]; exact wrU_word _, by have := stRow_len m R i c; have := HRL.out; omega, Or.inr ⟨by rw [HU.out]; omega, k, HK.out, HFK.out, HFI.out, by rw [HR.out], HLK.out.symm⟩⟩
      · intro j hj
        rcases HS3.out j ((HSS3.out j).2 (Or.inr hj)) with h | h
        · exact Or.inl h
        · have := HBW.out.size; exact Or.inr (by omega)
      · rintro j (rfl | hj)
        · rcases HS3.out j ((HSS3.out j).2 (Or.inl rfl)) with h | h
          · exact Or.inl h
          · have := HBW.out.size; exact Or.inr (by omega)
        · rcases hs5 j hj with h | h
          · rcases HS3.out j ((HSS3.out j).2 (Or.inr h)) with h | h
            · exact Or.inl h
            · have := HBW.out.size; exact Or.inr (by omega)
          · have := HBW.out.size; have := HK3.out.size; exact Or.inr (by omega)

/-- .. where there is room. -/
theorem put_eq {m : Int} {K : List PairV} {l i c : Int} {K' : List PairV} {l' : Int} (hcase : (m ≤ underV K i ∧ K' = K ∧ l' = wrU (l + c)) ∨ (underV K i < m ∧ ∃ k, k ≤ K.length ∧ (∀ p, p ∈ K.take k → m ≤ gap p.1 i) ∧ (K.drop k = [] ∨ gap (firP (K.drop k)).1 i < m) ∧ K' = stRow m (K.drop k) i c ∧ l' = wrU (l + sumP (K.take k))))
    (hg : GoodP K) (ho : ∀ p, p ∈ K → okP p) (hkp : keepP m K = K) (hi : I64 i) (hc : 0 < c) (m1 : 1 ≤ m) (l0 : 0 ≤ l) (hs : l + sumP K + c ≤ 9223372036854775807) :
    K' = keepP m (addP K i c) ∧ l' = l + sumP K + c - sumP (keepP m (addP K i c)) := by
  have hsp := sumP_pos (ok_pos ho)
  have hcn := count_le_sum i (ok_pos ho)
  rcases hcase with ⟨h1, rfl, rfl⟩ | ⟨h1, k, hkl, h2, h3, rfl, rfl⟩
  · have hfarK : K' ≠ [] ∧ i ≤ endP K' - m := by
      unfold underV at h1
      split at h1
      · rename_i h1'; exact ⟨h1'.1, by omega⟩
      · omega
    rw [keep_far (c := c) (by omega) hg hkp (by omega) hc hfarK.1 hfarK.2, show l + sumP K' + c - sumP K' = l + c by omega]
    exact ⟨rfl, wrU_id (by omega) (by omega)⟩
  · have hnearK : K = [] ∨ endP K - m < i := by
      unfold underV at h1
      by_cases hk : K = []
      · exact Or.inl hk
      · right
        by_cases h2 : i < endP K
        · rw [if_pos ⟨hk, h2⟩] at h1; omega
        · omega
    have hnear : ∀ p, p ∈ K → p.1 - i < m := fun p hp => by
      have := end_ge hg p hp
      rcases hnearK with h1 | h1
      · rw [h1] at hp; cases hp
      · omega
    obtain ⟨p1, p2, p3, p4, p5, p6, p7⟩ := put_math (c := c) m1 hg ho hkp hi hc l0 hs hnearK
    have e : highP K (i - m) = K.drop k := by
      refine high_drop hg (fun p hp => ?_) ?_
      · have h4 := h2 p hp
        have h5 := hnear p (List.mem_of_mem_take hp)
        unfold gap at h4
        split at h4 <;> omega
      · rcases h3 with h | h
        · exact Or.inl h
        · right
          unfold gap at h
          split at h <;> omega
    have es := sum_high_drop (K := K) (k := k)
    rw [e] at p3 p4 p5 p6
    rw [p3, wrU_id (by omega) (by omega), p4]
    exact ⟨rfl, by omega⟩
theorem putw_strong {St : World → Nat → (Nat → Prop) → Int → List PairV → Prop} {w w' : World} {B : Nat} {S : Nat → Prop} {m : Int} {K : List PairV} {l i c : Int} (h : PutW St w B S m K l i c w') (hg : GoodP K) (ho : ∀ p, p ∈ K → okP p) (hkp : keepP m K = K) (hi : I64 i) (hc : 0 < c) (m1 : 1 ≤ m)
    (l0 : 0 ≤ l) (hs : l + sumP K + c ≤ 9223372036854775807) : ∃ S', LowRaw St w' B S' m (keepP m (addP K i c)) (l + sumP K + c - sumP (keepP m (addP K i c))) ∧ Keeps S w w' ∧ (∀ j, S' j → S j ∨ w.heap.size ≤ j) := by
  obtain ⟨S', K', l', hr, hk, hS, _, _, hcase⟩ := h
  obtain ⟨rfl, rfl⟩ := put_eq hcase hg ho hkp hi hc m1 l0 hs
  exact ⟨S', hr, hk, hS⟩
theorem lput_any {St : World → Nat → (Nat → Prop) → Int → List PairV → Prop} (D : StripDoes St) (w : World) (B : Nat) (S : Nat → Prop) (m : Int) (K : List PairV) (l i c : Int) (h : LowRaw St w B S m K l) (hg : GoodP K) (ho : ∀ p, p ∈ K → okP p) (hkp : keepP m K = K) (hl : K.length ≤ 900) (hi : I64 i) (hc : 0 < c) (m1 : 1 ≤ m) (m2 : m ≤ 4096)
    (l0 : 0 ≤ l) (hs : l + sumP K + c ≤ 9223372036854775807) :
    Calls Tryz.prog 101 #[.pointer (some ⟨B, 0, none⟩), .int .i64 i, .int .u64 c] w fun e w' => e = .returned (.tuple #[]) ∧ ∃ S', LowRaw St w' B S' m (keepP m (addP K i c)) (l + sumP K + c - sumP (keepP m (addP K i c))) ∧ Keeps S w w' ∧ (∀ j, S' j → S j ∨ w.heap.size ≤ j) := by
  have hsp := sumP_pos (ok_pos ho)
  exact (lputw_any D w B S m K l i c h hl hi ⟨by omega, by omega⟩ m1 m2 ⟨l0, by omega⟩).mono fun e w' ⟨h1, h2⟩ => ⟨h1, putw_strong h2 hg ho hkp hi hc m1 l0 hs⟩
end Go.Proofs.YtcijflakldggaaaGreat

/-
  Walks: the landed code of runs: Good, Total.
-/
namespace Go.Proofs.YtcijflakldggaaaGreat
set_option linter.unusedVariables false
set_option linter.unusedSimpArgs false
open Go.RowKit

set_option maxRecDepth 100000 in
set_option maxHeartbeats 1000000 in
theorem good_big (w : World) (A : Option Addr) (cap : Nat) (L : List PairV) (most : Int) (b : Bool) (h : Pairs w A L) (hl : L.length ≤ 100000) (hm : I64 most) (hbb : (goodB L && decide ((L.length : Int) ≤ most)) = b) :
    Calls Tryz.prog 123 #[.slice A L.length cap, .int .i64 most] w fun e w' => e = .returned (.bool b) ∧ Below w.heap.size w w' := by
  have HB := Lib.hid hbb
  have HI := Lib.hid h
  obtain ⟨m0, m1⟩ := hm
  clear hbb h
  by_cases hlen : (L.length : Int) ≤ most
  · have q0 : ¬ most < (L.length : Int) := by omega
    have HB2 : Hid (goodB L = b) := Lib.hid (by rw [← HB.out, decide_eq_true hlen, Bool.and_true])
    clear HB hlen
    go_enter Tryz.func123, Tryz.ntmps123
    go_wp2_with fail
    go_loopw [13] (fun j wr => ∃ k : Nat, k ≤ L.length ∧ j = .int .i64 k ∧ GoodP (L.take k) ∧ Below w.heap.size w wr) (fun j _ => L.length - (intOf j).toNat)
    case atStart => exact ⟨0, Nat.zero_le _, rfl, good_nil, Below.refl _ _⟩
    case round =>
      obtain ⟨k, hk, rfl, hg, hb2⟩ := hrel
      have hbs := hb2.size
      by_cases hlt : k < L.length
      · have kk : (k : Int) < L.length := by omega
        have hxk : L[k]? = some L[k] := List.getElem?_eq_getElem hlt
        generalize hit : L[k] = p at *
        have hst := good_step hxk hg
        obtain ⟨px, pc⟩ := p
        obtain ⟨b0, off, rfl, hbl, c0, c1⟩ := (HI.out.call hb2).at_ k _ hxk
        have hok := HI.out.ok _ (List.mem_of_getElem? hxk)
        obtain ⟨⟨o1, o2⟩, o3, o4⟩ := hok
        have HST := Lib.hid hst
        have hneg : ∀ k : Nat, ¬ GoodP (L.take k) → ¬ GoodP L := fun k h hg => h (good_take _ hg)
        have HN := Lib.hid hneg
        simp only at c0 c1 o1 o2 o3 o4 HST
        clear hxk hit hg hst hneg
        by_cases h1 : pc = 0
        · have HE : Hid (b = false) := Lib.hid (by rw [← HB2.out]; exact goodB_false.2 (HN.out (k + 1) (fun hg => by have := (HST.out.1 hg).1; omega)))
          subst h1
          go_wp2_with fail
          go_ret
          exact ⟨by rw [HE.out]; rfl, hb2.alloc hbs _⟩
        · have h1' : (pc == 0) = false := by simpa using h1
          by_cases h2 : 9223372036854775807 < pc
          · have HE : Hid (b = false) := Lib.hid (by rw [← HB2.out]; exact goodB_false.2 (HN.out (k + 1) (fun hg => by have := (HST.out.1 hg).1; omega)))
            go_wp2_with fail
            go_ret
            exact ⟨by rw [HE.out]; rfl, hb2.alloc hbs _⟩
          · by_cases h0 : k = 0
            · subst h0
              simp only [Nat.zero_mul, Nat.add_zero, Nat.zero_add] at c0 c1
              have HG : Hid (GoodP (L.take (0 + 1))) := Lib.hid (HST.out.2 ⟨⟨by omega, by omega⟩, fun h => by omega⟩)
              go_wp2_with fail
              go_quiet (fail)
              go_wp2_with fail
              go_roundw
              case rel => exact ⟨1, by omega, by go_num, HG.out, below_drewM (hb2.alloc hbs _) _⟩
              case measure => simp [intOf]; omega
            · obtain ⟨u, hu⟩ : ∃ u, k = u + 1 := ⟨k - 1, by omega⟩
              have hxu : L[u]? = some L[u] := List.getElem?_eq_getElem (by omega)
              generalize hiu : L[u] = q at *
              obtain ⟨qx, qc⟩ := q
              obtain ⟨b1, off1, ea, hbl1, d0, d1⟩ := (HI.out.call hb2).at_ u _ hxu
              obtain ⟨rfl, rfl⟩ : b0 = b1 ∧ off = off1 := by
                have := Option.some.inj ea
                exact ⟨(Addr.mk.inj this).1, (Addr.mk.inj this).2.1⟩
              simp only at d0 d1
              have u1 : IntKind.i64.wrap ((k : Int) - 1) = (u : Int) := by rw [IntKind.wrap_i64]; omega
              have u2 : (k : Int) - 1 = (u : Int) := by omega
              have u3 : (u : Int) < L.length := by omega
              have k0 : 0 < k := by omega
              have k0d : decide (0 < k) = true := decide_eq_true k0
              have HU : Hid (L[k - 1]? = some (qx, qc)) := Lib.hid (by rw [hu, Nat.add_sub_cancel]; exact hxu)
              have HK := Lib.hid hu
              have hok := HI.out.ok _ (List.mem_of_getElem? hxu)
              clear ea hxu hiu h0 hu
              by_cases h3 : qx < px
              · have HG : Hid (GoodP (L.take (k + 1))) := Lib.hid (HST.out.2 ⟨⟨by omega, by omega⟩, fun h z hz => by rw [HU.out] at hz; have := Option.some.inj hz; rw [← this]; exact h3⟩)
                have h3' : decide (px ≤ qx) = false := decide_eq_false (by omega)
                go_wp2_with fail
                go_quiet (fail)
                go_wp2_with fail
                go_roundw
                case rel => exact ⟨k + 1, by omega, by go_num, HG.out, below_drewM (hb2.alloc hbs _) _⟩
                case measure => simp [intOf]; omega
              · have HE : Hid (b = false) := Lib.hid (by rw [← HB2.out]; exact goodB_false.2 (HN.out (k + 1) (fun hg => h3 ((HST.out.1 hg).2 (by omega) _ HU.out))))
                have h3' : decide (px ≤ qx) = true := decide_eq_true (by omega)
                go_wp2_with fail
                go_quiet (fail)
                go_wp2_with fail
                go_ret
                exact ⟨by rw [HE.out]; rfl, below_drewM (hb2.alloc hbs _) _⟩
      · obtain rfl : k = L.length := by omega
        rw [List.take_length] at hg
        have HE : Hid (b = true) := Lib.hid (by rw [← HB2.out]; exact goodB_true.2 hg)
        have kk : ¬ (L.length : Int) < L.length := by omega
        clear hg
        go_wp2_with fail
        go_ret
        exact ⟨by rw [HE.out]; rfl, hb2⟩
  · have q0 : most < (L.length : Int) := by omega
    have HE : Hid (b = false) := Lib.hid (by rw [← HB.out, decide_eq_false hlen, Bool.and_false])
    clear HB hlen
    go_enter Tryz.func123, Tryz.ntmps123
    go_wp2_with fail
    go_ret
    exact ⟨by rw [HE.out]; rfl, Below.refl _ _⟩
theorem good_does : GoodDoes := fun w A cap L most b h hl hm hbb => good_big w A cap L most b h (by omega) hm hbb

theorem psum_step {L : List PairV} {k : Nat} {p : PairV} (h : L[k]? = some p) : sumP (L.take (k + 1)) = sumP (L.take k) + p.2 := by rw [take_snocP h, sumP_app, sumP_one]

set_option maxRecDepth 100000 in
set_option maxHeartbeats 1000000 in
theorem total_does : TotalDoes := by
  intro w A cap L n b h hl hn hb
  have HI := Lib.hid h
  have HN := Lib.hid hn
  have HB := Lib.hid hb
  have HS := Lib.hid (fun k => sumP_take (L := L) k (ok_pos h.ok))
  clear h hn hb
  go_enter Tryz.func124, Tryz.ntmps124
  go_wp2_with fail
  go_loopw [4, 11] (fun s j wr => ∃ (k : Nat) (m : Int), k ≤ L.length ∧ j = .int .i64 k ∧ s = .int .u64 m ∧ sumP (L.take k) = m ∧ m ≤ 9223372036854775807 ∧ Below w.heap.size w wr) (fun _ j _ => L.length - (intOf j).toNat)
  case atStart => exact ⟨0, 0, Nat.zero_le _, rfl, rfl, rfl, by decide, Below.refl _ _⟩
  case round =>
    obtain ⟨k, m, hk, rfl, rfl, hm, hm1, hb2⟩ := hrel
    have HM := Lib.hid hm
    have m0 := (HS.out k).1
    rw [hm] at m0
    have hbs := hb2.size
    clear hm
    by_cases hlt : k < L.length
    · have kk : (k : Int) < L.length := by omega
      have hxk : L[k]? = some L[k] := List.getElem?_eq_getElem hlt
      generalize hit : L[k] = p at *
      obtain ⟨px, pc⟩ := p
      obtain ⟨b0, off, rfl, hbl, c0, c1⟩ := (HI.out.call hb2).at_ k _ hxk
      have hok := HI.out.ok _ (List.mem_of_getElem? hxk)
      have hst := psum_step hxk
      simp only at c0 c1 hst
      rw [HM.out] at hst
      have s1 := (HS.out (k + 1))
      rw [hst] at s1
      have HST := Lib.hid hst
      have HPC : Hid (Word pc) := Lib.hid hok.2
      obtain ⟨o3, o4⟩ := HPC.out
      obtain ⟨q, hq⟩ : ∃ q, plus2Q m pc = q := ⟨_, rfl⟩
      obtain ⟨ok, hok2⟩ : ∃ ok, plus2B m pc = ok := ⟨_, rfl⟩
      have HQ := Lib.hid hq
      have HOK := Lib.hid hok2
      have HSM := Lib.hid s1
      clear hxk hit hok hst hq hok2 s1
      go_wp2_with fail
      refine (plus_two m pc q ok _ _ _ ⟨by omega, by omega⟩ HPC.out (by go_simp) (by go_simp) HQ.out HOK.out).mono ?_
      rintro e w' ⟨rfl, rfl⟩
      cases ok with
      | true =>
        have HQ2 : Hid (q = m + pc ∧ m + pc ≤ 9223372036854775807) := Lib.hid (by
          have h1 := HOK.out; unfold plus2B at h1
          have h2 := HQ.out; unfold plus2Q plus2B at h2; rw [h1] at h2
          exact ⟨h2.symm, of_decide_eq_true h1⟩)
        go_wp2_with fail
        go_roundw
        case rel => exact ⟨k + 1, q, by omega, by go_num, rfl, by rw [HST.out, HQ2.out.1], by rw [HQ2.out.1]; exact HQ2.out.2, (hb2.alloc hbs _).alloc (by simp; omega) _⟩
        case measure => simp [intOf]; omega
      | false =>
        have HE : Hid (b = false ∧ n = 0) := Lib.hid (by
          have h1 := HOK.out; unfold plus2B at h1
          have h2 := of_decide_eq_false h1
          have h3 := HSM.out.2
          have e : fitsB L = false := by unfold fitsB; apply decide_eq_false; omega
          exact ⟨by rw [← HB.out, e], by rw [← HN.out]; unfold totalP; rw [e]; rfl⟩)
        go_wp2_with fail
        go_ret2
        exact ⟨ret_pair HE.out.2.symm HE.out.1.symm, (hb2.alloc hbs _).alloc (by simp; omega) _⟩
    · obtain rfl : k = L.length := by omega
      rw [List.take_length] at HM
      have HE : Hid (m = n ∧ true = b) := Lib.hid (by
        have e : fitsB L = true := by unfold fitsB; apply decide_eq_true; rw [HM.out]; exact hm1
        exact ⟨by rw [← HN.out, ← HM.out]; unfold totalP; rw [e]; rfl, by rw [← HB.out, e]⟩)
      have kk : ¬ (L.length : Int) < L.length := by omega
      go_wp2_with fail
      go_ret2
      exact ⟨ret_pair HE.out.1 HE.out.2, hb2⟩
end Go.Proofs.YtcijflakldggaaaGreat

/-
  Walks: package lowcap: New, Add, fit, Load.
-/
namespace Go.Proofs.YtcijflakldggaaaGreat
set_option linter.unusedVariables false
set_option linter.unusedSimpArgs false
open Go.RowKit

/-- At block B lies a lowcap of m indexes that keeps K, of T in all. -/
def LowX (St : World → Nat → (Nat → Prop) → Int → List PairV → Prop) (w : World) (B : Nat) (S : Nat → Prop) (m : Int) (K : List PairV) (T : Int) : Prop := Lwp m K T ∧ LowRaw St w B S m K (T - sumP K)

set_option maxHeartbeats 1000000 in
theorem lnew_any {St : World → Nat → (Nat → Prop) → Int → List PairV → Prop} (D : StripDoes St) (w : World) (m : Int) (h1 : 1 ≤ m) (h2 : m ≤ 4096) :
    Calls Tryz.prog 105 #[.int .i64 m] w fun e w' => ∃ B S, e = .returned (.tuple #[.pointer (some ⟨B, 0, none⟩), .int .i64 0]) ∧ LowRaw St w' B S m [] 0 ∧ (∀ k, S k → w.heap.size ≤ k) ∧ Below w.heap.size w w' := by
  have HD := Lib.hid D
  clear D
  go_enter Tryz.func105, Tryz.ntmps105
  go_wp2_with fail
  refine (HD.out.new _ m h1 h2).mono ?_
  rintro e w1 ⟨C, S0, rfl, hst, hs0, b1⟩
  have HST := Lib.hid hst
  have HS0 := Lib.hid hs0
  have z1 := b1.size
  clear hst hs0
  go_wp2_with fail
  refine bodyPost_ret (v := .tuple #[.pointer (some ⟨w1.heap.size, 0, none⟩), .int .i64 0]) (by simp [results, Tryz.results105, go_sem]) rfl ?_
  have hb : Below w1.heap.size w1 (w1.alloc (.cells #[.int .i64 m, .pointer (some ⟨C, 0, none⟩), .int .u64 0] 173)) := (Below.refl _ _).alloc (Nat.le_refl _) _
  refine ⟨w1.heap.size, fun k => k = w1.heap.size ∨ S0 k, rfl, ⟨C, S0, heap_alloc_new _ _, HD.out.call HST.out hb, fun h => by have := HD.out.lt _ _ _ _ _ HST.out _ h; omega, fun k => Iff.rfl⟩, ?_, b1.alloc z1 _⟩
  rintro k (rfl | hk)
  · exact z1
  · exact HS0.out k hk
set_option maxHeartbeats 1000000 in
theorem lbad_any {St : World → Nat → (Nat → Prop) → Int → List PairV → Prop} (D : StripDoes St) (w : World) (m : Int) (hm : I64 m) (hb : m < 1 ∨ 4096 < m) :
    Calls Tryz.prog 105 #[.int .i64 m] w fun e w' => e = .returned (.tuple #[.pointer none, .int .i64 1]) ∧ Below w.heap.size w w' := by
  have HB := Lib.hid (D.bad w m hm hb)
  clear D hb
  go_enter Tryz.func105, Tryz.ntmps105
  go_wp2_with fail
  refine HB.out.mono ?_
  rintro e w1 ⟨rfl, b1⟩
  go_wp2_with fail
  go_ret2
  exact ⟨rfl, b1⟩

/-- How many there are in all. -/
theorem ltotal_raw {St : World → Nat → (Nat → Prop) → Int → List PairV → Prop} (D : StripDoes St) {w : World} {B : Nat} {S : Nat → Prop} {m T : Int} {K : List PairV} (h : LowX St w B S m K T) (hl : K.length ≤ 900) :
    Calls Tryz.prog 98 #[.pointer (some ⟨B, 0, none⟩)] w fun e w' => e = .returned (.int .u64 T) ∧ Below w.heap.size w w' := by
  obtain ⟨hp, C, S0, hb, hst, hn, hS⟩ := h
  obtain ⟨c0, c1, c2⟩ := three_cells hb
  have h1 := ltotal_of w _ _ (T - sumP K) (sumP K) (ownsl_at c1) (lostsl_at c2) (D.total _ _ _ _ _ hst hl) (by have := hp.sum; omega) hp.pos (by have := hp.top; omega)
  rwa [show T - sumP K + sumP K = T by omega] at h1

set_option maxRecDepth 100000 in
set_option maxHeartbeats 2000000 in
theorem ladd_any {St : World → Nat → (Nat → Prop) → Int → List PairV → Prop} (D : StripDoes St) (w : World) (B : Nat) (S : Nat → Prop) (m : Int) (K : List PairV) (T i c : Int) (h : LowX St w B S m K T) (hl : K.length ≤ 700) (hi : I64 i) (hc : Word c) :
    Calls Tryz.prog 169 #[.pointer (some ⟨B, 0, none⟩), .int .i64 i, .int .u64 c] w fun e w' => ∃ S', e = .returned (.int .i64 (lwErr T c)) ∧ LowX St w' B S' m (lwRow m K T i c) (lwSum T c) ∧ Keeps S w w' ∧ (∀ k, S' k → S k ∨ w.heap.size ≤ k) := by
  have HT := Lib.hid (ltotal_raw D h (by omega))
  have HX := Lib.hid h
  have HD := Lib.hid D
  have HI := Lib.hid hi
  have hp := h.1
  have HP := Lib.hid hp
  have t1 := hp.top
  have t0 : 0 ≤ T := by have := hp.pos; have := hp.sum; omega
  obtain ⟨i0, i1⟩ := hi
  obtain ⟨w0, w1⟩ := hc
  have hcases := lwErr_cases (T := T) (c := c) ⟨w0, w1⟩
  have HSAME : Hid (∀ w', Below w.heap.size w w' → lwErr T c ≠ 0 → LowX St w' B S m (lwRow m K T i c) (lwSum T c)) := Lib.hid (fun w' hb he => by
    unfold lwRow lwSum
    rw [if_neg he, if_neg he]
    exact ⟨HP.out, raw_call HD.out HX.out.2 hb⟩)
  clear D h hp
  rcases hcases with ⟨rfl, e⟩ | ⟨hc0, hfull, e⟩ | ⟨hc0, hfit, e⟩
  · have E := Lib.hid e
    clear e
    go_enter Tryz.func169, Tryz.ntmps169
    go_wp2_with fail
    go_ret
    exact ⟨S, ret_int E.out.symm, HSAME.out _ (Below.refl _ _) (by rw [E.out]; decide), Keeps.refl _ _, fun k hk => Or.inl hk⟩
  · have E := Lib.hid e
    have c00 : (c == 0) = false := by simp; omega
    obtain ⟨pb, pq⟩ := plus2_no (x := T) (y := c) (by omega)
    have PB := Lib.hid pb
    have PQ := Lib.hid pq
    clear e pb pq
    go_enter Tryz.func169, Tryz.ntmps169
    go_wp2_with fail
    refine HT.out.mono ?_
    rintro e w2 ⟨rfl, b2⟩
    go_wp2_with fail
    refine (plus_two T c 0 false _ _ _ ⟨by omega, by omega⟩ ⟨by omega, by omega⟩ (two_words w2 _ _ _).1 (two_words w2 _ _ _).2 PQ.out PB.out).mono ?_
    rintro e w3 ⟨rfl, rfl⟩
    go_wp2_with fail
    go_ret
    have hb := b2.alloc b2.size (.cells #[.int .u64 T, .int .u64 c] 22)
    exact ⟨S, ret_int E.out.symm, HSAME.out _ hb (by rw [E.out]; decide), Keeps.of_below hb, fun k hk => Or.inl hk⟩
  · have E := Lib.hid e
    have c00 : (c == 0) = false := by simp; omega
    obtain ⟨pb, pq⟩ := plus2_yes (x := T) (y := c) (by omega)
    have PB := Lib.hid pb
    have PQ := Lib.hid pq
    have HPUT : Hid (∀ w', Below w.heap.size w w' → Calls Tryz.prog 101 #[.pointer (some ⟨B, 0, none⟩), .int .i64 i, .int .u64 c] w' fun e w'' => e = .returned (.tuple #[]) ∧ ∃ S', LowRaw St w'' B S' m (keepP m (addP K i c)) (T + c - sumP (keepP m (addP K i c))) ∧ Keeps S w' w'' ∧ (∀ j, S' j → S j ∨ w'.heap.size ≤ j)) := Lib.hid (fun w' hb => by
      have hp := HP.out
      have h1 := lput_any HD.out w' B S m K (T - sumP K) i c (raw_call HD.out HX.out.2 hb) hp.good hp.ok hp.kept (by omega) ⟨i0, i1⟩ hc0 hp.m1 hp.m2 (by have := hp.sum; omega) (by omega)
      rwa [show T - sumP K + sumP K + c = T + c by omega] at h1)
    clear e pb pq
    go_enter Tryz.func169, Tryz.ntmps169
    go_wp2_with fail
    refine HT.out.mono ?_
    rintro e w2 ⟨rfl, b2⟩
    go_wp2_with fail
    refine (plus_two T c (T + c) true _ _ _ ⟨by omega, by omega⟩ ⟨by omega, by omega⟩ (two_words w2 _ _ _).1 (two_words w2 _ _ _).2 PQ.out PB.out).mono ?_
    rintro e w3 ⟨rfl, rfl⟩
    have hb := b2.alloc b2.size (.cells #[.int .u64 T, .int .u64 c] 22)
    go_wp2_with fail
    refine (HPUT.out _ hb).mono ?_
    rintro e w4 ⟨rfl, S4, hr4, k4, hs4⟩
    have HR4 := Lib.hid hr4
    have HB := Lib.hid hb
    clear hr4 hb
    go_wp2_with fail
    go_ret
    refine ⟨S4, ret_int E.out.symm, ?_, (Keeps.of_below HB.out).trans k4 (fun j hj => Or.inl hj), fun j hj => ?_⟩
    · unfold lwRow lwSum
      rw [if_pos E.out, if_pos E.out]
      exact ⟨HP.out.add HI.out hc0 (by omega), HR4.out⟩
    · rcases hs4 j hj with h | h
      · exact Or.inl h
      · have := HB.out.size; exact Or.inr (by omega)

set_option maxRecDepth 100000 in
set_option maxHeartbeats 2000000 in
theorem lfit_any (w : World) (m : Int) (A : Option Addr) (cap : Nat) (L : List PairV) (l : Int) (b : Bool) (h : Pairs w A L) (hl : L.length ≤ 900) (hw : Word l) (m1 : 1 ≤ m) (m2 : m ≤ 4096) (hb : loadB m L l = b) :
    Calls Tryz.prog 106 #[.int .i64 m, .slice A L.length cap, .int .u64 l] w fun e w' => e = .returned (.bool b) ∧ Below w.heap.size w w' := by
  have HP := Lib.hid h
  have HL := Lib.hid hl
  obtain ⟨l0, l1⟩ := hw
  obtain ⟨g, hg⟩ : ∃ g, (goodB L && decide ((L.length : Int) ≤ m)) = g := ⟨_, rfl⟩
  have HG := Lib.hid (good_does w A cap L m g h (by omega) ⟨by omega, by omega⟩ hg)
  unfold loadB at hb
  rw [hg] at hb
  cases g with
  | false =>
    simp only [Bool.false_and] at hb
    subst hb
    clear h hg
    go_enter Tryz.func106, Tryz.ntmps106
    go_wp2_with fail
    refine HG.out.mono ?_
    rintro e w2 ⟨rfl, b2⟩
    go_wp2_with fail
    go_ret
    exact ⟨rfl, b2⟩
  | true =>
    have hgood : GoodP L := goodB_true.1 (Bool.and_eq_true_iff.1 hg).1
    simp only [Bool.true_and] at hb
    by_cases hL : L = []
    · have hb2 : (l == 0) = b := by
        rw [← hb, hL]
        simp
        rw [show sumP [] = 0 from rfl]
        by_cases hz : l = 0 <;> simp [hz]
      subst hL
      clear hb h hg
      go_enter Tryz.func106, Tryz.ntmps106
      go_wp2_with fail
      refine HG.out.mono ?_
      rintro e w2 ⟨rfl, b2⟩
      go_wp2_with fail
      go_ret
      exact ⟨by rw [← hb2]; rfl, b2⟩
    · have hpos : 0 < L.length := by cases L with
        | nil => exact absurd rfl hL
        | cons p r => simp
      have hb2 : (decide (sumP L + l ≤ 9223372036854775807) && decide (endP L - (firP L).1 < m)) = b := by
        rw [← hb]; simp [hL]
      obtain ⟨px, pc, hx0⟩ : ∃ px pc, L[0]? = some (px, pc) := ⟨L[0].1, L[0].2, List.getElem?_eq_getElem hpos⟩
      obtain ⟨qx, qc, hx1⟩ : ∃ qx qc, L[L.length - 1]? = some (qx, qc) := ⟨L[L.length - 1].1, L[L.length - 1].2, List.getElem?_eq_getElem (by omega)⟩
      have h1 : (firP L).1 = px := by unfold firP; rw [List.head?_eq_getElem?, hx0]; rfl
      have h2 : endP L = qx := by unfold endP lasP; rw [List.getLast?_eq_getElem?, hx1]; rfl
      have hle : px ≤ qx := by
        rw [← h1, ← h2]
        obtain ⟨p, hp, e⟩ := end_mem hL
        rw [← e]; exact good_fir_end hgood p hp
      have hsp := sumP_pos (ok_pos h.ok)
      rw [h1, h2] at hb2
      obtain ⟨nn, hnn⟩ : ∃ nn, L.length - 1 = nn := ⟨_, rfl⟩
      rw [hnn] at hx1
      obtain ⟨ga, off, rfl, hbl, d0, _⟩ := h.at_ 0 _ hx0
      obtain ⟨ga', off', e', _, g0, _⟩ := h.at_ nn _ hx1
      obtain ⟨rfl, rfl, _⟩ := Addr.mk.inj (Option.some.inj e')
      simp only [Nat.zero_mul, Nat.add_zero] at d0
      simp only at g0
      have ok0 := (h.ok _ (List.mem_of_getElem? hx0)).1
      have ok1 := (h.ok _ (List.mem_of_getElem? hx1)).1
      simp only at ok0 ok1
      have hgap : gap px qx = qx - px := by unfold gap; split <;> omega
      have HGAP := Lib.hid (lgap_any px qx ok0 ok1)
      rw [hgap] at HGAP
      obtain ⟨s, hs⟩ : ∃ s, sumP L = s := ⟨_, rfl⟩
      rw [hs] at hb2 hsp
      have HTOT : Hid (∀ w', Below w.heap.size w w' → Calls Tryz.prog 124 #[.slice (some ⟨ga, off, none⟩) L.length cap] w' fun e w'' => e = .returned (.tuple #[.int .u64 (totalP L), .bool (fitsB L)]) ∧ Below w'.heap.size w' w'') := Lib.hid (fun w' hb' => total_does w' _ cap L _ _ (HP.out.call hb') (by have := HL.out; omega) rfl rfl)
      have hfb : fitsB L = decide (s ≤ 9223372036854775807) := by unfold fitsB; rw [hs]
      have htp : totalP L = if s ≤ 9223372036854775807 then s else 0 := by unfold totalP; rw [hfb, hs]; by_cases h : s ≤ 9223372036854775807 <;> simp [h]
      obtain ⟨N, hN⟩ : ∃ N, L.length = N := ⟨_, rfl⟩
      rw [hN] at HG HTOT hpos hnn hl ⊢
      have kN : (0 : Int) < (N : Int) := by omega
      have k0 : ((N : Int) == 0) = false := by simp; omega
      have u1 : IntKind.i64.wrap ((N : Int) - 1) = (nn : Int) := by rw [IntKind.wrap_i64]; omega
      have u2 : (N : Int) - 1 = (nn : Int) := by omega
      have u3 : (nn : Int) < (N : Int) := by omega
      have u4 : (0 : Int) ≤ (nn : Int) := by omega
      have u5 : IntKind.i64.wrap (nn : Int) = (nn : Int) := by rw [IntKind.wrap_i64]; omega
      have e1 : IntKind.u64.wrap m = m := by rw [IntKind.wrap_u64]; omega
      obtain ⟨p0, p1⟩ := ok0
      obtain ⟨q0, q1⟩ := ok1
      by_cases hf : s ≤ 9223372036854775807
      · rw [hfb, htp, if_pos hf, decide_eq_true hf] at HTOT
        by_cases hf2 : s + l ≤ 9223372036854775807
        · rw [decide_eq_true hf2, Bool.true_and] at hb2
          obtain ⟨pb, pq⟩ := plus2_yes (x := s) (y := l) hf2
          have PB := Lib.hid pb
          have PQ := Lib.hid pq
          clear h hg hgood hb hL hx0 hx1 h1 h2 hgap hs hfb htp hnn pb pq e' hl hpos hbl hN
          go_enter Tryz.func106, Tryz.ntmps106
          go_wp2_with fail
          refine HG.out.mono ?_
          rintro e w2 ⟨rfl, b2⟩
          go_wp2_with fail
          refine (HTOT.out _ b2).mono ?_
          rintro e w3 ⟨rfl, b3⟩
          go_wp2_with fail
          refine (plus_two s l (s + l) true _ _ _ ⟨by omega, by omega⟩ ⟨by omega, by omega⟩ (two_words w3 _ _ _).1 (two_words w3 _ _ _).2 PQ.out PB.out).mono ?_
          rintro e w4 ⟨rfl, rfl⟩
          have b4 := (b2.trans (b3.mono b2.size)).alloc (Nat.le_trans b2.size b3.size) (.cells #[.int .u64 s, .int .u64 l] 22)
          have d4 := cell_later b4 d0
          have g4 := cell_later b4 g0
          go_wp2_with fail
          go_quiet ((go_at_call 125; exact Calls.quiet_of_same ((HGAP.out _).mono fun e w' ⟨h1, h2⟩ => ⟨h1, h2.symm⟩)))
          go_wp2_with fail
          go_ret
          exact ⟨by rw [← hb2]; rfl, below_drewN b4 _⟩
        · have hb3 : b = false := by rw [← hb2, decide_eq_false hf2]; rfl
          subst hb3
          obtain ⟨pb, pq⟩ := plus2_no (x := s) (y := l) (by omega)
          have PB := Lib.hid pb
          have PQ := Lib.hid pq
          clear h hg hgood hb hL hx0 hx1 h1 h2 hgap hs hfb htp hnn pb pq e' hl hpos hbl hN hb2
          go_enter Tryz.func106, Tryz.ntmps106
          go_wp2_with fail
          refine HG.out.mono ?_
          rintro e w2 ⟨rfl, b2⟩
          go_wp2_with fail
          refine (HTOT.out _ b2).mono ?_
          rintro e w3 ⟨rfl, b3⟩
          go_wp2_with fail
          refine (plus_two s l 0 false _ _ _ ⟨by omega, by omega⟩ ⟨by omega, by omega⟩ (two_words w3 _ _ _).1 (two_words w3 _ _ _).2 PQ.out PB.out).mono ?_
          rintro e w4 ⟨rfl, rfl⟩
          have b4 := (b2.trans (b3.mono b2.size)).alloc (Nat.le_trans b2.size b3.size) (.cells #[.int .u64 s, .int .u64 l] 22)
          go_wp2_with fail
          go_quiet (fail)
          go_wp2_with fail
          go_ret
          exact ⟨rfl, below_drewN b4 _⟩
      · rw [hfb, htp, if_neg hf, decide_eq_false hf] at HTOT
        have hb3 : b = false := by
          rw [← hb2]
          rw [decide_eq_false (show ¬ s + l ≤ 9223372036854775807 by omega)]; rfl
        subst hb3
        clear h hg hgood hb hL hx0 hx1 h1 h2 hgap hs hfb htp hnn e' hl hpos hbl hN hb2
        go_enter Tryz.func106, Tryz.ntmps106
        go_wp2_with fail
        refine HG.out.mono ?_
        rintro e w2 ⟨rfl, b2⟩
        go_wp2_with fail
        refine (HTOT.out _ b2).mono ?_
        rintro e w3 ⟨rfl, b3⟩
        go_wp2_with fail
        go_ret
        exact ⟨rfl, b2.trans (b3.mono b2.size)⟩

/-- A row that is loaded pair by pair. -/
theorem take_kept {m : Int} {L : List PairV} {k : Nat} (hm : 0 < m) (hg : GoodP L) (hs : L ≠ [] → endP L - (firP L).1 < m) : keepP m (L.take k) = L.take k := by
  unfold keepP highP
  refine List.filter_eq_self.2 fun p hp => ?_
  have hL : L ≠ [] := by rintro rfl; rw [List.take_nil] at hp; cases hp
  have h1 := good_fir_end hg p (List.mem_of_mem_take hp)
  have hne : L.take k ≠ [] := by intro h; rw [h] at hp; cases hp
  obtain ⟨q, hq, e⟩ := end_mem hne
  have h2 := end_ge hg q (List.mem_of_mem_take hq)
  have := hs hL
  simp; omega
theorem load_step {m : Int} {L : List PairV} {k : Nat} {p : PairV} (hm : 0 < m) (hg : GoodP L) (hs : L ≠ [] → endP L - (firP L).1 < m) (hk : L[k]? = some p) : keepP m (addP (L.take k) p.1 p.2) = L.take (k + 1) := by
  have hg1 := good_take (k + 1) hg
  have hlt : ∀ q, q ∈ L.take k → q.1 < p.1 := fun q hq => by
    rw [take_snocP hk] at hg1
    exact (good_app hg1).2.2 q hq p (by simp)
  have hc : countP (L.take k) p.1 = 0 := by
    unfold countP
    rw [List.filter_eq_nil_iff.2 (fun q hq => by have := hlt q hq; simp; omega)]; rfl
  have hp := hg.1 p (List.mem_of_getElem? hk)
  have e : addP (L.take k) p.1 p.2 = L.take (k + 1) := by
    refine good_ext (add_good (good_take k hg) (by omega)) hg1 fun j => ?_
    rw [count_add (by omega), take_snocP hk, countP_app, countP_one]
    by_cases e : j = p.1
    · rw [if_pos e, if_pos e.symm]
    · rw [if_neg e, if_neg (fun h => e h.symm)]
  rw [e]
  exact take_kept hm hg hs

set_option maxRecDepth 100000 in
set_option maxHeartbeats 2000000 in
theorem lunfit_any {St : World → Nat → (Nat → Prop) → Int → List PairV → Prop} (D : StripDoes St) (w : World) (m : Int) (A : Option Addr) (cap : Nat) (L : List PairV) (l : Int) (m1 : 1 ≤ m) (m2 : m ≤ 4096) (h : Pairs w A L) (hl : L.length ≤ 300) (hw : Word l) (hb : loadB m L l = false) :
    Calls Tryz.prog 92 #[.int .i64 m, .slice A L.length cap, .int .u64 l] w fun e w' => e = .returned (.tuple #[.pointer none, .int .i64 1]) ∧ Below w.heap.size w w' := by
  have HN := Lib.hid (lnew_any D w m m1 m2)
  have HF : Hid (∀ w', Below w.heap.size w w' → Calls Tryz.prog 106 #[.int .i64 m, .slice A L.length cap, .int .u64 l] w' fun e w'' => e = .returned (.bool false) ∧ Below w'.heap.size w' w'') := Lib.hid (fun w' hb' => lfit_any w' m A cap L l false (h.call hb') (by omega) hw m1 m2 hb)
  clear D h hb
  go_enter Tryz.func92, Tryz.ntmps92
  go_wp2_with fail
  refine HN.out.mono ?_
  rintro e w1 ⟨B, S, rfl, hr1, hs1, b1⟩
  have z1 := b1.size
  have HR := Lib.hid hr1
  have HS := Lib.hid hs1
  clear hr1 hs1
  go_wp2_with fail
  refine (HF.out _ b1).mono ?_
  rintro e w2 ⟨rfl, b2⟩
  go_wp2_with fail
  go_ret2
  exact ⟨rfl, b1.trans (b2.mono z1)⟩

set_option maxRecDepth 100000 in
set_option maxHeartbeats 2000000 in
theorem lload_any {St : World → Nat → (Nat → Prop) → Int → List PairV → Prop} (D : StripDoes St) (w : World) (m : Int) (A : Option Addr) (cap : Nat) (L : List PairV) (l : Int) (m1 : 1 ≤ m) (m2 : m ≤ 4096) (h : Pairs w A L) (hl : L.length ≤ 300) (hw : Word l) (hb : loadB m L l = true) :
    Calls Tryz.prog 92 #[.int .i64 m, .slice A L.length cap, .int .u64 l] w fun e w' => ∃ B S, e = .returned (.tuple #[.pointer (some ⟨B, 0, none⟩), .int .i64 0]) ∧ LowRaw St w' B S m L l ∧ (∀ k, S k → w.heap.size ≤ k) ∧ Below w.heap.size w w' := by
  have HN := Lib.hid (lnew_any D w m m1 m2)
  have HF : Hid (∀ w', Below w.heap.size w w' → Calls Tryz.prog 106 #[.int .i64 m, .slice A L.length cap, .int .u64 l] w' fun e w'' => e = .returned (.bool true) ∧ Below w'.heap.size w' w'') := Lib.hid (fun w' hb' => lfit_any w' m A cap L l true (h.call hb') (by omega) hw m1 m2 hb)
  obtain ⟨hg, _, _, hsum, hnear⟩ := load_true hb
  have HD := Lib.hid D
  have HP := Lib.hid h
  have HG := Lib.hid hg
  have HNE := Lib.hid hnear
  have HL := Lib.hid hl
  have HSM := Lib.hid hsum
  have HSP := Lib.hid (fun k => sumP_take (L := L) k (ok_pos h.ok))
  obtain ⟨l0, l1⟩ := hw
  clear D h hb hg hnear hl hsum
  go_enter Tryz.func92, Tryz.ntmps92
  go_wp2_with fail
  refine HN.out.mono ?_
  rintro e w1 ⟨B, S, rfl, hr1, hs1, b1⟩
  have z1 := b1.size
  have HR := Lib.hid hr1
  have HS := Lib.hid hs1
  clear hr1 hs1
  go_wp2_with fail
  refine (HF.out _ b1).mono ?_
  rintro e w2 ⟨rfl, b2⟩
  have hbb := b1.trans (b2.mono z1)
  have HR2 := Lib.hid (raw_call HD.out HR.out b2)
  clear b1 b2
  go_wp2_with fail
  go_loopw [28] (fun j wr => ∃ (k : Nat) (S' : Nat → Prop), k ≤ L.length ∧ j = .int .i64 k ∧ LowRaw St wr B S' m (L.take k) 0 ∧ (∀ x, S' x → w.heap.size ≤ x) ∧ Below w.heap.size w wr) (fun j _ => L.length - (intOf j).toNat)
  case atStart => exact ⟨0, S, Nat.zero_le _, rfl, HR2.out, HS.out, hbb⟩
  case round =>
    clear hbb HR2 HR HS
    obtain ⟨k, S', hk, rfl, hr, hs, hb2⟩ := hrel
    have hbs := hb2.size
    have HR := Lib.hid hr
    have HS := Lib.hid hs
    clear hr hs
    by_cases hlt : k < L.length
    · have kk : (k : Int) < L.length := by omega
      have hxk : L[k]? = some L[k] := List.getElem?_eq_getElem hlt
      generalize hit : L[k] = x at *
      obtain ⟨xi, xc⟩ := x
      obtain ⟨b1, off, rfl, hbl, c0, c1⟩ := (HP.out.call hb2).at_ k _ hxk
      simp only at c0 c1
      have hok := HP.out.ok _ (List.mem_of_getElem? hxk)
      have hgd := HG.out.1 _ (List.mem_of_getElem? hxk)
      have HST := Lib.hid (load_step (by omega) HG.out HNE.out hxk)
      have HSS := Lib.hid (psum_step hxk)
      have HOK := Lib.hid hok
      obtain ⟨⟨o1, o2⟩, o3, o4⟩ := hok
      simp only at o1 o2 o3 o4 hgd
      have hb3 : Below w.heap.size w (wr.alloc (.cells #[.int .i64 xi, .int .u64 xc] 114)) := hb2.alloc hbs _
      have HPUT := Lib.hid (lput_any HD.out _ B S' m (L.take k) 0 xi xc (raw_call HD.out HR.out ((Below.refl _ _).alloc (Nat.le_refl _) (.cells #[.int .i64 xi, .int .u64 xc] 114))) (good_take k HG.out) (fun p hp => HP.out.ok p (List.mem_of_mem_take hp)) (take_kept (by omega) HG.out HNE.out)
        (by rw [List.length_take]; have := HL.out; omega) HOK.out.1 (by omega) m1 m2 (Int.le_refl _) (by have h1 : sumP (L.take (k + 1)) = sumP (L.take k) + xc := HSS.out; have h2 := HSP.out (k + 1); have h3 := HSM.out; omega))
      rw [show keepP m (addP (L.take k) xi xc) = L.take (k + 1) from HST.out] at HPUT
      clear hxk hit
      go_wp2_with fail
      refine HPUT.out.mono ?_
      rintro e w4 ⟨rfl, S4, hr4, k4, hs4⟩
      have hb4 := k4.below hb3 hb3.size HS.out
      have HR4 : Hid (LowRaw St w4 B S4 m (L.take (k + 1)) 0) := Lib.hid (by
        have h1 : sumP (L.take (k + 1)) = sumP (L.take k) + xc := HSS.out
        rwa [show (0 : Int) + sumP (L.take k) + xc - sumP (L.take (k + 1)) = 0 by omega] at hr4)
      have HS4 : Hid (∀ x, S4 x → w.heap.size ≤ x) := Lib.hid (fun x hx => by
        rcases hs4 x hx with h | h
        · exact HS.out x h
        · have := hb3.size; omega)
      clear hr4 k4 hs4 hb3
      go_wp2_with fail
      go_roundw
      case rel => exact ⟨k + 1, S4, by omega, by go_num, HR4.out, HS4.out, hb4⟩
      case measure => simp [intOf]; omega
    · obtain rfl : k = L.length := by omega
      have kk : ¬ (L.length : Int) < L.length := by omega
      rw [List.take_length] at HR
      obtain ⟨C, S0, hb, _⟩ := id HR.out
      obtain ⟨c0, c1, c2⟩ := three_cells hb
      have f2 := free8 hb 2
      clear hb
      go_wp2_with fail
      refine bodyPost_ret (v := .tuple #[.pointer (some ⟨B, 0, none⟩), .int .i64 0]) (by simp [results, Tryz.results92, go_sem]) rfl ?_
      exact ⟨B, rfl, S', raw_lost HD.out HR.out l, HS.out, hb2.setCell (p := ⟨B, 2, none⟩) (HS.out B (raw_B HR.out)) _⟩
end Go.Proofs.YtcijflakldggaaaGreat

/-
  Walk: slices.Backward of a row of pairs: it goes over the row from its end to its beginning.
-/
namespace Go.Proofs.YtcijflakldggaaaGreat
set_option linter.unusedVariables false
set_option linter.unusedSimpArgs false
open Go.RowKit Go.Shelf
attribute [local go_sem] Oper.semAt_some

/-- An index and its pair, as they are handed to a loop. -/
def encBk (L : List PairV) (k : Fin L.length) : Array Value := #[.int .i64 (k.1 : Int), .agg #[.int .i64 (L[k.1]).1, .int .u64 (L[k.1]).2]]
/-- All indexes, the last one first. -/
def bkL (L : List PairV) : List (Fin L.length) := (List.finRange L.length).reverse
theorem bkL_len (L : List PairV) : (bkL L).length = L.length := by unfold bkL; simp
theorem bkL_at (L : List PairV) (k q : Nat) (h : q < L.length) (hq : q + k + 1 = L.length) : (bkL L)[k]? = some ⟨q, h⟩ := by
  unfold bkL
  rw [List.getElem?_reverse (by simp; omega), List.getElem?_eq_getElem (by simp; omega)]
  simp
  omega
/-- These blocks are as they were. -/
def KeepB (U : Nat → Prop) (W W' : World) : Prop := ∀ k, U k → W'.heap[k]? = W.heap[k]?
theorem keepB_t {U : Nat → Prop} {A B C : World} (h : KeepB U A B) (k : KeepB U B C) : KeepB U A C := fun i hi => (k i hi).trans (h i hi)
theorem keepB_b {U : Nat → Prop} {n : Nat} (hU : ∀ k, U k → k < n) (W : World) (l : Nat) (o o' : Obj) (hl : n ≤ l) (_ : W.heap[l]? = some o) (_ : o.isCells = false) (_ : o.isWalk = false) : KeepB U W (W.putObj l o') :=
  fun k hk => World.putObj_heap_other (by have := hU k hk; omega)

set_option maxRecDepth 1000000 in
set_option maxHeartbeats 1000000 in
theorem back_in {L : List PairV} (n : Nat) (hn : 1 ≤ n) (l Bx : Nat) (A : Option Addr) (cap : Nat) (U : Nat → Prop) (w : World) (hUb : U Bx) (hUg : ∀ g off, A = some ⟨g, off, none⟩ → U g) (hP : Pairs w A L) (hl : L.length ≤ 100000) (hbx : w.cell? ⟨Bx, 0, none⟩ = some (.slice A L.length cap))
    (J Jx : List (Fin L.length) → World → Prop)
    (hY : ∀ pre x W1, J pre W1 → pre.length < L.length → YieldAt Fence.wide (n - 1) Tryz.prog l (encBk L x) W1 fun e W' =>
      (e = .returned (.bool true) ∧ J (pre ++ [x]) W' ∧ KeepB U W1 W') ∨ (e = .returned (.bool false) ∧ Jx (pre ++ [x]) W'))
    (W : World) (hk : KeepB U w W) (h0 : J [] W) :
    CallsIn Fence.wide n Tryz.prog 113 #[.func (.yield l) #[] #[], .pointer (some ⟨Bx, 0, none⟩)] W fun e W' => (∃ v, e = .returned v) ∧
      ((∃ ys, ys = bkL L ∧ J ys W') ∨ (∃ pre, True ∧ Jx pre W')) := by
  have HBX : Hid (∀ W', KeepB U w W' → W'.cell? ⟨Bx, 0, none⟩ = some (.slice A L.length cap)) := Lib.hid (fun W' h => (World.cell?_of_block (a := ⟨Bx, 0, none⟩) (h Bx hUb)).trans hbx)
  have HC : Hid (∀ W' k p, KeepB U w W' → L[k]? = some p → ∃ g off, A = some ⟨g, off, none⟩ ∧ W'.cell? ⟨g, off + k * 2, none⟩ = some (.int .i64 p.1) ∧ W'.cell? ⟨g, off + k * 2 + 1, none⟩ = some (.int .u64 p.2)) := Lib.hid (fun W' k p h hp => by
    obtain ⟨g, off, hA, _, c0, c1⟩ := hP.at_ k p hp
    have hg := h g (hUg g off hA)
    exact ⟨g, off, hA, (World.cell?_of_block (a := ⟨g, off + k * 2, none⟩) hg).trans c0, (World.cell?_of_block (a := ⟨g, off + k * 2 + 1, none⟩) hg).trans c1⟩)
  have HY := Lib.hid hY
  have HK := Lib.hid hk
  have HJ0 : Hid (J ((bkL L).take 0) W) := Lib.hid h0
  have HLEN := Lib.hid (bkL_len L)
  have HAT := Lib.hid (bkL_at L)
  have b0 := HBX.out W hk
  obtain ⟨N, hN⟩ : ∃ N, L.length = N := ⟨_, rfl⟩
  have HN := Lib.hid hN
  rw [hN] at b0 hl
  have u1 : IntKind.i64.wrap ((N : Int) - 1) = (N : Int) - 1 := by rw [IntKind.wrap_i64]; omega
  clear hY hk h0 hP hbx hUb hUg hN
  refine callsIn_of_wp Tryz.func113 rfl trivial ?_ rfl
  simp only [Tryz.ntmps113, List.size_toArray, List.length_cons, List.length_nil, Nat.reduceAdd, Nat.reduceSub, Array.replicate_succ, Array.replicate_zero, List.push_toArray, List.append_toArray, List.nil_append, List.cons_append]
  gi_wp2
  gi_loopw [3] (fun j wr => ∃ k : Nat, k ≤ N ∧ j = .int .i64 ((N : Int) - 1 - k) ∧ J ((bkL L).take k) wr ∧ KeepB U w wr) (fun j _ => (intOf j + 1).toNat)
  case atStart => exact ⟨0, Nat.zero_le _, by simp, HJ0.out, HK.out⟩
  case round =>
    clear HJ0 HK b0 u1
    obtain ⟨k, hk, rfl, hJ1, hk1⟩ := hrel
    have HJ1 := Lib.hid hJ1
    have HK1 := Lib.hid hk1
    clear hJ1 hk1
    by_cases hlt : k < N
    · obtain ⟨q, hq⟩ : ∃ q : Nat, q + k + 1 = N := ⟨N - k - 1, by omega⟩
      have hql : q < L.length := by have := HN.out; omega
      have hxq : L[q]? = some L[q] := List.getElem?_eq_getElem hql
      have HNX := Lib.hid (take_snocP (HAT.out k q hql (by have := HN.out; omega)))
      have hjq : (N : Int) - 1 - k = (q : Int) := by omega
      rw [hjq]
      have hYY := HY.out ((bkL L).take k) ⟨q, hql⟩ wr HJ1.out (by rw [List.length_take, HLEN.out]; have := HN.out; omega)
      rw [← HNX.out] at hYY
      have he : encBk L ⟨q, hql⟩ = #[.int .i64 (q : Int), .agg #[.int .i64 (L[q]).1, .int .u64 (L[q]).2]] := rfl
      rw [he] at hYY
      obtain ⟨g, off, rfl, c0, c1⟩ := HC.out wr q _ HK1.out hxq
      have b1 := HBX.out wr HK1.out
      rw [HN.out] at b1
      have HYY := Lib.hid hYY
      have q1 : (q : Int) < (N : Int) := by omega
      have q2 : (0 : Int) ≤ (q : Int) := by omega
      have q3 : IntKind.i64.wrap ((q : Int) - 1) = (q : Int) - 1 := by rw [IntKind.wrap_i64]; omega
      have HQQ : Hid ((q : Int) - 1 = (N : Int) - 1 - ((k + 1 : Nat) : Int)) := Lib.hid (by omega)
      generalize hpx : (L[q]).1 = px at *
      generalize hpc : (L[q]).2 = pc at *
      clear hYY he hxq hpx hpc hq hjq
      obtain ⟨fn, tmps, assign, body, hy, hR⟩ := HYY.out
      gi_wp2
      refine hR.mono ?_
      rintro e W3 (⟨rfl, hJ3, hk3⟩ | ⟨rfl, hJx3⟩)
      · have HJ3 := Lib.hid hJ3
        have HK3 := Lib.hid (keepB_t HK1.out hk3)
        clear hJ3 hk3
        gi_wp2
        go_roundw
        case rel => exact ⟨k + 1, by omega, by rw [← HQQ.out], HJ3.out, HK3.out⟩
        case measure => (simp [intOf]; try omega)
      · gi_wp2
        refine bodyPost_ret (results_none rfl _ _ _) rfl ?_
        exact ⟨⟨_, rfl⟩, .inr ⟨_, trivial, hJx3⟩⟩
    · obtain rfl : k = N := by omega
      have HJL : Hid (J (bkL L) wr) := Lib.hid (by
        have := HJ1.out
        rwa [List.take_of_length_le (Nat.le_of_eq (by rw [HLEN.out, HN.out]))] at this)
      have q1 : (k : Int) - 1 - (k : Int) = -1 := by omega
      rw [q1]
      gi_wp2
      go_end0
      exact ⟨⟨_, rfl⟩, .inl ⟨_, rfl, HJL.out⟩⟩

set_option maxHeartbeats 400000 in
theorem call_back (A : Option Addr) (n cap : Nat) (w : World) :
    Calls Tryz.prog 99 #[.slice A n cap] w fun e w' => e = .returned (.func (.func 113) #[] #[.pointer (some ⟨w.heap.size, 0, none⟩)]) ∧ w' = w.alloc (.cells #[.slice A n cap] 72) := by
  go_enter Tryz.func99, Tryz.ntmps99
  go_wp2_with fail
  go_ret
  exact ⟨rfl, rfl⟩
theorem enters_back : ∀ args w, (callFunc 113 args).run Tryz.prog w = .ok (.enter 113 args) w :=
  enters_of Tryz.func113 (by kernel_rfl) rfl
/-- The blocks that it reads. -/
def backU (w : World) (A : Option Addr) (k : Nat) : Prop := k = w.heap.size ∨ ∃ off, A = some ⟨k, off, none⟩
theorem back_stops (n : Nat) (hn : 1 ≤ n) (w : World) (A : Option Addr) (cap : Nat) (L : List PairV) (hP : Pairs w A L) (hl : L.length ≤ 100000) (hA : ∀ g off, A = some ⟨g, off, none⟩ → g < w.heap.size) :
    SeqStopsK Fence.wide n Tryz.prog 113 #[.pointer (some ⟨w.heap.size, 0, none⟩)] (encBk L) (KeepB (backU w A)) (fun ys => ys = bkL L) (fun _ => True) L.length (w.alloc (.cells #[.slice A L.length cap] 72)) := by
  intro l J Jx W hW _ _ hY h0
  have hb : Below w.heap.size w (w.alloc (.cells #[.slice A L.length cap] 72)) := (Below.refl _ _).alloc (Nat.le_refl _) _
  refine back_in n hn l w.heap.size A cap (backU w A) (w.alloc (.cells #[.slice A L.length cap] 72)) (Or.inl rfl) (fun g off h => Or.inr ⟨off, h⟩) (hP.call hb) hl ?_ J Jx hY W (fun k hk => hW.block k ?_) h0
  · have h : (w.alloc (.cells #[.slice A L.length cap] 72)).heap[w.heap.size]? = some (.cells #[.slice A L.length cap] 72 (0, 0)) := heap_alloc_new _ _
    rw [Joins.cell_of_block h]; rfl
  · rw [World.size_alloc]
    rcases hk with rfl | ⟨off, h⟩
    · omega
    · have := hA _ _ h; omega
end Go.Proofs.YtcijflakldggaaaGreat

/-
  Walks: package lowcap: Merge.
-/
namespace Go.Proofs.YtcijflakldggaaaGreat
set_option linter.unusedVariables false
set_option linter.unusedSimpArgs false
open Go.RowKit Go.Shelf
attribute [local go_sem] Oper.semAt_some

set_option maxHeartbeats 1000000 in
theorem lmerge_nil (w : World) :
    Calls Tryz.prog 89 #[.pointer none, .pointer none] w fun e w' => e = .returned (.int .i64 2) ∧ Below w.heap.size w w' := by
  have hb : Below w.heap.size w (w.alloc (.cells #[.pointer none] 151)) := (Below.refl _ _).alloc (Nat.le_refl _) _
  go_enter Tryz.func89, Tryz.ntmps89
  go_wp2_with fail
  go_ret
  exact ⟨rfl, hb⟩
set_option maxHeartbeats 1000000 in
theorem lmerge_none (w : World) (B : Nat) :
    Calls Tryz.prog 89 #[.pointer (some ⟨B, 0, none⟩), .pointer none] w fun e w' => e = .returned (.int .i64 2) ∧ Below w.heap.size w w' := by
  have hb : Below w.heap.size w (w.alloc (.cells #[.pointer (some ⟨B, 0, none⟩)] 151)) := (Below.refl _ _).alloc (Nat.le_refl _) _
  go_enter Tryz.func89, Tryz.ntmps89
  go_wp2_with fail
  go_ret
  exact ⟨rfl, hb⟩
set_option maxHeartbeats 1000000 in
theorem lmerge_other (w : World) (B B' : Nat) (m m' : Int) (h : w.cell? ⟨B, 0, none⟩ = some (.int .i64 m)) (h' : w.cell? ⟨B', 0, none⟩ = some (.int .i64 m')) (hm : m ≠ m') :
    Calls Tryz.prog 89 #[.pointer (some ⟨B, 0, none⟩), .pointer (some ⟨B', 0, none⟩)] w fun e w' => e = .returned (.int .i64 8) ∧ Below w.heap.size w w' := by
  obtain ⟨X, hX, hb, hz, hx⟩ := ptr_box w (.pointer (some ⟨B, 0, none⟩)) 151
  have x0 := one_cell hx
  have g0 := cell_later hb h
  have g1 := cell_later hb h'
  have hm2 : (m == m') = false := by simp [hm]
  have HB := Lib.hid hb
  clear h h' hb hz hx hm
  go_enter Tryz.func89, Tryz.ntmps89
  go_wp2_with fail
  go_quiet (fail)
  go_wp2_with fail
  go_ret
  exact ⟨rfl, below_drewN HB.out _⟩

/-- What a call leaves alone that keeps to blocks of cells. -/
theorem keeps_others {S : Nat → Prop} {w w' : World} (h : Keeps S w w') (hc : ∀ k, S k → k < w.heap.size → ∃ cs t z, w.heap[k]? = some (.cells cs t z)) : KeepsOthers w w' := by
  refine ⟨h.size, fun k o hk ho => ?_⟩
  obtain ⟨hlt, _⟩ := Array.getElem?_eq_some_iff.1 hk
  refine (h.block k hlt (fun hs => ?_)).trans hk
  obtain ⟨cs, t, z, he⟩ := hc k hs hlt
  rw [hk] at he
  cases he
  cases ho

/-- The pairs in the order in which they come. -/
def prs (L : List PairV) (pre : List (Fin L.length)) : List PairV := pre.map fun k => L[k.1]
theorem prs_snoc (L : List PairV) (pre : List (Fin L.length)) (x : Fin L.length) : prs L (pre ++ [x]) = prs L pre ++ [L[x.1]] := by unfold prs; rw [List.map_append]; rfl
theorem prs_all (L : List PairV) : prs L (bkL L) = L.reverse := by
  unfold prs bkL
  rw [List.map_reverse]
  congr 1
  apply List.ext_getElem
  · simp
  · intro i h1 h2
    simp
theorem prs_part {L : List PairV} {pre : List (Fin L.length)} (h : pre <+: bkL L) (hp : ∀ p, p ∈ L → 0 ≤ p.2) : sumP (prs L pre) ≤ sumP L := by
  obtain ⟨r, hr⟩ := h
  have e := prs_all L
  rw [← hr] at e
  unfold prs at e
  rw [List.map_append] at e
  have h1 := sumP_app (prs L pre) (prs L r)
  have h2 : sumP (prs L pre ++ prs L r) = sumP L := by
    have : prs L pre ++ prs L r = L.reverse := e
    rw [this, sumP_rev]
  have h3 : 0 ≤ sumP (prs L r) := sumP_pos fun p hq => by
    obtain ⟨k, _, rfl⟩ := List.mem_map.1 hq
    exact hp _ (List.getElem_mem _)
  omega
theorem prs_each {L : List PairV} (hg : GoodP L) (ho : ∀ p, p ∈ L → okP p) (pre : List (Fin L.length)) : ∀ p, p ∈ prs L pre → okP p ∧ 0 < p.2 := fun p hq => by
  obtain ⟨k, _, rfl⟩ := List.mem_map.1 hq
  exact good_each hg ho _ (List.getElem_mem _)
/-- How a merging stands. -/
def MI (St : World → Nat → (Nat → Prop) → Int → List PairV → Prop) (w : World) (n0 B : Nat) (S : Nat → Prop) (m : Int) (K K' : List PairV) (ls : Int) (pre : List (Fin K'.length)) (W : World) : Prop :=
  ∃ S1 K1 l1, LowRaw St W B S1 m K1 l1 ∧ Word l1 ∧ K1.length ≤ K.length + pre.length ∧ (∀ j, S1 j → S j ∨ n0 ≤ j) ∧ W.cell? ⟨w.heap.size, 0, none⟩ = some (.pointer (some ⟨B, 0, none⟩)) ∧ Keeps S w W ∧ n0 ≤ W.heap.size ∧
    (pre <+: bkL K' → K1 = keepP m (joinP K (prs K' pre)) ∧ l1 = ls + sumP K + sumP (prs K' pre) - sumP K1)
theorem keeps_grown9 {S : Nat → Prop} {w W W' : World} {row : Option Nat} (h : Keeps S w W) (hg : W.grownBy W' row) (hr : ∀ r, row = some r → w.heap.size ≤ r) : Keeps S w W' :=
  ⟨hg.os.trans h.os, hg.tape.trans h.tape, hg.output.trans h.output, Nat.le_trans h.size hg.size, fun k hk hn => (hg.block k (Nat.lt_of_lt_of_le hk h.size) (fun e => by have := hr k e.symm; omega)).trans (h.block k hk hn)⟩
theorem raw_grown {St : World → Nat → (Nat → Prop) → Int → List PairV → Prop} (D : StripDoes St) {W W' : World} {B : Nat} {S : Nat → Prop} {m l : Int} {K : List PairV} {row : Option Nat} (h : LowRaw St W B S m K l) (hg : W.grownBy W' row) (hr : ∀ r, row = some r → ∃ o : Obj, W.heap[r]? = some o ∧ o.isCells = false) : LowRaw St W' B S m K l := by
  refine raw_keep D h fun k hk => hg.block k (raw_lt D h k hk) (fun e => ?_)
  obtain ⟨cs, t, z, he⟩ := raw_cells D h k hk
  obtain ⟨o, ho, hc⟩ := hr k e.symm
  rw [he] at ho
  cases ho
  cases hc
theorem mi_own {St : World → Nat → (Nat → Prop) → Int → List PairV → Prop} (D : StripDoes St) (w : World) (n0 B : Nat) (S : Nat → Prop) (m : Int) (K K' : List PairV) (ls : Int) (h0 : w.heap.size ≤ n0) : OwnFrom n0 (MI St w n0 B S m K K' ls) := by
  intro pre W W' row hs hg hr
  obtain ⟨S1, K1, l1, h1, h2, h3, h4, h5, h6, h7, h8⟩ := hs
  exact ⟨S1, K1, l1, raw_grown D h1 hg (fun r e => (hr r e).2), h2, h3, h4, cell_kept h5 hg (fun r e => (hr r e).2), keeps_grown9 h6 hg (fun r e => Nat.le_trans h0 (hr r e).1), Nat.le_trans h7 hg.size, h8⟩
theorem mi_alloc {St : World → Nat → (Nat → Prop) → Int → List PairV → Prop} (D : StripDoes St) {w : World} {n0 B : Nat} {S : Nat → Prop} {m : Int} {K K' : List PairV} {ls : Int} {pre : List (Fin K'.length)} {W : World} (h : MI St w n0 B S m K K' ls pre W) (h0 : w.heap.size ≤ n0) (o : Obj) : MI St w n0 B S m K K' ls pre (W.alloc o) :=
  mi_own D w n0 B S m K K' ls h0 pre W _ none h (World.grownBy_alloc W o none) (fun r e => by cases e)
/-- A round of it. -/
theorem mi_step {St : World → Nat → (Nat → Prop) → Int → List PairV → Prop} {w : World} {n0 B : Nat} {S : Nat → Prop} {m : Int} {K K' : List PairV} {ls T T' : Int} {pre : List (Fin K'.length)} {x : Fin K'.length} {W W' : World} {S1 : Nat → Prop} {K1 : List PairV} {l1 : Int}
    (hp : Lwp m K T) (hp' : Lwp m K' T') (hls : ls = (T - sumP K) + (T' - sumP K')) (hs : T + T' ≤ 9223372036854775807) (h3 : K1.length ≤ K.length + pre.length) (h4 : ∀ j, S1 j → S j ∨ n0 ≤ j) (h5 : W.cell? ⟨w.heap.size, 0, none⟩ = some (.pointer (some ⟨B, 0, none⟩))) (h6 : Keeps S w W) (h7 : n0 ≤ W.heap.size)
    (h8 : pre <+: bkL K' → K1 = keepP m (joinP K (prs K' pre)) ∧ l1 = ls + sumP K + sumP (prs K' pre) - sumP K1) (hn0 : w.heap.size < n0) (hS : ∀ j, S j → j < w.heap.size)
    (hput : PutW St W B S1 m K1 l1 (K'[x.1]).1 (K'[x.1]).2 W') : MI St w n0 B S m K K' ls (pre ++ [x]) W' := by
  obtain ⟨S2, K2, l2, hr, hk, hS2, hw, hlen, hcase⟩ := hput
  have hS3 : ∀ j, S2 j → S j ∨ n0 ≤ j := fun j hj => by
    rcases hS2 j hj with h | h
    · exact h4 j h
    · exact Or.inr (by omega)
  refine ⟨S2, K2, l2, hr, hw, by rw [List.length_append, List.length_singleton]; omega, hS3, hk.cell (fun h => ?_) h5, h6.trans hk (fun j hj => ?_), Nat.le_trans h7 hk.size, fun hpre => ?_⟩
  · rcases h4 _ h with h | h
    · have := hS _ h; omega
    · omega
  · rcases h4 j hj with h | h
    · exact Or.inl h
    · exact Or.inr (by omega)
  · have hpre0 : pre <+: bkL K' := List.IsPrefix.trans (List.prefix_append _ _) hpre
    obtain ⟨e1, e2⟩ := h8 hpre0
    have hm : 0 < m := by have := hp.m1; omega
    have hx := good_each hp'.good hp'.ok _ (List.getElem_mem x.2)
    have hpart := prs_part hpre (ok_pos hp'.ok)
    rw [prs_snoc, sumP_app, sumP_one] at hpart
    have hpart0 := prs_part hpre0 (ok_pos hp'.ok)
    have hq := hp.sum
    have hq' := hp'.sum
    have J := join_facts (prs K' pre) K hp.good hp.ok (prs_each hp'.good hp'.ok pre) (by omega)
    have hks := keep_sum m (ok_pos J.ok)
    have hJs := J.sum
    have hcn := count_le_sum (K'[x.1]).1 (ok_pos J.ok)
    rw [← e1] at hks
    obtain ⟨f1, f2⟩ := put_eq hcase (by rw [e1]; exact keep_good J.good) (by rw [e1]; exact keep_ok J.ok) (by rw [e1]; exact keep_idem hm J.good) hx.1.1 hx.2 hp.m1 (by omega) (by omega)
    have f3 : keepP m (addP K1 (K'[x.1]).1 (K'[x.1]).2) = keepP m (joinP K (prs K' (pre ++ [x]))) := by
      rw [prs_snoc, join_snoc, e1]
      exact keep_add hm J.good (by omega) hx.2
    refine ⟨f1.trans f3, ?_⟩
    rw [f2, f1, prs_snoc, sumP_app, sumP_one]
    omega
theorem putObj_keeps {S : Nat → Prop} {w W : World} (h : Keeps S w W) {D : Nat} (o : Obj) (hD : w.heap.size ≤ D) : Keeps S w (W.putObj D o) :=
  keeps_grown9 h (grownBy_putObj' W D o) (fun r e => by cases e; exact hD)
/-- What comes of it. -/
theorem mi_done {St : World → Nat → (Nat → Prop) → Int → List PairV → Prop} {w : World} {n0 B : Nat} {S : Nat → Prop} {m : Int} {K K' : List PairV} {ls T T' : Int} {W : World} (hp : Lwp m K T) (hp' : Lwp m K' T') (hls : ls = (T - sumP K) + (T' - sumP K')) (hs : T + T' ≤ 9223372036854775807) (hn0 : w.heap.size ≤ n0)
    (h : MI St w n0 B S m K K' ls (bkL K') W) : ∃ S2, LowRaw St W B S2 m (keepP m (joinP K K')) (T + T' - sumP (keepP m (joinP K K'))) ∧ Keeps S w W ∧ (∀ k, S2 k → S k ∨ w.heap.size ≤ k) := by
  obtain ⟨S1, K1, l1, h1, h2, h3, h4, h5, h6, h7, h8⟩ := h
  obtain ⟨e1, e2⟩ := h8 (List.prefix_refl _)
  have hq := hp.sum
  have hq' := hp'.sum
  rw [prs_all, join_rev hp.good hp.ok (good_each hp'.good hp'.ok) (by omega)] at e1
  rw [prs_all, sumP_rev] at e2
  refine ⟨S1, ?_, h6, fun k hk => ?_⟩
  · rw [← e1]
    rwa [show T + T' - sumP K1 = l1 by omega]
  · rcases h4 k hk with h | h
    · exact Or.inl h
    · exact Or.inr (by omega)

set_option maxRecDepth 1000000 in
set_option maxHeartbeats 4000000 in
theorem lmerge_in {St : World → Nat → (Nat → Prop) → Int → List PairV → Prop} (D : StripDoes St) (w : World) (B : Nat) (S : Nat → Prop) (m : Int) (K : List PairV) (T : Int) (B' : Nat) (S' : Nat → Prop) (K' : List PairV) (T' : Int) (h : LowX St w B S m K T) (h' : LowX St w B' S' m K' T') (hd : B' = B ∨ ∀ k, S k → ¬ S' k) (hl : K.length ≤ 300) (hl' : K'.length ≤ 300) (hs : T + T' ≤ 9223372036854775807) :
    CallsIn Fence.wide 8 Tryz.prog 89 #[.pointer (some ⟨B, 0, none⟩), .pointer (some ⟨B', 0, none⟩)] w fun e w' => e = .returned (.int .i64 0) ∧ ∃ S2, LowRaw St w' B S2 m (keepP m (joinP K K')) (T + T' - sumP (keepP m (joinP K K'))) ∧ Keeps S w w' ∧ (∀ k, S2 k → S k ∨ w.heap.size ≤ k) := by
  have HD := Lib.hid D
  have HX := Lib.hid h
  have HX' := Lib.hid h'
  obtain ⟨hp, C, S0, hb, hst, hn, hS⟩ := id h
  obtain ⟨hp', C', S0', hb', hst', hn', hS'⟩ := id h'
  obtain ⟨c0, c1, c2⟩ := three_cells hb
  obtain ⟨c0', c1', c2'⟩ := three_cells hb'
  obtain ⟨X, hX, bX, zX, hx⟩ := ptr_box w (.pointer (some ⟨B, 0, none⟩)) 151
  have HP := Lib.hid hp
  have HP' := Lib.hid hp'
  have tt := hp.top
  have tt' := hp'.top
  have t0 : 0 ≤ T := by have := hp.pos; have := hp.sum; omega
  have t0' : 0 ≤ T' := by have := hp'.pos; have := hp'.sum; omega
  have HT : Hid (∀ w', Below w.heap.size w w' → Calls Tryz.prog 98 #[.pointer (some ⟨B, 0, none⟩)] w' fun e w'' => e = .returned (.int .u64 T) ∧ Below w'.heap.size w' w'') := Lib.hid (fun w' hw => ltotal_raw D ⟨h.1, raw_call D h.2 hw⟩ (by omega))
  have HT' : Hid (∀ w', Below w.heap.size w w' → Calls Tryz.prog 98 #[.pointer (some ⟨B', 0, none⟩)] w' fun e w'' => e = .returned (.int .u64 T') ∧ Below w'.heap.size w' w'') := Lib.hid (fun w' hw => ltotal_raw D ⟨h'.1, raw_call D h'.2 hw⟩ (by omega))
  have x0 := one_cell hx
  have g0 := cell_later bX c0
  have g0' := cell_later bX c0'
  obtain ⟨l, hll⟩ : ∃ l, T - sumP K = l := ⟨_, rfl⟩
  obtain ⟨l', hll'⟩ : ∃ l', T' - sumP K' = l' := ⟨_, rfl⟩
  rw [hll] at c2
  rw [hll'] at c2'
  have hl0 : 0 ≤ l := by have := hp.sum; omega
  have hl0' : 0 ≤ l' := by have := hp'.sum; omega
  have hl1 : l + l' ≤ 9223372036854775807 := by have := hp.pos; have := hp'.pos; omega
  have u1 : IntKind.u64.wrap (l + l') = l + l' := by rw [IntKind.wrap_u64]; omega
  obtain ⟨pb, pq⟩ := plus2_yes (x := T) (y := T') hs
  have PB := Lib.hid pb
  have PQ := Lib.hid pq
  have HBX := Lib.hid bX
  have HZX := Lib.hid zX
  have HXB := Lib.hid hx
  have HLL := Lib.hid hll
  have HLL' := Lib.hid hll'
  have HB := Lib.hid hb
  have HB' := Lib.hid hb'
  have HDJ := Lib.hid hd
  have HL := Lib.hid hl
  have HL' := Lib.hid hl'
  have HSM := Lib.hid hs
  clear D h h' hp hp' hb hb' hst hst' hn hn' hS hS' bX hx hll hll' pb pq hd hl hl' zX
  refine callsIn_of_wp_marks Tryz.func89 rfl trivial ?_ rfl
  refine wpIn_wide.2 ?_
  simp only [Tryz.ntmps89, List.size_toArray, List.length_cons, List.length_nil, Nat.reduceAdd, Nat.reduceSub, Array.replicate_succ, Array.replicate_zero, List.push_toArray, List.append_toArray, List.nil_append, List.cons_append]
  go_wp2_with fail
  go_quiet (fail)
  have b1 := below_drewN HBX.out nq
  have HB1 := Lib.hid b1
  clear hX g0 g0' c0 c0'
  go_wp2_with fail
  refine (HT.out _ HB1.out).mono ?_
  rintro e w2 ⟨rfl, b2⟩
  have hb2 := HB1.out.trans (b2.mono HB1.out.size)
  have HB2 := Lib.hid hb2
  clear hb2
  go_wp2_with fail
  refine (HT'.out _ HB2.out).mono ?_
  rintro e w3 ⟨rfl, b3⟩
  have hb3 := HB2.out.trans (b3.mono HB2.out.size)
  have hbx3 : Below X.heap.size X w3 := (below_drewN (Below.refl _ _) nq).trans ((b2.mono (below_drewN (Below.refl X.heap.size X) nq).size).trans (b3.mono (Nat.le_trans (below_drewN (Below.refl X.heap.size X) nq).size b2.size)))
  have HB3 := Lib.hid hb3
  have HX3 := Lib.hid hbx3
  clear hb3 hbx3 b2 b3 b1
  go_wp2_with fail
  refine (plus_two T T' (T + T') true _ _ _ ⟨by omega, by omega⟩ ⟨by omega, by omega⟩ (two_words w3 _ _ _).1 (two_words w3 _ _ _).2 PQ.out PB.out).mono ?_
  rintro e w4 ⟨rfl, rfl⟩
  obtain ⟨Y, hY⟩ : ∃ Y, w3.alloc (.cells #[.int .u64 T, .int .u64 T'] 22) = Y := ⟨_, rfl⟩
  rw [hY]
  have bY : Below w.heap.size w Y := by rw [← hY]; exact HB3.out.alloc HB3.out.size _
  have bxY : Below X.heap.size X Y := by rw [← hY]; exact HX3.out.alloc HX3.out.size _
  have y0 := cell_later bxY x0
  have y2 := cell_later bY c2
  have y2' := cell_later bY c2'
  have yf : Y.frozen? ⟨B, 2, none⟩ = false := free8 ((bY.block B (lt_of_block HB.out)).trans HB.out) 2
  have HBY := Lib.hid bY
  have HXY := Lib.hid bxY
  clear hY bY bxY c1 c1' c2 c2' x0
  go_wp2_with fail
  go_region
  obtain ⟨Z, hZ⟩ : ∃ Z, (Y.setCell ⟨B, 2, none⟩ (.int .u64 (l + l'))).drew = Z := ⟨_, rfl⟩
  rw [hZ]
  have hBw := lt_of_block HB.out
  have hSlt : ∀ k, S k → k < w.heap.size := raw_lt HD.out HX.out.2
  have zYZ : Z.heap.size = Y.heap.size := by rw [← hZ]; simp [World.drew, World.setCell]
  have zYX := HXY.out.size
  have zXw := HZX.out
  have kZ : Keeps S w Z := by
    rw [← hZ]
    exact ((Keeps.of_below HBY.out).set 2 _ (Or.inl (raw_B HX.out.2))).trans (Keeps.of_below (S := S) ((Below.refl _ _).drew)) (fun j hj => Or.inl hj)
  have hdr : Below (Y.setCell ⟨B, 2, none⟩ (.int .u64 (l + l'))).heap.size (Y.setCell ⟨B, 2, none⟩ (.int .u64 (l + l'))) Z := by rw [← hZ]; exact (Below.refl _ _).drew
  have rZ : LowRaw St Z B S m K (l + l') := raw_call HD.out (raw_lost HD.out (raw_call HD.out HX.out.2 HBY.out) (l + l')) hdr
  have rZ' : ∃ lx, LowRaw St Z B' S' m K' lx := by
    have h1 := raw_call HD.out HX'.out.2 HBY.out
    rcases HDJ.out with e | hdis
    · have h2 := raw_lost HD.out h1 (l + l')
      rw [e] at h2 ⊢
      exact ⟨_, raw_call HD.out h2 hdr⟩
    · exact ⟨_, raw_call HD.out (raw_keep HD.out h1 (fun k hk => Below.heap_setCell _ _ _ _ (by show k ≠ B; rintro rfl; exact hdis k (raw_B HX.out.2) hk))) hdr⟩
  have z0 : Z.cell? ⟨w.heap.size, 0, none⟩ = some (.pointer (some ⟨B, 0, none⟩)) := by
    refine cell_later hdr ?_
    rw [World.cell?_setCell_other _ _ _ _ (two_far (by omega))]
    exact y0
  have HPR : Hid (Calls Tryz.prog 100 #[.pointer (some ⟨B', 0, none⟩)] Z fun e w' => ∃ v, e = .returned v ∧ OwnP w' Z.heap.size v K' ∧ Below Z.heap.size Z w') := Lib.hid (by
    obtain ⟨lx, Cx, Sx, hbx, hstx, hnx, hSx⟩ := rZ'
    refine lpairs_of Z _ _ _ (ownsl_at (three_cells hbx).2.1) (fun e w' h => ?_) (HD.out.pairs _ _ _ _ _ hstx (by have := HL'.out; omega))
    obtain ⟨v, rfl, ho, _⟩ := h
    obtain ⟨A, cap, rfl⟩ := ho.form
    exact ⟨A, _, cap, rfl⟩)
  have HRZ := Lib.hid rZ
  have HKZ := Lib.hid kZ
  have HSLT := Lib.hid hSlt
  clear hZ rZ rZ' kZ hdr hSlt y0 y2 y2' yf u1
  go_wp2_with fail
  refine HPR.out.mono ?_
  rintro e w6 ⟨v6, rfl, ho6, b6⟩
  have hlt6 := ho6.lt
  obtain ⟨A6, cap6, rfl, hP6⟩ := ho6.pairs HP'.out.ok
  have z6 := b6.size
  have a0 := cell_later b6 z0
  have HP6 := Lib.hid hP6
  have HR6 := Lib.hid (raw_call HD.out HRZ.out b6)
  have HK6 : Hid (Keeps S w w6) := Lib.hid (HKZ.out.trans (Keeps.of_below (S := S) b6) (fun j hj => Or.inl hj))
  have HA6 : Hid (∀ g off, A6 = some ⟨g, off, none⟩ → Z.heap.size ≤ g ∧ g < w6.heap.size) := Lib.hid (fun g off e => by subst e; exact hlt6 g rfl)
  clear hP6 ho6 b6 hlt6 z0
  go_wp2_with fail
  refine (call_back A6 K'.length cap6 w6).mono ?_
  rintro e W0 ⟨rfl, hW0⟩
  have b7 : Below w6.heap.size w6 W0 := by rw [hW0]; exact (Below.refl _ _).alloc (Nat.le_refl _) _
  have z7 : W0.heap.size = w6.heap.size + 1 := by rw [hW0]; simp
  have a7 := cell_later b7 a0
  have HSQ : Hid (SeqStopsK Fence.wide 7 Tryz.prog 113 #[.pointer (some ⟨w6.heap.size, 0, none⟩)] (encBk K') (KeepB (backU w6 A6)) (fun ys => ys = bkL K') (fun _ => True) K'.length W0) := Lib.hid (by
    rw [hW0]
    exact back_stops 7 (by omega) w6 A6 cap6 K' HP6.out (by have := HL'.out; omega) (fun g off e => (HA6.out g off e).2))
  have HU : Hid (∀ k, backU w6 A6 k → k < W0.heap.size ∧ Z.heap.size ≤ k) := Lib.hid (fun k hk => by
    rcases hk with rfl | ⟨off, e⟩
    · omega
    · have := HA6.out k off e; omega)
  have HM0 : Hid (MI St w W0.heap.size B S m K K' (l + l') [] W0) := Lib.hid (by
    refine ⟨S, K, l + l', raw_call HD.out HR6.out b7, ⟨by omega, by omega⟩, by simp, fun j hj => Or.inl hj, a7, HK6.out.trans (Keeps.of_below (S := S) b7) (fun j hj => Or.inl hj), Nat.le_refl _, fun _ => ⟨?_, ?_⟩⟩
    · show K = keepP m (joinP K [])
      rw [join_nil, HP.out.kept]
    · show l + l' = l + l' + sumP K + sumP [] - sumP K
      rw [sumP_nil]; omega)
  have HLS : Hid (l + l' = (T - sumP K) + (T' - sumP K')) := Lib.hid (by rw [HLL.out, HLL'.out])
  have hwn : w.heap.size < W0.heap.size := by omega
  clear a0 a7 b7 hW0
  go_wp2_with fail
  refine (wpIn_wide (n := 8)).1 ?_
  refine wpIn_rangeFunc_ownH rfl (by omega) (gf := 113) (lb := #[.pointer (some ⟨w6.heap.size, 0, none⟩)]) rfl trivial enters_back HSQ.out keepB_t (keepB_b (fun k hk => (HU.out k hk).1)) (Below.refl _ _) (fun _ => rfl)
    (MI St w W0.heap.size B S m K K' (l + l')) (fun _ _ _ => False) (mi_own HD.out w W0.heap.size B S m K K' (l + l') (by omega)) (fun c _ _ _ _ h _ _ => h) HM0.out
    (fun x a' W => ∃ Bx, W0.heap.size ≤ Bx ∧ Two W Bx (.int .i64 (K'[x.1]).1) (.int .u64 (K'[x.1]).2) ∧ a' = { tmps := #[.pointer (some ⟨B, 0, none⟩), .pointer (some ⟨B', 0, none⟩), .pointer (some ⟨w.heap.size, 0, none⟩), undef, .int .i64 0, .int .u64 (T + T'), .bool true, undef, .pointer (some ⟨Bx, 0, none⟩), .pointer (some ⟨B, 0, none⟩), .bool false, .bool false, .pointer (some ⟨B', 0, none⟩), .bool false, .bool false, .pointer (some ⟨B, 0, none⟩), .pointer (some ⟨B, 0, none⟩), .pointer (some ⟨B, 0, none⟩), .int .i64 m, .pointer (some ⟨B', 0, none⟩), .pointer (some ⟨B', 0, none⟩), .pointer (some ⟨B', 0, none⟩), .int .i64 m, .bool false, .tuple #[.int .u64 (T + T'), .bool true], .pointer (some ⟨B, 0, none⟩), .int .u64 T, .pointer (some ⟨B', 0, none⟩), .int .u64 T', .slice (some ⟨w3.heap.size, 0, none⟩) 2 2, .tuple #[.int .u64 (T + T'), .bool true], .int .u64 (T + T'), .bool true, .bool true, .bool false, .pointer (some ⟨B, 0, none⟩), .pointer (some ⟨B, 0, none⟩), .pointer (some ⟨B, 2, none⟩), .int .u64 l, .pointer (some ⟨B', 0, none⟩), .pointer (some ⟨B', 0, none⟩), .pointer (some ⟨B', 2, none⟩), .int .u64 l', .int .u64 (l + l'), .pointer (some ⟨B, 0, none⟩), .pointer (some ⟨B, 2, none⟩), .pointer (some ⟨B', 0, none⟩), .slice A6 K'.length cap6, .func (.func 113) #[] #[.pointer (some ⟨w6.heap.size, 0, none⟩)], .int .i64 (x.1 : Int), .agg #[.int .i64 (K'[x.1]).1, .int .u64 (K'[x.1]).2], undef, undef, undef, undef, undef, undef], defers := [] })
    (fun x a' _ X Y row hs hg hr => by
      obtain ⟨Bx, hBx, h, e⟩ := hs
      have hr' := fun r e => (hr r e).2
      exact ⟨Bx, hBx, ⟨cell_kept h.c0 hg hr', cell_kept h.c1 hg hr', (frozen_kept h.c0 hg hr').trans h.f0, (frozen_kept h.c1 hg hr').trans h.f1⟩, e⟩)
    ?assign ?body ?done ?stop
  case assign =>
    rintro l9 pre x W K9 hI hK
    have HI := Lib.hid hI
    obtain ⟨_, _, _, _, _, _, _, _, _, hsz, _⟩ := hI
    have HSZ := Lib.hid hsz
    clear hsz
    simp only [encBk]
    gi_wp2
    exact hK _ _ ((KeepsOthers.alloc _ _).from _) (fun k hk => heap_alloc_old _ _ (by have := (HU.out k hk).1; have := HSZ.out; omega)) (mi_alloc HD.out HI.out (by omega) _) ⟨W.heap.size, HSZ.out, Two.new W _ _ _, rfl⟩
  case body =>
    rintro l9 pre x a' W hl9 _ hI ⟨Bx, hBx, hT, rfl⟩ hlt
    obtain ⟨S1, K1, l1, h1, h2, h3, h4, h5, h6, h7, h8⟩ := hI
    have hxo := HP'.out.ok _ (List.getElem_mem x.2)
    have hpx : pre.length < K'.length := hlt
    obtain ⟨xi, hxi⟩ : ∃ xi, (K'[x.1]).1 = xi := ⟨_, rfl⟩
    obtain ⟨xc, hxc⟩ : ∃ xc, (K'[x.1]).2 = xc := ⟨_, rfl⟩
    have HXI := Lib.hid hxi
    have HXC := Lib.hid hxc
    obtain ⟨y0, y1, y2, y3⟩ := hT
    unfold okP at hxo
    rw [hxi, hxc] at hxo
    rw [hxi] at y0
    rw [hxc] at y1
    rw [hxi, hxc]
    have HPUT := Lib.hid (lputw_any HD.out W B S1 m K1 l1 xi xc h1 (by have := HL.out; have := HL'.out; omega) hxo.1 hxo.2 HP.out.m1 HP.out.m2 h2)
    have H1 := Lib.hid h1
    have H3 := Lib.hid h3
    have H4 := Lib.hid h4
    have H5 := Lib.hid h5
    have H6 := Lib.hid h6
    have H7 := Lib.hid h7
    have H8 := Lib.hid h8
    clear h1 h2 h3 h4 h6 h7 h8 hxi hxc hxo hlt hpx
    gi_wp2_with (refine ⟨trivial, ?_⟩; gi_at_call 101; refine (CallsIn.inRound l9 (callsIn_wide.2 HPUT.out)).mono ?_; rintro e W3 ⟨rfl, hput⟩; clear HPUT)
    have hkp : Keeps S1 W W3 := by
      obtain ⟨_, _, _, _, hk, _⟩ := hput
      exact hk
    refine ⟨(keeps_others hkp (fun k hk _ => raw_cells HD.out H1.out k hk)).from _, fun k hk => hkp.block k (by have := (HU.out k hk).1; have := H7.out; omega) (fun h => ?_), ?_⟩
    · have hu := HU.out k hk
      rcases H4.out k h with h | h
      · have := HSLT.out k h; omega
      · omega
    · exact mi_step HP.out HP'.out HLS.out HSM.out H3.out H4.out H5.out H6.out H7.out H8.out (by omega) HSLT.out (by rw [HXI.out, HXC.out]; exact hput)
  case done =>
    rintro D9 ys W hD rfl hI hK
    have hfin := mi_done HP.out HP'.out HLS.out HSM.out (by omega) hI
    obtain ⟨S2, hr2, hk2, hs2⟩ := hfin
    have HR2 := Lib.hid hr2
    have HK2 := Lib.hid hk2
    have HS2 := Lib.hid hs2
    have HKD := Lib.hid hK
    clear hI hr2 hk2 hs2 hK
    go_wp2_with fail
    refine ⟨by simp, .inl ⟨_, _, rfl, run_takeDeferred HKD.out, ?_⟩⟩
    refine ⟨.int .i64 0, ?_, rfl, S2, raw_grown HD.out HR2.out (grownBy_putObj' W D9 _) (fun r e => by cases e; exact ⟨_, HKD.out, rfl⟩), putObj_keeps HK2.out _ (by omega), HS2.out⟩
    simp [results, Tryz.f89, go_sem]
  case stop =>
    rintro D9 c9 pre W hD hpre hF
    exact hF.elim
end Go.Proofs.YtcijflakldggaaaGreat

/-
  Walks: package strip: Pairs, Find, Below, of a strip and of a nil one.
  Walks: package strip: First, Last, of a strip and of a nil one.
  What the landed code of package strip does, a nil strip's too.
-/
namespace Go.Proofs.YtcijflakldggaaaGreat
set_option linter.unusedVariables false
set_option linter.unusedSimpArgs false
open Go.RowKit

set_option maxRecDepth 100000 in
set_option maxHeartbeats 1000000 in
theorem clone_none (w : World) :
    Calls Tryz.prog 128 #[.slice none 0 0] w fun e w' => e = .returned (.slice none 0 0) ∧ w = w' := by
  have he : ∀ w : World, (binOp .eql 72 (.slice none 0 0) (.slice none 0 0)).run Tryz.prog w = .ok (.bool true) w := fun _ => rfl
  go_enter Tryz.func128, Tryz.ntmps128
  go_wp2_with fail
  go_ret
  exact ⟨rfl, rfl⟩

set_option maxRecDepth 100000 in
set_option maxHeartbeats 1000000 in
theorem clone_some (w : World) (g off n cap : Nat) (L : List PairV) (h : Pairs w (some ⟨g, off, none⟩) L) (hn : n = L.length) (hl : n ≤ 1000) :
    Calls Tryz.prog 128 #[.slice (some ⟨g, off, none⟩) n cap] w fun e w' => ∃ v, e = .returned v ∧ OwnP w' w.heap.size v L ∧ Below w.heap.size w w' := by
  subst hn
  have hO := World.ownsRow_made (base := w.heap.size) (e := 114) (size := 2) w #[] 0 (by simp) (by decide) rfl
  have HO : Hid (OwnP (w.alloc (.cells #[] 114)) w.heap.size (.slice (some ⟨w.heap.size, 0, none⟩) 0 0) []) := Lib.hid hO
  have HB : Hid (Below w.heap.size w (w.alloc (.cells #[] 114))) := Lib.hid ((Below.refl _ _).alloc (Nat.le_refl _) _)
  have HP := Lib.hid (h.call HB.out)
  have he : ∀ w : World, (binOp .eql 72 (.slice (some ⟨g, off, none⟩) L.length cap) (.slice none 0 0)).run Tryz.prog w = .ok (.bool false) w := fun _ => rfl
  clear h hO
  go_enter Tryz.func128, Tryz.ntmps128
  go_wp2_with (at_builtin; refine wpList_append_pairs rfl (.tmp 5) (.tmp 6) rfl w.heap.size _ [] (some ⟨g, off, none⟩) cap L rfl HO.out rfl HP.out ?c1 ?c2 ?_)
  case c1 => simp; omega
  case c2 => simp
  intro v5 w5 hown5 hg5
  have hb5 : Below w.heap.size w w5 := HB.out.grown hg5 HB.out.size (fun k hk => by cases hk; exact Nat.le_refl _)
  obtain ⟨A5, k5, rfl⟩ := hown5.form
  have HO5 := Lib.hid hown5
  have HB5 := Lib.hid hb5
  clear hown5 hg5 hb5
  go_wp2_with fail
  go_ret
  exact ⟨_, rfl, HO5.out, HB5.out⟩

set_option maxRecDepth 100000 in
set_option maxHeartbeats 1000000 in
theorem spairs_of (w : World) (p A : Option Addr) (cap : Nat) (L : List PairV) (h : OwnsV w p A L.length cap) (hr : Slab w A cap L) (hl : L.length ≤ 1000) :
    Calls Tryz.prog 114 #[.pointer p] w fun e w' => ∃ v, e = .returned v ∧ OwnP w' w.heap.size v L ∧ Below w.heap.size w w' := by
  have H := Lib.hid h
  rcases hr.form with ⟨rfl, rfl, rfl⟩ | ⟨g, off, rfl⟩
  · have H0 : Hid (OwnsV w p none 0 0) := Lib.hid H.out
    clear h hr H
    go_enter Tryz.func114, Tryz.ntmps114
    go_wp2_with fail
    refine H0.out.now.mono ?_
    rintro e w2 ⟨rfl, rfl⟩
    go_wp2_with fail
    refine (clone_none w).mono ?_
    rintro e w3 ⟨rfl, rfl⟩
    go_wp2_with fail
    go_ret
    exact ⟨_, rfl, OwnP.nil _ _, Below.refl _ _⟩
  · obtain ⟨n, hn⟩ : ∃ n, L.length = n := ⟨_, rfl⟩
    have HC := Lib.hid (clone_some w g off n cap L hr.pairs hn.symm (by omega))
    rw [hn] at H
    clear h hr hn hl
    go_enter Tryz.func114, Tryz.ntmps114
    go_wp2_with fail
    refine H.out.now.mono ?_
    rintro e w2 ⟨rfl, rfl⟩
    go_wp2_with fail
    refine HC.out.mono ?_
    rintro e w3 ⟨v, rfl, ho, hb⟩
    obtain ⟨A5, k5, rfl⟩ := ho.form
    have HO5 := Lib.hid ho
    clear ho
    go_wp2_with fail
    go_ret
    exact ⟨_, rfl, HO5.out, hb⟩

set_option maxRecDepth 100000 in
set_option maxHeartbeats 1000000 in
theorem spairs_none (w : World) :
    Calls Tryz.prog 114 #[.pointer none] w fun e w' => ∃ A cap, e = .returned (.slice A 0 cap) ∧ Below w.heap.size w w' := by
  go_enter Tryz.func114, Tryz.ntmps114
  go_wp2_with fail
  refine (sown_none w).mono ?_
  rintro e w2 ⟨rfl, rfl⟩
  go_wp2_with fail
  refine (clone_none w).mono ?_
  rintro e w3 ⟨rfl, rfl⟩
  go_wp2_with fail
  go_ret
  exact ⟨none, 0, rfl, Below.refl _ _⟩

set_option maxRecDepth 100000 in
set_option maxHeartbeats 1000000 in
theorem sfind_of (w : World) (p A : Option Addr) (cap : Nat) (L : List PairV) (t x : Int) (fb : Bool) (h : OwnsV w p A L.length cap) (hP : Pairs w A L) (hl : L.length ≤ 1000) (ht : Word t) (hb : sumP L < 18446744073709551616) (hf : (findP L t).getD 0 = x) (hs : (findP L t).isSome = fb) :
    Calls Tryz.prog 173 #[.pointer p, .int .u64 t] w fun e w' => e = .returned (.tuple #[.int .i64 x, .bool fb]) ∧ Below w.heap.size w w' := by
  have H := Lib.hid h
  have HI := Lib.hid hP
  have HX := Lib.hid hf
  have HB := Lib.hid hs
  have HP := Lib.hid (fun k => sumP_take (L := L) k (ok_pos hP.ok))
  have HSL := Lib.hid hb
  have HAT := Lib.hid (fun k p => seek_at t L 0 k p (ok_pos hP.ok))
  have HNO := Lib.hid (seek_none t L 0 (ok_pos hP.ok))
  obtain ⟨t0, t1⟩ := ht
  clear h hP hf hs hb
  by_cases hz : t = 0
  · subst hz
    have HF : Hid (findP L 0 = none) := Lib.hid (by unfold findP; rw [if_neg (by omega)])
    have HE : Hid (0 = x ∧ false = fb) := Lib.hid (by
      have h1 := HX.out; have h2 := HB.out
      rw [HF.out] at h1 h2
      exact ⟨h1, h2⟩)
    go_enter Tryz.func173, Tryz.ntmps173
    go_wp2_with fail
    go_ret2
    exact ⟨by rw [← HE.out.1, ← HE.out.2]; rfl, Below.refl _ _⟩
  have hz' : (t == 0) = false := by simp [hz]
  have ht0 : 0 < t := by omega
  go_enter Tryz.func173, Tryz.ntmps173
  go_wp2_with fail
  refine H.out.now.mono ?_
  rintro e w2 ⟨rfl, rfl⟩
  go_wp2_with fail
  go_loopw [1, 13] (fun s j wr => ∃ (k : Nat) (u : Int), k ≤ L.length ∧ j = .int .i64 k ∧ s = .int .u64 u ∧ u = t - sumP (L.take k) ∧ 0 < u ∧ Below w.heap.size w wr) (fun _ j _ => L.length - (intOf j).toNat)
  case atStart => exact ⟨0, t, Nat.zero_le _, rfl, rfl, by rw [List.take_zero]; show t = t - 0; omega, ht0, Below.refl _ _⟩
  case round =>
    obtain ⟨k, u, hk, rfl, rfl, hu, hu0, hb2⟩ := hrel
    have HU := Lib.hid hu
    by_cases hlt : k < L.length
    · have kk : (k : Int) < L.length := by omega
      have hxk : L[k]? = some L[k] := List.getElem?_eq_getElem hlt
      generalize hit : L[k] = p at *
      obtain ⟨px, pc⟩ := p
      obtain ⟨b, off, rfl, hbl, c0, c1⟩ := (HI.out.call hb2).at_ k _ hxk
      have HS := Lib.hid (sum_step' hxk)
      have HXK := Lib.hid hxk
      have hok := HI.out.ok _ (List.mem_of_getElem? hxk)
      have p1 := HP.out (k + 1)
      have p0 := HP.out k
      rw [HS.out] at p1
      have hbs := hb2.size
      obtain ⟨⟨o1, o2⟩, o3, o4⟩ := hok
      simp only at c0 c1 o1 o2 o3 o4 p1 HS HXK
      obtain ⟨p2, p3⟩ := p1
      obtain ⟨p4, _⟩ := p0
      have u1 : u < 18446744073709551616 := by omega
      by_cases hge : u ≤ pc
      · have HF : Hid (findP L t = some px) := Lib.hid (by
          unfold findP; rw [if_pos ht0]
          exact HAT.out k (px, pc) HXK.out (by omega) (by show t ≤ 0 + sumP (L.take k) + pc; omega))
        have HE : Hid (px = x ∧ true = fb) := Lib.hid (by
          have h1 := HX.out; have h2 := HB.out
          rw [HF.out] at h1 h2
          exact ⟨h1, h2⟩)
        clear hxk hit hu p2 p3 p4
        go_wp2_with fail
        go_ret2
        exact ⟨by rw [← HE.out.1, ← HE.out.2]; rfl, hb2.alloc hbs _⟩
      · have HR : Hid (u - pc = t - sumP (L.take (k + 1))) := Lib.hid (by rw [HS.out]; omega)
        have hd : IntKind.u64.wrap (u - pc) = u - pc := by rw [IntKind.wrap_u64]; omega
        clear hxk hit hu p2 p3 p4
        go_wp2_with fail
        go_roundw
        case rel => exact ⟨k + 1, u - pc, by omega, by go_num, rfl, HR.out, by omega, hb2.alloc hbs _⟩
        case measure => simp [intOf]; omega
    · obtain rfl : k = L.length := by omega
      rw [List.take_length] at hu
      have HF : Hid (findP L t = none) := Lib.hid (by
        unfold findP
        rw [if_pos ht0]
        exact HNO.out (by omega))
      have HE : Hid (0 = x ∧ false = fb) := Lib.hid (by
        have h1 := HX.out; have h2 := HB.out
        rw [HF.out] at h1 h2
        exact ⟨h1, h2⟩)
      have kk : ¬ (L.length : Int) < L.length := by omega
      clear hu
      go_wp2_with fail
      go_ret2
      exact ⟨by rw [← HE.out.1, ← HE.out.2]; rfl, hb2⟩

end Go.Proofs.YtcijflakldggaaaGreat

namespace Go.Proofs.YtcijflakldggaaaGreat
set_option linter.unusedVariables false
set_option linter.unusedSimpArgs false
open Go.RowKit

set_option maxRecDepth 100000 in
set_option maxHeartbeats 1000000 in
theorem sfirst_none (w : World) (p A : Option Addr) (cap : Nat) (h : OwnsV w p A 0 cap) :
    Calls Tryz.prog 131 #[.pointer p] w fun e w' => e = .returned (.tuple #[.agg #[.int .i64 0, .int .u64 0], .bool false]) ∧ Below w.heap.size w w' := by
  have hB : Below w.heap.size w (w.alloc (.cells #[.int .i64 0, .int .u64 0] 114)) := (Below.refl w.heap.size w).alloc (Nat.le_refl _) _
  have HB := Lib.hid hB
  have hO : OwnsV (w.alloc (.cells #[.int .i64 0, .int .u64 0] 114)) p A 0 cap := fun w' hb => h w' (hB.trans (hb.mono hB.size))
  have H := Lib.hid (slen_of _ p A 0 cap hO)
  clear h hB hO
  go_enter Tryz.func131, Tryz.ntmps131
  go_wp2_with fail
  refine H.out.mono ?_
  rintro e w2 ⟨rfl, rfl⟩
  go_wp2_with fail
  exact bodyPost_ret (v := .tuple #[.agg #[.int .i64 0, .int .u64 0], .bool false]) (by simp [results, Tryz.results131, go_sem]) rfl ⟨rfl, HB.out⟩

set_option maxRecDepth 100000 in
set_option maxHeartbeats 1000000 in
theorem slast_none (w : World) (p A : Option Addr) (cap : Nat) (h : OwnsV w p A 0 cap) :
    Calls Tryz.prog 134 #[.pointer p] w fun e w' => e = .returned (.tuple #[.agg #[.int .i64 0, .int .u64 0], .bool false]) ∧ Below w.heap.size w w' := by
  have hB : Below w.heap.size w (w.alloc (.cells #[.int .i64 0, .int .u64 0] 114)) := (Below.refl w.heap.size w).alloc (Nat.le_refl _) _
  have HB := Lib.hid hB
  have hO : OwnsV (w.alloc (.cells #[.int .i64 0, .int .u64 0] 114)) p A 0 cap := fun w' hb => h w' (hB.trans (hb.mono hB.size))
  have H := Lib.hid (slen_of _ p A 0 cap hO)
  clear h hB hO
  go_enter Tryz.func134, Tryz.ntmps134
  go_wp2_with fail
  refine H.out.mono ?_
  rintro e w2 ⟨rfl, rfl⟩
  go_wp2_with fail
  exact bodyPost_ret (v := .tuple #[.agg #[.int .i64 0, .int .u64 0], .bool false]) (by simp [results, Tryz.results134, go_sem]) rfl ⟨rfl, HB.out⟩

/-- A strip on its way: its block holds these; all else that was is as it was. -/
structure Left (w : World) (B : Nat) (m : Int) (V : Value) (t : Int) (X : World) : Prop where
  b : X.heap[B]? = some (.cells #[.int .i64 m, V, .int .u64 t] 194 (0, 0))
  k : Keeps (fun k => k = B) w X
theorem Left.start {w w2 : World} {B : Nat} {A : Option Addr} {n cap : Nat} {m t : Int} {L : List PairV} (h : LayS w B A n cap m t L) (b2 : Below w.heap.size w w2) (V : Value) (o : Obj) : Left w B m V t ((w2.setCell ⟨B, 1, none⟩ V).alloc o) := by
  have h1 : (w2.setCell ⟨B, 1, none⟩ V).heap[B]? = some (.cells #[.int .i64 m, V, .int .u64 t] 194 (0, 0)) := set_cells8 (h.call b2).b 1 V
  exact ⟨(heap_alloc_old _ _ (lt_of_block h1)).trans h1, (Keeps.set (S := fun k => k = B) (Keeps.of_below b2) 1 V (Or.inl rfl)).new o⟩
theorem Left.draws {w X : World} {B : Nat} {m t : Int} {V : Value} (h : Left w B m V t X) (n : Nat) : Left w B m V t (X.drewN n) := ⟨((below_drewN (Below.refl X.heap.size X) n).block _ (lt_of_block h.b)).trans h.b, h.k.draws n⟩
theorem Left.total {w X : World} {B : Nat} {m t : Int} {V : Value} (h : Left w B m V t X) (t' : Int) : Left w B m V t' (X.setCell ⟨B, 2, none⟩ (.int .u64 t')) := ⟨set_cells8 h.b 2 _, h.k.set 2 _ (Or.inl rfl)⟩
theorem Left.box {w X : World} {B : Nat} {m t : Int} {V : Value} (h : Left w B m V t X) (hB : B < w.heap.size) (o : Nat) (u : Value) : Left w B m V t (X.setCell ⟨w.heap.size, o, none⟩ u) :=
  ⟨by rw [Below.heap_setCell _ _ _ _ (by show B ≠ w.heap.size; omega)]; exact h.b, h.k.set o u (Or.inr (Nat.le_refl _))⟩
theorem left_facts {w w2 : World} {B : Nat} {A : Option Addr} {n cap : Nat} {m t : Int} {L : List PairV} (h : LayS w B A n cap m t L) (b2 : Below w.heap.size w w2) (hz : w2.heap.size = w.heap.size + 1) (hw : Two w2 w.heap.size (.int .i64 0) (.int .u64 0)) (V : Value) (px pc : Int) :
    ∃ X, (w2.setCell ⟨B, 1, none⟩ V).alloc (.cells #[.int .i64 px, .int .u64 pc] 114) = X ∧ Left w B m V t X ∧ X.cell? ⟨B, 2, none⟩ = some (.int .u64 t) ∧ X.frozen? ⟨B, 2, none⟩ = false ∧
      X.cell? ⟨w.heap.size + 1, 0, none⟩ = some (.int .i64 px) ∧ X.cell? ⟨w.heap.size + 1, 1, none⟩ = some (.int .u64 pc) ∧ Two X w.heap.size (.int .i64 0) (.int .u64 0) := by
  have h1 := Left.start h b2 V (.cells #[.int .i64 px, .int .u64 pc] 114)
  have hsz : (w2.setCell ⟨B, 1, none⟩ V).heap.size = w.heap.size + 1 := by simpa [World.setCell] using hz
  have h2 : ((w2.setCell ⟨B, 1, none⟩ V).alloc (.cells #[.int .i64 px, .int .u64 pc] 114)).heap[w.heap.size + 1]? = some (.cells #[.int .i64 px, .int .u64 pc] 114 (0, 0)) := by
    have := heap_alloc_new (w2.setCell ⟨B, 1, none⟩ V) (.cells #[.int .i64 px, .int .u64 pc] 114)
    rwa [hsz] at this
  have hBl := h.lt
  refine ⟨_, rfl, h1, by rw [Joins.cell_of_block h1.b]; rfl, free8 h1.b _, by rw [Joins.cell_of_block h2]; rfl, by rw [Joins.cell_of_block h2]; rfl, ?_⟩
  refine hw.block ?_
  rw [heap_alloc_old _ _ (by rw [hsz]; omega), Below.heap_setCell _ _ _ _ (by show w.heap.size ≠ B; omega)]
theorem left_done {w X : World} {B : Nat} {m t : Int} {V : Value} {px pc : Int} (h : Left w B m V t X) (hB : B < w.heap.size) (p0 : X.cell? ⟨w.heap.size + 1, 0, none⟩ = some (.int .i64 px)) (p1 : X.cell? ⟨w.heap.size + 1, 1, none⟩ = some (.int .u64 pc)) (hw : Two X w.heap.size (.int .i64 0) (.int .u64 0)) (t' : Int) :
    ∃ Y, (X.setCell ⟨B, 2, none⟩ (.int .u64 t')).drew = Y ∧ Y.cell? ⟨w.heap.size + 1, 0, none⟩ = some (.int .i64 px) ∧ Y.cell? ⟨w.heap.size + 1, 1, none⟩ = some (.int .u64 pc) ∧ Two Y w.heap.size (.int .i64 0) (.int .u64 0) ∧
      (Y.setCell ⟨w.heap.size, 0, none⟩ (.int .i64 px)).cell? ⟨w.heap.size, 0, none⟩ = some (.int .i64 px) ∧
      ((Y.setCell ⟨w.heap.size, 0, none⟩ (.int .i64 px)).setCell ⟨w.heap.size, 1, none⟩ (.int .u64 pc)).cell? ⟨w.heap.size, 1, none⟩ = some (.int .u64 pc) ∧
      Left w B m V t' ((Y.setCell ⟨w.heap.size, 0, none⟩ (.int .i64 px)).setCell ⟨w.heap.size, 1, none⟩ (.int .u64 pc)) := by
  have hL : Left w B m V t' ((X.setCell ⟨B, 2, none⟩ (.int .u64 t')).drew) := (h.total t').draws 1
  have e : ∀ k, k ≠ B → ((X.setCell ⟨B, 2, none⟩ (.int .u64 t')).drew).heap[k]? = X.heap[k]? := fun k hk => Below.heap_setCell _ _ _ _ hk
  have hT : Two ((X.setCell ⟨B, 2, none⟩ (.int .u64 t')).drew) w.heap.size (.int .i64 0) (.int .u64 0) := hw.block (e _ (by omega))
  refine ⟨_, rfl, (World.cell?_of_block (a := ⟨w.heap.size + 1, 0, none⟩) (e (w.heap.size + 1) (by omega))).trans p0, (World.cell?_of_block (a := ⟨w.heap.size + 1, 1, none⟩) (e (w.heap.size + 1) (by omega))).trans p1, hT, World.cell?_setCell_same _ _ _ hT.c0, ?_, (hL.box hB _ _).box hB _ _⟩
  exact World.cell?_setCell_same _ _ _ (u := .int .u64 0) (by rw [World.cell?_setCell_other _ _ _ _ (two_off (by omega))]; exact hT.c1)
theorem left_end {w X : World} {B : Nat} {A A' : Option Addr} {n n' cap cap' : Nat} {m t t' : Int} {L L' : List PairV} {S : Nat → Prop} (h : LayS w B A n cap m t L) (hS : ∀ k, S k ↔ k = B ∨ blkA A = some k)
    (hA : ∀ k, blkA A' = some k → blkA A = some k) (hr : Slab w A' cap' L') (hn : L'.length = n') (hst : Stp m L') (hm : I64 m) (ht : sumP L' = t') (hX : Left w B m (.slice A' n' cap') t' X) :
    ∃ S', StX X B S' m L' ∧ Keeps S w X ∧ (∀ k, S' k → S k ∨ w.heap.size ≤ k) := by
  subst hn ht
  refine ⟨fun k => k = B ∨ blkA A' = some k, ⟨hst, hm, A', cap', ⟨hX.b, ?_⟩, fun k => Iff.rfl⟩, ?_, ?_⟩
  · exact hr.keep fun k hk => hX.k.block k (hr.lt hk) (h.ne (hA k hk))
  · exact ⟨hX.k.os, hX.k.tape, hX.k.output, hX.k.size, fun k hk hn => hX.k.block k hk (fun e => hn ((hS k).2 (Or.inl e)))⟩
  · rintro k (rfl | hk)
    · exact Or.inl ((hS k).2 (Or.inl rfl))
    · exact Or.inl ((hS k).2 (Or.inr (hA k hk)))

set_option maxRecDepth 100000 in
set_option maxHeartbeats 4000000 in
theorem sfirst_some (w : World) (B : Nat) (S : Nat → Prop) (m : Int) (L : List PairV) (h : StX w B S m L) (hl : L.length ≤ 900) (hne : L ≠ []) :
    Calls Tryz.prog 131 #[.pointer (some ⟨B, 0, none⟩)] w fun e w' => ∃ S', e = .returned (.tuple #[.agg #[.int .i64 (firP L).1, .int .u64 (firP L).2], .bool (!L.isEmpty)]) ∧ StX w' B S' m L.tail ∧ Keeps S w w' ∧ (∀ k, S' k → S k ∨ w.heap.size ≤ k) := by
  have HT8 := Lib.hid (stp_tail h.1)
  obtain ⟨hst, hm, A, cap, hL, hS⟩ := h
  obtain ⟨px, pc, hx0⟩ : ∃ px pc, L[0]? = some (px, pc) := by
    cases L with
    | nil => exact absurd rfl hne
    | cons p r => exact ⟨p.1, p.2, rfl⟩
  obtain ⟨N, hN⟩ : ∃ N, L.length = N := ⟨_, rfl⟩
  have hpos : 0 < N := by rw [← hN]; cases L with
    | nil => exact absurd rfl hne
    | cons p r => simp
  obtain ⟨nn, hnn⟩ : ∃ nn, N - 1 = nn := ⟨_, rfl⟩
  have HF : Hid (firP L = (px, pc) ∧ (!L.isEmpty) = true ∧ L.tail.length = nn ∧ sumP L.tail = sumP L - pc ∧ 0 ≤ pc) := Lib.hid (by
    have hok := ok_pos hst.ok
    cases L with
    | nil => exact absurd rfl hne
    | cons p r =>
      obtain rfl := Option.some.inj hx0
      refine ⟨rfl, rfl, ?_, ?_, hok (px, pc) (by simp)⟩
      · rw [List.length_cons] at hN; show r.length = nn; omega
      · rw [sumP_cons]; show sumP r = pc + sumP r - pc; omega)
  rw [HF.out.1, HF.out.2.1]
  obtain ⟨g, off, rfl, hbl, d0, d1⟩ := hL.row.pairs.at_ 0 _ hx0
  simp only [Nat.zero_mul, Nat.add_zero] at d0 d1
  have hfit := hL.row.fit
  have htl : L.drop 1 = L.tail := List.drop_one
  have hpt : Pairs w (some ⟨g, off + 2, none⟩) L.tail := by have := hL.row.pairs.shift 1; rw [htl] at this; exact this
  have hblk : ∃ cs, w.heap[g]? = some (.cells cs 114 (0, 0)) := by
    rcases hL.row.blk with ⟨e, _⟩ | ⟨g', off', cs, e, hb⟩
    · cases e
    · obtain ⟨rfl, rfl, _⟩ := Addr.mk.inj (Option.some.inj e)
      exact ⟨cs, hb⟩
  obtain ⟨cs, hcs⟩ := hblk
  have hs0 := sumP_tail (ok_pos hst.ok)
  have hs1 := hst.sum
  obtain ⟨t, ht⟩ : ∃ t, sumP L = t := ⟨_, rfl⟩
  have h2 := HF.out.2.2.2.1
  have h3 := HF.out.2.2.2.2
  rw [ht] at hs0 hs1 h2
  rw [h2] at hs0
  rw [ht, hN] at hL
  have ut : IntKind.u64.wrap (t - pc) = t - pc := by rw [IntKind.wrap_u64]; omega
  have hBw := hL.lt
  have hBg : g ≠ B := hL.ne rfl
  have HA1 : Hid (∀ k, blkA (some ⟨g, off + 2, none⟩) = some k → blkA (some ⟨g, off, none⟩) = some k) := Lib.hid fun k hk => hk
  have HL := Lib.hid hL
  have HS := Lib.hid hS
  have HM := Lib.hid hm
  have HR1 : Hid (cap ≠ 1 → Slab w (some ⟨g, off + 2, none⟩) (cap - 1) L.tail) := Lib.hid fun hc => ⟨hpt, by rw [List.length_tail]; omega, Or.inr ⟨g, off + 2, cs, rfl, hcs⟩, (fun g' off' cs' e hg' => by
    obtain ⟨rfl, rfl, _⟩ := Addr.mk.inj (Option.some.inj e)
    have hrm := HL.out.row.room _ _ _ rfl hg'
    omega), by have := HL.out.row.capm; omega⟩
  have HR0 : Hid (N = 1 → Slab w (some ⟨g, off, none⟩) 0 L.tail ∧ L.tail.length = 0) := Lib.hid fun hc => by
    have h1 : L.tail.length = 0 := by rw [List.length_tail]; omega
    have h2 : L.tail = [] := List.eq_nil_of_length_eq_zero h1
    rw [h2]
    exact ⟨⟨⟨fun p h => (by cases h), fun i p h => by simp at h⟩, by simp, Or.inr ⟨g, off, cs, rfl, hcs⟩, (fun g' off' cs' e hg' => by
      obtain ⟨rfl, rfl, _⟩ := Addr.mk.inj (Option.some.inj e)
      have hrm := HL.out.row.room _ _ _ rfl hg'
      omega), by omega⟩, rfl⟩
  have kk : (0 : Int) < N := by omega
  have kk1 : ((N : Int) == 0) = false := by simp; omega
  obtain ⟨w2, hw2⟩ : ∃ w2, (w.alloc (.cells #[.int .i64 0, .int .u64 0] 114)) = w2 := ⟨_, rfl⟩
  have b2 : Below w.heap.size w w2 := by rw [← hw2]; exact (Below.refl _ _).alloc (Nat.le_refl _) _
  have hO2 : OwnsV w2 (some ⟨B, 0, none⟩) (some ⟨g, off, none⟩) N cap := owns_at (cell_later b2 hL.c1)
  have H := Lib.hid (slen_of _ _ _ _ _ hO2)
  have q1 := cell_later b2 hL.c1
  have e0 := cell_later b2 d0
  have e1 := cell_later b2 d1
  have hz2 : w2.heap.size = w.heap.size + 1 := by rw [← hw2]; simp
  have B2 := Lib.hid b2
  have f1 : w2.frozen? ⟨B, 1, none⟩ = false := (hL.call b2).f 1
  have HW2 : Hid (Two w2 w.heap.size (.int .i64 0) (.int .u64 0)) := Lib.hid (by rw [← hw2]; exact Two.new _ _ _ _)
  have hN9 : N ≤ 900 := by omega
  have HN := Lib.hid hnn
  have HSUM := Lib.hid h2
  have hcap : N ≤ cap := by omega
  have hNN : (nn : Int) ≤ 900 := by omega
  clear hst hm hx0 hN hL hS hne hl hnn hfit htl hpt hcs ht h2 h3 hO2 b2 d0 d1 hbl
  go_enter Tryz.func131, Tryz.ntmps131
  go_wp2_with fail
  clear hw2
  refine H.out.mono ?_
  rintro e w3 ⟨rfl, rfl⟩
  by_cases hc1 : cap = 1
  · subst hc1
    obtain rfl : N = 1 := by omega
    go_wp2_with fail
    obtain ⟨X, hX, hLf, x2, xf, p0, p1, hTw⟩ := left_facts HL.out B2.out hz2 HW2.out (.slice (some ⟨g, off, none⟩) 0 0) px pc
    rw [hX]
    clear hX
    have HLF := Lib.hid hLf
    have HTW := Lib.hid hTw
    clear hLf hTw e0 e1 q1
    go_region
    obtain ⟨Y, hY, y0, y1, ⟨j0, j1, j2, j3⟩, q5, q6, hLY⟩ := left_done HLF.out hBw p0 p1 HTW.out (t - pc)
    rw [hY]
    have Q5 := Lib.hid q5
    have Q6 := Lib.hid q6
    have HLY := Lib.hid hLY
    clear hY q5 q6 hLY
    go_wp2_with fail
    refine bodyPost_ret (v := .tuple #[.agg #[.int .i64 px, .int .u64 pc], .bool true]) (by simp [results, Tryz.results131, go_sem, Q5.out, Q6.out]) rfl ?_
    obtain ⟨S', hs1, hs2, hs3⟩ := left_end HL.out HS.out (fun k hk => hk) (HR0.out trivial).1 (HR0.out trivial).2 HT8.out HM.out HSUM.out HLY.out
    exact ⟨S', rfl, hs1, hs2, hs3⟩
  · go_wp2_with fail
    obtain ⟨X, hX, hLf, x2, xf, p0, p1, hTw⟩ := left_facts HL.out B2.out hz2 HW2.out (.slice (some ⟨g, off + 2, none⟩) (N - 1) (cap - 1)) px pc
    rw [hX]
    clear hX
    have HLF := Lib.hid hLf
    have HTW := Lib.hid hTw
    clear hLf hTw e0 e1 q1
    go_region
    obtain ⟨Y, hY, y0, y1, ⟨j0, j1, j2, j3⟩, q5, q6, hLY⟩ := left_done HLF.out hBw p0 p1 HTW.out (t - pc)
    rw [hY]
    have Q5 := Lib.hid q5
    have Q6 := Lib.hid q6
    have HLY := Lib.hid hLY
    clear hY q5 q6 hLY
    go_wp2_with fail
    refine bodyPost_ret (v := .tuple #[.agg #[.int .i64 px, .int .u64 pc], .bool true]) (by simp [results, Tryz.results131, go_sem, Q5.out, Q6.out]) rfl ?_
    obtain ⟨S', hs1, hs2, hs3⟩ := left_end HL.out HS.out HA1.out (HR1.out hc1) (HF.out.2.2.1.trans HN.out.symm) HT8.out HM.out HSUM.out HLY.out
    exact ⟨S', rfl, hs1, hs2, hs3⟩

set_option maxRecDepth 100000 in
set_option maxHeartbeats 4000000 in
theorem slast_some (w : World) (B : Nat) (S : Nat → Prop) (m : Int) (L : List PairV) (h : StX w B S m L) (hl : L.length ≤ 900) (hne : L ≠ []) :
    Calls Tryz.prog 134 #[.pointer (some ⟨B, 0, none⟩)] w fun e w' => ∃ S', e = .returned (.tuple #[.agg #[.int .i64 (lasP L).1, .int .u64 (lasP L).2], .bool (!L.isEmpty)]) ∧ StX w' B S' m L.dropLast ∧ Keeps S w w' ∧ (∀ k, S' k → S k ∨ w.heap.size ≤ k) := by
  have HT8 := Lib.hid (stp_front h.1)
  obtain ⟨hst, hm, A, cap, hL, hS⟩ := h
  obtain ⟨N, hN⟩ : ∃ N, L.length = N := ⟨_, rfl⟩
  have hpos : 0 < N := by rw [← hN]; cases L with
    | nil => exact absurd rfl hne
    | cons p r => simp
  obtain ⟨nn, hnn⟩ : ∃ nn, N - 1 = nn := ⟨_, rfl⟩
  obtain ⟨px, pc, hx0⟩ : ∃ px pc, L[nn]? = some (px, pc) := by
    have h1 : nn < L.length := by omega
    exact ⟨L[nn].1, L[nn].2, List.getElem?_eq_getElem h1⟩
  have htk : L.dropLast = L.take nn := by rw [List.dropLast_eq_take, hN, hnn]
  have HF : Hid (lasP L = (px, pc) ∧ (!L.isEmpty) = true ∧ L.dropLast.length = nn ∧ sumP L.dropLast = sumP L - pc ∧ 0 ≤ pc) := Lib.hid (by
    have hok := ok_pos hst.ok
    refine ⟨?_, ?_, ?_, ?_, hok (px, pc) (List.mem_of_getElem? hx0)⟩
    · unfold lasP; rw [List.getLast?_eq_getElem?, hN, hnn, hx0]; rfl
    · cases L with
      | nil => exact absurd rfl hne
      | cons p r => rfl
    · rw [htk, List.length_take]; omega
    · have h1 := sum_step' hx0
      rw [List.take_of_length_le (by omega)] at h1
      rw [htk, h1]
      show _ = sumP (L.take nn) + pc - pc
      omega)
  rw [HF.out.1, HF.out.2.1]
  obtain ⟨g, off, rfl, hbl, d0, d1⟩ := hL.row.pairs.at_ nn _ hx0
  simp only at d0 d1
  have hfit := hL.row.fit
  have hpt : Pairs w (some ⟨g, off, none⟩) L.dropLast := by rw [htk]; exact pairs_low (hi := L.drop nn) (by rw [List.take_append_drop]; exact hL.row.pairs)
  have hs0 := sumP_take (L := L) nn (ok_pos hst.ok)
  rw [← htk] at hs0
  have hs1 := hst.sum
  obtain ⟨t, ht⟩ : ∃ t, sumP L = t := ⟨_, rfl⟩
  have h2 := HF.out.2.2.2.1
  have h3 := HF.out.2.2.2.2
  rw [ht] at hs0 hs1 h2
  rw [h2] at hs0
  rw [ht, hN] at hL
  have ut : IntKind.u64.wrap (t - pc) = t - pc := by rw [IntKind.wrap_u64]; omega
  have hBw := hL.lt
  have hBg : g ≠ B := hL.ne rfl
  have HL := Lib.hid hL
  have HS := Lib.hid hS
  have HM := Lib.hid hm
  have HR1 : Hid (Slab w (some ⟨g, off, none⟩) cap L.dropLast) := Lib.hid ⟨hpt, by have := HF.out.2.2.1; omega, hL.row.blk, HL.out.row.room, HL.out.row.capm⟩
  have kk : (0 : Int) < N := by omega
  have kk1 : ((N : Int) == 0) = false := by simp; omega
  have u1 : IntKind.i64.wrap ((N : Int) - 1) = (nn : Int) := by rw [IntKind.wrap_i64]; omega
  have u2 : (N : Int) - 1 = (nn : Int) := by omega
  have u3 : (nn : Int) < (N : Int) := by omega
  have u4 : (0 : Int) ≤ (nn : Int) := by omega
  have u5 : IntKind.i64.wrap (nn : Int) = (nn : Int) := by rw [IntKind.wrap_i64]; omega
  have u6 : nn ≤ cap := by omega
  have u7 : (nn : Int) ≤ (cap : Int) := by omega
  obtain ⟨w2, hw2⟩ : ∃ w2, (w.alloc (.cells #[.int .i64 0, .int .u64 0] 114)) = w2 := ⟨_, rfl⟩
  have b2 : Below w.heap.size w w2 := by rw [← hw2]; exact (Below.refl _ _).alloc (Nat.le_refl _) _
  have hO2 : OwnsV w2 (some ⟨B, 0, none⟩) (some ⟨g, off, none⟩) N cap := owns_at (cell_later b2 hL.c1)
  have H := Lib.hid (slen_of _ _ _ _ _ hO2)
  have q1 := cell_later b2 hL.c1
  have e0 := cell_later b2 d0
  have e1 := cell_later b2 d1
  have hz2 : w2.heap.size = w.heap.size + 1 := by rw [← hw2]; simp
  have B2 := Lib.hid b2
  have f1 : w2.frozen? ⟨B, 1, none⟩ = false := (hL.call b2).f 1
  have HW2 : Hid (Two w2 w.heap.size (.int .i64 0) (.int .u64 0)) := Lib.hid (by rw [← hw2]; exact Two.new _ _ _ _)
  have hN9 : N ≤ 900 := by omega
  have HSUM := Lib.hid h2
  clear hst hm hx0 hN hL hS hne hl hnn hfit hpt ht h2 h3 hO2 b2 d0 d1 hbl htk
  go_enter Tryz.func134, Tryz.ntmps134
  go_wp2_with fail
  clear hw2
  refine H.out.mono ?_
  rintro e w3 ⟨rfl, rfl⟩
  go_wp2_with fail
  obtain ⟨X, hX, hLf, x2, xf, p0, p1, hTw⟩ := left_facts HL.out B2.out hz2 HW2.out (.slice (some ⟨g, off, none⟩) nn cap) px pc
  rw [hX]
  clear hX
  have HLF := Lib.hid hLf
  have HTW := Lib.hid hTw
  clear hLf hTw e0 e1 q1
  go_region
  obtain ⟨Y, hY, y0, y1, ⟨j0, j1, j2, j3⟩, q5, q6, hLY⟩ := left_done HLF.out hBw p0 p1 HTW.out (t - pc)
  rw [hY]
  have Q5 := Lib.hid q5
  have Q6 := Lib.hid q6
  have HLY := Lib.hid hLY
  clear hY q5 q6 hLY
  go_wp2_with fail
  refine bodyPost_ret (v := .tuple #[.agg #[.int .i64 px, .int .u64 pc], .bool true]) (by simp [results, Tryz.results134, go_sem, Q5.out, Q6.out]) rfl ?_
  obtain ⟨S', hs1, hs2, hs3⟩ := left_end HL.out HS.out (fun k hk => hk) HR1.out HF.out.2.2.1 HT8.out HM.out HSUM.out HLY.out
  exact ⟨S', rfl, hs1, hs2, hs3⟩

theorem empty_len {L : List PairV} (h : L = []) : L.length = 0 := by rw [h]; rfl

theorem sfirst_any (w : World) (B : Nat) (S : Nat → Prop) (m : Int) (L : List PairV) (h : StX w B S m L) (hl : L.length ≤ 900) :
    Calls Tryz.prog 131 #[.pointer (some ⟨B, 0, none⟩)] w fun e w' => ∃ S', e = .returned (.tuple #[.agg #[.int .i64 (firP L).1, .int .u64 (firP L).2], .bool (!L.isEmpty)]) ∧ StX w' B S' m L.tail ∧ Keeps S w w' ∧ (∀ k, S' k → S k ∨ w.heap.size ≤ k) := by
  by_cases hne : L = []
  · subst hne
    have hX := h
    obtain ⟨hst, hm, A, cap, hL, hS⟩ := h
    refine (sfirst_none w _ A cap (owns_at hL.c1)).mono ?_
    rintro e w1 ⟨rfl, b1⟩
    exact ⟨S, rfl, stx_keep _ _ _ _ _ _ hX (fun k hk => b1.block k (stx_lt _ _ _ _ _ hX k hk)), Keeps.of_below b1, fun k hk => Or.inl hk⟩
  · exact sfirst_some w B S m L h hl hne

theorem slast_any (w : World) (B : Nat) (S : Nat → Prop) (m : Int) (L : List PairV) (h : StX w B S m L) (hl : L.length ≤ 900) :
    Calls Tryz.prog 134 #[.pointer (some ⟨B, 0, none⟩)] w fun e w' => ∃ S', e = .returned (.tuple #[.agg #[.int .i64 (lasP L).1, .int .u64 (lasP L).2], .bool (!L.isEmpty)]) ∧ StX w' B S' m L.dropLast ∧ Keeps S w w' ∧ (∀ k, S' k → S k ∨ w.heap.size ≤ k) := by
  by_cases hne : L = []
  · subst hne
    have hX := h
    obtain ⟨hst, hm, A, cap, hL, hS⟩ := h
    refine (slast_none w _ A cap (owns_at hL.c1)).mono ?_
    rintro e w1 ⟨rfl, b1⟩
    exact ⟨S, rfl, stx_keep _ _ _ _ _ _ hX (fun k hk => b1.block k (stx_lt _ _ _ _ _ hX k hk)), Keeps.of_below b1, fun k hk => Or.inl hk⟩
  · exact slast_some w B S m L h hl hne
end Go.Proofs.YtcijflakldggaaaGreat

namespace Go.Proofs.YtcijflakldggaaaGreat
set_option linter.unusedVariables false
set_option linter.unusedSimpArgs false
open Go.RowKit

theorem same_below {P : Ending → Prop} {w : World} {e : Ending} {w' : World} (h : P e ∧ w = w') : P e ∧ Below w.heap.size w w' := by
  obtain ⟨h1, rfl⟩ := h
  exact ⟨h1, Below.refl _ _⟩
theorem strip_does : StripDoes StX where
  keep := stx_keep
  lt := stx_lt
  stp := fun w B S m L h => h.1
  cells := stx_cells
  new := fun w m h1 h2 => snew_any w m h1 h2
  bad := fun w m h1 h2 => sbad_any w m h1 h2
  add := fun w B S m L i c h hl hi hc => sadd_any w B S m L i c h hl hi hc
  first := fun w B S m L h hl => sfirst_any w B S m L h hl
  last := fun w B S m L h hl => slast_any w B S m L h hl
  total := fun w B S m L h hl => by
    obtain ⟨hst, hm, A, cap, hL, hS⟩ := h
    exact (stotal_at w B _ hL.c2).mono fun e w' => same_below (P := fun e => e = _)
  len := fun w B S m L h hl => by
    obtain ⟨hst, hm, A, cap, hL, hS⟩ := h
    exact (slen_of w _ A _ cap (owns_at hL.c1)).mono fun e w' => same_below (P := fun e => e = _)
  ends := fun w B S m L h hl => by
    obtain ⟨hst, hm, A, cap, hL, hS⟩ := h
    by_cases hne : L = []
    · subst hne
      exact sends_none w _ A cap (owns_at hL.c1)
    · have hpos : 0 < L.length := by cases L with
        | nil => exact absurd rfl hne
        | cons p r => simp
      obtain ⟨px, pc, hx0⟩ : ∃ px pc, L[0]? = some (px, pc) := ⟨L[0].1, L[0].2, List.getElem?_eq_getElem hpos⟩
      obtain ⟨qx, qc, hx1⟩ : ∃ qx qc, L[L.length - 1]? = some (qx, qc) := ⟨L[L.length - 1].1, L[L.length - 1].2, List.getElem?_eq_getElem (by omega)⟩
      have h1 : (firP L).1 = px := by unfold firP; rw [List.head?_eq_getElem?, hx0]; rfl
      have h2 : (lasP L).1 = qx := by unfold lasP; rw [List.getLast?_eq_getElem?, hx1]; rfl
      have h3 : (!L.isEmpty) = true := by cases L with
        | nil => exact absurd rfl hne
        | cons p r => rfl
      rw [h1, h2, h3]
      exact sends_of w _ A cap L.length px pc qx qc L (owns_at hL.c1) hL.row.pairs rfl hpos (by omega) hx0 hx1
  pairs := fun w B S m L h hl => by
    obtain ⟨hst, hm, A, cap, hL, hS⟩ := h
    exact spairs_of w _ A cap L (owns_at hL.c1) hL.row (by omega)
  find := fun w B S m L t h hl ht => by
    obtain ⟨hst, hm, A, cap, hL, hS⟩ := h
    exact sfind_of w _ A cap L t _ _ (owns_at hL.c1) hL.row.pairs (by omega) ht (by have := hst.sum; omega) rfl rfl
theorem strip_nil : StripNil where
  add := fun w i c hi hc => sadd_none w i c hi hc
  first := fun w => sfirst_none w none none 0 (owns_none w)
  last := fun w => slast_none w none none 0 (owns_none w)
  total := fun w => (stotal_none w).mono fun e w' => same_below (P := fun e => e = _)
  len := fun w => (slen_of w none none 0 0 (owns_none w)).mono fun e w' => same_below (P := fun e => e = _)
  ends := fun w => sends_none w none none 0 (owns_none w)
  pairs := fun w => spairs_none w
  find := fun w t ht => sfind_of w none none 0 [] t 0 false (owns_none w) (Pairs.nil w) (by simp) ht (by decide) (by unfold findP; split <;> rfl) (by unfold findP; split <;> rfl)
end Go.Proofs.YtcijflakldggaaaGreat

/-
  Package lowcap does what the laws ask of it.
-/
namespace Go.Proofs.YtcijflakldggaaaGreat
set_option linter.unusedVariables false
set_option linter.unusedSimpArgs false
open Go.RowKit Go.Shelf

/-- A lowcap over such strips. -/
abbrev LwX := LowX StX
theorem low_does : LowDoes LwX where
  keep := fun w w' B S m K T h hk => ⟨h.1, raw_keep strip_does h.2 hk⟩
  lt := fun w B S m K T h => raw_lt strip_does h.2
  lwp := fun w B S m K T h => h.1
  new := fun w m h1 h2 => (lnew_any strip_does w m h1 h2).mono fun e w' ⟨B, S, he, hr, hS, hb⟩ => ⟨B, S, he, ⟨Lwp.nil h1 h2, hr⟩, hS, hb⟩
  bad := fun w m hm hb => lbad_any strip_does w m hm hb
  add := fun w B S m K T i c h hl hi hc => ladd_any strip_does w B S m K T i c h hl hi hc
  merge := fun w B S m K T B' S' K' T' h h' hd hl hl' hs => ((callsIn_wide (n := 8)).1 (lmerge_in strip_does w B S m K T B' S' K' T' h h' hd hl hl' hs)).mono fun e w' ⟨he, S2, hr, hk, hS⟩ => ⟨S2, he, ⟨h.1.join h'.1 hs, hr⟩, hk, hS⟩
  other := fun w B S m K T B' S' m' K' T' h h' hm => by
    obtain ⟨_, C, S0, hb, _⟩ := h
    obtain ⟨_, C', S0', hb', _⟩ := h'
    exact lmerge_other w B B' m m' (three_cells hb).1 (three_cells hb').1 hm
  mnil := fun w B S m K T h => lmerge_none w B
  total := fun w B S m K T h hl => ltotal_raw strip_does h (by omega)
  lost := fun w B S m K T h => by
    obtain ⟨_, C, S0, hb, _⟩ := h
    exact (llost_at w B _ (three_cells hb).2.2).mono fun e w' => same_below (P := fun e => e = _)
  pairs := fun w B S m K T h hl => by
    obtain ⟨_, C, S0, hb, hst, _⟩ := h
    refine lpairs_of w _ _ _ (ownsl_at (three_cells hb).2.1) (fun e w' h => ?_) (strip_does.pairs _ _ _ _ _ hst (by omega))
    obtain ⟨v, rfl, ho, _⟩ := h
    obtain ⟨A, cap, rfl⟩ := ho.form
    exact ⟨A, _, cap, rfl⟩
  most := fun w B S m K T h => by
    obtain ⟨_, C, S0, hb, _⟩ := h
    exact (lmost_at w B _ (three_cells hb).1).mono fun e w' => same_below (P := fun e => e = _)
  find := fun w B S m K T t h hl ht => by
    obtain ⟨hp, C, S0, hb, hst, _⟩ := h
    have h1 := hp.sum
    have h2 := hp.top
    have h3 := hp.pos
    unfold Word at ht
    refine lfind_of w _ _ (T - sumP K) t _ _ (ownsl_at (three_cells hb).2.1) (lostsl_at (three_cells hb).2.2) ⟨by omega, by omega⟩ ht (fun hle => by unfold findL; rw [if_pos hle]; exact ⟨rfl, rfl⟩) (fun hlt => ?_)
    have e : findL K (T - sumP K) t = findP K (t - (T - sumP K)) := by unfold findL; rw [if_neg (by omega)]
    rw [e]
    exact strip_does.find _ _ _ _ _ _ hst (by omega) ⟨by omega, by omega⟩
  load := fun w m A cap L l m1 m2 hP hl hw hb => (lload_any strip_does w m A cap L l m1 m2 hP hl hw hb).mono fun e w' ⟨B, S, he, hr, hS, hbb⟩ => by
    obtain ⟨h1, h2, h3, h4, h5⟩ := load_true hb
    refine ⟨B, S, he, ⟨⟨h1, hP.ok, ?_, by have := hw.1; omega, h4, m1, m2⟩, ?_⟩, hS, hbb⟩
    · have := take_kept (k := L.length) (m := m) (by omega) h1 h5
      rwa [List.take_length] at this
    · rw [show sumP L + l - sumP L = l by omega]
      exact hr
  unfit := fun w m A cap L l m1 m2 hP hl hw hb => lunfit_any strip_does w m A cap L l m1 m2 hP hl hw hb

set_option maxHeartbeats 400000 in
theorem ladd_nil (w : World) (i c : Int) (hi : I64 i) (hc : Word c) : Calls Tryz.prog 169 #[.pointer none, .int .i64 i, .int .u64 c] w fun e w' => e = .returned (.int .i64 2) ∧ Below w.heap.size w w' := by
  go_enter Tryz.func169, Tryz.ntmps169
  go_wp2_with fail
  go_ret
  exact ⟨rfl, Below.refl _ _⟩

theorem low_nil : LowNil where
  add := ladd_nil
  merge := lmerge_nil
  total := fun w => ltotal_of w none none 0 0 (ownsl_none w) (lostsl_none w) (strip_nil.total w) (by decide) (by decide) (by decide)
  lost := fun w => (llost_none w).mono fun e w' => same_below (P := fun e => e = _)
  pairs := fun w => lpairs_of w none none _ (ownsl_none w) (fun e w' h => by
    obtain ⟨A, cap, rfl, _⟩ := h
    exact ⟨A, 0, cap, rfl⟩) (strip_nil.pairs w)
  most := fun w => (lmost_none w).mono fun e w' => same_below (P := fun e => e = _)
  find := fun w t ht => lfind_of w none none 0 t 0 false (ownsl_none w) (lostsl_none w) ⟨by decide, by decide⟩ ht (fun _ => ⟨rfl, rfl⟩) (fun h => by
    rw [Int.sub_zero]
    exact strip_nil.find w t ht)
end Go.Proofs.YtcijflakldggaaaGreat

/-
  How package highcap lays a highcap in memory; walks: own, Lost, Most, Total, Pairs, At, Find, under, Below, of a highcap and of a nil one.
  Walks: package highcap: Below; drop, put of a highcap.
-/
namespace Go.Proofs.YtcijflakldggaaaGreat
set_option linter.unusedVariables false
set_option linter.unusedSimpArgs false
open Go.RowKit

/-- At block B lies a highcap of m indexes that keeps K, l being lost; S are its blocks. -/
def HighRaw (St : World → Nat → (Nat → Prop) → Int → List PairV → Prop) (w : World) (B : Nat) (S : Nat → Prop) (m : Int) (K : List PairV) (l : Int) : Prop :=
  ∃ C S0, w.heap[B]? = some (.cells #[.int .i64 m, .pointer (some ⟨C, 0, none⟩), .int .u64 l] 179 (0, 0)) ∧ St w C S0 m K ∧ ¬ S0 B ∧ ∀ k, S k ↔ k = B ∨ S0 k
section
variable {St : World → Nat → (Nat → Prop) → Int → List PairV → Prop} (D : StripDoes St)
include D
theorem hraw_lt {w : World} {B : Nat} {S : Nat → Prop} {m l : Int} {K : List PairV} (h : HighRaw St w B S m K l) : ∀ k, S k → k < w.heap.size := by
  obtain ⟨C, S0, hb, hst, hn, hS⟩ := h
  intro k hk
  rcases (hS k).1 hk with rfl | h
  · exact lt_of_block hb
  · exact D.lt _ _ _ _ _ hst k h
theorem hraw_keep {w w' : World} {B : Nat} {S : Nat → Prop} {m l : Int} {K : List PairV} (h : HighRaw St w B S m K l) (hk : ∀ k, S k → w'.heap[k]? = w.heap[k]?) : HighRaw St w' B S m K l := by
  obtain ⟨C, S0, hb, hst, hn, hS⟩ := h
  exact ⟨C, S0, (hk B ((hS B).2 (Or.inl rfl))).trans hb, D.keep _ _ _ _ _ _ hst (fun k h => hk k ((hS k).2 (Or.inr h))), hn, hS⟩
theorem hraw_call {w w' : World} {B : Nat} {S : Nat → Prop} {m l : Int} {K : List PairV} (h : HighRaw St w B S m K l) (hb : Below w.heap.size w w') : HighRaw St w' B S m K l :=
  hraw_keep D h fun k hk => hb.block k (hraw_lt D h k hk)
theorem hraw_cells {w : World} {B : Nat} {S : Nat → Prop} {m l : Int} {K : List PairV} (h : HighRaw St w B S m K l) : ∀ k, S k → ∃ cs t z, w.heap[k]? = some (.cells cs t z) := by
  obtain ⟨C, S0, hb, hst, hn, hS⟩ := h
  intro k hk
  rcases (hS k).1 hk with rfl | h
  · exact ⟨_, _, _, hb⟩
  · exact D.cells _ _ _ _ _ hst k h
/-- The lost ones are counted anew. -/
theorem hraw_lost {w : World} {B : Nat} {S : Nat → Prop} {m l : Int} {K : List PairV} (h : HighRaw St w B S m K l) (l' : Int) : HighRaw St (w.setCell ⟨B, 2, none⟩ (.int .u64 l')) B S m K l' := by
  obtain ⟨C, S0, hb, hst, hn, hS⟩ := h
  refine ⟨C, S0, set_cells8 hb 2 _, D.keep _ _ _ _ _ _ hst (fun k hk => Below.heap_setCell _ _ _ _ (by show k ≠ B; rintro rfl; exact hn hk)), hn, hS⟩
end
theorem hraw_B {St : World → Nat → (Nat → Prop) → Int → List PairV → Prop} {w : World} {B : Nat} {S : Nat → Prop} {m l : Int} {K : List PairV} (h : HighRaw St w B S m K l) : S B := by
  obtain ⟨C, S0, hb, hst, hn, hS⟩ := h
  exact (hS B).2 (Or.inl rfl)

set_option maxHeartbeats 400000 in
theorem hlown_at (w : World) (B : Nat) (v : Value) (h : w.cell? ⟨B, 1, none⟩ = some v) :
    Calls Tryz.prog 119 #[.pointer (some ⟨B, 0, none⟩)] w fun e w' => e = .returned v ∧ w = w' := by
  go_enter Tryz.func119, Tryz.ntmps119
  go_wp2_with fail
  go_ret
  exact ⟨rfl, rfl⟩
set_option maxHeartbeats 400000 in
theorem hlown_none (w : World) :
    Calls Tryz.prog 119 #[.pointer none] w fun e w' => e = .returned (.pointer none) ∧ w = w' := by
  go_enter Tryz.func119, Tryz.ntmps119
  go_wp2_with fail
  go_ret
  exact ⟨rfl, rfl⟩

set_option maxHeartbeats 400000 in
theorem hllost_at (w : World) (B : Nat) (l : Int) (h : w.cell? ⟨B, 2, none⟩ = some (.int .u64 l)) :
    Calls Tryz.prog 118 #[.pointer (some ⟨B, 0, none⟩)] w fun e w' => e = .returned (.int .u64 l) ∧ w = w' := by
  go_enter Tryz.func118, Tryz.ntmps118
  go_wp2_with fail
  go_ret
  exact ⟨rfl, rfl⟩
set_option maxHeartbeats 400000 in
theorem hllost_none (w : World) :
    Calls Tryz.prog 118 #[.pointer none] w fun e w' => e = .returned (.int .u64 0) ∧ w = w' := by
  go_enter Tryz.func118, Tryz.ntmps118
  go_wp2_with fail
  go_ret
  exact ⟨rfl, rfl⟩

set_option maxHeartbeats 400000 in
theorem hlmost_at (w : World) (B : Nat) (m : Int) (h : w.cell? ⟨B, 0, none⟩ = some (.int .i64 m)) :
    Calls Tryz.prog 177 #[.pointer (some ⟨B, 0, none⟩)] w fun e w' => e = .returned (.int .i64 m) ∧ w = w' := by
  go_enter Tryz.func177, Tryz.ntmps177
  go_wp2_with fail
  go_ret
  exact ⟨rfl, rfl⟩
set_option maxHeartbeats 400000 in
theorem hlmost_none (w : World) :
    Calls Tryz.prog 177 #[.pointer none] w fun e w' => e = .returned (.int .i64 0) ∧ w = w' := by
  go_enter Tryz.func177, Tryz.ntmps177
  go_wp2_with fail
  go_ret
  exact ⟨rfl, rfl⟩

set_option maxHeartbeats 400000 in
theorem hlgap_any (a b : Int) (ha : I64 a) (hb : I64 b) (w : World) :
    Calls Tryz.prog 126 #[.int .i64 a, .int .i64 b] w fun e w' => e = .returned (.int .u64 (gap a b)) ∧ w = w' := by
  have H := Lib.hid (gap_any a b ha hb)
  obtain ⟨a0, a1⟩ := ha
  obtain ⟨b0, b1⟩ := hb
  go_enter Tryz.func126, Tryz.ntmps126
  go_wp2_with fail
  refine (H.out _).mono ?_
  rintro e w2 ⟨rfl, rfl⟩
  go_wp2_with fail
  go_ret
  exact ⟨rfl, rfl⟩

/-- What a highcap, or a nil one, has of its own: a strip, or none. -/
def OwnsH (w : World) (p q : Option Addr) : Prop := ∀ w', Below w.heap.size w w' → Calls Tryz.prog 119 #[.pointer p] w' fun e w'' => e = .returned (.pointer q) ∧ w' = w''
theorem ownsh_at {w : World} {B : Nat} {q : Option Addr} (h : w.cell? ⟨B, 1, none⟩ = some (.pointer q)) : OwnsH w (some ⟨B, 0, none⟩) q := fun w' hb => hlown_at w' B _ (cell_later hb h)
theorem ownsh_none (w : World) : OwnsH w none none := fun w' _ => hlown_none w'
def LostsH (w : World) (p : Option Addr) (l : Int) : Prop := ∀ w', Below w.heap.size w w' → Calls Tryz.prog 118 #[.pointer p] w' fun e w'' => e = .returned (.int .u64 l) ∧ w' = w''
theorem lostsh_at {w : World} {B : Nat} {l : Int} (h : w.cell? ⟨B, 2, none⟩ = some (.int .u64 l)) : LostsH w (some ⟨B, 0, none⟩) l := fun w' hb => hllost_at w' B _ (cell_later hb h)
theorem lostsh_none (w : World) : LostsH w none 0 := fun w' _ => hllost_none w'

set_option maxHeartbeats 400000 in
theorem hltotal_of (w : World) (p q : Option Addr) (l s : Int) (h : OwnsH w p q) (hl : LostsH w p l) (hs : Calls Tryz.prog 112 #[.pointer q] w fun e w' => e = .returned (.int .u64 s) ∧ Below w.heap.size w w') (l0 : 0 ≤ l) (s0 : 0 ≤ s) (hb : l + s < 18446744073709551616) :
    Calls Tryz.prog 102 #[.pointer p] w fun e w' => e = .returned (.int .u64 (l + s)) ∧ Below w.heap.size w w' := by
  have H := Lib.hid h
  have HL := Lib.hid hl
  have HS := Lib.hid hs
  clear h hl hs
  go_enter Tryz.func102, Tryz.ntmps102
  go_wp2_with fail
  refine (HL.out _ (Below.refl _ _)).mono ?_
  rintro e w2 ⟨rfl, rfl⟩
  go_wp2_with fail
  refine (H.out _ (Below.refl _ _)).mono ?_
  rintro e w3 ⟨rfl, rfl⟩
  go_wp2_with fail
  refine HS.out.mono ?_
  rintro e w4 ⟨rfl, b4⟩
  go_wp2_with fail
  go_ret
  exact ⟨rfl, b4⟩

set_option maxHeartbeats 400000 in
theorem hlpairs_of (w : World) (p q : Option Addr) (R : Ending → World → Prop) (h : OwnsH w p q) (hR : ∀ e w', R e w' → ∃ A n cap, e = .returned (.slice A n cap)) (hs : Calls Tryz.prog 114 #[.pointer q] w R) :
    Calls Tryz.prog 103 #[.pointer p] w R := by
  have H := Lib.hid h
  have HS := Lib.hid hs
  have HR := Lib.hid hR
  clear h hs hR
  go_enter Tryz.func103, Tryz.ntmps103
  go_wp2_with fail
  refine (H.out _ (Below.refl _ _)).mono ?_
  rintro e w3 ⟨rfl, rfl⟩
  go_wp2_with fail
  refine HS.out.mono ?_
  rintro e w4 h4
  obtain ⟨A, n, cap, rfl⟩ := HR.out _ _ h4
  have H4 := Lib.hid h4
  clear h4
  go_wp2_with fail
  exact H4.out

set_option maxHeartbeats 400000 in
theorem hlfind_of (w : World) (p q : Option Addr) (t x : Int) (fb : Bool) (h : OwnsH w p q) (ht : Word t)
    (hs : Calls Tryz.prog 173 #[.pointer q, .int .u64 t] w fun e w' => e = .returned (.tuple #[.int .i64 x, .bool fb]) ∧ Below w.heap.size w w') :
    Calls Tryz.prog 176 #[.pointer p, .int .u64 t] w fun e w' => e = .returned (.tuple #[.int .i64 x, .bool fb]) ∧ Below w.heap.size w w' := by
  have H := Lib.hid h
  have HS := Lib.hid hs
  obtain ⟨t0, t1⟩ := ht
  clear h hs
  go_enter Tryz.func176, Tryz.ntmps176
  go_wp2_with fail
  refine (H.out _ (Below.refl _ _)).mono ?_
  rintro e w3 ⟨rfl, rfl⟩
  go_wp2_with fail
  refine HS.out.mono ?_
  rintro e w4 ⟨rfl, b4⟩
  go_wp2_with fail
  go_ret2
  exact ⟨rfl, b4⟩

/-- Whether an index lies too far above the beginning. -/
def losB (m : Int) (K : List PairV) (i : Int) : Bool := decide (K ≠ [] ∧ m ≤ i - begP K)
theorem los_true {m : Int} {K : List PairV} {i : Int} : losB m K i = true ↔ K ≠ [] ∧ m ≤ i - begP K := by unfold losB; exact decide_eq_true_iff
theorem los_false {m : Int} {K : List PairV} {i : Int} (h : losB m K i = false) : K = [] ∨ i < begP K + m := by
  unfold losB at h
  have := of_decide_eq_false h
  by_cases hk : K = []
  · exact Or.inl hk
  · right
    by_cases h2 : i < begP K + m
    · exact h2
    · exact absurd ⟨hk, by omega⟩ this

set_option maxHeartbeats 1000000 in
theorem hloses_of (w : World) (p q : Option Addr) (m : Int) (K : List PairV) (i : Int) (b : Bool) (h : OwnsH w p q) (hi : I64 i) (he : I64 (lasP K).1) (hf : I64 (begP K)) (m1 : 1 ≤ m) (m2 : m ≤ 4096)
    (hc : K ≠ [] → ∃ B, p = some ⟨B, 0, none⟩ ∧ w.cell? ⟨B, 0, none⟩ = some (.int .i64 m))
    (hs : Calls Tryz.prog 130 #[.pointer q] w fun e w' => e = .returned (.tuple #[.int .i64 (firP K).1, .int .i64 (lasP K).1, .bool (!K.isEmpty)]) ∧ Below w.heap.size w w')
    (hb : losB m K i = b) :
    Calls Tryz.prog 120 #[.pointer p, .int .i64 i] w fun e w' => e = .returned (.bool b) ∧ Below w.heap.size w w' := by
  have hs' : Calls Tryz.prog 130 #[.pointer q] w fun e w' => e = .returned (.tuple #[.int .i64 (begP K), .int .i64 (lasP K).1, .bool (!K.isEmpty)]) ∧ Below w.heap.size w w' := hs
  have HG := Lib.hid (hlgap_any (begP K) i hf hi)
  have H := Lib.hid h
  have hgp : ∀ z, begP K = z → z < i → gap (begP K) i = i - z := fun z hz hlt => by unfold gap; rw [hz]; split <;> omega
  obtain ⟨f, hf'⟩ : ∃ f, (lasP K).1 = f := ⟨_, rfl⟩
  rw [hf'] at hs' he
  by_cases hk : K = []
  · have hbb : b = false := by rw [← hb]; unfold losB; exact decide_eq_false (fun h => h.1 hk)
    have he2 : (!K.isEmpty) = false := by rw [hk]; rfl
    obtain ⟨z, hz⟩ : ∃ z, begP K = z := ⟨_, rfl⟩
    rw [he2, hz] at hs'
    rw [hz] at hf
    subst hbb
    have HS := Lib.hid hs'
    obtain ⟨z0, z1⟩ := hf
    obtain ⟨i0, i1⟩ := hi
    clear h hs hs' hb hz HG hc he2 hgp
    go_enter Tryz.func120, Tryz.ntmps120
    go_wp2_with fail
    refine (H.out _ (Below.refl _ _)).mono ?_
    rintro e w3 ⟨rfl, rfl⟩
    go_wp2_with fail
    refine HS.out.mono ?_
    rintro e w4 ⟨rfl, b4⟩
    go_wp2_with fail
    go_quiet (fail)
    go_wp2_with fail
    go_ret
    exact ⟨rfl, below_drewN b4 _⟩
  · obtain ⟨B, rfl, hcell⟩ := hc hk
    have he2 : (!K.isEmpty) = true := by cases K with
      | nil => exact absurd rfl hk
      | cons a b => rfl
    have hbb : decide (m ≤ i - begP K) = b := by
      rw [← hb]; unfold losB
      by_cases h1 : m ≤ i - begP K
      · rw [decide_eq_true h1, decide_eq_true ⟨hk, h1⟩]
      · rw [decide_eq_false h1, decide_eq_false (fun h => h1 h.2)]
    have hg := hgp _ rfl
    have e1 : IntKind.u64.wrap m = m := by rw [IntKind.wrap_u64]; omega
    rcases lt_or_geI (begP K) i with hlt | hlt
    · rw [hg hlt] at HG
      obtain ⟨z, hz⟩ : ∃ z, begP K = z := ⟨_, rfl⟩
      rw [he2, hz] at hs'
      rw [hz] at hf hbb HG hlt
      obtain ⟨d, hd⟩ : ∃ d, i - z = d := ⟨_, rfl⟩
      rw [hd] at HG hbb
      have HS := Lib.hid hs'
      have HBB := Lib.hid hbb
      obtain ⟨z0, z1⟩ := hf
      obtain ⟨i0, i1⟩ := hi
      have HGAP : Hid (∀ w, Calls Tryz.prog 126 #[.int .i64 z, .int .i64 i] w fun e w' => e = .returned (.int .u64 d) ∧ w' = w) := Lib.hid (fun w => (HG.out w).mono fun e w' ⟨h1, h2⟩ => ⟨h1, h2.symm⟩)
      have d0 : 0 ≤ d := by omega
      have hlt2 : decide (z < i) = true := decide_eq_true hlt
      clear h hs hs' hb hz HG hc he2 hgp hbb hg hk hd
      go_enter Tryz.func120, Tryz.ntmps120
      go_wp2_with fail
      refine (H.out _ (Below.refl _ _)).mono ?_
      rintro e w3 ⟨rfl, rfl⟩
      go_wp2_with fail
      refine HS.out.mono ?_
      rintro e w4 ⟨rfl, b4⟩
      have c4 := cell_later b4 hcell
      go_wp2_with fail
      go_quiet ((go_at_call 126; exact Calls.quiet_of_same (HGAP.out _)))
      go_wp2_with fail
      go_ret
      exact ⟨by rw [← HBB.out]; rfl, below_drewN b4 _⟩
    · have hb3 : b = false := by rw [← hbb]; exact decide_eq_false (by omega)
      subst hb3
      obtain ⟨z, hz⟩ : ∃ z, begP K = z := ⟨_, rfl⟩
      rw [he2, hz] at hs'
      rw [hz] at hf hlt
      have HS := Lib.hid hs'
      obtain ⟨z0, z1⟩ := hf
      obtain ⟨i0, i1⟩ := hi
      have hlt' : ¬ z < i := by omega
      have hlt2 : decide (z < i) = false := decide_eq_false hlt'
      clear h hs hs' hb hz HG hc he2 hgp hbb hg hk
      go_enter Tryz.func120, Tryz.ntmps120
      go_wp2_with fail
      refine (H.out _ (Below.refl _ _)).mono ?_
      rintro e w3 ⟨rfl, rfl⟩
      go_wp2_with fail
      refine HS.out.mono ?_
      rintro e w4 ⟨rfl, b4⟩
      go_wp2_with fail
      go_quiet (fail)
      go_wp2_with fail
      go_ret
      exact ⟨rfl, below_drewN b4 _⟩
end Go.Proofs.YtcijflakldggaaaGreat

namespace Go.Proofs.YtcijflakldggaaaGreat
set_option linter.unusedVariables false
set_option linter.unusedSimpArgs false
open Go.RowKit

/-- Whether an index is lost, of whatever has such an own strip. -/
def LosesH (w : World) (p : Option Addr) (i : Int) (b : Bool) : Prop := ∀ w', Below w.heap.size w w' → Calls Tryz.prog 120 #[.pointer p, .int .i64 i] w' fun e w'' => e = .returned (.bool b) ∧ Below w'.heap.size w' w''

/-- How a round of drop stands: so many pairs are left. -/
def DropH (St : World → Nat → (Nat → Prop) → Int → List PairV → Prop) (w : World) (B : Nat) (S : Nat → Prop) (m : Int) (K : List PairV) (l i : Int) (k : Nat) (wr : World) : Prop :=
  ∃ S', HighRaw St wr B S' m (K.take k) (wrU (l + sumP (K.drop k))) ∧ Keeps S w wr ∧ (∀ j, S' j → S j ∨ w.heap.size ≤ j) ∧ ∀ p, p ∈ K.drop k → m ≤ gap i p.1
/-- What drop comes to. -/
def DroptH (St : World → Nat → (Nat → Prop) → Int → List PairV → Prop) (w : World) (B : Nat) (S : Nat → Prop) (m : Int) (K : List PairV) (l i : Int) (w' : World) : Prop :=
  ∃ k, k ≤ K.length ∧ DropH St w B S m K l i k w' ∧ (K.take k = [] ∨ gap i (lasP (K.take k)).1 < m)
theorem las_take {K : List PairV} {k : Nat} {p : PairV} (h : K[k]? = some p) : lasP (K.take (k + 1)) = p := by
  rw [take_snocP h, las_snoc]
theorem front_take {K : List PairV} {k : Nat} {p : PairV} (h : K[k]? = some p) : (K.take (k + 1)).dropLast = K.take k := by
  rw [take_snocP h, List.dropLast_concat]
theorem drop_step' {K : List PairV} {k : Nat} {p : PairV} (h : K[k]? = some p) : K.drop k = p :: K.drop (k + 1) := by
  obtain ⟨h1, rfl⟩ := List.getElem?_eq_some_iff.1 h
  exact List.drop_eq_getElem_cons h1
/-- A strip's own call, seen from the highcap. -/
theorem hraw_strip {St : World → Nat → (Nat → Prop) → Int → List PairV → Prop} {w w' : World} {B C : Nat} {S0 S1 : Nat → Prop} {m l : Int} {K : List PairV} (hb : w.heap[B]? = some (.cells #[.int .i64 m, .pointer (some ⟨C, 0, none⟩), .int .u64 l] 179 (0, 0)))
    (hn : ¬ S0 B) (hk : Keeps S0 w w') (hst : St w' C S1 m K) (hS : ∀ k, S1 k → S0 k ∨ w.heap.size ≤ k) : HighRaw St w' B (fun k => k = B ∨ S1 k) m K l := by
  have hlt := lt_of_block hb
  exact ⟨C, S1, (hk.block B hlt hn).trans hb, hst, fun h => by rcases hS B h with h1 | h1; exact hn h1; omega, fun k => Iff.rfl⟩

set_option maxRecDepth 100000 in
set_option maxHeartbeats 4000000 in
theorem hldrop_any {St : World → Nat → (Nat → Prop) → Int → List PairV → Prop} (D : StripDoes St) (w : World) (B : Nat) (S : Nat → Prop) (m : Int) (K : List PairV) (l i : Int) (h : HighRaw St w B S m K l) (hl : K.length ≤ 900) (hi : I64 i) (m1 : 1 ≤ m) (m2 : m ≤ 4096) (lw : Word l) :
    Calls Tryz.prog 121 #[.pointer (some ⟨B, 0, none⟩), .int .i64 i] w fun e w' => e = .returned (.tuple #[]) ∧ DroptH St w B S m K l i w' := by
  obtain ⟨C0, S00, hb0, hst0, _⟩ := id h
  have hok0 := (D.stp _ _ _ _ _ hst0).ok
  have HD := Lib.hid D
  have HO := Lib.hid hok0
  have HL := Lib.hid hl
  have HI := Lib.hid hi
  have H0 : Hid (DropH St w B S m K l i K.length w) := Lib.hid ⟨S, by rw [List.take_length, List.drop_length, sumP_nil, Int.add_zero, wrU_id lw.1 lw.2]; exact h, Keeps.refl _ _, fun j hj => Or.inl hj, fun p hp => by rw [List.drop_length] at hp; cases hp⟩
  have e1 : IntKind.u64.wrap m = m := by rw [IntKind.wrap_u64]; omega
  obtain ⟨i0, i1⟩ := hi
  clear D h hl hb0 hst0 hok0
  go_enter Tryz.func121, Tryz.ntmps121
  go_wp2_with fail
  go_loopg [] K.length (fun g wr => ∃ k : Nat, k ≤ K.length ∧ g = k ∧ DropH St w B S m K l i k wr)
  case atStart => exact ⟨K.length, Nat.le_refl _, rfl, H0.out⟩
  case round =>
    clear H0
    obtain ⟨k, hk, hgk, hR⟩ := hrel
    obtain ⟨S', hraw, hkp, hSS, hfar⟩ := hR
    have HRAW := Lib.hid hraw
    have HKP := Lib.hid hkp
    have HSS := Lib.hid hSS
    have HF := Lib.hid hfar
    obtain ⟨C, S0, hb, hst, hn, hS⟩ := hraw
    obtain ⟨c0, c1, c2⟩ := three_cells hb
    have HB := Lib.hid hb
    have HST := Lib.hid hst
    have HNB := Lib.hid hn
    have HS := Lib.hid hS
    have hlen : Hid ((K.take k).length ≤ 900) := Lib.hid (by rw [List.length_take]; have := HL.out; omega)
    have f2 := free8 hb 2
    clear hb hst hn hS hkp hSS hfar
    cases k with
    | succ k =>
      have hlt : k < K.length := by omega
      have hxk : K[k]? = some K[k] := List.getElem?_eq_getElem hlt
      generalize hit : K[k] = p at *
      have hok := HO.out p (List.mem_of_getElem? hxk)
      obtain ⟨px, pc⟩ := p
      have hF := las_take hxk
      have hE : (!(K.take (k + 1)).isEmpty) = true := by
        cases hd : K.take (k + 1) with
        | nil => have := congrArg List.length hd; rw [List.length_take, List.length_nil] at this; omega
        | cons a b => rfl
      have HSTEP : Hid (sumP (K.drop k) = pc + sumP (K.drop (k + 1))) := Lib.hid (by rw [drop_step' hxk, sumP_cons])
      have HEND := Lib.hid (HD.out.ends _ C S0 m _ HST.out hlen.out)
      have HFIR := Lib.hid (HD.out.last _ C S0 m _ HST.out hlen.out)
      rw [hF, hE] at HEND HFIR
      obtain ⟨z, hz⟩ : ∃ z, (firP (K.take (k + 1))).1 = z := ⟨_, rfl⟩
      rw [hz] at HEND
      obtain ⟨lk, hlk⟩ : ∃ lk, wrU (l + sumP (K.drop (k + 1))) = lk := ⟨_, rfl⟩
      obtain ⟨lk', hlk'⟩ : ∃ lk', wrU (l + sumP (K.drop k)) = lk' := ⟨_, rfl⟩
      have hlk0 : 0 ≤ lk ∧ lk < 18446744073709551616 := by rw [← hlk]; exact wrU_word _
      have HLK := Lib.hid hlk
      have HLK' := Lib.hid hlk'
      rw [hlk] at c2
      obtain ⟨⟨x0, x1⟩, y0, y1⟩ := hok
      simp only at x0 x1 y0 y1
      have u2 : IntKind.u64.wrap (lk + pc) = lk' := by rw [← hlk, ← hlk', wrU_add, HSTEP.out, Int.add_assoc, Int.add_comm pc]
      obtain ⟨d, hd⟩ : ∃ d, gap i px = d := ⟨_, rfl⟩
      have HP : Hid (m ≤ d → ∀ q, q ∈ K.drop k → m ≤ gap i q.1) := Lib.hid (fun hle q hq => by
        rw [drop_step' hxk] at hq
        rcases List.mem_cons.1 hq with h1 | h1
        · subst h1; rw [hd]; exact hle
        · exact HF.out q h1)
      have HQ : Hid (d < m → gap i (lasP (K.take (k + 1))).1 < m) := Lib.hid (fun hlt => by rw [hF, hd]; exact hlt)
      have HTL : Hid ((K.take (k + 1)).dropLast = K.take k) := Lib.hid (front_take hxk)
      have HGP : Hid (∀ w, Calls Tryz.prog 126 #[.int .i64 i, .int .i64 px] w fun e w' => e = .returned (.int .u64 d) ∧ w' = w) := Lib.hid (by rw [← hd]; exact fun w => (hlgap_any i px HI.out ⟨x0, x1⟩ w).mono fun e w' ⟨h1, h2⟩ => ⟨h1, h2.symm⟩)
      have HFIR' : Hid (∀ w', St w' C S0 m (K.take (k + 1)) → Calls Tryz.prog 134 #[.pointer (some ⟨C, 0, none⟩)] w' fun e w'' => ∃ S', e = .returned (.tuple #[.agg #[.int .i64 px, .int .u64 pc], .bool true]) ∧ St w'' C S' m (K.take k) ∧ Keeps S0 w' w'' ∧ (∀ k, S' k → S0 k ∨ w'.heap.size ≤ k)) := Lib.hid (fun w' h => by
        have := HD.out.last w' C S0 m _ h hlen.out
        rw [hF, hE, HTL.out] at this
        exact this)
      clear hit hz hlk hlk' hxk hF hE hd HFIR
      go_wp2_with fail
      refine HEND.out.mono ?_
      rintro e w2 ⟨rfl, b2⟩
      have d0 := cell_later b2 c0
      have d1 := cell_later b2 c1
      have d2 := cell_later b2 c2
      by_cases hdm : d < m
      · have HQ' := Lib.hid (HQ.out hdm)
        clear HP HQ
        go_wp2_with fail
        go_quiet ((go_at_call 126; exact Calls.quiet_of_same (HGP.out _)))
        go_wp2_with fail
        refine bodyPost_ret (results_none rfl _ _ _) rfl ?_
        have b3 : Below wr.heap.size wr (w2.drewN nq) := below_drewN b2 _
        exact ⟨rfl, k + 1, hk, ⟨S', hraw_call HD.out HRAW.out b3, HKP.out.trans (Keeps.of_below (S := S') b3) HSS.out, HSS.out, HF.out⟩, Or.inr HQ'.out⟩
      · have HP' := Lib.hid (HP.out (by omega))
        clear HP HQ
        go_wp2_with fail
        go_quiet ((go_at_call 126; exact Calls.quiet_of_same (HGP.out _)))
        have b3 : Below wr.heap.size wr (w2.drewN nq) := below_drewN b2 _
        have HB3 := Lib.hid b3
        go_wp2_with fail
        refine (HFIR'.out _ (HD.out.call HST.out b3)).mono ?_
        rintro e w4 ⟨S1, rfl, hst4, k4, hs4⟩
        have g2 := k4.cell HNB.out (cell_later b3 c2)
        have HST4 := Lib.hid hst4
        have HK4 := Lib.hid k4
        have HS4 := Lib.hid hs4
        clear hst4 k4 hs4 d0 d1 d2
        go_wp2_with fail
        have hb4 := (HK4.out.block B (lt_of_block ((HB3.out.block B (lt_of_block HB.out)).trans HB.out)) HNB.out).trans ((HB3.out.block B (lt_of_block HB.out)).trans HB.out)
        obtain ⟨X, hX, bX, x2, xf, p0, p1⟩ := box_facts w4 hb4 g2 (.int .i64 px) (.int .u64 pc) 114
        rw [hX]
        have HBX := Lib.hid bX
        have HB4 := Lib.hid hb4
        clear hX bX hb4 g2
        go_region
        go_wp2_with fail
        go_roundg k
        case measure => omega
        case rel =>
          have hr : HighRaw St w4 B (fun k => k = B ∨ S1 k) m (K.take k) lk := hraw_strip ((HB3.out.block B (lt_of_block HB.out)).trans (by rw [← HLK.out]; exact HB.out)) HNB.out HK4.out HST4.out HS4.out
          have bx2 : Below w4.heap.size w4 X.drew := HBX.out.drew
          have h1 := hraw_lost HD.out (hraw_call HD.out hr bx2) lk'
          have hk1 : Keeps S w w4 := (HKP.out.trans (Keeps.of_below (S := S') HB3.out) HSS.out).trans HK4.out (fun j hj => by
            rcases HSS.out j ((HS.out j).2 (Or.inr hj)) with h | h
            · exact Or.inl h
            · exact Or.inr h)
          have hk2 : Keeps S w X.drew := hk1.trans (Keeps.of_below (S := S0) bx2) (fun j hj => by
            rcases HSS.out j ((HS.out j).2 (Or.inr hj)) with h | h
            · exact Or.inl h
            · exact Or.inr h)
          refine ⟨k, by omega, rfl, (fun k => k = B ∨ S1 k), ?_, hk2.set 2 _ (HSS.out B ((HS.out B).2 (Or.inl rfl))), ?_, HP'.out⟩
          · rw [HLK'.out]
            exact h1
          · rintro j (rfl | hj)
            · exact HSS.out _ ((HS.out _).2 (Or.inl rfl))
            · rcases HS4.out j hj with h | h
              · exact HSS.out j ((HS.out j).2 (Or.inr h))
              · have := HB3.out.size; have := HKP.out.size; exact Or.inr (by omega)
    | zero =>
      have hde : K.take 0 = [] := List.take_zero
      have HDE := Lib.hid hde
      have HEND := Lib.hid (HD.out.ends _ C S0 m _ HST.out hlen.out)
      rw [hde] at HEND
      obtain ⟨z, hz⟩ : ∃ z, (lasP ([] : List PairV)).1 = z := ⟨_, rfl⟩
      obtain ⟨y, hy⟩ : ∃ y, (firP ([] : List PairV)).1 = y := ⟨_, rfl⟩
      rw [hz, hy] at HEND
      clear hz hy hde
      go_wp2_with fail
      refine HEND.out.mono ?_
      rintro e w2 ⟨rfl, b2⟩
      go_wp2_with fail
      go_quiet (fail)
      go_wp2_with fail
      refine bodyPost_ret (results_none rfl _ _ _) rfl ?_
      have b3 : Below wr.heap.size wr (w2.drewN nq) := below_drewN b2 _
      exact ⟨rfl, _, hk, ⟨S', hraw_call HD.out HRAW.out b3, HKP.out.trans (Keeps.of_below (S := S') b3) HSS.out, HSS.out, HF.out⟩, Or.inl HDE.out⟩

/-- What comes to a highcap, that there is room for. -/
theorem hput_math {m : Int} {K : List PairV} {l i c : Int} (hm1 : 1 ≤ m) (hg : GoodP K) (ho : ∀ p, p ∈ K → okP p) (hk : keepH m K = K) (hi : I64 i) (hc : 0 < c) (h0 : 0 ≤ l) (hs : l + sumP K + c ≤ 9223372036854775807) (hf : K = [] ∨ i < begP K + m) :
    keepH m (addP K i c) = addP (lowP K (i + m)) i c ∧ stErr m (lowP K (i + m)) i c = 0 ∧ stRow m (lowP K (i + m)) i c = keepH m (addP K i c) ∧ sumP (keepH m (addP K i c)) = sumP (lowP K (i + m)) + c ∧ sumP (lowP K (i + m)) ≤ sumP K ∧ 0 ≤ sumP (lowP K (i + m)) ∧ (lowP K (i + m)).length ≤ K.length := by
  have h1 := count_le_sum i (ok_pos ho)
  have e := keeph_near (c := c) (by omega) hg hk (by omega) hc hf
  have hp := ok_pos ho
  have hs2 := sumP_filter (fun p : PairV => decide (p.1 < i + m)) hp
  have hs3 : sumP (lowP K (i + m)) ≤ sumP K ∧ 0 ≤ sumP (lowP K (i + m)) := ⟨hs2.2, hs2.1⟩
  have hlen := keeph_len (m := m) (L := addP K i c) (by omega) (add_good hg (by omega))
  rw [e] at hlen
  have hq : ∀ p, p ∈ lowP K (i + m) → 0 ≤ p.2 := fun p hh => hp p (lowP_mem hh).1
  have h2 := count_le_sum i hq
  have hz : stErr m (lowP K (i + m)) i c = 0 := by
    unfold stErr
    rw [if_neg (by omega), if_neg (by omega), if_neg (by omega)]
  exact ⟨e, hz, by unfold stRow; rw [if_pos hz, e], by rw [e, add_sum (by omega)], hs3.1, hs3.2, List.length_filter_le _ _⟩

/-- What putting comes to, whatever the numbers. -/
def PutH (St : World → Nat → (Nat → Prop) → Int → List PairV → Prop) (w : World) (B : Nat) (S : Nat → Prop) (m : Int) (K : List PairV) (l i c : Int) (w' : World) : Prop :=
  ∃ S' K' l', HighRaw St w' B S' m K' l' ∧ Keeps S w w' ∧ (∀ j, S' j → S j ∨ w.heap.size ≤ j) ∧ Word l' ∧ K'.length ≤ K.length + 1 ∧
    ((losB m K i = true ∧ K' = K ∧ l' = wrU (l + c)) ∨ (losB m K i = false ∧ ∃ k, k ≤ K.length ∧ (∀ p, p ∈ K.drop k → m ≤ gap i p.1) ∧ (K.take k = [] ∨ gap i (lasP (K.take k)).1 < m) ∧ K' = stRow m (K.take k) i c ∧ l' = wrU (l + sumP (K.drop k))))

set_option maxRecDepth 100000 in
set_option maxHeartbeats 4000000 in
theorem hlputw_any {St : World → Nat → (Nat → Prop) → Int → List PairV → Prop} (D : StripDoes St) (w : World) (B : Nat) (S : Nat → Prop) (m : Int) (K : List PairV) (l i c : Int) (h : HighRaw St w B S m K l) (hl : K.length ≤ 900) (hi : I64 i) (hc : Word c) (m1 : 1 ≤ m) (m2 : m ≤ 4096) (lw : Word l) :
    Calls Tryz.prog 104 #[.pointer (some ⟨B, 0, none⟩), .int .i64 i, .int .u64 c] w fun e w' => e = .returned (.tuple #[]) ∧ PutH St w B S m K l i c w' := by
  obtain ⟨C, S0, hb, hst, hn, hS⟩ := id h
  have ho := (D.stp _ _ _ _ _ hst).ok
  have hei := end_i64 ho
  obtain ⟨c0, c1, c2⟩ := three_cells hb
  obtain ⟨u, hu⟩ : ∃ u, losB m K i = u := ⟨_, rfl⟩
  have HUN : Hid (Calls Tryz.prog 120 #[.pointer (some ⟨B, 0, none⟩), .int .i64 i] w fun e w'' => e = .returned (.bool u) ∧ Below w.heap.size w w'') := Lib.hid
    (hloses_of w _ _ m K i u (ownsh_at c1) hi hei (beg_i64 ho) m1 m2 (fun _ => ⟨B, rfl, c0⟩) (D.ends _ C S0 m K hst hl) hu)
  have HD := Lib.hid D
  have HRAW := Lib.hid h
  have HB := Lib.hid hb
  have HU := Lib.hid hu
  have hlt := lt_of_block hb
  have HI := Lib.hid hi
  have HC := Lib.hid hc
  have HLW := Lib.hid lw
  obtain ⟨w0, w1⟩ := hc
  obtain ⟨i0, i1⟩ := hi
  obtain ⟨l0, l1⟩ := lw
  cases u with
  | true =>
    obtain ⟨l', hl'⟩ : ∃ l', wrU (l + c) = l' := ⟨_, rfl⟩
    have HL' := Lib.hid hl'
    have e2 : IntKind.u64.wrap (l + c) = l' := by rw [← hl', IntKind.wrap_u64]; rfl
    clear D h hl hst hn hS hb hu hei c1 ho hl'
    go_enter Tryz.func104, Tryz.ntmps104
    go_wp2_with fail
    refine HUN.out.mono ?_
    rintro e wA ⟨rfl, bw⟩
    have g2 := cell_later bw c2
    have gf : wA.frozen? ⟨B, 2, none⟩ = false := free8 ((bw.block B hlt).trans HB.out) 2
    have HBW := Lib.hid bw
    clear bw
    go_wp2_with fail
    refine bodyPost_ret (results_none rfl _ _ _) rfl ?_
    refine ⟨rfl, S, K, l', hraw_lost HD.out (hraw_call HD.out HRAW.out HBW.out) l', (Keeps.of_below HBW.out).set 2 _ (Or.inl (hraw_B HRAW.out)), fun j hj => Or.inl hj, by rw [← HL'.out]; exact wrU_word _, Nat.le_succ _, Or.inl ⟨HU.out, rfl, HL'.out.symm⟩⟩
  | false =>
    have HDROP : Hid (∀ w', Below w.heap.size w w' → Calls Tryz.prog 121 #[.pointer (some ⟨B, 0, none⟩), .int .i64 i] w' fun e w'' => e = .returned (.tuple #[]) ∧ DroptH St w' B S m K l i w'') :=
      Lib.hid fun w' hb' => hldrop_any D w' B S m K l i (hraw_call D h hb') hl HI.out m1 m2 HLW.out
    have HL := Lib.hid hl
    clear D h hl hst hn hS hb hu hei c1 c2 ho
    go_enter Tryz.func104, Tryz.ntmps104
    go_wp2_with fail
    refine HUN.out.mono ?_
    rintro e wA ⟨rfl, bw⟩
    have HBW := Lib.hid bw
    clear bw
    go_wp2_with fail
    refine (HDROP.out _ HBW.out).mono ?_
    rintro e w3 ⟨rfl, k, hk, ⟨S3, hr3, k3, hs3, hfk⟩, hfir⟩
    obtain ⟨R, hR⟩ : ∃ R, K.take k = R := ⟨_, rfl⟩
    have hRl : R.length ≤ K.length := by rw [← hR, List.length_take]; omega
    have HRL := Lib.hid hRl
    obtain ⟨lk, hlk⟩ : ∃ lk, wrU (l + sumP (K.drop k)) = lk := ⟨_, rfl⟩
    rw [hlk, hR] at hr3
    have HR := Lib.hid hR
    have HLK := Lib.hid hlk
    have HFK := Lib.hid hfk
    have HFI := Lib.hid hfir
    have HK := Lib.hid hk
    have HK3 := Lib.hid k3
    have HS3 := Lib.hid hs3
    obtain ⟨C3, S4, hb3, hst3, hn3, hSS3⟩ := hr3
    obtain ⟨d0, d1, d2⟩ := three_cells hb3
    have HB3 := Lib.hid hb3
    have HST3 := Lib.hid hst3
    have HN3 := Lib.hid hn3
    have HSS3 := Lib.hid hSS3
    clear hb3 hst3 hn3 hSS3 k3 hs3 d0 d2 hR hlk hfk hfir hRl hk c0
    go_wp2_with fail
    refine (HD.out.add _ C3 S4 m R i c HST3.out (by have := HRL.out; have := HL.out; omega) HI.out HC.out).mono ?_
    rintro e w5 ⟨S5, rfl, hst5, k5, hs5⟩
    have HST5 := Lib.hid hst5
    clear hst5
    go_wp2_with fail
    refine bodyPost_end (results_none rfl _ _ _) rfl ?_
    have hr5 := hraw_strip HB3.out HN3.out k5 HST5.out hs5
    refine ⟨rfl, _, _, lk, hr5, ((Keeps.of_below HBW.out).trans HK3.out (fun j hj => Or.inl hj)).trans k5 ?_, ?_, by rw [← HLK.out]; exact wrU_word _, by have := stRow_len m R i c; have := HRL.out; omega, Or.inr ⟨HU.out, k, HK.out, HFK.out, HFI.out, by rw [HR.out], HLK.out.symm⟩⟩
    · intro j hj
      rcases HS3.out j ((HSS3.out j).2 (Or.inr hj)) with h | h
      · exact Or.inl h
      · have := HBW.out.size; exact Or.inr (by omega)
    · rintro j (rfl | hj)
      · rcases HS3.out j ((HSS3.out j).2 (Or.inl rfl)) with h | h
        · exact Or.inl h
        · have := HBW.out.size; exact Or.inr (by omega)
      · rcases hs5 j hj with h | h
        · rcases HS3.out j ((HSS3.out j).2 (Or.inr h)) with h | h
          · exact Or.inl h
          · have := HBW.out.size; exact Or.inr (by omega)
        · have := HBW.out.size; have := HK3.out.size; exact Or.inr (by omega)

/-- .. where there is room. -/
theorem hput_eq {m : Int} {K : List PairV} {l i c : Int} {K' : List PairV} {l' : Int} (hcase : (losB m K i = true ∧ K' = K ∧ l' = wrU (l + c)) ∨ (losB m K i = false ∧ ∃ k, k ≤ K.length ∧ (∀ p, p ∈ K.drop k → m ≤ gap i p.1) ∧ (K.take k = [] ∨ gap i (lasP (K.take k)).1 < m) ∧ K' = stRow m (K.take k) i c ∧ l' = wrU (l + sumP (K.drop k))))
    (hg : GoodP K) (ho : ∀ p, p ∈ K → okP p) (hkp : keepH m K = K) (hi : I64 i) (hc : 0 < c) (m1 : 1 ≤ m) (l0 : 0 ≤ l) (hs : l + sumP K + c ≤ 9223372036854775807) :
    K' = keepH m (addP K i c) ∧ l' = l + sumP K + c - sumP (keepH m (addP K i c)) := by
  have hsp := sumP_pos (ok_pos ho)
  have hcn := count_le_sum i (ok_pos ho)
  rcases hcase with ⟨h1, rfl, rfl⟩ | ⟨h1, k, hkl, h2, h3, rfl, rfl⟩
  · have hfarK := los_true.1 h1
    rw [keeph_far (c := c) (by omega) hg hkp (by omega) hc hfarK.1 (by have := hfarK.2; omega), show l + sumP K' + c - sumP K' = l + c by omega]
    exact ⟨rfl, wrU_id (by omega) (by omega)⟩
  · have hnearK := los_false h1
    have hnear : ∀ p, p ∈ K → i - p.1 < m := fun p hp => by
      have := beg_le hg p hp
      rcases hnearK with h1 | h1
      · rw [h1] at hp; cases hp
      · omega
    obtain ⟨p1, p2, p3, p4, p5, p6, p7⟩ := hput_math (c := c) m1 hg ho hkp hi hc l0 hs hnearK
    have e : lowP K (i + m) = K.take k := by
      refine low_take hg (fun p hp => ?_) ?_
      · have h4 := h2 p hp
        have h5 := hnear p (List.mem_of_mem_drop hp)
        unfold gap at h4
        split at h4 <;> omega
      · rcases h3 with h | h
        · exact Or.inl h
        · right
          unfold gap at h
          split at h <;> omega
    have es := sum_low_take (K := K) (k := k)
    rw [e] at p3 p4 p5 p6
    rw [p3, wrU_id (by omega) (by omega), p4]
    exact ⟨rfl, by omega⟩
theorem hputw_strong {St : World → Nat → (Nat → Prop) → Int → List PairV → Prop} {w w' : World} {B : Nat} {S : Nat → Prop} {m : Int} {K : List PairV} {l i c : Int} (h : PutH St w B S m K l i c w') (hg : GoodP K) (ho : ∀ p, p ∈ K → okP p) (hkp : keepH m K = K) (hi : I64 i) (hc : 0 < c) (m1 : 1 ≤ m)
    (l0 : 0 ≤ l) (hs : l + sumP K + c ≤ 9223372036854775807) : ∃ S', HighRaw St w' B S' m (keepH m (addP K i c)) (l + sumP K + c - sumP (keepH m (addP K i c))) ∧ Keeps S w w' ∧ (∀ j, S' j → S j ∨ w.heap.size ≤ j) := by
  obtain ⟨S', K', l', hr, hk, hS, _, _, hcase⟩ := h
  obtain ⟨rfl, rfl⟩ := hput_eq hcase hg ho hkp hi hc m1 l0 hs
  exact ⟨S', hr, hk, hS⟩
theorem hlput_any {St : World → Nat → (Nat → Prop) → Int → List PairV → Prop} (D : StripDoes St) (w : World) (B : Nat) (S : Nat → Prop) (m : Int) (K : List PairV) (l i c : Int) (h : HighRaw St w B S m K l) (hg : GoodP K) (ho : ∀ p, p ∈ K → okP p) (hkp : keepH m K = K) (hl : K.length ≤ 900) (hi : I64 i) (hc : 0 < c) (m1 : 1 ≤ m) (m2 : m ≤ 4096)
    (l0 : 0 ≤ l) (hs : l + sumP K + c ≤ 9223372036854775807) :
    Calls Tryz.prog 104 #[.pointer (some ⟨B, 0, none⟩), .int .i64 i, .int .u64 c] w fun e w' => e = .returned (.tuple #[]) ∧ ∃ S', HighRaw St w' B S' m (keepH m (addP K i c)) (l + sumP K + c - sumP (keepH m (addP K i c))) ∧ Keeps S w w' ∧ (∀ j, S' j → S j ∨ w.heap.size ≤ j) := by
  have hsp := sumP_pos (ok_pos ho)
  exact (hlputw_any D w B S m K l i c h hl hi ⟨by omega, by omega⟩ m1 m2 ⟨l0, by omega⟩).mono fun e w' ⟨h1, h2⟩ => ⟨h1, hputw_strong h2 hg ho hkp hi hc m1 l0 hs⟩
end Go.Proofs.YtcijflakldggaaaGreat

/-
  Walks: package highcap: New, Add, fit, Load.
-/
namespace Go.Proofs.YtcijflakldggaaaGreat
set_option linter.unusedVariables false
set_option linter.unusedSimpArgs false
open Go.RowKit

/-- At block B lies a highcap of m indexes that keeps K, of T in all. -/
def HighX (St : World → Nat → (Nat → Prop) → Int → List PairV → Prop) (w : World) (B : Nat) (S : Nat → Prop) (m : Int) (K : List PairV) (T : Int) : Prop := Hgp m K T ∧ HighRaw St w B S m K (T - sumP K)

set_option maxHeartbeats 1000000 in
theorem hlnew_any {St : World → Nat → (Nat → Prop) → Int → List PairV → Prop} (D : StripDoes St) (w : World) (m : Int) (h1 : 1 ≤ m) (h2 : m ≤ 4096) :
    Calls Tryz.prog 107 #[.int .i64 m] w fun e w' => ∃ B S, e = .returned (.tuple #[.pointer (some ⟨B, 0, none⟩), .int .i64 0]) ∧ HighRaw St w' B S m [] 0 ∧ (∀ k, S k → w.heap.size ≤ k) ∧ Below w.heap.size w w' := by
  have HD := Lib.hid D
  clear D
  go_enter Tryz.func107, Tryz.ntmps107
  go_wp2_with fail
  refine (HD.out.new _ m h1 h2).mono ?_
  rintro e w1 ⟨C, S0, rfl, hst, hs0, b1⟩
  have HST := Lib.hid hst
  have HS0 := Lib.hid hs0
  have z1 := b1.size
  clear hst hs0
  go_wp2_with fail
  refine bodyPost_ret (v := .tuple #[.pointer (some ⟨w1.heap.size, 0, none⟩), .int .i64 0]) (by simp [results, Tryz.results107, go_sem]) rfl ?_
  have hb : Below w1.heap.size w1 (w1.alloc (.cells #[.int .i64 m, .pointer (some ⟨C, 0, none⟩), .int .u64 0] 179)) := (Below.refl _ _).alloc (Nat.le_refl _) _
  refine ⟨w1.heap.size, fun k => k = w1.heap.size ∨ S0 k, rfl, ⟨C, S0, heap_alloc_new _ _, HD.out.call HST.out hb, fun h => by have := HD.out.lt _ _ _ _ _ HST.out _ h; omega, fun k => Iff.rfl⟩, ?_, b1.alloc z1 _⟩
  rintro k (rfl | hk)
  · exact z1
  · exact HS0.out k hk
set_option maxHeartbeats 1000000 in
theorem hlbad_any {St : World → Nat → (Nat → Prop) → Int → List PairV → Prop} (D : StripDoes St) (w : World) (m : Int) (hm : I64 m) (hb : m < 1 ∨ 4096 < m) :
    Calls Tryz.prog 107 #[.int .i64 m] w fun e w' => e = .returned (.tuple #[.pointer none, .int .i64 1]) ∧ Below w.heap.size w w' := by
  have HB := Lib.hid (D.bad w m hm hb)
  clear D hb
  go_enter Tryz.func107, Tryz.ntmps107
  go_wp2_with fail
  refine HB.out.mono ?_
  rintro e w1 ⟨rfl, b1⟩
  go_wp2_with fail
  go_ret2
  exact ⟨rfl, b1⟩

/-- How many there are in all. -/
theorem hltotal_raw {St : World → Nat → (Nat → Prop) → Int → List PairV → Prop} (D : StripDoes St) {w : World} {B : Nat} {S : Nat → Prop} {m T : Int} {K : List PairV} (h : HighX St w B S m K T) (hl : K.length ≤ 900) :
    Calls Tryz.prog 102 #[.pointer (some ⟨B, 0, none⟩)] w fun e w' => e = .returned (.int .u64 T) ∧ Below w.heap.size w w' := by
  obtain ⟨hp, C, S0, hb, hst, hn, hS⟩ := h
  obtain ⟨c0, c1, c2⟩ := three_cells hb
  have h1 := hltotal_of w _ _ (T - sumP K) (sumP K) (ownsh_at c1) (lostsh_at c2) (D.total _ _ _ _ _ hst hl) (by have := hp.sum; omega) hp.pos (by have := hp.top; omega)
  rwa [show T - sumP K + sumP K = T by omega] at h1

set_option maxRecDepth 100000 in
set_option maxHeartbeats 2000000 in
theorem hladd_any {St : World → Nat → (Nat → Prop) → Int → List PairV → Prop} (D : StripDoes St) (w : World) (B : Nat) (S : Nat → Prop) (m : Int) (K : List PairV) (T i c : Int) (h : HighX St w B S m K T) (hl : K.length ≤ 700) (hi : I64 i) (hc : Word c) :
    Calls Tryz.prog 174 #[.pointer (some ⟨B, 0, none⟩), .int .i64 i, .int .u64 c] w fun e w' => ∃ S', e = .returned (.int .i64 (lwErr T c)) ∧ HighX St w' B S' m (hgRow m K T i c) (lwSum T c) ∧ Keeps S w w' ∧ (∀ k, S' k → S k ∨ w.heap.size ≤ k) := by
  have HT := Lib.hid (hltotal_raw D h (by omega))
  have HX := Lib.hid h
  have HD := Lib.hid D
  have HI := Lib.hid hi
  have hp := h.1
  have HP := Lib.hid hp
  have t1 := hp.top
  have t0 : 0 ≤ T := by have := hp.pos; have := hp.sum; omega
  obtain ⟨i0, i1⟩ := hi
  obtain ⟨w0, w1⟩ := hc
  have hcases := lwErr_cases (T := T) (c := c) ⟨w0, w1⟩
  have HSAME : Hid (∀ w', Below w.heap.size w w' → lwErr T c ≠ 0 → HighX St w' B S m (hgRow m K T i c) (lwSum T c)) := Lib.hid (fun w' hb he => by
    unfold hgRow lwSum
    rw [if_neg he, if_neg he]
    exact ⟨HP.out, hraw_call HD.out HX.out.2 hb⟩)
  clear D h hp
  rcases hcases with ⟨rfl, e⟩ | ⟨hc0, hfull, e⟩ | ⟨hc0, hfit, e⟩
  · have E := Lib.hid e
    clear e
    go_enter Tryz.func174, Tryz.ntmps174
    go_wp2_with fail
    go_ret
    exact ⟨S, ret_int E.out.symm, HSAME.out _ (Below.refl _ _) (by rw [E.out]; decide), Keeps.refl _ _, fun k hk => Or.inl hk⟩
  · have E := Lib.hid e
    have c00 : (c == 0) = false := by simp; omega
    obtain ⟨pb, pq⟩ := plus2_no (x := T) (y := c) (by omega)
    have PB := Lib.hid pb
    have PQ := Lib.hid pq
    clear e pb pq
    go_enter Tryz.func174, Tryz.ntmps174
    go_wp2_with fail
    refine HT.out.mono ?_
    rintro e w2 ⟨rfl, b2⟩
    go_wp2_with fail
    refine (plus_two T c 0 false _ _ _ ⟨by omega, by omega⟩ ⟨by omega, by omega⟩ (two_words w2 _ _ _).1 (two_words w2 _ _ _).2 PQ.out PB.out).mono ?_
    rintro e w3 ⟨rfl, rfl⟩
    go_wp2_with fail
    go_ret
    have hb := b2.alloc b2.size (.cells #[.int .u64 T, .int .u64 c] 22)
    exact ⟨S, ret_int E.out.symm, HSAME.out _ hb (by rw [E.out]; decide), Keeps.of_below hb, fun k hk => Or.inl hk⟩
  · have E := Lib.hid e
    have c00 : (c == 0) = false := by simp; omega
    obtain ⟨pb, pq⟩ := plus2_yes (x := T) (y := c) (by omega)
    have PB := Lib.hid pb
    have PQ := Lib.hid pq
    have HPUT : Hid (∀ w', Below w.heap.size w w' → Calls Tryz.prog 104 #[.pointer (some ⟨B, 0, none⟩), .int .i64 i, .int .u64 c] w' fun e w'' => e = .returned (.tuple #[]) ∧ ∃ S', HighRaw St w'' B S' m (keepH m (addP K i c)) (T + c - sumP (keepH m (addP K i c))) ∧ Keeps S w' w'' ∧ (∀ j, S' j → S j ∨ w'.heap.size ≤ j)) := Lib.hid (fun w' hb => by
      have hp := HP.out
      have h1 := hlput_any HD.out w' B S m K (T - sumP K) i c (hraw_call HD.out HX.out.2 hb) hp.good hp.ok hp.kept (by omega) ⟨i0, i1⟩ hc0 hp.m1 hp.m2 (by have := hp.sum; omega) (by omega)
      rwa [show T - sumP K + sumP K + c = T + c by omega] at h1)
    clear e pb pq
    go_enter Tryz.func174, Tryz.ntmps174
    go_wp2_with fail
    refine HT.out.mono ?_
    rintro e w2 ⟨rfl, b2⟩
    go_wp2_with fail
    refine (plus_two T c (T + c) true _ _ _ ⟨by omega, by omega⟩ ⟨by omega, by omega⟩ (two_words w2 _ _ _).1 (two_words w2 _ _ _).2 PQ.out PB.out).mono ?_
    rintro e w3 ⟨rfl, rfl⟩
    have hb := b2.alloc b2.size (.cells #[.int .u64 T, .int .u64 c] 22)
    go_wp2_with fail
    refine (HPUT.out _ hb).mono ?_
    rintro e w4 ⟨rfl, S4, hr4, k4, hs4⟩
    have HR4 := Lib.hid hr4
    have HB := Lib.hid hb
    clear hr4 hb
    go_wp2_with fail
    go_ret
    refine ⟨S4, ret_int E.out.symm, ?_, (Keeps.of_below HB.out).trans k4 (fun j hj => Or.inl hj), fun j hj => ?_⟩
    · unfold hgRow lwSum
      rw [if_pos E.out, if_pos E.out]
      exact ⟨HP.out.add HI.out hc0 (by omega), HR4.out⟩
    · rcases hs4 j hj with h | h
      · exact Or.inl h
      · have := HB.out.size; exact Or.inr (by omega)

set_option maxRecDepth 100000 in
set_option maxHeartbeats 2000000 in
theorem hlfit_any (w : World) (m : Int) (A : Option Addr) (cap : Nat) (L : List PairV) (l : Int) (b : Bool) (h : Pairs w A L) (hl : L.length ≤ 900) (hw : Word l) (m1 : 1 ≤ m) (m2 : m ≤ 4096) (hb : loadB m L l = b) :
    Calls Tryz.prog 108 #[.int .i64 m, .slice A L.length cap, .int .u64 l] w fun e w' => e = .returned (.bool b) ∧ Below w.heap.size w w' := by
  have HP := Lib.hid h
  have HL := Lib.hid hl
  obtain ⟨l0, l1⟩ := hw
  obtain ⟨g, hg⟩ : ∃ g, (goodB L && decide ((L.length : Int) ≤ m)) = g := ⟨_, rfl⟩
  have HG := Lib.hid (good_does w A cap L m g h (by omega) ⟨by omega, by omega⟩ hg)
  unfold loadB at hb
  rw [hg] at hb
  cases g with
  | false =>
    simp only [Bool.false_and] at hb
    subst hb
    clear h hg
    go_enter Tryz.func108, Tryz.ntmps108
    go_wp2_with fail
    refine HG.out.mono ?_
    rintro e w2 ⟨rfl, b2⟩
    go_wp2_with fail
    go_ret
    exact ⟨rfl, b2⟩
  | true =>
    have hgood : GoodP L := goodB_true.1 (Bool.and_eq_true_iff.1 hg).1
    simp only [Bool.true_and] at hb
    by_cases hL : L = []
    · have hb2 : (l == 0) = b := by
        rw [← hb, hL]
        simp
        rw [show sumP [] = 0 from rfl]
        by_cases hz : l = 0 <;> simp [hz]
      subst hL
      clear hb h hg
      go_enter Tryz.func108, Tryz.ntmps108
      go_wp2_with fail
      refine HG.out.mono ?_
      rintro e w2 ⟨rfl, b2⟩
      go_wp2_with fail
      go_ret
      exact ⟨by rw [← hb2]; rfl, b2⟩
    · have hpos : 0 < L.length := by cases L with
        | nil => exact absurd rfl hL
        | cons p r => simp
      have hb2 : (decide (sumP L + l ≤ 9223372036854775807) && decide (endP L - (firP L).1 < m)) = b := by
        rw [← hb]; simp [hL]
      obtain ⟨px, pc, hx0⟩ : ∃ px pc, L[0]? = some (px, pc) := ⟨L[0].1, L[0].2, List.getElem?_eq_getElem hpos⟩
      obtain ⟨qx, qc, hx1⟩ : ∃ qx qc, L[L.length - 1]? = some (qx, qc) := ⟨L[L.length - 1].1, L[L.length - 1].2, List.getElem?_eq_getElem (by omega)⟩
      have h1 : (firP L).1 = px := by unfold firP; rw [List.head?_eq_getElem?, hx0]; rfl
      have h2 : endP L = qx := by unfold endP lasP; rw [List.getLast?_eq_getElem?, hx1]; rfl
      have hle : px ≤ qx := by
        rw [← h1, ← h2]
        obtain ⟨p, hp, e⟩ := end_mem hL
        rw [← e]; exact good_fir_end hgood p hp
      have hsp := sumP_pos (ok_pos h.ok)
      rw [h1, h2] at hb2
      obtain ⟨nn, hnn⟩ : ∃ nn, L.length - 1 = nn := ⟨_, rfl⟩
      rw [hnn] at hx1
      obtain ⟨ga, off, rfl, hbl, d0, _⟩ := h.at_ 0 _ hx0
      obtain ⟨ga', off', e', _, g0, _⟩ := h.at_ nn _ hx1
      obtain ⟨rfl, rfl, _⟩ := Addr.mk.inj (Option.some.inj e')
      simp only [Nat.zero_mul, Nat.add_zero] at d0
      simp only at g0
      have ok0 := (h.ok _ (List.mem_of_getElem? hx0)).1
      have ok1 := (h.ok _ (List.mem_of_getElem? hx1)).1
      simp only at ok0 ok1
      have hgap : gap px qx = qx - px := by unfold gap; split <;> omega
      have HGAP := Lib.hid (hlgap_any px qx ok0 ok1)
      rw [hgap] at HGAP
      obtain ⟨s, hs⟩ : ∃ s, sumP L = s := ⟨_, rfl⟩
      rw [hs] at hb2 hsp
      have HTOT : Hid (∀ w', Below w.heap.size w w' → Calls Tryz.prog 124 #[.slice (some ⟨ga, off, none⟩) L.length cap] w' fun e w'' => e = .returned (.tuple #[.int .u64 (totalP L), .bool (fitsB L)]) ∧ Below w'.heap.size w' w'') := Lib.hid (fun w' hb' => total_does w' _ cap L _ _ (HP.out.call hb') (by have := HL.out; omega) rfl rfl)
      have hfb : fitsB L = decide (s ≤ 9223372036854775807) := by unfold fitsB; rw [hs]
      have htp : totalP L = if s ≤ 9223372036854775807 then s else 0 := by unfold totalP; rw [hfb, hs]; by_cases h : s ≤ 9223372036854775807 <;> simp [h]
      obtain ⟨N, hN⟩ : ∃ N, L.length = N := ⟨_, rfl⟩
      rw [hN] at HG HTOT hpos hnn hl ⊢
      have kN : (0 : Int) < (N : Int) := by omega
      have k0 : ((N : Int) == 0) = false := by simp; omega
      have u1 : IntKind.i64.wrap ((N : Int) - 1) = (nn : Int) := by rw [IntKind.wrap_i64]; omega
      have u2 : (N : Int) - 1 = (nn : Int) := by omega
      have u3 : (nn : Int) < (N : Int) := by omega
      have u4 : (0 : Int) ≤ (nn : Int) := by omega
      have u5 : IntKind.i64.wrap (nn : Int) = (nn : Int) := by rw [IntKind.wrap_i64]; omega
      have e1 : IntKind.u64.wrap m = m := by rw [IntKind.wrap_u64]; omega
      obtain ⟨p0, p1⟩ := ok0
      obtain ⟨q0, q1⟩ := ok1
      by_cases hf : s ≤ 9223372036854775807
      · rw [hfb, htp, if_pos hf, decide_eq_true hf] at HTOT
        by_cases hf2 : s + l ≤ 9223372036854775807
        · rw [decide_eq_true hf2, Bool.true_and] at hb2
          obtain ⟨pb, pq⟩ := plus2_yes (x := s) (y := l) hf2
          have PB := Lib.hid pb
          have PQ := Lib.hid pq
          clear h hg hgood hb hL hx0 hx1 h1 h2 hgap hs hfb htp hnn pb pq e' hl hpos hbl hN
          go_enter Tryz.func108, Tryz.ntmps108
          go_wp2_with fail
          refine HG.out.mono ?_
          rintro e w2 ⟨rfl, b2⟩
          go_wp2_with fail
          refine (HTOT.out _ b2).mono ?_
          rintro e w3 ⟨rfl, b3⟩
          go_wp2_with fail
          refine (plus_two s l (s + l) true _ _ _ ⟨by omega, by omega⟩ ⟨by omega, by omega⟩ (two_words w3 _ _ _).1 (two_words w3 _ _ _).2 PQ.out PB.out).mono ?_
          rintro e w4 ⟨rfl, rfl⟩
          have b4 := (b2.trans (b3.mono b2.size)).alloc (Nat.le_trans b2.size b3.size) (.cells #[.int .u64 s, .int .u64 l] 22)
          have d4 := cell_later b4 d0
          have g4 := cell_later b4 g0
          go_wp2_with fail
          go_quiet ((go_at_call 126; exact Calls.quiet_of_same ((HGAP.out _).mono fun e w' ⟨h1, h2⟩ => ⟨h1, h2.symm⟩)))
          go_wp2_with fail
          go_ret
          exact ⟨by rw [← hb2]; rfl, below_drewN b4 _⟩
        · have hb3 : b = false := by rw [← hb2, decide_eq_false hf2]; rfl
          subst hb3
          obtain ⟨pb, pq⟩ := plus2_no (x := s) (y := l) (by omega)
          have PB := Lib.hid pb
          have PQ := Lib.hid pq
          clear h hg hgood hb hL hx0 hx1 h1 h2 hgap hs hfb htp hnn pb pq e' hl hpos hbl hN hb2
          go_enter Tryz.func108, Tryz.ntmps108
          go_wp2_with fail
          refine HG.out.mono ?_
          rintro e w2 ⟨rfl, b2⟩
          go_wp2_with fail
          refine (HTOT.out _ b2).mono ?_
          rintro e w3 ⟨rfl, b3⟩
          go_wp2_with fail
          refine (plus_two s l 0 false _ _ _ ⟨by omega, by omega⟩ ⟨by omega, by omega⟩ (two_words w3 _ _ _).1 (two_words w3 _ _ _).2 PQ.out PB.out).mono ?_
          rintro e w4 ⟨rfl, rfl⟩
          have b4 := (b2.trans (b3.mono b2.size)).alloc (Nat.le_trans b2.size b3.size) (.cells #[.int .u64 s, .int .u64 l] 22)
          go_wp2_with fail
          go_quiet (fail)
          go_wp2_with fail
          go_ret
          exact ⟨rfl, below_drewN b4 _⟩
      · rw [hfb, htp, if_neg hf, decide_eq_false hf] at HTOT
        have hb3 : b = false := by
          rw [← hb2]
          rw [decide_eq_false (show ¬ s + l ≤ 9223372036854775807 by omega)]; rfl
        subst hb3
        clear h hg hgood hb hL hx0 hx1 h1 h2 hgap hs hfb htp hnn e' hl hpos hbl hN hb2
        go_enter Tryz.func108, Tryz.ntmps108
        go_wp2_with fail
        refine HG.out.mono ?_
        rintro e w2 ⟨rfl, b2⟩
        go_wp2_with fail
        refine (HTOT.out _ b2).mono ?_
        rintro e w3 ⟨rfl, b3⟩
        go_wp2_with fail
        go_ret
        exact ⟨rfl, b2.trans (b3.mono b2.size)⟩

/-- A row that is loaded pair by pair. -/
theorem htake_kept {m : Int} {L : List PairV} {k : Nat} (hm : 0 < m) (hg : GoodP L) (hs : L ≠ [] → endP L - (firP L).1 < m) : keepH m (L.take k) = L.take k := by
  unfold keepH lowP
  refine List.filter_eq_self.2 fun p hp => ?_
  have hL : L ≠ [] := by rintro rfl; rw [List.take_nil] at hp; cases hp
  have h1 := end_ge hg p (List.mem_of_mem_take hp)
  have hne : L.take k ≠ [] := by intro h; rw [h] at hp; cases hp
  obtain ⟨q, hq, e⟩ := beg_mem hne
  have h2 := good_fir_end hg q (List.mem_of_mem_take hq)
  have := hs hL
  simp; omega
theorem hload_step {m : Int} {L : List PairV} {k : Nat} {p : PairV} (hm : 0 < m) (hg : GoodP L) (hs : L ≠ [] → endP L - (firP L).1 < m) (hk : L[k]? = some p) : keepH m (addP (L.take k) p.1 p.2) = L.take (k + 1) := by
  have hg1 := good_take (k + 1) hg
  have hlt : ∀ q, q ∈ L.take k → q.1 < p.1 := fun q hq => by
    rw [take_snocP hk] at hg1
    exact (good_app hg1).2.2 q hq p (by simp)
  have hc : countP (L.take k) p.1 = 0 := by
    unfold countP
    rw [List.filter_eq_nil_iff.2 (fun q hq => by have := hlt q hq; simp; omega)]; rfl
  have hp := hg.1 p (List.mem_of_getElem? hk)
  have e : addP (L.take k) p.1 p.2 = L.take (k + 1) := by
    refine good_ext (add_good (good_take k hg) (by omega)) hg1 fun j => ?_
    rw [count_add (by omega), take_snocP hk, countP_app, countP_one]
    by_cases e : j = p.1
    · rw [if_pos e, if_pos e.symm]
    · rw [if_neg e, if_neg (fun h => e h.symm)]
  rw [e]
  exact htake_kept hm hg hs

set_option maxRecDepth 100000 in
set_option maxHeartbeats 2000000 in
theorem hlunfit_any {St : World → Nat → (Nat → Prop) → Int → List PairV → Prop} (D : StripDoes St) (w : World) (m : Int) (A : Option Addr) (cap : Nat) (L : List PairV) (l : Int) (m1 : 1 ≤ m) (m2 : m ≤ 4096) (h : Pairs w A L) (hl : L.length ≤ 300) (hw : Word l) (hb : loadB m L l = false) :
    Calls Tryz.prog 93 #[.int .i64 m, .slice A L.length cap, .int .u64 l] w fun e w' => e = .returned (.tuple #[.pointer none, .int .i64 1]) ∧ Below w.heap.size w w' := by
  have HN := Lib.hid (hlnew_any D w m m1 m2)
  have HF : Hid (∀ w', Below w.heap.size w w' → Calls Tryz.prog 108 #[.int .i64 m, .slice A L.length cap, .int .u64 l] w' fun e w'' => e = .returned (.bool false) ∧ Below w'.heap.size w' w'') := Lib.hid (fun w' hb' => hlfit_any w' m A cap L l false (h.call hb') (by omega) hw m1 m2 hb)
  clear D h hb
  go_enter Tryz.func93, Tryz.ntmps93
  go_wp2_with fail
  refine HN.out.mono ?_
  rintro e w1 ⟨B, S, rfl, hr1, hs1, b1⟩
  have z1 := b1.size
  have HR := Lib.hid hr1
  have HS := Lib.hid hs1
  clear hr1 hs1
  go_wp2_with fail
  refine (HF.out _ b1).mono ?_
  rintro e w2 ⟨rfl, b2⟩
  go_wp2_with fail
  go_ret2
  exact ⟨rfl, b1.trans (b2.mono z1)⟩

set_option maxRecDepth 100000 in
set_option maxHeartbeats 2000000 in
theorem hlload_any {St : World → Nat → (Nat → Prop) → Int → List PairV → Prop} (D : StripDoes St) (w : World) (m : Int) (A : Option Addr) (cap : Nat) (L : List PairV) (l : Int) (m1 : 1 ≤ m) (m2 : m ≤ 4096) (h : Pairs w A L) (hl : L.length ≤ 300) (hw : Word l) (hb : loadB m L l = true) :
    Calls Tryz.prog 93 #[.int .i64 m, .slice A L.length cap, .int .u64 l] w fun e w' => ∃ B S, e = .returned (.tuple #[.pointer (some ⟨B, 0, none⟩), .int .i64 0]) ∧ HighRaw St w' B S m L l ∧ (∀ k, S k → w.heap.size ≤ k) ∧ Below w.heap.size w w' := by
  have HN := Lib.hid (hlnew_any D w m m1 m2)
  have HF : Hid (∀ w', Below w.heap.size w w' → Calls Tryz.prog 108 #[.int .i64 m, .slice A L.length cap, .int .u64 l] w' fun e w'' => e = .returned (.bool true) ∧ Below w'.heap.size w' w'') := Lib.hid (fun w' hb' => hlfit_any w' m A cap L l true (h.call hb') (by omega) hw m1 m2 hb)
  obtain ⟨hg, _, _, hsum, hnear⟩ := load_true hb
  have HD := Lib.hid D
  have HP := Lib.hid h
  have HG := Lib.hid hg
  have HNE := Lib.hid hnear
  have HL := Lib.hid hl
  have HSM := Lib.hid hsum
  have HSP := Lib.hid (fun k => sumP_take (L := L) k (ok_pos h.ok))
  obtain ⟨l0, l1⟩ := hw
  clear D h hb hg hnear hl hsum
  go_enter Tryz.func93, Tryz.ntmps93
  go_wp2_with fail
  refine HN.out.mono ?_
  rintro e w1 ⟨B, S, rfl, hr1, hs1, b1⟩
  have z1 := b1.size
  have HR := Lib.hid hr1
  have HS := Lib.hid hs1
  clear hr1 hs1
  go_wp2_with fail
  refine (HF.out _ b1).mono ?_
  rintro e w2 ⟨rfl, b2⟩
  have hbb := b1.trans (b2.mono z1)
  have HR2 := Lib.hid (hraw_call HD.out HR.out b2)
  clear b1 b2
  go_wp2_with fail
  go_loopw [28] (fun j wr => ∃ (k : Nat) (S' : Nat → Prop), k ≤ L.length ∧ j = .int .i64 k ∧ HighRaw St wr B S' m (L.take k) 0 ∧ (∀ x, S' x → w.heap.size ≤ x) ∧ Below w.heap.size w wr) (fun j _ => L.length - (intOf j).toNat)
  case atStart => exact ⟨0, S, Nat.zero_le _, rfl, HR2.out, HS.out, hbb⟩
  case round =>
    clear hbb HR2 HR HS
    obtain ⟨k, S', hk, rfl, hr, hs, hb2⟩ := hrel
    have hbs := hb2.size
    have HR := Lib.hid hr
    have HS := Lib.hid hs
    clear hr hs
    by_cases hlt : k < L.length
    · have kk : (k : Int) < L.length := by omega
      have hxk : L[k]? = some L[k] := List.getElem?_eq_getElem hlt
      generalize hit : L[k] = x at *
      obtain ⟨xi, xc⟩ := x
      obtain ⟨b1, off, rfl, hbl, c0, c1⟩ := (HP.out.call hb2).at_ k _ hxk
      simp only at c0 c1
      have hok := HP.out.ok _ (List.mem_of_getElem? hxk)
      have hgd := HG.out.1 _ (List.mem_of_getElem? hxk)
      have HST := Lib.hid (hload_step (by omega) HG.out HNE.out hxk)
      have HSS := Lib.hid (psum_step hxk)
      have HOK := Lib.hid hok
      obtain ⟨⟨o1, o2⟩, o3, o4⟩ := hok
      simp only at o1 o2 o3 o4 hgd
      have hb3 : Below w.heap.size w (wr.alloc (.cells #[.int .i64 xi, .int .u64 xc] 114)) := hb2.alloc hbs _
      have HPUT := Lib.hid (hlput_any HD.out _ B S' m (L.take k) 0 xi xc (hraw_call HD.out HR.out ((Below.refl _ _).alloc (Nat.le_refl _) (.cells #[.int .i64 xi, .int .u64 xc] 114))) (good_take k HG.out) (fun p hp => HP.out.ok p (List.mem_of_mem_take hp)) (htake_kept (by omega) HG.out HNE.out)
        (by rw [List.length_take]; have := HL.out; omega) HOK.out.1 (by omega) m1 m2 (Int.le_refl _) (by have h1 : sumP (L.take (k + 1)) = sumP (L.take k) + xc := HSS.out; have h2 := HSP.out (k + 1); have h3 := HSM.out; omega))
      rw [show keepH m (addP (L.take k) xi xc) = L.take (k + 1) from HST.out] at HPUT
      clear hxk hit
      go_wp2_with fail
      refine HPUT.out.mono ?_
      rintro e w4 ⟨rfl, S4, hr4, k4, hs4⟩
      have hb4 := k4.below hb3 hb3.size HS.out
      have HR4 : Hid (HighRaw St w4 B S4 m (L.take (k + 1)) 0) := Lib.hid (by
        have h1 : sumP (L.take (k + 1)) = sumP (L.take k) + xc := HSS.out
        rwa [show (0 : Int) + sumP (L.take k) + xc - sumP (L.take (k + 1)) = 0 by omega] at hr4)
      have HS4 : Hid (∀ x, S4 x → w.heap.size ≤ x) := Lib.hid (fun x hx => by
        rcases hs4 x hx with h | h
        · exact HS.out x h
        · have := hb3.size; omega)
      clear hr4 k4 hs4 hb3
      go_wp2_with fail
      go_roundw
      case rel => exact ⟨k + 1, S4, by omega, by go_num, HR4.out, HS4.out, hb4⟩
      case measure => simp [intOf]; omega
    · obtain rfl : k = L.length := by omega
      have kk : ¬ (L.length : Int) < L.length := by omega
      rw [List.take_length] at HR
      obtain ⟨C, S0, hb, _⟩ := id HR.out
      obtain ⟨c0, c1, c2⟩ := three_cells hb
      have f2 := free8 hb 2
      clear hb
      go_wp2_with fail
      refine bodyPost_ret (v := .tuple #[.pointer (some ⟨B, 0, none⟩), .int .i64 0]) (by simp [results, Tryz.results93, go_sem]) rfl ?_
      exact ⟨B, rfl, S', hraw_lost HD.out HR.out l, HS.out, hb2.setCell (p := ⟨B, 2, none⟩) (HS.out B (hraw_B HR.out)) _⟩
end Go.Proofs.YtcijflakldggaaaGreat
