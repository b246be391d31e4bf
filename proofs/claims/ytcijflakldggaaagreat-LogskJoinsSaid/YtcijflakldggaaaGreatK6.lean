/-
  Texts joined, in build order: BinG, BinH, BinI, BinJ, BinL, PlusN, BinN, BinX, Open, OpenS, PairV, ValO, ValK, BinA, BinB, LogM, ShareM, ShareA, ShareP, SkA.
-/
import Derived.Test.YtcijflakldggaaaGreatK5
import Derived.Handy
import Derived.StillTailTactics
import Derived.Deep.RegionHeld3
import Derived.Test.YtcijflakldggaaaGreatRows
import Derived.WalkKit
import Derived.ProofKit
import Derived.OpenShut
import Derived.Lib.SmallJoins
import Derived.SizedLaws
import Derived.Lib.IndexLaws
import Derived.Lib.IndexMore
import Derived.Lib.Strings
import Derived.WalkSpells
import Derived.WalkLawsBesides
import Derived.WalkMore
import Derived.ScopeJumps
import Derived.Scope
/-
  Walks: package bins: its stores, whatever layer they are of; what is asked of both.
-/
namespace Go.Proofs.YtcijflakldggaaaGreat
set_option linter.unusedVariables false
set_option linter.unusedSimpArgs false
open Go.RowKit

/-- A method called through an interface's value: which function it is. -/
structure Mth (name : String) (t g : Nat) (v : Value) : Prop where
  m : ∀ (n : Nat) (W : World), (method (n + 1) t v name).run Tryz.prog W = .ok (g, v) W
  e : ∀ (args : Array Value) (W : World), (callFunc g args).run Tryz.prog W = .ok (.enter g args) W
theorem lmth_total (x : Option Addr) : Mth "Total" 151 98 (.pointer x) := ⟨fun n W => by kernel_rfl, fun args W => by kernel_rfl⟩
theorem lmth_lost (x : Option Addr) : Mth "Lost" 151 110 (.pointer x) := ⟨fun n W => by kernel_rfl, fun args W => by kernel_rfl⟩
theorem lmth_pairs (x : Option Addr) : Mth "Pairs" 151 100 (.pointer x) := ⟨fun n W => by kernel_rfl, fun args W => by kernel_rfl⟩
theorem lmth_most (x : Option Addr) : Mth "Most" 151 172 (.pointer x) := ⟨fun n W => by kernel_rfl, fun args W => by kernel_rfl⟩
theorem lmth_find (x : Option Addr) : Mth "Find" 151 171 (.pointer x) := ⟨fun n W => by kernel_rfl, fun args W => by kernel_rfl⟩
theorem lmth_add (x : Option Addr) : Mth "Add" 151 169 (.pointer x) := ⟨fun n W => by kernel_rfl, fun args W => by kernel_rfl⟩
theorem hmth_total (x : Option Addr) : Mth "Total" 162 102 (.pointer x) := ⟨fun n W => by kernel_rfl, fun args W => by kernel_rfl⟩
theorem hmth_lost (x : Option Addr) : Mth "Lost" 162 118 (.pointer x) := ⟨fun n W => by kernel_rfl, fun args W => by kernel_rfl⟩
theorem hmth_pairs (x : Option Addr) : Mth "Pairs" 162 103 (.pointer x) := ⟨fun n W => by kernel_rfl, fun args W => by kernel_rfl⟩
theorem hmth_most (x : Option Addr) : Mth "Most" 162 177 (.pointer x) := ⟨fun n W => by kernel_rfl, fun args W => by kernel_rfl⟩
theorem hmth_find (x : Option Addr) : Mth "Find" 162 176 (.pointer x) := ⟨fun n W => by kernel_rfl, fun args W => by kernel_rfl⟩
theorem hmth_add (x : Option Addr) : Mth "Add" 162 174 (.pointer x) := ⟨fun n W => by kernel_rfl, fun args W => by kernel_rfl⟩
theorem tmth_index (x : Option Addr) : Mth "Index" 103 160 (.pointer x) := ⟨fun n W => by kernel_rfl, fun args W => by kernel_rfl⟩
theorem tmth_rep (x : Option Addr) : Mth "Rep" 103 162 (.pointer x) := ⟨fun n W => by kernel_rfl, fun args W => by kernel_rfl⟩

/-- A store in memory, as an interface's value of type t. -/
def StoT (w : World) (t : Nat) (v : Value) (S : Nat → Prop) : Bool → Int → List PairV → Int → Prop
  | false, m, K, T => t = 151 ∧ ∃ B, v = .pointer (some ⟨B, 0, none⟩) ∧ LwX w B S m K T
  | true, m, K, T => t = 162 ∧ ∃ B, v = .pointer (some ⟨B, 0, none⟩) ∧ HwX w B S m K T
theorem sto_keep {w w' : World} {t : Nat} {v : Value} {S : Nat → Prop} {s : Bool} {m : Int} {K : List PairV} {T : Int} (h : StoT w t v S s m K T) (hk : ∀ k, S k → w'.heap[k]? = w.heap[k]?) : StoT w' t v S s m K T := by
  cases s with
  | false => obtain ⟨e, B, e', h⟩ := h; exact ⟨e, B, e', low_does.keep w w' B S m K T h hk⟩
  | true => obtain ⟨e, B, e', h⟩ := h; exact ⟨e, B, e', high_does.keep w w' B S m K T h hk⟩
theorem sto_lt {w : World} {t : Nat} {v : Value} {S : Nat → Prop} {s : Bool} {m : Int} {K : List PairV} {T : Int} (h : StoT w t v S s m K T) : ∀ k, S k → k < w.heap.size := by
  cases s with
  | false => obtain ⟨e, B, e', h⟩ := h; exact low_does.lt w B S m K T h
  | true => obtain ⟨e, B, e', h⟩ := h; exact high_does.lt w B S m K T h
theorem sto_kept {w : World} {t : Nat} {v : Value} {S : Nat → Prop} {s : Bool} {m : Int} {K : List PairV} {T : Int} (h : StoT w t v S s m K T) : KeptP s m K T := by
  cases s with
  | false => obtain ⟨e, B, e', h⟩ := h; exact low_does.lwp w B S m K T h
  | true => obtain ⟨e, B, e', h⟩ := h; exact high_does.lwp w B S m K T h
theorem sto_call {w w' : World} {t : Nat} {v : Value} {S : Nat → Prop} {s : Bool} {m : Int} {K : List PairV} {T : Int} (h : StoT w t v S s m K T) (hb : Below w.heap.size w w') : StoT w' t v S s m K T := sto_keep h fun k hk => hb.block k (sto_lt h k hk)
theorem sto_total {w : World} {t : Nat} {v : Value} {S : Nat → Prop} {s : Bool} {m : Int} {K : List PairV} {T : Int} (h : StoT w t v S s m K T) : ∃ g, Mth "Total" t g v ∧ ∀ (W : World) (S : Nat → Prop) (K : List PairV) (T : Int), StoT W t v S s m K T → K.length ≤ 700 → Calls Tryz.prog g #[v] W fun e w' => e = .returned (.int .u64 T) ∧ Below W.heap.size W w' := by
  cases s with
  | false => obtain ⟨rfl, B, rfl, _⟩ := h; exact ⟨_, lmth_total _, fun W S K T ⟨_, B', e, h'⟩ hl => by cases e; exact low_does.total W B S m K T h' hl⟩
  | true => obtain ⟨rfl, B, rfl, _⟩ := h; exact ⟨_, hmth_total _, fun W S K T ⟨_, B', e, h'⟩ hl => by cases e; exact high_does.total W B S m K T h' hl⟩
theorem sto_lost {w : World} {t : Nat} {v : Value} {S : Nat → Prop} {s : Bool} {m : Int} {K : List PairV} {T : Int} (h : StoT w t v S s m K T) : ∃ g, Mth "Lost" t g v ∧ ∀ (W : World) (S : Nat → Prop) (K : List PairV) (T : Int), StoT W t v S s m K T → Calls Tryz.prog g #[v] W fun e w' => e = .returned (.int .u64 (T - sumP K)) ∧ Below W.heap.size W w' := by
  cases s with
  | false => obtain ⟨rfl, B, rfl, _⟩ := h; exact ⟨_, lmth_lost _, fun W S K T ⟨_, B', e, h'⟩  => by cases e; exact low_does.lost W B S m K T h'⟩
  | true => obtain ⟨rfl, B, rfl, _⟩ := h; exact ⟨_, hmth_lost _, fun W S K T ⟨_, B', e, h'⟩  => by cases e; exact high_does.lost W B S m K T h'⟩
theorem sto_pairs {w : World} {t : Nat} {v : Value} {S : Nat → Prop} {s : Bool} {m : Int} {K : List PairV} {T : Int} (h : StoT w t v S s m K T) : ∃ g, Mth "Pairs" t g v ∧ ∀ (W : World) (S : Nat → Prop) (K : List PairV) (T : Int), StoT W t v S s m K T → K.length ≤ 700 → Calls Tryz.prog g #[v] W fun e w' => ∃ u, e = .returned u ∧ OwnP w' W.heap.size u K ∧ Below W.heap.size W w' := by
  cases s with
  | false => obtain ⟨rfl, B, rfl, _⟩ := h; exact ⟨_, lmth_pairs _, fun W S K T ⟨_, B', e, h'⟩ hl => by cases e; exact low_does.pairs W B S m K T h' hl⟩
  | true => obtain ⟨rfl, B, rfl, _⟩ := h; exact ⟨_, hmth_pairs _, fun W S K T ⟨_, B', e, h'⟩ hl => by cases e; exact high_does.pairs W B S m K T h' hl⟩
theorem sto_most {w : World} {t : Nat} {v : Value} {S : Nat → Prop} {s : Bool} {m : Int} {K : List PairV} {T : Int} (h : StoT w t v S s m K T) : ∃ g, Mth "Most" t g v ∧ ∀ (W : World) (S : Nat → Prop) (K : List PairV) (T : Int), StoT W t v S s m K T → Calls Tryz.prog g #[v] W fun e w' => e = .returned (.int .i64 m) ∧ Below W.heap.size W w' := by
  cases s with
  | false => obtain ⟨rfl, B, rfl, _⟩ := h; exact ⟨_, lmth_most _, fun W S K T ⟨_, B', e, h'⟩  => by cases e; exact low_does.most W B S m K T h'⟩
  | true => obtain ⟨rfl, B, rfl, _⟩ := h; exact ⟨_, hmth_most _, fun W S K T ⟨_, B', e, h'⟩  => by cases e; exact high_does.most W B S m K T h'⟩
theorem sto_find {w : World} {t : Nat} {v : Value} {S : Nat → Prop} {s : Bool} {m : Int} {K : List PairV} {T : Int} (h : StoT w t v S s m K T) : ∃ g, Mth "Find" t g v ∧ ∀ (W : World) (S : Nat → Prop) (K : List PairV) (T : Int) (x : Int), StoT W t v S s m K T → K.length ≤ 700 → Word x → Calls Tryz.prog g #[v, .int .u64 x] W fun e w' => e = .returned (.tuple #[.int .i64 ((findS s K (T - sumP K) x).getD 0), .bool (findS s K (T - sumP K) x).isSome]) ∧ Below W.heap.size W w' := by
  cases s with
  | false => obtain ⟨rfl, B, rfl, _⟩ := h; exact ⟨_, lmth_find _, fun W S K T x ⟨_, B', e, h'⟩ hl hx => by cases e; exact low_does.find W B S m K T x h' hl hx⟩
  | true => obtain ⟨rfl, B, rfl, _⟩ := h; exact ⟨_, hmth_find _, fun W S K T x ⟨_, B', e, h'⟩ hl hx => by cases e; exact high_does.find W B S m K T x h' hl hx⟩
/-- What Add leaves: kept, and in all. -/
def addK (s : Bool) (m : Int) (K : List PairV) (T i c : Int) : List PairV := if lwErr T c = 0 then keepS s m (addP K i c) else K
theorem sto_add {w : World} {t : Nat} {v : Value} {S : Nat → Prop} {s : Bool} {m : Int} {K : List PairV} {T : Int} (h : StoT w t v S s m K T) : ∃ g, Mth "Add" t g v ∧ ∀ (W : World) (S : Nat → Prop) (K : List PairV) (T : Int) (i c : Int), StoT W t v S s m K T → K.length ≤ 700 → I64 i → Word c → Calls Tryz.prog g #[v, .int .i64 i, .int .u64 c] W fun e w' => ∃ S', e = .returned (.int .i64 (lwErr T c)) ∧ StoT w' t v S' s m (addK s m K T i c) (lwSum T c) ∧ Keeps S W w' ∧ (∀ k, S' k → S k ∨ W.heap.size ≤ k) := by
  cases s with
  | false => obtain ⟨rfl, B, rfl, _⟩ := h; exact ⟨_, lmth_add _, fun W S K T i c ⟨_, B', e, h'⟩ hl hi hc => by cases e; exact (low_does.add W B S m K T i c h' hl hi hc).mono fun e w' ⟨S', a, b, c', d⟩ => ⟨S', a, ⟨rfl, B, rfl, b⟩, c', d⟩⟩
  | true => obtain ⟨rfl, B, rfl, _⟩ := h; exact ⟨_, hmth_add _, fun W S K T i c ⟨_, B', e, h'⟩ hl hi hc => by cases e; exact (high_does.add W B S m K T i c h' hl hi hc).mono fun e w' ⟨S', a, b, c', d⟩ => ⟨S', a, ⟨rfl, B, rfl, b⟩, c', d⟩⟩

/-- A partition's calls. -/
theorem rep_bd {P : Pt} (h : P.ok) (i : Int) : 0 ≤ P.rep i ∧ P.rep i ≤ 9223372036854775808 := by
  cases P with
  | cells u v n =>
    obtain ⟨g, t, hn⟩ := h
    show 0 ≤ (if 0 ≤ i ∧ i < n then repC u v (lowC u v i.toNat) else 0) ∧ (if 0 ≤ i ∧ i < n then repC u v (lowC u v i.toNat) else 0) ≤ _
    split
    · have := rep_word g (low_pos g i.toNat); omega
    · omega
  | spans d L T =>
    show 0 ≤ (if 1 ≤ i ∧ i ≤ lastS L then midS (lowI L i) (highI L i) else 0) ∧ (if 1 ≤ i ∧ i ≤ lastS L then midS (lowI L i) (highI L i) else 0) ≤ _
    split
    · rename_i hi
      obtain ⟨a, b, c⟩ := high_in L hi.1 hi.2 (spanp_log h).2
      have := mid_in b; omega
    · omega
theorem pt_index {w : World} {V : Value} {R : Nat → Prop} {P : Pt} (h : PtX w V R P) : ∃ t v g, V = .iface t v ∧ Mth "Index" t g v ∧ ∀ (W : World) (x : Int), PtX W V R P → 1 ≤ x → x ≤ 9223372036854775808 → Calls Tryz.prog g #[v, .int .u64 x] W fun e w' => e = .returned (.tuple #[.int .i64 (P.idx x), .bool true]) ∧ Below W.heap.size W w' := by
  cases P with
  | cells u v n =>
    obtain ⟨B, rfl, _⟩ := h
    exact ⟨_, _, _, rfl, tmth_index _, fun W x ⟨B', e, h'⟩ h1 h2 => by cases e; exact tindex_yes W B R u v x n _ h' h1 h2 rfl⟩
  | spans d L T => exact False.elim h
theorem pt_rep {w : World} {V : Value} {R : Nat → Prop} {P : Pt} (h : PtX w V R P) : ∃ t v g, V = .iface t v ∧ Mth "Rep" t g v ∧ ∀ (W : World) (i : Int), PtX W V R P → I64 i → Calls Tryz.prog g #[v, .int .i64 i] W fun e w' => e = .returned (.int .u64 (P.rep i)) ∧ Below W.heap.size W w' := by
  cases P with
  | cells u v n =>
    obtain ⟨B, rfl, _⟩ := h
    refine ⟨_, _, _, rfl, tmth_rep _, fun W i ⟨B', e, h'⟩ hi => ?_⟩
    cases e
    show Calls _ _ _ _ fun e w' => e = .returned (.int .u64 (if 0 ≤ i ∧ i < n then repC u v (lowC u v i.toNat) else 0)) ∧ _
    by_cases hc : 0 ≤ i ∧ i < n
    · rw [if_pos hc]
      obtain ⟨k, rfl⟩ : ∃ k : Nat, i = k := ⟨i.toNat, by omega⟩
      rw [Int.toNat_natCast]
      refine (trep_any W B R u v n k _ h' (by omega) rfl).mono ?_
      rintro e w' ⟨rfl, rfl⟩
      exact ⟨rfl, Below.refl _ _⟩
    · rw [if_neg hc]
      refine (trep_out W B R u v n i h' hi (by omega)).mono ?_
      rintro e w' ⟨rfl, rfl⟩
      exact ⟨rfl, Below.refl _ _⟩
  | spans d L T => exact False.elim h

/-- The five cells of bins. -/
structure BnC (w : World) (B : Nat) (V : Value) (s : Bool) (t1 : Nat) (v1 : Value) (t2 : Nat) (v2 : Value) (z : Int) : Prop where
  b : w.heap[B]? = some (.cells #[V, .int .i64 (sideI s), .iface t1 v1, .iface t2 v2, .int .u64 z] 137 (0, 0))
theorem BnC.c0 {w : World} {B : Nat} {V : Value} {s : Bool} {t1 : Nat} {v1 : Value} {t2 : Nat} {v2 : Value} {z : Int} (h : BnC w B V s t1 v1 t2 v2 z) : w.cell? ⟨B, 0, none⟩ = some V := by rw [Joins.cell_of_block h.b]; rfl
theorem BnC.c1 {w : World} {B : Nat} {V : Value} {s : Bool} {t1 : Nat} {v1 : Value} {t2 : Nat} {v2 : Value} {z : Int} (h : BnC w B V s t1 v1 t2 v2 z) : w.cell? ⟨B, 1, none⟩ = some (.int .i64 (sideI s)) := by rw [Joins.cell_of_block h.b]; rfl
theorem BnC.c2 {w : World} {B : Nat} {V : Value} {s : Bool} {t1 : Nat} {v1 : Value} {t2 : Nat} {v2 : Value} {z : Int} (h : BnC w B V s t1 v1 t2 v2 z) : w.cell? ⟨B, 2, none⟩ = some (.iface t1 v1) := by rw [Joins.cell_of_block h.b]; rfl
theorem BnC.c3 {w : World} {B : Nat} {V : Value} {s : Bool} {t1 : Nat} {v1 : Value} {t2 : Nat} {v2 : Value} {z : Int} (h : BnC w B V s t1 v1 t2 v2 z) : w.cell? ⟨B, 3, none⟩ = some (.iface t2 v2) := by rw [Joins.cell_of_block h.b]; rfl
theorem BnC.c4 {w : World} {B : Nat} {V : Value} {s : Bool} {t1 : Nat} {v1 : Value} {t2 : Nat} {v2 : Value} {z : Int} (h : BnC w B V s t1 v1 t2 v2 z) : w.cell? ⟨B, 4, none⟩ = some (.int .u64 z) := by rw [Joins.cell_of_block h.b]; rfl
theorem BnC.call {w w' : World} {B : Nat} {V : Value} {s : Bool} {t1 : Nat} {v1 : Value} {t2 : Nat} {v2 : Value} {z : Int} (h : BnC w B V s t1 v1 t2 v2 z) (hb : Below w.heap.size w w') : BnC w' B V s t1 v1 t2 v2 z := ⟨(hb.block B (lt_of_block h.b)).trans h.b⟩

set_option maxHeartbeats 400000 in
theorem bstores_none (w : World) : Calls Tryz.prog 53 #[.pointer none] w fun e w' => e = .returned (.tuple #[.iface 151 (.pointer none), .iface 151 (.pointer none)]) ∧ Below w.heap.size w w' := by
  go_enter Tryz.func53, Tryz.ntmps53
  go_wp2_with fail
  go_ret2
  exact ⟨rfl, Below.refl _ _⟩
set_option maxHeartbeats 400000 in
theorem bstores_at (w : World) (B : Nat) (V1 V2 : Value) (h1 : w.cell? ⟨B, 2, none⟩ = some V1) (h2 : w.cell? ⟨B, 3, none⟩ = some V2) :
    Calls Tryz.prog 53 #[.pointer (some ⟨B, 0, none⟩)] w fun e w' => e = .returned (.tuple #[V1, V2]) ∧ Below w.heap.size w w' := by
  go_enter Tryz.func53, Tryz.ntmps53
  go_wp2_with fail
  go_region
  all_goals go_wp2_with fail
  all_goals go_ret2
  all_goals exact ⟨rfl, by go_grown⟩
set_option maxHeartbeats 400000 in
theorem bzero_none (w : World) : Calls Tryz.prog 54 #[.pointer none] w fun e w' => e = .returned (.int .u64 0) ∧ Below w.heap.size w w' := by
  go_enter Tryz.func54, Tryz.ntmps54
  go_wp2_with fail
  go_ret
  exact ⟨rfl, Below.refl _ _⟩
set_option maxHeartbeats 400000 in
theorem bzero_at (w : World) (B : Nat) (z : Int) (h : w.cell? ⟨B, 4, none⟩ = some (.int .u64 z)) : Calls Tryz.prog 54 #[.pointer (some ⟨B, 0, none⟩)] w fun e w' => e = .returned (.int .u64 z) ∧ Below w.heap.size w w' := by
  go_enter Tryz.func54, Tryz.ntmps54
  go_wp2_with fail
  go_ret
  exact ⟨rfl, Below.refl _ _⟩

/-- What is known of bins' receiver: its stores, and noughts. -/
structure Has (w : World) (r : Value) (t1 : Nat) (v1 : Value) (t2 : Nat) (v2 : Value) (z : Int) : Prop where
  st : ∀ W, Below w.heap.size w W → Calls Tryz.prog 53 #[r] W fun e w' => e = .returned (.tuple #[.iface t1 v1, .iface t2 v2]) ∧ Below W.heap.size W w'
  ze : ∀ W, Below w.heap.size w W → Calls Tryz.prog 54 #[r] W fun e w' => e = .returned (.int .u64 z) ∧ Below W.heap.size W w'
theorem has_none (w : World) : Has w (.pointer none) 151 (.pointer none) 151 (.pointer none) 0 := ⟨fun W _ => bstores_none W, fun W _ => bzero_none W⟩
theorem has_at {w : World} {B : Nat} {V : Value} {s : Bool} {t1 : Nat} {v1 : Value} {t2 : Nat} {v2 : Value} {z : Int} (h : BnC w B V s t1 v1 t2 v2 z) : Has w (.pointer (some ⟨B, 0, none⟩)) t1 v1 t2 v2 z :=
  ⟨fun W hb => bstores_at W B _ _ (h.call hb).c2 (h.call hb).c3, fun W hb => bzero_at W B z (h.call hb).c4⟩

set_option maxRecDepth 100000 in
set_option maxHeartbeats 400000 in
theorem btotal_of (w : World) (r : Value) (t1 t2 g1 g2 : Nat) (v1 v2 : Value) (x1 x2 z : Int) (hst : Has w r t1 v1 t2 v2 z)
    (hm1 : Mth "Total" t1 g1 v1) (hm2 : Mth "Total" t2 g2 v2)
    (hc1 : ∀ W, Below w.heap.size w W → Calls Tryz.prog g1 #[v1] W fun e w' => e = .returned (.int .u64 x1) ∧ Below W.heap.size W w')
    (hc2 : ∀ W, Below w.heap.size w W → Calls Tryz.prog g2 #[v2] W fun e w' => e = .returned (.int .u64 x2) ∧ Below W.heap.size W w')
    (h1 : 0 ≤ x1) (h2 : 0 ≤ x2) (h3 : 0 ≤ z) (h4 : x1 + z + x2 ≤ 9223372036854775807) :
    Calls Tryz.prog 31 #[r] w fun e w' => e = .returned (.int .u64 (x1 + z + x2)) ∧ Below w.heap.size w w' := by
  have H1 := Lib.hid hm1
  have H2 := Lib.hid hm2
  have C1 := Lib.hid hc1
  have C2 := Lib.hid hc2
  have HS := Lib.hid hst
  clear hm1 hm2 hc1 hc2 hst
  go_enter Tryz.func31, Tryz.ntmps31
  go_wp2_with fail
  refine (HS.out.st _ (Below.refl _ _)).mono ?_
  rintro e w2 ⟨rfl, b2⟩
  go_wp2_with fail
  rw [H1.out.m]
  go_wp2_with fail
  rw [H1.out.e]
  show Calls _ _ _ _ _
  refine (C1.out _ b2).mono ?_
  rintro e w3 ⟨rfl, b3⟩
  have b3 := b2.trans (b3.mono b2.size)
  go_wp2_with fail
  refine (HS.out.ze _ b3).mono ?_
  rintro e w4 ⟨rfl, b4⟩
  have b4 := b3.trans (b4.mono b3.size)
  go_wp2_with fail
  rw [H2.out.m]
  go_wp2_with fail
  rw [H2.out.e]
  show Calls _ _ _ _ _
  refine (C2.out _ b4).mono ?_
  rintro e w5 ⟨rfl, b5⟩
  have b5 := b4.trans (b5.mono b4.size)
  go_wp2_with fail
  go_ret
  exact ⟨rfl, b5⟩
set_option maxRecDepth 100000 in
set_option maxHeartbeats 400000 in
theorem blost_of (w : World) (r : Value) (t1 t2 g1 g2 : Nat) (v1 v2 : Value) (x1 x2 z : Int) (hst : Has w r t1 v1 t2 v2 z)
    (hm1 : Mth "Lost" t1 g1 v1) (hm2 : Mth "Lost" t2 g2 v2)
    (hc1 : ∀ W, Below w.heap.size w W → Calls Tryz.prog g1 #[v1] W fun e w' => e = .returned (.int .u64 x1) ∧ Below W.heap.size W w')
    (hc2 : ∀ W, Below w.heap.size w W → Calls Tryz.prog g2 #[v2] W fun e w' => e = .returned (.int .u64 x2) ∧ Below W.heap.size W w') :
    Calls Tryz.prog 33 #[r] w fun e w' => e = .returned (.tuple #[.int .u64 x1, .int .u64 x2]) ∧ Below w.heap.size w w' := by
  have H1 := Lib.hid hm1
  have H2 := Lib.hid hm2
  have C1 := Lib.hid hc1
  have C2 := Lib.hid hc2
  have HS := Lib.hid hst
  clear hm1 hm2 hc1 hc2 hst
  go_enter Tryz.func33, Tryz.ntmps33
  go_wp2_with fail
  refine (HS.out.st _ (Below.refl _ _)).mono ?_
  rintro e w2 ⟨rfl, b2⟩
  go_wp2_with fail
  rw [H1.out.m]
  go_wp2_with fail
  rw [H1.out.e]
  show Calls _ _ _ _ _
  refine (C1.out _ b2).mono ?_
  rintro e w3 ⟨rfl, b3⟩
  have b3 := b2.trans (b3.mono b2.size)
  go_wp2_with fail
  rw [H2.out.m]
  go_wp2_with fail
  rw [H2.out.e]
  show Calls _ _ _ _ _
  refine (C2.out _ b3).mono ?_
  rintro e w5 ⟨rfl, b5⟩
  have b5 := b3.trans (b5.mono b3.size)
  go_wp2_with fail
  go_ret2
  exact ⟨rfl, b5⟩
set_option maxRecDepth 100000 in
set_option maxHeartbeats 400000 in
theorem brows_of (w : World) (r : Value) (t1 t2 g1 g2 : Nat) (v1 v2 : Value) (K1 K2 : List PairV) (z : Int) (hst : Has w r t1 v1 t2 v2 z)
    (hm1 : Mth "Pairs" t1 g1 v1) (hm2 : Mth "Pairs" t2 g2 v2)
    (hc1 : ∀ W, Below w.heap.size w W → Calls Tryz.prog g1 #[v1] W fun e w' => ∃ u, e = .returned u ∧ OwnP w' W.heap.size u K1 ∧ Below W.heap.size W w')
    (hc2 : ∀ W, Below w.heap.size w W → Calls Tryz.prog g2 #[v2] W fun e w' => ∃ u, e = .returned u ∧ OwnP w' W.heap.size u K2 ∧ Below W.heap.size W w') :
    Calls Tryz.prog 32 #[r] w fun e w' => ∃ u1 u2, e = .returned (.tuple #[u1, u2]) ∧ OwnP w' w.heap.size u1 K1 ∧ OwnP w' w.heap.size u2 K2 ∧ Below w.heap.size w w' := by
  have H1 := Lib.hid hm1
  have H2 := Lib.hid hm2
  have C1 := Lib.hid hc1
  have C2 := Lib.hid hc2
  have HS := Lib.hid hst
  clear hm1 hm2 hc1 hc2 hst
  go_enter Tryz.func32, Tryz.ntmps32
  go_wp2_with fail
  refine (HS.out.st _ (Below.refl _ _)).mono ?_
  rintro e w2 ⟨rfl, b2⟩
  go_wp2_with fail
  rw [H1.out.m]
  go_wp2_with fail
  rw [H1.out.e]
  show Calls _ _ _ _ _
  refine (C1.out _ b2).mono ?_
  rintro e w3 ⟨u1, rfl, ho1, b3⟩
  have HO1 : Hid (OwnP w3 w.heap.size u1 K1) := Lib.hid (World.ownsRow.mono ho1 b2.size)
  have b3 := b2.trans (b3.mono b2.size)
  obtain ⟨A1, cap1, rfl⟩ := ho1.form
  clear ho1
  go_wp2_with fail
  rw [H2.out.m]
  go_wp2_with fail
  rw [H2.out.e]
  show Calls _ _ _ _ _
  refine (C2.out _ b3).mono ?_
  rintro e w5 ⟨u2, rfl, ho2, b5'⟩
  have HO2 : Hid (OwnP w5 w.heap.size u2 K2) := Lib.hid (World.ownsRow.mono ho2 b3.size)
  have HO1 := Lib.hid (HO1.out.call b5')
  have b5 := b3.trans (b5'.mono b3.size)
  obtain ⟨A2, cap2, rfl⟩ := ho2.form
  clear ho2 b5'
  go_wp2_with fail
  go_ret2
  exact ⟨_, _, rfl, HO1.out, HO2.out, b5⟩
set_option maxRecDepth 100000 in
set_option maxHeartbeats 400000 in
theorem bmost_of (w : World) (r : Value) (t1 t2 g1 : Nat) (v1 v2 : Value) (m z : Int) (hst : Has w r t1 v1 t2 v2 z) (hm1 : Mth "Most" t1 g1 v1)
    (hc1 : ∀ W, Below w.heap.size w W → Calls Tryz.prog g1 #[v1] W fun e w' => e = .returned (.int .i64 m) ∧ Below W.heap.size W w') :
    Calls Tryz.prog 88 #[r] w fun e w' => e = .returned (.int .i64 m) ∧ Below w.heap.size w w' := by
  have H1 := Lib.hid hm1
  have C1 := Lib.hid hc1
  have HS := Lib.hid hst
  clear hm1 hc1 hst
  go_enter Tryz.func88, Tryz.ntmps88
  go_wp2_with fail
  refine (HS.out.st _ (Below.refl _ _)).mono ?_
  rintro e w2 ⟨rfl, b2⟩
  go_wp2_with fail
  rw [H1.out.m]
  go_wp2_with fail
  rw [H1.out.e]
  show Calls _ _ _ _ _
  refine (C1.out _ b2).mono ?_
  rintro e w3 ⟨rfl, b3⟩
  have b3 := b2.trans (b3.mono b2.size)
  go_wp2_with fail
  go_ret
  exact ⟨rfl, b3⟩
end Go.Proofs.YtcijflakldggaaaGreat

/-
  Walks: package bins: Find, Rank, Add.
-/
namespace Go.Proofs.YtcijflakldggaaaGreat
set_option linter.unusedVariables false
set_option linter.unusedSimpArgs false
open Go.RowKit

/-- Bins in memory, by their parts. -/
structure BnP (w : World) (B : Nat) (S R : Nat → Prop) (P : Pt) (s : Bool) (m : Int) (st : St) (V : Value) (t1 : Nat) (v1 : Value) (S1 : Nat → Prop) (t2 : Nat) (v2 : Value) (S2 : Nat → Prop) : Prop where
  c : BnC w B V s t1 v1 t2 v2 st.z
  p : PtX w V R P
  a : StoT w t1 v1 S1 s m st.k1 st.t1
  b : StoT w t2 v2 S2 s m st.k2 st.t2
  n1 : ¬ S1 B
  n2 : ¬ S2 B
  nr : ¬ R B
  d : ∀ k, S1 k → ¬ S2 k
  r1 : ∀ k, S1 k → ¬ R k
  r2 : ∀ k, S2 k → ¬ R k
  S : ∀ k, S k ↔ (k = B ∨ S1 k ∨ S2 k)
  z0 : 0 ≤ st.z
  all : st.all ≤ 9223372036854775807
def BnX (w : World) (B : Nat) (S R : Nat → Prop) (P : Pt) (s : Bool) (m : Int) (st : St) : Prop := ∃ V t1 v1 S1 t2 v2 S2, BnP w B S R P s m st V t1 v1 S1 t2 v2 S2
theorem bnp_keep {w w' : World} {B : Nat} {S R : Nat → Prop} {P : Pt} {s : Bool} {m : Int} {st : St} {V : Value} {t1 : Nat} {v1 : Value} {S1 : Nat → Prop} {t2 : Nat} {v2 : Value} {S2 : Nat → Prop} (h : BnP w B S R P s m st V t1 v1 S1 t2 v2 S2) (hk : ∀ k, S k ∨ R k → w'.heap[k]? = w.heap[k]?) : BnP w' B S R P s m st V t1 v1 S1 t2 v2 S2 :=
  { h with
    c := ⟨(hk B (Or.inl ((h.S B).2 (Or.inl rfl)))).trans h.c.b⟩
    p := ptx_keep h.p fun k hk' => hk k (Or.inr hk')
    a := sto_keep h.a fun k hk' => hk k (Or.inl ((h.S k).2 (Or.inr (Or.inl hk'))))
    b := sto_keep h.b fun k hk' => hk k (Or.inl ((h.S k).2 (Or.inr (Or.inr hk')))) }
theorem bnp_lt {w : World} {B : Nat} {S R : Nat → Prop} {P : Pt} {s : Bool} {m : Int} {st : St} {V : Value} {t1 : Nat} {v1 : Value} {S1 : Nat → Prop} {t2 : Nat} {v2 : Value} {S2 : Nat → Prop} (h : BnP w B S R P s m st V t1 v1 S1 t2 v2 S2) : ∀ k, S k ∨ R k → k < w.heap.size := fun k hk => by
  rcases hk with hk | hk
  · rcases (h.S k).1 hk with rfl | hk | hk
    · exact lt_of_block h.c.b
    · exact sto_lt h.a k hk
    · exact sto_lt h.b k hk
  · exact ptx_lt h.p k hk
theorem bnp_call {w w' : World} {B : Nat} {S R : Nat → Prop} {P : Pt} {s : Bool} {m : Int} {st : St} {V : Value} {t1 : Nat} {v1 : Value} {S1 : Nat → Prop} {t2 : Nat} {v2 : Value} {S2 : Nat → Prop} (h : BnP w B S R P s m st V t1 v1 S1 t2 v2 S2) (hb : Below w.heap.size w w') : BnP w' B S R P s m st V t1 v1 S1 t2 v2 S2 := bnp_keep h fun k hk => hb.block k (bnp_lt h k hk)
/-- One store turned; noughts turned. -/
theorem bnp_one {w w' : World} {B : Nat} {S R : Nat → Prop} {P : Pt} {s : Bool} {m : Int} {st : St} {V : Value} {t1 : Nat} {v1 : Value} {S1 : Nat → Prop} {t2 : Nat} {v2 : Value} {S2 S' : Nat → Prop} {K : List PairV} {T : Int} (h : BnP w B S R P s m st V t1 v1 S1 t2 v2 S2) (hk : Keeps S1 w w') (ha : StoT w' t1 v1 S' s m K T) (hS : ∀ k, S' k → S1 k ∨ w.heap.size ≤ k) (hT : T + st.t2 + st.z ≤ 9223372036854775807) :
    BnP w' B (fun k => k = B ∨ S' k ∨ S2 k) R P s m { st with k1 := K, t1 := T } V t1 v1 S' t2 v2 S2 := by
  have hB := lt_of_block h.c.b
  have new : ∀ k, S' k → k < w.heap.size → S1 k := fun k h1 h2 => by
    rcases hS k h1 with h' | h'
    · exact h'
    · omega
  exact { c := ⟨(hk.block B hB h.n1).trans h.c.b⟩
          p := ptx_keep h.p fun k hr => hk.block k (ptx_lt h.p k hr) (fun h1 => h.r1 k h1 hr)
          a := ha
          b := sto_keep h.b fun k h2 => hk.block k (sto_lt h.b k h2) (fun h1 => h.d k h1 h2)
          n1 := fun x => h.n1 (new B x hB)
          n2 := h.n2
          nr := h.nr
          d := fun k h1 h2 => h.d k (new k h1 (sto_lt h.b k h2)) h2
          r1 := fun k h1 hr => h.r1 k (new k h1 (ptx_lt h.p k hr)) hr
          r2 := h.r2
          S := fun k => Iff.rfl
          z0 := h.z0
          all := hT }
theorem bnp_two {w w' : World} {B : Nat} {S R : Nat → Prop} {P : Pt} {s : Bool} {m : Int} {st : St} {V : Value} {t1 : Nat} {v1 : Value} {S1 : Nat → Prop} {t2 : Nat} {v2 : Value} {S2 S' : Nat → Prop} {K : List PairV} {T : Int} (h : BnP w B S R P s m st V t1 v1 S1 t2 v2 S2) (hk : Keeps S2 w w') (ha : StoT w' t2 v2 S' s m K T) (hS : ∀ k, S' k → S2 k ∨ w.heap.size ≤ k) (hT : st.t1 + T + st.z ≤ 9223372036854775807) :
    BnP w' B (fun k => k = B ∨ S1 k ∨ S' k) R P s m { st with k2 := K, t2 := T } V t1 v1 S1 t2 v2 S' := by
  have hB := lt_of_block h.c.b
  have new : ∀ k, S' k → k < w.heap.size → S2 k := fun k h1 h2 => by
    rcases hS k h1 with h' | h'
    · exact h'
    · omega
  exact { c := ⟨(hk.block B hB h.n2).trans h.c.b⟩
          p := ptx_keep h.p fun k hr => hk.block k (ptx_lt h.p k hr) (fun h1 => h.r2 k h1 hr)
          a := sto_keep h.a fun k h2 => hk.block k (sto_lt h.a k h2) (fun h1 => h.d k h2 h1)
          b := ha
          n1 := h.n1
          n2 := fun x => h.n2 (new B x hB)
          nr := h.nr
          d := fun k h1 h2 => h.d k h1 (new k h2 (sto_lt h.a k h1))
          r1 := h.r1
          r2 := fun k h1 hr => h.r2 k (new k h1 (ptx_lt h.p k hr)) hr
          S := fun k => Iff.rfl
          z0 := h.z0
          all := hT }
theorem bnp_zero {w : World} {B : Nat} {S R : Nat → Prop} {P : Pt} {s : Bool} {m : Int} {st : St} {V : Value} {t1 : Nat} {v1 : Value} {S1 : Nat → Prop} {t2 : Nat} {v2 : Value} {S2 : Nat → Prop} {z : Int} (h : BnP w B S R P s m st V t1 v1 S1 t2 v2 S2) (z0 : 0 ≤ z) (hT : st.t1 + st.t2 + z ≤ 9223372036854775807) :
    BnP (w.setCell ⟨B, 4, none⟩ (.int .u64 z)) B S R P s m { st with z := z } V t1 v1 S1 t2 v2 S2 := by
  have hh : ∀ k, k ≠ B → (w.setCell ⟨B, 4, none⟩ (.int .u64 z)).heap[k]? = w.heap[k]? := fun k hk => Below.heap_setCell w _ _ k hk
  exact { h with
    c := ⟨set_cells11 h.c.b 4 (.int .u64 z)⟩
    p := ptx_keep h.p fun k hr => hh k (fun e => h.nr (e ▸ hr))
    a := sto_keep h.a fun k hr => hh k (fun e => h.n1 (e ▸ hr))
    b := sto_keep h.b fun k hr => hh k (fun e => h.n2 (e ▸ hr))
    z0 := z0
    all := hT }
theorem keeps_more {S S' : Nat → Prop} {w w' : World} (h : Keeps S w w') (hs : ∀ k, S k → S' k) : Keeps S' w w' := ⟨h.os, h.tape, h.output, h.size, fun k hk hn => h.block k hk fun x => hn (hs k x)⟩
theorem bnp_t {w : World} {B : Nat} {S R : Nat → Prop} {P : Pt} {s : Bool} {m : Int} {st : St} {V : Value} {t1 : Nat} {v1 : Value} {S1 : Nat → Prop} {t2 : Nat} {v2 : Value} {S2 : Nat → Prop} (h : BnP w B S R P s m st V t1 v1 S1 t2 v2 S2) : 0 ≤ sumP st.k1 ∧ sumP st.k1 ≤ st.t1 ∧ 0 ≤ sumP st.k2 ∧ sumP st.k2 ≤ st.t2 := by
  have h1 := sto_kept h.a
  have h2 := sto_kept h.b
  cases s with
  | false =>
    have h1 : Lwp m st.k1 st.t1 := h1
    have h2 : Lwp m st.k2 st.t2 := h2
    exact ⟨h1.pos, h1.sum, h2.pos, h2.sum⟩
  | true =>
    have h1 : Hgp m st.k1 st.t1 := h1
    have h2 : Hgp m st.k2 st.t2 := h2
    exact ⟨h1.pos, h1.sum, h2.pos, h2.sum⟩
theorem bnp_total {w : World} {B : Nat} {S R : Nat → Prop} {P : Pt} {s : Bool} {m : Int} {st : St} {V : Value} {t1 : Nat} {v1 : Value} {S1 : Nat → Prop} {t2 : Nat} {v2 : Value} {S2 : Nat → Prop} (h : BnP w B S R P s m st V t1 v1 S1 t2 v2 S2) (l1 : st.k1.length ≤ 500) (l2 : st.k2.length ≤ 500) :
    Calls Tryz.prog 31 #[.pointer (some ⟨B, 0, none⟩)] w fun e w' => e = .returned (.int .u64 st.all) ∧ Below w.heap.size w w' := by
  obtain ⟨g1, m1, c1⟩ := sto_total h.a
  obtain ⟨g2, m2, c2⟩ := sto_total h.b
  obtain ⟨x1, x2, x3, x4⟩ := bnp_t h
  have e : st.all = st.t1 + st.z + st.t2 := by show st.t1 + st.t2 + st.z = _; omega
  have := h.all
  rw [e] at this ⊢
  exact btotal_of w _ _ _ _ _ _ _ _ _ _ (has_at h.c) m1 m2 (fun W hb => c1 W _ _ _ (sto_call h.a hb) (by omega)) (fun W hb => c2 W _ _ _ (sto_call h.b hb) (by omega)) (by omega) (by omega) h.z0 this

set_option maxRecDepth 100000 in
set_option maxHeartbeats 400000 in
theorem bstand_none (w : World) (r : Value) (t g : Nat) (v : Value) (x : Int) (neg : Bool) (i : Int) (hm : Mth "Find" t g v)
    (hc : Calls Tryz.prog g #[v, .int .u64 x] w fun e w' => e = .returned (.tuple #[.int .i64 i, .bool false]) ∧ Below w.heap.size w w') :
    Calls Tryz.prog 58 #[r, .iface t v, .int .u64 x, .bool neg] w fun e w' => e = .returned (.tuple #[.int .i64 0, .bool false]) ∧ Below w.heap.size w w' := by
  have H := Lib.hid hm
  have C := Lib.hid hc
  clear hm hc
  go_enter Tryz.func58, Tryz.ntmps58
  go_wp2_with fail
  rw [H.out.m]
  go_wp2_with fail
  rw [H.out.e]
  show Calls _ _ _ _ _
  refine (C.out).mono ?_
  rintro e w2 ⟨rfl, b2⟩
  go_wp2_with fail
  go_ret2
  exact ⟨rfl, b2⟩

set_option maxRecDepth 100000 in
set_option maxHeartbeats 400000 in
theorem bstand_some (w : World) (B : Nat) (tp gp : Nat) (vp : Value) (t g : Nat) (v : Value) (x : Int) (neg : Bool) (i q y : Int) (h0 : w.cell? ⟨B, 0, none⟩ = some (.iface tp vp)) (hm : Mth "Find" t g v)
    (hc : Calls Tryz.prog g #[v, .int .u64 x] w fun e w' => e = .returned (.tuple #[.int .i64 i, .bool true]) ∧ Below w.heap.size w w')
    (hm2 : Mth "Rep" tp gp vp) (hr : ∀ W, Below w.heap.size w W → Calls Tryz.prog gp #[vp, .int .i64 i] W fun e w' => e = .returned (.int .u64 q) ∧ Below W.heap.size W w')
    (q0 : 0 ≤ q) (q1 : q ≤ 9223372036854775808) (hy : (if neg = true then -q else min q 9223372036854775807) = y) :
    Calls Tryz.prog 58 #[.pointer (some ⟨B, 0, none⟩), .iface t v, .int .u64 x, .bool neg] w fun e w' => e = .returned (.tuple #[.int .i64 y, .bool true]) ∧ Below w.heap.size w w' := by
  have H := Lib.hid hm
  have C := Lib.hid hc
  have HR := Lib.hid hr
  have H2 := Lib.hid hm2
  have HY := Lib.hid hy
  clear hm hc hr hm2 hy
  cases neg with
  | true =>
    have e1 : valI q true = y := by
      rw [← HY.out, if_pos rfl]; unfold valI canB; rw [if_pos (by simp; omega), if_pos rfl]
    have e2 : canB q true = true := by unfold canB; simp; omega
    have HV := Lib.hid (fun W => value_any q true ⟨q0, by omega⟩ W)
    rw [e1, e2] at HV
    clear e1 e2
    go_enter Tryz.func58, Tryz.ntmps58
    go_wp2_with fail
    rw [H.out.m]
    go_wp2_with fail
    rw [H.out.e]
    show Calls _ _ _ _ _
    refine (C.out).mono ?_
    rintro e w2 ⟨rfl, b2⟩
    have h0 := cell_later b2 h0
    go_wp2_with fail
    rw [H2.out.m]
    go_wp2_with fail
    rw [H2.out.e]
    show Calls _ _ _ _ _
    refine (HR.out _ b2).mono ?_
    rintro e w3 ⟨rfl, b3⟩
    have b3 := b2.trans (b3.mono b2.size)
    go_wp2_with fail
    refine (HV.out _).mono ?_
    rintro e w4 ⟨rfl, rfl⟩
    go_wp2_with fail
    go_ret2
    exact ⟨rfl, b3⟩
  | false =>
    obtain ⟨mn, hmn⟩ : ∃ mn, min q 9223372036854775807 = mn := ⟨_, rfl⟩
    have mn0 : 0 ≤ mn ∧ mn ≤ 9223372036854775807 := by omega
    have e1 : valI mn false = y := by
      rw [← HY.out, if_neg (by decide), hmn]; unfold valI canB; rw [if_pos (by simp; omega), if_neg (by decide)]
    have e2 : canB mn false = true := by unfold canB; simp; omega
    have HV := Lib.hid (fun W => value_any mn false ⟨mn0.1, by omega⟩ W)
    rw [e1, e2] at HV
    have HMN := Lib.hid hmn
    clear e1 e2 hmn mn0
    go_enter Tryz.func58, Tryz.ntmps58
    go_wp2_with fail
    rw [H.out.m]
    go_wp2_with fail
    rw [H.out.e]
    show Calls _ _ _ _ _
    refine (C.out).mono ?_
    rintro e w2 ⟨rfl, b2⟩
    have h0 := cell_later b2 h0
    go_wp2_with fail
    rw [H2.out.m]
    go_wp2_with fail
    rw [H2.out.e]
    show Calls _ _ _ _ _
    refine (HR.out _ b2).mono ?_
    rintro e w3 ⟨rfl, b3⟩
    have b3 := b2.trans (b3.mono b2.size)
    go_wp2_with fail
    rw [HMN.out]
    refine (HV.out _).mono ?_
    rintro e w4 ⟨rfl, rfl⟩
    go_wp2_with fail
    go_ret2
    exact ⟨rfl, b3⟩

set_option maxRecDepth 100000 in
set_option maxHeartbeats 1000000 in
theorem bfind_of (w : World) (r : Value) (t1 t2 g1 : Nat) (v1 v2 : Value) (T z t y : Int) (ok : Bool) (wt : Word t) (hst : Has w r t1 v1 t2 v2 z) (hm1 : Mth "Total" t1 g1 v1)
    (hc1 : ∀ W, Below w.heap.size w W → Calls Tryz.prog g1 #[v1] W fun e w' => e = .returned (.int .u64 T) ∧ Below W.heap.size W w')
    (T0 : 0 ≤ T) (z0 : 0 ≤ z) (Tz : T + z ≤ 9223372036854775807)
    (h0 : t = 0 → y = 0 ∧ ok = false)
    (h1 : 1 ≤ t → t ≤ T → ∀ W x, Below w.heap.size w W → T - t + 1 = x → Calls Tryz.prog 58 #[r, .iface t1 v1, .int .u64 x, .bool true] W fun e w' => e = .returned (.tuple #[.int .i64 y, .bool ok]) ∧ Below W.heap.size W w')
    (h2 : T < t → t ≤ T + z → y = 0 ∧ ok = true)
    (h3 : T + z < t → ∀ W x, Below w.heap.size w W → t - (T + z) = x → Calls Tryz.prog 58 #[r, .iface t2 v2, .int .u64 x, .bool false] W fun e w' => e = .returned (.tuple #[.int .i64 y, .bool ok]) ∧ Below W.heap.size W w') :
    Calls Tryz.prog 37 #[r, .int .u64 t] w fun e w' => e = .returned (.tuple #[.int .i64 y, .bool ok]) ∧ Below w.heap.size w w' := by
  have H1 := Lib.hid hm1
  have C1 := Lib.hid hc1
  have HS := Lib.hid hst
  have A0 := Lib.hid h0
  have A1 := Lib.hid h1
  have A2 := Lib.hid h2
  have A3 := Lib.hid h3
  obtain ⟨w0, w1⟩ := wt
  clear hm1 hc1 hst h0 h1 h2 h3
  by_cases e0 : t = 0
  · obtain ⟨rfl, rfl⟩ := A0.out e0
    subst e0
    go_enter Tryz.func37, Tryz.ntmps37
    go_wp2_with fail
    go_ret2
    exact ⟨rfl, Below.refl _ _⟩
  have e1 : (t == 0) = false := by simp [e0]
  go_enter Tryz.func37, Tryz.ntmps37
  go_wp2_with fail
  refine (HS.out.st _ (Below.refl _ _)).mono ?_
  rintro e w2 ⟨rfl, b2⟩
  go_wp2_with fail
  rw [H1.out.m]
  go_wp2_with fail
  rw [H1.out.e]
  show Calls _ _ _ _ _
  refine (C1.out _ b2).mono ?_
  rintro e w3 ⟨rfl, b3⟩
  have b3 := b2.trans (b3.mono b2.size)
  by_cases k1 : t ≤ T
  · go_wp2_with fail
    refine (HS.out.ze _ b3).mono ?_
    rintro e w4 ⟨rfl, b4⟩
    have b4 := b3.trans (b4.mono b3.size)
    go_wp2_with fail
    refine (A1.out (by omega) k1 _ _ b4 (by first | rfl | go_num | (simp; omega))).mono ?_
    rintro e w5 ⟨rfl, b5⟩
    go_wp2_with fail
    go_ret2
    exact ⟨rfl, b4.trans (b5.mono b4.size)⟩
  by_cases k2 : t ≤ T + z
  · obtain ⟨rfl, rfl⟩ := A2.out (by omega) k2
    go_wp2_with fail
    refine (HS.out.ze _ b3).mono ?_
    rintro e w4 ⟨rfl, b4⟩
    have b4 := b3.trans (b4.mono b3.size)
    go_wp2_with fail
    go_ret2
    exact ⟨rfl, b4⟩
  · go_wp2_with fail
    refine (HS.out.ze _ b3).mono ?_
    rintro e w4 ⟨rfl, b4⟩
    have b4 := b3.trans (b4.mono b3.size)
    go_wp2_with fail
    refine (A3.out (by omega) _ _ b4 (by first | rfl | go_num | (simp; omega))).mono ?_
    rintro e w5 ⟨rfl, b5⟩
    go_wp2_with fail
    go_ret2
    exact ⟨rfl, b4.trans (b5.mono b4.size)⟩

theorem seek_past (t : Int) : ∀ (A : List PairV) (a : Int), (∀ p, p ∈ A → 0 ≤ p.2) → a + sumP A < t → seekP t a A = none := by
  intro A
  induction A with
  | nil => intro a _ _; rfl
  | cons p r ih =>
    intro a h hs
    rw [sumP_cons] at hs
    have h1 := sumP_pos (fun q hq => h q (by simp [hq])) (L := r)
    rw [seek_cons, if_neg (by omega)]
    exact ih _ (fun q hq => h q (by simp [hq])) (by omega)
theorem seek_key (t x : Int) : ∀ (A : List PairV) (a : Int), seekP t a A = some x → ∃ p, p ∈ A ∧ p.1 = x := by
  intro A
  induction A with
  | nil => intro a h; cases h
  | cons p r ih =>
    intro a h
    rw [seek_cons] at h
    split at h
    · exact ⟨p, by simp, Option.some.inj h⟩
    · obtain ⟨q, hq, e⟩ := ih _ h
      exact ⟨q, by simp [hq], e⟩
theorem find_key {t x : Int} {A : List PairV} (h : findP A t = some x) : ∃ p, p ∈ A ∧ p.1 = x := by
  unfold findP at h
  split at h
  · exact seek_key t x A 0 h
  · cases h
theorem kept_pos {s : Bool} {m T : Int} {K : List PairV} (h : KeptP s m K T) : (∀ p, p ∈ K → okP p) ∧ 0 ≤ sumP K ∧ sumP K ≤ T ∧ T ≤ 9223372036854775807 ∧ 1 ≤ m ∧ m ≤ 4096 := by
  cases s with
  | false =>
    have h : Lwp m K T := h
    exact ⟨h.ok, h.pos, h.sum, h.top, h.m1, h.m2⟩
  | true =>
    have h : Hgp m K T := h
    exact ⟨h.ok, h.pos, h.sum, h.top, h.m1, h.m2⟩
theorem finds_out {s : Bool} {m T t : Int} {K : List PairV} (h : KeptP s m K T) (ht : T < t) : findS s K (T - sumP K) t = none := by
  obtain ⟨ho, p0, p1, _⟩ := kept_pos h
  have hp := ok_pos ho
  unfold findS
  cases s with
  | false =>
    rw [if_neg (by decide)]; unfold findL findP
    rw [if_neg (by omega), if_pos (by omega)]
    exact seek_past _ K 0 hp (by omega)
  | true =>
    rw [if_pos rfl]; unfold findH findP
    rw [if_pos (by omega)]
    exact seek_past _ K 0 hp (by omega)
theorem finds_i64 {s : Bool} {m T t i : Int} {K : List PairV} (h : KeptP s m K T) (hf : findS s K (T - sumP K) t = some i) : I64 i := by
  obtain ⟨ho, _⟩ := kept_pos h
  have key : ∀ t, findP K t = some i → I64 i := fun t h => by
    obtain ⟨p, hp, e⟩ := find_key h
    rw [← e]; exact (ho p hp).1
  unfold findS at hf
  cases s with
  | false =>
    rw [if_neg (by decide)] at hf; unfold findL at hf
    split at hf
    · cases hf
    · exact key _ hf
  | true => rw [if_pos rfl] at hf; exact key _ hf

theorem bnp_stand {w : World} {B : Nat} {S R : Nat → Prop} {P : Pt} {s : Bool} {m : Int} {st : St} {V : Value} {t1 : Nat} {v1 : Value} {S1 : Nat → Prop} {t2 : Nat} {v2 : Value} {S2 : Nat → Prop} (h : BnP w B S R P s m st V t1 v1 S1 t2 v2 S2) {t : Nat} {v : Value} {S0 : Nat → Prop} {K : List PairV} {T : Int} (hs : StoT w t v S0 s m K T) (hl : K.length ≤ 500) (x : Int) (hx : Word x) (neg : Bool) (f : Option Int)
    (hf : (findS s K (T - sumP K) x).map (fun i => if neg = true then -(P.rep i) else min (P.rep i) 9223372036854775807) = f) :
    Calls Tryz.prog 58 #[.pointer (some ⟨B, 0, none⟩), .iface t v, .int .u64 x, .bool neg] w fun e w' => e = .returned (.tuple #[.int .i64 (f.getD 0), .bool f.isSome]) ∧ Below w.heap.size w w' := by
  obtain ⟨g, hm, hc⟩ := sto_find hs
  have hc := hc w S0 K T x hs (by omega) hx
  obtain ⟨tp, vp, gp, rfl, hm2, hr⟩ := pt_rep h.p
  have hP := ptx_ok h.p
  obtain ⟨o, ho⟩ : ∃ o, findS s K (T - sumP K) x = o := ⟨_, rfl⟩
  rw [ho] at hc hf
  cases o with
  | none =>
    subst hf
    exact bstand_none w _ t g v x neg _ hm hc
  | some i =>
    subst hf
    obtain ⟨q0, q1⟩ := rep_bd hP i
    exact bstand_some w B tp gp vp t g v x neg i (P.rep i) _ h.c.c0 hm hc hm2 (fun W hb => hr W i (ptx_call h.p hb) (finds_i64 (sto_kept hs) ho)) q0 q1 rfl

theorem bnp_find {w : World} {B : Nat} {S R : Nat → Prop} {P : Pt} {s : Bool} {m : Int} {st : St} {V : Value} {t1 : Nat} {v1 : Value} {S1 : Nat → Prop} {t2 : Nat} {v2 : Value} {S2 : Nat → Prop} (h : BnP w B S R P s m st V t1 v1 S1 t2 v2 S2) (l1 : st.k1.length ≤ 500) (l2 : st.k2.length ≤ 500) (t : Int) (wt : Word t) :
    Calls Tryz.prog 37 #[.pointer (some ⟨B, 0, none⟩), .int .u64 t] w fun e w' => e = .returned (.tuple #[.int .i64 ((findSt P s st t).getD 0), .bool (findSt P s st t).isSome]) ∧ Below w.heap.size w w' := by
  obtain ⟨g1, m1, c1⟩ := sto_total h.a
  obtain ⟨x1, x2, x3, x4⟩ := bnp_t h
  have hall : st.t1 + st.t2 + st.z ≤ 9223372036854775807 := h.all
  have hz := h.z0
  have hw := id wt
  obtain ⟨w0, w1⟩ := hw
  refine bfind_of w _ t1 t2 g1 v1 v2 st.t1 st.z t _ _ wt (has_at h.c) m1 (fun W hb => c1 W _ _ _ (sto_call h.a hb) (by omega)) (by omega) hz (by omega) ?_ ?_ ?_ ?_
  · intro e; unfold findSt; rw [if_pos (by omega)]; exact ⟨rfl, rfl⟩
  · intro a b W x hb hx
    refine bnp_stand (bnp_call h hb) (sto_call h.a hb) l1 x ⟨by omega, by omega⟩ true _ ?_
    unfold findSt; rw [if_neg (by omega), if_pos b, ← hx]; rfl
  · intro a b; unfold findSt; rw [if_neg (by omega), if_neg (by omega), if_pos b]; exact ⟨rfl, rfl⟩
  · intro a W x hb hx
    refine bnp_stand (bnp_call h hb) (sto_call h.b hb) l2 x ⟨by omega, by omega⟩ false _ ?_
    unfold findSt; rw [if_neg (by omega), if_neg (by omega), if_neg (by omega)]
    by_cases c : t ≤ st.t1 + st.z + st.t2
    · rw [if_pos c, show t - st.t1 - st.z = x by omega]; rfl
    · rw [if_neg c, finds_out (sto_kept h.b) (by omega)]; rfl
end Go.Proofs.YtcijflakldggaaaGreat

/-
  Walks: package bins: Rank, Add.
-/
namespace Go.Proofs.YtcijflakldggaaaGreat
set_option linter.unusedVariables false
set_option linter.unusedSimpArgs false
open Go.RowKit

theorem lows_bd {s : Bool} {m T : Int} {K : List PairV} (h : KeptP s m K T) (i : Int) : 0 ≤ lowS s m K (T - sumP K) i ∧ lowS s m K (T - sumP K) i ≤ T ∧ 0 ≤ highS s m K (T - sumP K) i ∧ highS s m K (T - sumP K) i ≤ T := by
  obtain ⟨ho, p0, p1, _⟩ := kept_pos h
  have h1 := below_le (L := K) i (ok_pos ho)
  have h2 : 0 ≤ belowP K i := (sumP_filter _ (ok_pos ho)).1
  unfold lowS highS
  cases s with
  | false => rw [if_neg (by decide), if_neg (by decide)]; unfold lowB highB; split <;> omega
  | true => rw [if_pos rfl, if_pos rfl]; unfold lowBH highBH; split <;> omega

set_option maxRecDepth 100000 in
set_option maxHeartbeats 2000000 in
theorem bnp_add {w : World} {B : Nat} {S R : Nat → Prop} {P : Pt} {s : Bool} {m : Int} {st : St} {V : Value} {t1 : Nat} {v1 : Value} {S1 : Nat → Prop} {t2 : Nat} {v2 : Value} {S2 : Nat → Prop} (h : BnP w B S R P s m st V t1 v1 S1 t2 v2 S2) (l1 : st.k1.length ≤ 500) (l2 : st.k2.length ≤ 500) (x c : Int) (hx : I64 x) (hc : Word c) :
    Calls Tryz.prog 50 #[.pointer (some ⟨B, 0, none⟩), .int .i64 x, .int .u64 c] w fun e w' => ∃ S', e = .returned (.int .i64 (binErr st c)) ∧ BnX w' B S' R P s m (binSt P s m st x c) ∧ Keeps S w w' ∧ (∀ k, S' k → S k ∨ w.heap.size ≤ k) := by
  have HT := Lib.hid (bnp_total h l1 l2)
  have HX := Lib.hid h
  obtain ⟨y1, y2, y3, y4⟩ := bnp_t h
  have hall : st.t1 + st.t2 + st.z ≤ 9223372036854775807 := h.all
  have hz := h.z0
  obtain ⟨T, hT⟩ : ∃ T, st.all = T := ⟨_, rfl⟩
  have hT' : st.t1 + st.t2 + st.z = T := hT
  have HXI := Lib.hid hx
  have hcases := lwErr_cases (T := T) (c := c) hc
  have HWC := Lib.hid hc
  have HBE : Hid (binErr st c = lwErr T c) := Lib.hid (by unfold binErr; rw [hT])
  have HSAME : Hid (∀ w', Below w.heap.size w w' → lwErr T c ≠ 0 → BnX w' B S R P s m (binSt P s m st x c)) := Lib.hid (fun w' hb he => by
    have : binSt P s m st x c = st := by unfold binSt; rw [if_neg (by rw [HBE.out]; exact he)]
    rw [this]; exact ⟨_, _, _, _, _, _, _, bnp_call HX.out hb⟩)
  obtain ⟨w0, w1⟩ := hc
  rw [hT] at HT
  rcases hcases with ⟨rfl, e⟩ | ⟨hc0, hfull, e⟩ | ⟨hc0, hfit, e⟩
  · have E := Lib.hid e
    clear e h hT hT' hx
    go_enter Tryz.func50, Tryz.ntmps50
    go_wp2_with fail
    go_ret
    exact ⟨S, ret_int (by rw [HBE.out, E.out]), HSAME.out _ (Below.refl _ _) (by rw [E.out]; decide), Keeps.refl _ _, fun k hk => Or.inl hk⟩
  · have E := Lib.hid e
    have c00 : (c == 0) = false := by simp; omega
    obtain ⟨pb, pq⟩ := plus2_no (x := T) (y := c) (by omega)
    have PB := Lib.hid pb
    have PQ := Lib.hid pq
    clear e pb pq h hT hx
    go_enter Tryz.func50, Tryz.ntmps50
    go_wp2_with fail
    refine HT.out.mono ?_
    rintro e w2 ⟨rfl, b2⟩
    go_wp2_with fail
    refine (plus_two T c 0 false _ _ _ ⟨by omega, by omega⟩ ⟨by omega, by omega⟩ (two_words w2 _ _ _).1 (two_words w2 _ _ _).2 PQ.out PB.out).mono ?_
    rintro e w3 ⟨rfl, rfl⟩
    have hb := b2.alloc b2.size (.cells #[.int .u64 T, .int .u64 c] 22)
    have hz3 := hb.size
    go_wp2_with fail
    go_ret
    exact ⟨S, ret_int (by rw [HBE.out, E.out]), HSAME.out _ hb (by rw [E.out]; decide), Keeps.of_below hb, fun k hk => Or.inl hk⟩
  · have hb0 : binSt P s m st x c = addSt P s m st x c := by unfold binSt; rw [if_pos (by rw [HBE.out]; exact e)]
    have l1e : lwErr st.t1 c = 0 := by unfold lwErr; rw [if_neg (by omega), if_neg (by omega)]
    have l2e : lwErr st.t2 c = 0 := by unfold lwErr; rw [if_neg (by omega), if_neg (by omega)]
    rw [hb0]
    have E := Lib.hid e
    have c00 : (c == 0) = false := by simp; omega
    obtain ⟨pb, pq⟩ := plus2_yes (x := T) (y := c) (by omega)
    have PB := Lib.hid pb
    have PQ := Lib.hid pq
    clear e pb pq
    by_cases x0 : x = 0
    · have ha : addSt P s m st x c = { st with z := st.z + c } := by unfold addSt; rw [if_pos x0]
      subst x0
      have HO : Hid (∀ W, Calls Tryz.prog 73 #[.int .i64 0] W fun e w' => e = .returned (.tuple #[.int .u64 0, .bool false]) ∧ W = w') := Lib.hid (fun W => of_any 0 HXI.out W)
      have hcB := h.c
      rw [ha]
      have HA := Lib.hid ha
      obtain ⟨zz, hzz⟩ : ∃ zz, st.z = zz := ⟨_, rfl⟩
      rw [hzz] at hcB
      have HZZ := Lib.hid hzz
      have zb : 0 ≤ zz ∧ zz + c ≤ 9223372036854775807 := by omega
      obtain ⟨zb0, zb1⟩ := zb
      clear h hT hx ha hb0 l1e l2e hzz
      go_enter Tryz.func50, Tryz.ntmps50
      go_wp2_with fail
      refine HT.out.mono ?_
      rintro e w2 ⟨rfl, b2⟩
      go_wp2_with fail
      refine (plus_two T c (T + c) true _ _ _ ⟨by omega, by omega⟩ ⟨by omega, by omega⟩ (two_words w2 _ _ _).1 (two_words w2 _ _ _).2 PQ.out PB.out).mono ?_
      rintro e w3 ⟨rfl, rfl⟩
      have hb := b2.alloc b2.size (.cells #[.int .u64 T, .int .u64 c] 22)
      have hz3 := hb.size
      go_wp2_with fail
      refine (HO.out _).mono ?_
      rintro e w4 ⟨rfl, rfl⟩
      have q4 := (hcB.call hb).c4
      have f4 := free8 (hcB.call hb).b 4
      have HB := Lib.hid hb
      have HCB := Lib.hid hcB
      clear hb hcB
      go_wp2_with fail
      go_ret
      have hbn := bnp_zero (z := zz + c) (bnp_call HX.out HB.out) (by omega) (by have := HZZ.out; omega)
      have hSB : S B := (HX.out.S B).2 (Or.inl rfl)
      refine ⟨S, ret_int (by rw [HBE.out, E.out]), ?_, ?_, fun k hk => Or.inl hk⟩
      · rw [HZZ.out]; exact ⟨_, _, _, _, _, _, _, hbn⟩
      · have hk := Keeps.of_below (S := S) HB.out
        refine ⟨hk.os, hk.tape, hk.output, by simpa [World.setCell] using hk.size, fun k hlt hn => ?_⟩
        rw [Below.heap_setCell _ _ _ k (fun e => hn (by have e : k = B := e; rw [e]; exact hSB))]
        exact hk.block k hlt hn
    · obtain ⟨mg1, mg2⟩ := mag_in hx x0
      have hid := pt_idx (ptx_ok h.p) mg1 mg2
      obtain ⟨mx, hmx⟩ : ∃ mx, mag x = mx := ⟨_, rfl⟩
      obtain ⟨i, hi'⟩ : ∃ i, P.idx mx = i := ⟨_, rfl⟩
      obtain ⟨tp, vp, gp, rfl, hm2, hi⟩ := pt_index h.p
      have HO := Lib.hid (fun W => of_any x hx W)
      rw [hmx] at HO mg1 mg2 hid
      rw [hi'] at hid
      have mg0 : (mx == 0) = false := by simp; omega
      have H2 := Lib.hid hm2
      have HI : Hid (∀ W, Below w.heap.size w W → Calls Tryz.prog gp #[vp, .int .u64 mx] W fun e w' => e = .returned (.tuple #[.int .i64 i, .bool true]) ∧ Below W.heap.size W w') := Lib.hid (fun W hb => by rw [← hi']; exact hi W mx (ptx_call h.p hb) mg1 mg2)
      have q0 := h.c.c0
      obtain ⟨id0, id1, _⟩ := hid
      by_cases hn : x < 0
      · have ha : addSt P s m st x c = { st with k1 := keepS s m (addP st.k1 i c), t1 := st.t1 + c } := by unfold addSt; rw [if_neg x0, if_pos hn, hmx, hi']
        have hd : decide (x < 0) = true := decide_eq_true hn
        rw [hd] at HO
        rw [ha]
        obtain ⟨ga, hma, hca⟩ := sto_add h.a
        have q2 := h.c.c2
        have H1 := Lib.hid hma
        have HCA := Lib.hid (fun W hb => hca W S1 st.k1 st.t1 i c (sto_call h.a hb) (by omega) (by unfold I64; omega) HWC.out)
        have ek : addK s m st.k1 st.t1 i c = keepS s m (addP st.k1 i c) := by unfold addK; rw [if_pos l1e]
        have et : lwSum st.t1 c = st.t1 + c := by unfold lwSum; rw [if_pos l1e]
        rw [ek, et, l1e] at HCA
        clear h hT hx ha hb0 l1e l2e hma hca ek et hm2 hi hd
        go_enter Tryz.func50, Tryz.ntmps50
        go_wp2_with fail
        refine HT.out.mono ?_
        rintro e w2 ⟨rfl, b2⟩
        go_wp2_with fail
        refine (plus_two T c (T + c) true _ _ _ ⟨by omega, by omega⟩ ⟨by omega, by omega⟩ (two_words w2 _ _ _).1 (two_words w2 _ _ _).2 PQ.out PB.out).mono ?_
        rintro e w3 ⟨rfl, rfl⟩
        have hb := b2.alloc b2.size (.cells #[.int .u64 T, .int .u64 c] 22)
        have hz3 := hb.size
        go_wp2_with fail
        refine (HO.out _).mono ?_
        rintro e w4 ⟨rfl, rfl⟩
        have q0' := cell_later hb q0
        go_wp2_with fail
        rw [H2.out.m]
        go_wp2_with fail
        rw [H2.out.e]
        show Calls _ _ _ _ _
        refine (HI.out _ hb).mono ?_
        rintro e w5 ⟨rfl, b5⟩
        have b5 := hb.trans (b5.mono hb.size)
        have q2' := cell_later b5 q2
        go_wp2_with fail
        rw [H1.out.m]
        go_wp2_with fail
        rw [H1.out.e]
        show Calls _ _ _ _ _
        refine (HCA.out _ b5).mono ?_
        rintro e w6 ⟨S', rfl, hs6, k6, hS6⟩
        have HS6 := Lib.hid hs6
        have HB5 := Lib.hid b5
        clear hs6 b5
        go_wp2_with fail
        go_ret
        have hbn := bnp_one (bnp_call HX.out HB5.out) k6 HS6.out hS6 (by omega)
        refine ⟨_, ret_int (by rw [HBE.out, E.out]), ⟨_, _, _, _, _, _, _, hbn⟩, (Keeps.of_below HB5.out).trans (keeps_more k6 fun k hk => (HX.out.S k).2 (Or.inr (Or.inl hk))) (fun j hj => Or.inl hj), fun k hk => ?_⟩
        have hsz := HB5.out.size
        rcases hk with hk | hk | hk
        · exact Or.inl ((HX.out.S k).2 (Or.inl hk))
        · rcases hS6 k hk with h | h
          · exact Or.inl ((HX.out.S k).2 (Or.inr (Or.inl h)))
          · exact Or.inr (by omega)
        · exact Or.inl ((HX.out.S k).2 (Or.inr (Or.inr hk)))
      · have ha : addSt P s m st x c = { st with k2 := keepS s m (addP st.k2 i c), t2 := st.t2 + c } := by unfold addSt; rw [if_neg x0, if_neg hn, hmx, hi']
        have hd : decide (x < 0) = false := decide_eq_false hn
        rw [hd] at HO
        rw [ha]
        obtain ⟨ga, hma, hca⟩ := sto_add h.b
        have q2 := h.c.c3
        have H1 := Lib.hid hma
        have HCA := Lib.hid (fun W hb => hca W S2 st.k2 st.t2 i c (sto_call h.b hb) (by omega) (by unfold I64; omega) HWC.out)
        have ek : addK s m st.k2 st.t2 i c = keepS s m (addP st.k2 i c) := by unfold addK; rw [if_pos l2e]
        have et : lwSum st.t2 c = st.t2 + c := by unfold lwSum; rw [if_pos l2e]
        rw [ek, et, l2e] at HCA
        clear h hT hx ha hb0 l1e l2e hma hca ek et hm2 hi hd
        go_enter Tryz.func50, Tryz.ntmps50
        go_wp2_with fail
        refine HT.out.mono ?_
        rintro e w2 ⟨rfl, b2⟩
        go_wp2_with fail
        refine (plus_two T c (T + c) true _ _ _ ⟨by omega, by omega⟩ ⟨by omega, by omega⟩ (two_words w2 _ _ _).1 (two_words w2 _ _ _).2 PQ.out PB.out).mono ?_
        rintro e w3 ⟨rfl, rfl⟩
        have hb := b2.alloc b2.size (.cells #[.int .u64 T, .int .u64 c] 22)
        have hz3 := hb.size
        go_wp2_with fail
        refine (HO.out _).mono ?_
        rintro e w4 ⟨rfl, rfl⟩
        have q0' := cell_later hb q0
        go_wp2_with fail
        rw [H2.out.m]
        go_wp2_with fail
        rw [H2.out.e]
        show Calls _ _ _ _ _
        refine (HI.out _ hb).mono ?_
        rintro e w5 ⟨rfl, b5⟩
        have b5 := hb.trans (b5.mono hb.size)
        have q2' := cell_later b5 q2
        go_wp2_with fail
        rw [H1.out.m]
        go_wp2_with fail
        rw [H1.out.e]
        show Calls _ _ _ _ _
        refine (HCA.out _ b5).mono ?_
        rintro e w6 ⟨S', rfl, hs6, k6, hS6⟩
        have HS6 := Lib.hid hs6
        have HB5 := Lib.hid b5
        clear hs6 b5
        go_wp2_with fail
        go_ret
        have hbn := bnp_two (bnp_call HX.out HB5.out) k6 HS6.out hS6 (by omega)
        refine ⟨_, ret_int (by rw [HBE.out, E.out]), ⟨_, _, _, _, _, _, _, hbn⟩, (Keeps.of_below HB5.out).trans (keeps_more k6 fun k hk => (HX.out.S k).2 (Or.inr (Or.inr hk))) (fun j hj => Or.inl hj), fun k hk => ?_⟩
        have hsz := HB5.out.size
        rcases hk with hk | hk | hk
        · exact Or.inl ((HX.out.S k).2 (Or.inl hk))
        · exact Or.inl ((HX.out.S k).2 (Or.inr (Or.inl hk)))
        · rcases hS6 k hk with h | h
          · exact Or.inl ((HX.out.S k).2 (Or.inr (Or.inr h)))
          · exact Or.inr (by omega)

set_option maxHeartbeats 400000 in
theorem badd_nil (w : World) (x c : Int) (hx : I64 x) (hc : Word c) : Calls Tryz.prog 50 #[.pointer none, .int .i64 x, .int .u64 c] w fun e w' => e = .returned (.int .i64 2) ∧ Below w.heap.size w w' := by
  go_enter Tryz.func50, Tryz.ntmps50
  go_wp2_with fail
  go_ret
  exact ⟨rfl, Below.refl _ _⟩
end Go.Proofs.YtcijflakldggaaaGreat

/-
  Walks: package bins: New, Like, Merge.
-/
namespace Go.Proofs.YtcijflakldggaaaGreat
set_option linter.unusedVariables false
set_option linter.unusedSimpArgs false
open Go.RowKit

set_option maxHeartbeats 400000 in
theorem lload_bad (w : World) (m : Int) (hm : I64 m) (hb : m < 1 ∨ 4096 < m) :
    Calls Tryz.prog 92 #[.int .i64 m, .slice none 0 0, .int .u64 0] w fun e w' => e = .returned (.tuple #[.pointer none, .int .i64 1]) ∧ Below w.heap.size w w' := by
  have HB := Lib.hid (low_does.bad w m hm hb)
  clear hb
  go_enter Tryz.func92, Tryz.ntmps92
  go_wp2_with fail
  refine HB.out.mono ?_
  rintro e w1 ⟨rfl, b1⟩
  go_wp2_with fail
  go_ret2
  exact ⟨rfl, b1⟩
set_option maxHeartbeats 400000 in
theorem hload_bad (w : World) (m : Int) (hm : I64 m) (hb : m < 1 ∨ 4096 < m) :
    Calls Tryz.prog 93 #[.int .i64 m, .slice none 0 0, .int .u64 0] w fun e w' => e = .returned (.tuple #[.pointer none, .int .i64 1]) ∧ Below w.heap.size w w' := by
  have HB := Lib.hid (high_does.bad w m hm hb)
  clear hb
  go_enter Tryz.func93, Tryz.ntmps93
  go_wp2_with fail
  refine HB.out.mono ?_
  rintro e w1 ⟨rfl, b1⟩
  go_wp2_with fail
  go_ret2
  exact ⟨rfl, b1⟩

set_option maxHeartbeats 1000000 in
/-- A store of a side. -/
theorem bstoreof_good (w : World) (s : Bool) (m : Int) (A : Option Addr) (cap : Nat) (L : List PairV) (l : Int) (m1 : 1 ≤ m) (m2 : m ≤ 4096) (hP : Pairs w A L) (hl : L.length ≤ 300) (hw : Word l) (hb : loadB m L l = true) :
    Calls Tryz.prog 76 #[.int .i64 (sideI s), .int .i64 m, .slice A L.length cap, .int .u64 l] w fun e w' => ∃ t v S, e = .returned (.tuple #[.iface t v, .bool true]) ∧ StoT w' t v S s m L (sumP L + l) ∧ (∀ k, S k → w.heap.size ≤ k) ∧ Below w.heap.size w w' := by
  cases s with
  | false =>
    have H := Lib.hid (low_does.load w m A cap L l m1 m2 hP hl hw hb)
    have e0 : sideI false = 0 := rfl
    rw [e0]
    obtain ⟨n, hn⟩ : ∃ n : Nat, L.length = n := ⟨_, rfl⟩
    rw [hn] at H ⊢
    clear hP hb e0 hn
    go_enter Tryz.func76, Tryz.ntmps76
    go_wp2_with fail
    refine H.out.mono ?_
    rintro e w2 ⟨B, S, rfl, hx, hS, hb⟩
    go_wp2_with fail
    go_ret2
    exact ⟨_, _, S, rfl, ⟨rfl, B, rfl, hx⟩, hS, hb⟩
  | true =>
    have H := Lib.hid (high_does.load w m A cap L l m1 m2 hP hl hw hb)
    have e0 : sideI true = 1 := rfl
    rw [e0]
    obtain ⟨n, hn⟩ : ∃ n : Nat, L.length = n := ⟨_, rfl⟩
    rw [hn] at H ⊢
    clear hP hb e0 hn
    go_enter Tryz.func76, Tryz.ntmps76
    go_wp2_with fail
    refine H.out.mono ?_
    rintro e w2 ⟨B, S, rfl, hx, hS, hb⟩
    go_wp2_with fail
    go_ret2
    exact ⟨_, _, S, rfl, ⟨rfl, B, rfl, hx⟩, hS, hb⟩
set_option maxHeartbeats 1000000 in
theorem bstoreof_unfit (w : World) (s : Bool) (m : Int) (A : Option Addr) (cap : Nat) (L : List PairV) (l : Int) (m1 : 1 ≤ m) (m2 : m ≤ 4096) (hP : Pairs w A L) (hl : L.length ≤ 300) (hw : Word l) (hb : loadB m L l = false) :
    Calls Tryz.prog 76 #[.int .i64 (sideI s), .int .i64 m, .slice A L.length cap, .int .u64 l] w fun e w' => ∃ X, e = .returned (.tuple #[X, .bool false]) ∧ Below w.heap.size w w' := by
  cases s with
  | false =>
    have H := Lib.hid (low_does.unfit w m A cap L l m1 m2 hP hl hw hb)
    have e0 : sideI false = 0 := rfl
    rw [e0]
    obtain ⟨n, hn⟩ : ∃ n : Nat, L.length = n := ⟨_, rfl⟩
    rw [hn] at H ⊢
    clear hP hb e0 hn
    go_enter Tryz.func76, Tryz.ntmps76
    go_wp2_with fail
    refine H.out.mono ?_
    rintro e w2 ⟨rfl, hb⟩
    go_wp2_with fail
    go_ret2
    exact ⟨_, rfl, hb⟩
  | true =>
    have H := Lib.hid (high_does.unfit w m A cap L l m1 m2 hP hl hw hb)
    have e0 : sideI true = 1 := rfl
    rw [e0]
    obtain ⟨n, hn⟩ : ∃ n : Nat, L.length = n := ⟨_, rfl⟩
    rw [hn] at H ⊢
    clear hP hb e0 hn
    go_enter Tryz.func76, Tryz.ntmps76
    go_wp2_with fail
    refine H.out.mono ?_
    rintro e w2 ⟨rfl, hb⟩
    go_wp2_with fail
    go_ret2
    exact ⟨_, rfl, hb⟩
set_option maxHeartbeats 1000000 in
theorem bstoreof_bad (w : World) (sd m : Int) (hs : I64 sd) (hm : I64 m) (hb : sd < 0 ∨ 1 < sd ∨ m < 1 ∨ 4096 < m) :
    Calls Tryz.prog 76 #[.int .i64 sd, .int .i64 m, .slice none 0 0, .int .u64 0] w fun e w' => ∃ X, e = .returned (.tuple #[X, .bool false]) ∧ Below w.heap.size w w' := by
  by_cases h0 : sd = 0
  · subst h0
    have H := Lib.hid (lload_bad w m hm (by omega))
    clear hb
    go_enter Tryz.func76, Tryz.ntmps76
    go_wp2_with fail
    refine H.out.mono ?_
    rintro e w2 ⟨rfl, hb⟩
    go_wp2_with fail
    go_ret2
    exact ⟨_, rfl, hb⟩
  by_cases h1 : sd = 1
  · subst h1
    have H := Lib.hid (hload_bad w m hm (by omega))
    clear hb
    go_enter Tryz.func76, Tryz.ntmps76
    go_wp2_with fail
    refine H.out.mono ?_
    rintro e w2 ⟨rfl, hb⟩
    go_wp2_with fail
    go_ret2
    exact ⟨_, rfl, hb⟩
  have e0 : (sd == 0) = false := by simp [h0]
  have e1 : (sd == 1) = false := by simp [h1]
  go_enter Tryz.func76, Tryz.ntmps76
  go_wp2_with fail
  go_ret2
  exact ⟨_, rfl, Below.refl _ _⟩
theorem bstoreof_nil (w : World) (s : Bool) (m : Int) (m1 : 1 ≤ m) (m2 : m ≤ 4096) :
    Calls Tryz.prog 76 #[.int .i64 (sideI s), .int .i64 m, .slice none 0 0, .int .u64 0] w fun e w' => ∃ t v S, e = .returned (.tuple #[.iface t v, .bool true]) ∧ StoT w' t v S s m [] 0 ∧ (∀ k, S k → w.heap.size ≤ k) ∧ Below w.heap.size w w' :=
  bstoreof_good w s m none 0 [] 0 m1 m2 ⟨fun p h => (by cases h), fun i p h => (by simp at h)⟩ (by decide) ⟨by decide, by decide⟩ (by
    unfold loadB; simp [sumP_nil]; exact ⟨rfl, by omega⟩)
theorem bstoreof_any (w : World) (sd m : Int) (hs : I64 sd) (hm : I64 m) :
    Calls Tryz.prog 76 #[.int .i64 sd, .int .i64 m, .slice none 0 0, .int .u64 0] w fun e w' => ∃ X b, e = .returned (.tuple #[X, .bool b]) ∧ Below w.heap.size w w' := by
  by_cases hb : sd < 0 ∨ 1 < sd ∨ m < 1 ∨ 4096 < m
  · exact (bstoreof_bad w sd m hs hm hb).mono fun e w' ⟨X, he, hb⟩ => ⟨X, false, he, hb⟩
  · have key : ∀ s, sideI s = sd → Calls Tryz.prog 76 #[.int .i64 sd, .int .i64 m, .slice none 0 0, .int .u64 0] w fun e w' => ∃ X b, e = .returned (.tuple #[X, .bool b]) ∧ Below w.heap.size w w' := fun s h => by
      rw [← h]; exact (bstoreof_nil w s m (by omega) (by omega)).mono fun e w' ⟨t, v, S, he, _, _, hb⟩ => ⟨_, true, he, hb⟩
    by_cases h0 : sd = 0
    · exact key false h0.symm
    · exact key true (by show 1 = sd; omega)

set_option maxRecDepth 100000 in
set_option maxHeartbeats 1000000 in
theorem bnew_any (w : World) (V : Value) (R : Nat → Prop) (P : Pt) (s : Bool) (m : Int) (hV : PtX w V R P) (m1 : 1 ≤ m) (m2 : m ≤ 4096) :
    Calls Tryz.prog 52 #[V, .int .i64 (sideI s), .int .i64 m] w fun e w' => ∃ B S, e = .returned (.tuple #[.pointer (some ⟨B, 0, none⟩), .int .i64 0]) ∧ BnX w' B S R P s m stNil ∧ (∀ k, S k → w.heap.size ≤ k) ∧ Below w.heap.size w w' := by
  have HS := Lib.hid (fun W => bstoreof_nil W s m m1 m2)
  have HV := Lib.hid hV
  obtain ⟨tp, vp, _, rfl, _⟩ := pt_index hV
  obtain ⟨sd, hsd⟩ : ∃ sd, sideI s = sd := ⟨_, rfl⟩
  rw [hsd] at HS ⊢
  have HSD := Lib.hid hsd
  have HM1 := Lib.hid m1
  have HM2 := Lib.hid m2
  clear hV hsd m1 m2
  go_enter Tryz.func52, Tryz.ntmps52
  go_wp2_with fail
  refine (HS.out _).mono ?_
  rintro e w2 ⟨t1, v1, S1, rfl, hs1, hf1, b2⟩
  have Q1 := Lib.hid hs1
  have F1 := Lib.hid hf1
  clear hs1 hf1
  go_wp2_with fail
  refine (HS.out _).mono ?_
  rintro e w3 ⟨t2, v2, S2, rfl, hs2, hf2, b3⟩
  have Q2 := Lib.hid hs2
  have F2 := Lib.hid hf2
  have HB3 := Lib.hid b3
  have HB2 := Lib.hid b2
  clear hs2 hf2 b2 b3
  go_wp2_with fail
  refine bodyPost_ret (v := .tuple #[.pointer (some ⟨w3.heap.size, 0, none⟩), .int .i64 0]) (by simp [results, Tryz.results52, go_sem]) rfl ?_
  have b2 := HB2.out
  have b3 := HB3.out
  have z2 := b2.size
  have z3 := b3.size
  have bb := b2.trans (b3.mono z2)
  obtain ⟨ob, hob⟩ : ∃ ob : Obj, ob = .cells #[.iface tp vp, .int .i64 sd, .iface t1 v1, .iface t2 v2, .int .u64 0] 137 := ⟨_, rfl⟩
  have hb4 : Below w3.heap.size w3 (w3.alloc ob) := (Below.refl _ _).alloc (Nat.le_refl _) _
  have r1 := sto_lt Q1.out
  have r2 := sto_lt Q2.out
  have rr := ptx_lt HV.out
  refine ⟨w3.heap.size, fun k => k = w3.heap.size ∨ S1 k ∨ S2 k, rfl, ⟨.iface tp vp, t1, v1, S1, t2, v2, S2, ?_⟩, ?_, ?_⟩
  · rw [← hob]
    exact { c := ⟨by rw [HSD.out, hob]; exact heap_alloc_new _ _⟩
            p := ptx_call (ptx_call HV.out bb) (hb4.mono (Nat.le_refl _))
            a := sto_call (sto_call Q1.out b3) hb4
            b := sto_call Q2.out hb4
            n1 := fun h => by have := r1 _ h; omega
            n2 := fun h => by have := r2 _ h; omega
            nr := fun h => by have := rr _ h; omega
            d := fun k h1 h2 => by have := r1 _ h1; have := F2.out _ h2; omega
            r1 := fun k h1 h2 => by have := rr _ h2; have := F1.out _ h1; omega
            r2 := fun k h1 h2 => by have := rr _ h2; have := F2.out _ h1; omega
            S := fun k => Iff.rfl
            z0 := Int.le_refl _
            all := by decide }
  · rintro k (rfl | hk | hk)
    · omega
    · exact F1.out k hk
    · have := F2.out k hk; omega
  · exact bb.alloc (by omega) _
set_option maxRecDepth 100000 in
set_option maxHeartbeats 1000000 in
theorem bnew_bad (w : World) (t : Nat) (v : Value) (sd m : Int) (hs : I64 sd) (hm : I64 m) (hb : sd < 0 ∨ 1 < sd ∨ m < 1 ∨ 4096 < m) :
    Calls Tryz.prog 52 #[.iface t v, .int .i64 sd, .int .i64 m] w fun e w' => e = .returned (.tuple #[.pointer none, .int .i64 1]) ∧ Below w.heap.size w w' := by
  have HS := Lib.hid (fun W => bstoreof_bad W sd m hs hm hb)
  clear hb hs hm
  go_enter Tryz.func52, Tryz.ntmps52
  go_wp2_with fail
  refine (HS.out _).mono ?_
  rintro e w2 ⟨X, rfl, b2⟩
  go_wp2_with fail
  refine (HS.out _).mono ?_
  rintro e w3 ⟨Y, rfl, b3⟩
  have b3 := b2.trans (b3.mono b2.size)
  go_wp2_with fail
  go_ret2
  exact ⟨rfl, b3⟩
set_option maxRecDepth 100000 in
set_option maxHeartbeats 1000000 in
theorem bnew_nop (w : World) (sd m : Int) (hs : I64 sd) (hm : I64 m) :
    Calls Tryz.prog 52 #[.nilIface, .int .i64 sd, .int .i64 m] w fun e w' => e = .returned (.tuple #[.pointer none, .int .i64 1]) ∧ Below w.heap.size w w' := by
  have HS := Lib.hid (fun W => bstoreof_any W sd m hs hm)
  clear hs hm
  go_enter Tryz.func52, Tryz.ntmps52
  go_wp2_with fail
  refine (HS.out _).mono ?_
  rintro e w2 ⟨X, b, rfl, b2⟩
  go_wp2_with fail
  refine (HS.out _).mono ?_
  rintro e w3 ⟨Y, b', rfl, b3⟩
  have b3 := b2.trans (b3.mono b2.size)
  go_wp2_with fail
  go_ret2
  exact ⟨rfl, b3⟩

theorem ret_bl {a b : Bool} (h : a = b) : Ending.returned (.bool a) = .returned (.bool b) := by rw [h]
theorem sto_mostq {w : World} {t : Nat} {v : Value} {S : Nat → Prop} {s : Bool} {m : Int} {K : List PairV} {T : Int} (h : StoT w t v S s m K T) : ∃ g, Mth "Most" t g v ∧ Calls Tryz.prog g #[v] w fun e w' => e = .returned (.int .i64 m) ∧ w = w' := by
  cases s with
  | false =>
    obtain ⟨rfl, B, rfl, _, C, S0, hb, _⟩ := h
    exact ⟨_, lmth_most _, lmost_at w B m (three_cells hb).1⟩
  | true =>
    obtain ⟨rfl, B, rfl, _, C, S0, hb, _⟩ := h
    exact ⟨_, hmth_most _, hlmost_at w B m (three_cells hb).1⟩
set_option maxHeartbeats 400000 in
theorem bstores_q (w : World) (B : Nat) (V1 V2 : Value) (h1 : w.cell? ⟨B, 2, none⟩ = some V1) (h2 : w.cell? ⟨B, 3, none⟩ = some V2) :
    Calls Tryz.prog 53 #[.pointer (some ⟨B, 0, none⟩)] w fun e w' => e = .returned (.tuple #[V1, V2]) ∧ ∃ n, w' = w.drewN n := by
  go_enter Tryz.func53, Tryz.ntmps53
  go_wp2_with fail
  go_quiet (fail)
  go_wp2_with fail
  go_ret2
  exact ⟨rfl, _, rfl⟩
set_option maxRecDepth 100000 in
set_option maxHeartbeats 400000 in
theorem bmost_q (w : World) (B : Nat) (t1 g1 : Nat) (v1 V2 : Value) (m : Int) (h1 : w.cell? ⟨B, 2, none⟩ = some (.iface t1 v1)) (h2 : w.cell? ⟨B, 3, none⟩ = some V2) (hm1 : Mth "Most" t1 g1 v1)
    (hc1 : ∀ n, Calls Tryz.prog g1 #[v1] (w.drewN n) fun e w' => e = .returned (.int .i64 m) ∧ w.drewN n = w') :
    Calls Tryz.prog 88 #[.pointer (some ⟨B, 0, none⟩)] w fun e w' => e = .returned (.int .i64 m) ∧ ∃ n, w' = w.drewN n := by
  have H1 := Lib.hid hm1
  have C1 := Lib.hid hc1
  have HS := Lib.hid (bstores_q w B _ _ h1 h2)
  clear hm1 hc1
  go_enter Tryz.func88, Tryz.ntmps88
  go_wp2_with fail
  refine HS.out.mono ?_
  rintro e w2 ⟨rfl, n, rfl⟩
  go_wp2_with fail
  rw [H1.out.m]
  go_wp2_with fail
  rw [H1.out.e]
  show Calls _ _ _ _ _
  refine (C1.out n).mono ?_
  rintro e w3 ⟨rfl, rfl⟩
  go_wp2_with fail
  go_ret
  exact ⟨rfl, n, rfl⟩
theorem bnp_mostq {w : World} {B : Nat} {S R : Nat → Prop} {P : Pt} {s : Bool} {m : Int} {st : St} {V : Value} {t1 : Nat} {v1 : Value} {S1 : Nat → Prop} {t2 : Nat} {v2 : Value} {S2 : Nat → Prop} (h : BnP w B S R P s m st V t1 v1 S1 t2 v2 S2) (n : Nat) : Calls Tryz.prog 88 #[.pointer (some ⟨B, 0, none⟩)] (w.drewN n) fun e w' => e = .returned (.int .i64 m) ∧ ∃ k, w' = (w.drewN n).drewN k := by
  have hd : ∀ j, Below w.heap.size w (w.drewN j) := fun j => below_drewN (Below.refl _ _) j
  obtain ⟨g, hm, _⟩ := sto_mostq h.a
  have key : ∀ j, Calls Tryz.prog g #[v1] (w.drewN j) fun e w' => e = .returned (.int .i64 m) ∧ w.drewN j = w' := fun j => by
    obtain ⟨g', hm', hc'⟩ := sto_mostq (sto_call h.a (hd j))
    have e : g' = g := by
      have a := hm.m 0 w
      have b := hm'.m 0 w
      rw [a] at b
      cases b; rfl
    rw [← e]; exact hc'
  have hb := bnp_call h (hd n)
  exact bmost_q (w.drewN n) B t1 g v1 _ m hb.c.c2 hb.c.c3 hm fun k => by rw [World.drewN_drewN]; exact key _

set_option maxRecDepth 100000 in
set_option maxHeartbeats 1000000 in
theorem blike_any {w : World} {B : Nat} {S R : Nat → Prop} {P : Pt} {s : Bool} {m : Int} {st : St} {V : Value} {t1 : Nat} {v1 : Value} {S1 : Nat → Prop} {t2 : Nat} {v2 : Value} {S2 : Nat → Prop} (h : BnP w B S R P s m st V t1 v1 S1 t2 v2 S2) {B' : Nat} {S' R' : Nat → Prop} {P' : Pt} {s' : Bool} {m' : Int} {st' : St} {V' : Value} {t1' : Nat} {v1' : Value} {S1' : Nat → Prop} {t2' : Nat} {v2' : Value} {S2' : Nat → Prop} (h' : BnP w B' S' R' P' s' m' st' V' t1' v1' S1' t2' v2' S2') (b : Bool) (hb : decide (s = s' ∧ m = m') = b) :
    Calls Tryz.prog 69 #[.pointer (some ⟨B, 0, none⟩), .pointer (some ⟨B', 0, none⟩)] w fun e w' => e = .returned (.bool b) ∧ Below w.heap.size w w' := by
  have c1 := h.c.c1
  have c1' := h'.c.c1
  have M1 := Lib.hid (fun n => bnp_mostq h n)
  have M2 := Lib.hid (fun n => bnp_mostq h' n)
  obtain ⟨sd, hsd⟩ : ∃ sd, sideI s = sd := ⟨_, rfl⟩
  obtain ⟨sd', hsd'⟩ : ∃ sd', sideI s' = sd' := ⟨_, rfl⟩
  rw [hsd] at c1
  rw [hsd'] at c1'
  have hss : s = s' ↔ sd = sd' := by
    rw [← hsd, ← hsd']; cases s <;> cases s' <;> simp [sideI]
  by_cases hs : sd = sd'
  · have q1 : (sd == sd') = true := by simp [hs]
    have hbm : (m == m') = b := by
      rw [← hb]
      by_cases hm : m = m'
      · rw [decide_eq_true ⟨hss.2 hs, hm⟩]; simp [hm]
      · rw [decide_eq_false (fun x => hm x.2)]; simp [hm]
    have HBM := Lib.hid hbm
    clear h h' hb hsd hsd' hss hbm
    go_enter Tryz.func69, Tryz.ntmps69
    go_wp2_with fail
    go_quiet ((go_at_call 88; first | (with_reducible exact Calls.quiet_of (M1.out _)) | exact Calls.quiet_of (M2.out _)))
    go_wp2_with fail
    go_ret
    exact ⟨ret_bl HBM.out, below_drewN (Below.refl _ _) _⟩
  · have q1 : (sd == sd') = false := by simp [hs]
    have hbf : b = false := by rw [← hb]; exact decide_eq_false (fun x => hs (hss.1 x.1))
    subst hbf
    clear h h' hb hsd hsd' hss M1 M2
    go_enter Tryz.func69, Tryz.ntmps69
    go_wp2_with fail
    go_quiet (fail)
    go_wp2_with fail
    go_ret
    exact ⟨rfl, below_drewN (Below.refl _ _) _⟩
set_option maxHeartbeats 1000000 in
theorem blike_nil (w : World) : Calls Tryz.prog 69 #[.pointer none, .pointer none] w fun e w' => e = .returned (.bool false) ∧ Below w.heap.size w w' := by
  go_enter Tryz.func69, Tryz.ntmps69
  go_wp2_with fail
  go_quiet (fail)
  go_wp2_with fail
  go_ret
  exact ⟨rfl, below_drewN (Below.refl _ _) _⟩
end Go.Proofs.YtcijflakldggaaaGreat

/-
  Walks: package bins: Merge.
-/
namespace Go.Proofs.YtcijflakldggaaaGreat
set_option linter.unusedVariables false
set_option linter.unusedSimpArgs false
open Go.RowKit

theorem ta_ll (x : Option Addr) (w : World) : (Instr.typeAssert (.iface 151 (.pointer x)) 109 151 true).run Tryz.prog w = .ok (.tuple #[.pointer x, .bool true]) w := by kernel_rfl
theorem ta_hl (x : Option Addr) (w : World) : (Instr.typeAssert (.iface 162 (.pointer x)) 109 151 true).run Tryz.prog w = .ok (.tuple #[.pointer none, .bool false]) w := by kernel_rfl
theorem ta_hh (x : Option Addr) (w : World) : (Instr.typeAssert (.iface 162 (.pointer x)) 109 162 true).run Tryz.prog w = .ok (.tuple #[.pointer x, .bool true]) w := by kernel_rfl
set_option maxRecDepth 100000 in
set_option maxHeartbeats 1000000 in
theorem bjoin_any {w : World} {t : Nat} {v : Value} {S : Nat → Prop} {s : Bool} {m : Int} {K : List PairV} {T : Int} (h : StoT w t v S s m K T) {t' : Nat} {v' : Value} {S' : Nat → Prop} {K' : List PairV} {T' : Int} (h' : StoT w t' v' S' s m K' T') (hd : ∀ k, S k → ¬ S' k) (l1 : K.length ≤ 300) (l2 : K'.length ≤ 300) (hs : T + T' ≤ 9223372036854775807) :
    Calls Tryz.prog 71 #[.iface t v, .iface t' v'] w fun e w' => e = .returned (.tuple #[]) ∧ ∃ S2, StoT w' t v S2 s m (keepS s m (joinP K K')) (T + T') ∧ Keeps S w w' ∧ (∀ k, S2 k → S k ∨ w.heap.size ≤ k) := by
  cases s with
  | false =>
    obtain ⟨rfl, B, rfl, hx⟩ := h
    obtain ⟨rfl, B', rfl, hx'⟩ := h'
    have H := Lib.hid (low_does.merge w B S m K T B' S' K' T' hx hx' (Or.inr hd) l1 l2 hs)
    clear hx hx'
    go_enter Tryz.func71, Tryz.ntmps71
    go_wp2_with fail
    rw [ta_ll]
    go_wp2_with fail
    rw [ta_ll]
    go_wp2_with fail
    refine H.out.mono ?_
    rintro e w2 ⟨S2, rfl, hx2, hk, hS⟩
    go_wp2_with fail
    first | exact bodyPost_ret (results_none rfl _ _ _) rfl ⟨rfl, S2, ⟨rfl, B, rfl, hx2⟩, hk, hS⟩ | exact bodyPost_end (results_none rfl _ _ _) rfl ⟨rfl, S2, ⟨rfl, B, rfl, hx2⟩, hk, hS⟩
  | true =>
    obtain ⟨rfl, B, rfl, hx⟩ := h
    obtain ⟨rfl, B', rfl, hx'⟩ := h'
    have H := Lib.hid (high_does.merge w B S m K T B' S' K' T' hx hx' (Or.inr hd) l1 l2 hs)
    clear hx hx'
    go_enter Tryz.func71, Tryz.ntmps71
    go_wp2_with fail
    rw [ta_hl]
    go_wp2_with fail
    rw [ta_hh]
    go_wp2_with fail
    rw [ta_hh]
    go_wp2_with fail
    refine H.out.mono ?_
    rintro e w2 ⟨S2, rfl, hx2, hk, hS⟩
    go_wp2_with fail
    first | exact bodyPost_ret (results_none rfl _ _ _) rfl ⟨rfl, S2, ⟨rfl, B, rfl, hx2⟩, hk, hS⟩ | exact bodyPost_end (results_none rfl _ _ _) rfl ⟨rfl, S2, ⟨rfl, B, rfl, hx2⟩, hk, hS⟩

set_option maxRecDepth 100000 in
set_option maxHeartbeats 1000000 in
theorem bmerge_other {w : World} {B : Nat} {S R : Nat → Prop} {P : Pt} {s : Bool} {m : Int} {st : St} {V : Value} {t1 : Nat} {v1 : Value} {S1 : Nat → Prop} {t2 : Nat} {v2 : Value} {S2 : Nat → Prop} (h : BnP w B S R P s m st V t1 v1 S1 t2 v2 S2) {B' : Nat} {S' R' : Nat → Prop} {P' : Pt} {s' : Bool} {m' : Int} {st' : St} {V' : Value} {t1' : Nat} {v1' : Value} {S1' : Nat → Prop} {t2' : Nat} {v2' : Value} {S2' : Nat → Prop} (h' : BnP w B' S' R' P' s' m' st' V' t1' v1' S1' t2' v2' S2') (hne : s ≠ s' ∨ m ≠ m') :
    Calls Tryz.prog 47 #[.pointer (some ⟨B, 0, none⟩), .pointer (some ⟨B', 0, none⟩)] w fun e w' => e = .returned (.int .i64 8) ∧ Below w.heap.size w w' := by
  have H := Lib.hid (blike_any h h' false (decide_eq_false (fun x => by rcases hne with a | a; exact a x.1; exact a x.2)))
  clear h h' hne
  go_enter Tryz.func47, Tryz.ntmps47
  go_wp2_with fail
  refine H.out.mono ?_
  rintro e w2 ⟨rfl, b2⟩
  go_wp2_with fail
  go_ret
  exact ⟨rfl, b2⟩
set_option maxHeartbeats 1000000 in
theorem bmerge_nil (w : World) : Calls Tryz.prog 47 #[.pointer none, .pointer none] w fun e w' => e = .returned (.int .i64 2) ∧ Below w.heap.size w w' := by
  go_enter Tryz.func47, Tryz.ntmps47
  go_wp2_with fail
  go_ret
  exact ⟨rfl, Below.refl _ _⟩

set_option maxRecDepth 100000 in
set_option maxHeartbeats 2000000 in
theorem bmerge_any {w : World} {B : Nat} {S R : Nat → Prop} {P : Pt} {s : Bool} {m : Int} {st : St} {V : Value} {t1 : Nat} {v1 : Value} {S1 : Nat → Prop} {t2 : Nat} {v2 : Value} {S2 : Nat → Prop} (h : BnP w B S R P s m st V t1 v1 S1 t2 v2 S2) {B' : Nat} {S' R' : Nat → Prop} {st' : St} {V' : Value} {t1' : Nat} {v1' : Value} {S1' : Nat → Prop} {t2' : Nat} {v2' : Value} {S2' : Nat → Prop} (h' : BnP w B' S' R' P s m st' V' t1' v1' S1' t2' v2' S2')
    (hd : ∀ k, S k → ¬ S' k ∧ ¬ R' k) (l1 : st.k1.length ≤ 200) (l2 : st.k2.length ≤ 200) (l3 : st'.k1.length ≤ 200) (l4 : st'.k2.length ≤ 200) (hs : st.all + st'.all ≤ 9223372036854775807) :
    Calls Tryz.prog 47 #[.pointer (some ⟨B, 0, none⟩), .pointer (some ⟨B', 0, none⟩)] w fun e w' => ∃ S2x, e = .returned (.int .i64 0) ∧ BnX w' B S2x R P s m (mergeSt s m st st') ∧ Keeps S w w' ∧ (∀ k, S2x k → S k ∨ w.heap.size ≤ k) := by
  have HX := Lib.hid h
  have HX' := Lib.hid h'
  have HL := Lib.hid (blike_any h h' true (decide_eq_true ⟨rfl, rfl⟩))
  have HT1 := Lib.hid (fun W hb => bnp_total (bnp_call (w' := W) h hb) (by omega) (by omega))
  have HT2 := Lib.hid (fun W hb => bnp_total (bnp_call (w' := W) h' hb) (by omega) (by omega))
  obtain ⟨y1, y2, y3, y4⟩ := bnp_t h
  obtain ⟨y1', y2', y3', y4'⟩ := bnp_t h'
  have hz := h.z0
  have hz' := h'.z0
  have ea : st.all = st.t1 + st.t2 + st.z := rfl
  have ea' : st'.all = st'.t1 + st'.t2 + st'.z := rfl
  obtain ⟨T, hT⟩ : ∃ T, st.all = T := ⟨_, rfl⟩
  obtain ⟨T', hT'⟩ : ∃ T', st'.all = T' := ⟨_, rfl⟩
  rw [hT] at HT1 hs ea
  rw [hT'] at HT2 hs ea'
  obtain ⟨pb, pq⟩ := plus2_yes (x := T) (y := T') hs
  have PB := Lib.hid pb
  have PQ := Lib.hid pq
  have HD := Lib.hid hd
  have HS0 := Lib.hid hs
  have T0 : 0 ≤ T := by omega
  have T0' : 0 ≤ T' := by omega
  have HEA := Lib.hid ea
  have HEA' := Lib.hid ea'
  clear pb pq h h' hT hT' hd ea ea'
  go_enter Tryz.func47, Tryz.ntmps47
  go_wp2_with fail
  refine HL.out.mono ?_
  rintro e w2 ⟨rfl, b2⟩
  go_wp2_with fail
  refine (HT1.out _ b2).mono ?_
  rintro e w3 ⟨rfl, b3⟩
  have b3 := b2.trans (b3.mono b2.size)
  go_wp2_with fail
  refine (HT2.out _ b3).mono ?_
  rintro e w4 ⟨rfl, b4⟩
  have b4 := b3.trans (b4.mono b3.size)
  go_wp2_with fail
  refine (plus_two T T' (T + T') true _ _ _ ⟨by omega, by omega⟩ ⟨by omega, by omega⟩ (two_words w4 _ _ _).1 (two_words w4 _ _ _).2 PQ.out PB.out).mono ?_
  rintro e w5 ⟨rfl, rfl⟩
  have b5 := b4.alloc b4.size (.cells #[.int .u64 T, .int .u64 T'] 22)
  generalize (w4.alloc (.cells #[.int .u64 T, .int .u64 T'] 22)) = w5 at *
  have HB5 := Lib.hid b5
  have h5 := bnp_call HX.out b5
  have h5' := bnp_call HX'.out b5
  have q2 := h5.c.c2
  have q2' := h5'.c.c2
  have HX5 := Lib.hid h5
  have HX5' := Lib.hid h5'
  clear b2 b3 b4 b5 h5 h5' HT1 HT2 HL PB PQ
  go_wp2_with fail
  go_still_tail 8, (by kernel_rfl)
  have b6 : Below w5.heap.size w5 w5.drew := (Below.refl _ _).drew
  have hbb := HB5.out.trans (b6.mono HB5.out.size)
  have HX6 := Lib.hid (bnp_call HX5.out b6)
  have HX6' := Lib.hid (bnp_call HX5'.out b6)
  change wpList _ _ _ _ _ w5.drew
  generalize w5.drew = w6 at *
  have HB6 := Lib.hid hbb
  clear hbb b6 HX5 HX5' HB5 q2 q2'
  have hdS : ∀ k, S1 k → ¬ S1' k := fun k h1 h2 => (HD.out k ((HX.out.S k).2 (Or.inr (Or.inl h1)))).1 ((HX'.out.S k).2 (Or.inr (Or.inl h2)))
  have HJ := Lib.hid (bjoin_any HX6.out.a HX6'.out.a hdS (by omega) (by omega) (by have := HEA.out; have := HEA'.out; omega))
  clear hdS
  go_wp2_with fail
  refine HJ.out.mono ?_
  rintro e w7 ⟨rfl, S1x, ha7, k7, hs7⟩
  have HX7 := Lib.hid (bnp_one HX6.out k7 ha7 hs7 (by have := HEA.out; have := HEA'.out; omega))
  have HX7' := Lib.hid (bnp_keep HX6'.out (w' := w7) (fun k hk => k7.block k (bnp_lt HX6'.out k hk) (fun h1 => by
    have hh := HD.out k ((HX.out.S k).2 (Or.inr (Or.inl h1)))
    rcases hk with h | h
    · exact hh.1 h
    · exact hh.2 h)))
  have q3 := HX7.out.c.c3
  have q3' := HX7'.out.c.c3
  have HK7 := Lib.hid (keeps_more k7 (S' := S) fun k hk => (HX.out.S k).2 (Or.inr (Or.inl hk)))
  have HS7 : Hid (∀ k, S1x k → S k ∨ w.heap.size ≤ k) := Lib.hid (fun k hk => by
    rcases hs7 k hk with h | h
    · exact Or.inl ((HX.out.S k).2 (Or.inr (Or.inl h)))
    · have := HB6.out.size; exact Or.inr (by omega))
  clear ha7 k7 hs7 HJ
  go_wp2_with fail
  go_still_tail 8, (by kernel_rfl)
  have b8 : Below w7.heap.size w7 w7.drew := (Below.refl _ _).drew
  have HX8 := Lib.hid (bnp_call HX7.out b8)
  have HX8' := Lib.hid (bnp_call HX7'.out b8)
  have HK8 := Lib.hid (HK7.out.trans (Keeps.of_below (S := S) b8) (fun j hj => Or.inl hj))
  change wpList _ _ _ _ _ w7.drew
  generalize w7.drew = w8 at *
  clear b8 HX7 HX7' HK7 q3 q3'
  have hdS : ∀ k, S2 k → ¬ S2' k := fun k h1 h2 => (HD.out k ((HX.out.S k).2 (Or.inr (Or.inr h1)))).1 ((HX'.out.S k).2 (Or.inr (Or.inr h2)))
  have HJ := Lib.hid (bjoin_any HX8.out.b HX8'.out.b hdS (by show st.k2.length ≤ 300; omega) (by omega) (by show st.t2 + st'.t2 ≤ _; have := HEA.out; have := HEA'.out; omega))
  clear hdS
  go_wp2_with fail
  refine HJ.out.mono ?_
  rintro e w9 ⟨rfl, S2x, ha9, k9, hs9⟩
  have HX9 := Lib.hid (bnp_two HX8.out k9 ha9 hs9 (by show st.t1 + st'.t1 + (st.t2 + st'.t2) + st.z ≤ _; have := HEA.out; have := HEA'.out; omega))
  have HX9' := Lib.hid (bnp_keep HX8'.out (w' := w9) (fun k hk => k9.block k (bnp_lt HX8'.out k hk) (fun h1 => by
    have hh := HD.out k ((HX.out.S k).2 (Or.inr (Or.inr h1)))
    rcases hk with h | h
    · exact hh.1 h
    · exact hh.2 h)))
  have HK9 := Lib.hid (HK8.out.trans (keeps_more k9 (S' := S) fun k hk => (HX.out.S k).2 (Or.inr (Or.inr hk))) (fun j hj => Or.inl hj))
  have HS9 : Hid (∀ k, S2x k → S k ∨ w.heap.size ≤ k) := Lib.hid (fun k hk => by
    rcases hs9 k hk with h | h
    · exact Or.inl ((HX.out.S k).2 (Or.inr (Or.inr h)))
    · have := HB6.out.size; have := HK8.out.size; exact Or.inr (by omega))
  have q4 : w9.cell? ⟨B, 4, none⟩ = some (.int .u64 st.z) := HX9.out.c.c4
  have q4' := HX9'.out.c.c4
  have f4 := free8 HX9.out.c.b 4
  obtain ⟨z, hz1⟩ : ∃ z, st.z = z := ⟨_, rfl⟩
  obtain ⟨z', hz2⟩ : ∃ z', st'.z = z' := ⟨_, rfl⟩
  rw [hz1] at q4 hz
  rw [hz2] at q4' hz'
  have zz : z + z' ≤ 9223372036854775807 := by have := HEA.out; have := HEA'.out; omega
  have HZ1 := Lib.hid hz1
  have HZ2 := Lib.hid hz2
  have ew : IntKind.u64.wrap (z + z') = z + z' := by rw [IntKind.wrap_u64]; omega
  clear ha9 k9 hs9 HJ hz1 hz2
  go_wp2_with fail
  go_still_tail 11, (by kernel_rfl)
  have b10 : Below w9.heap.size w9 w9.drew := (Below.refl _ _).drew
  have HX10 := Lib.hid (bnp_call HX9.out b10)
  have HK10 := Lib.hid (HK9.out.trans (Keeps.of_below (S := S) b10) (fun j hj => Or.inl hj))
  have f10 := free8 HX10.out.c.b 4
  have q10 : w9.drew.cell? ⟨B, 4, none⟩ = some (.int .u64 z) := by rw [← HZ1.out]; exact HX10.out.c.c4
  change wpList _ _ _ _ _ w9.drew
  generalize w9.drew = w10 at *
  clear b10 HX9 HX9' HK9 q4 q4' f4
  go_wp2_with fail
  go_ret
  have hbn := bnp_zero (z := z + z') HX10.out (by omega) (by show st.t1 + st'.t1 + (st.t2 + st'.t2) + (z + z') ≤ _; have := HZ1.out; have := HZ2.out; have := HEA.out; have := HEA'.out; omega)
  have hst : mergeSt s m st st' = { st with k1 := keepS s m (joinP st.k1 st'.k1), t1 := st.t1 + st'.t1, k2 := keepS s m (joinP st.k2 st'.k2), t2 := st.t2 + st'.t2, z := z + z' } := by
    unfold mergeSt; rw [HZ1.out, HZ2.out]
  have hSB : S B := (HX.out.S B).2 (Or.inl rfl)
  have hkk := (Keeps.of_below (S := S) HB6.out).trans HK10.out (fun j hj => Or.inl hj)
  refine ⟨fun k => k = B ∨ S1x k ∨ S2x k, rfl, ?_, ?_, ?_⟩
  · rw [hst]; exact ⟨_, _, _, _, _, _, _, hbn⟩
  · refine ⟨hkk.os, hkk.tape, hkk.output, by simpa [World.setCell] using hkk.size, fun k hlt hn => ?_⟩
    rw [Below.heap_setCell _ _ _ k (fun e => hn (by have e : k = B := e; rw [e]; exact hSB))]
    exact hkk.block k hlt hn
  · intro k hk
    rcases hk with hk | hk | hk
    · exact Or.inl (by rw [hk]; exact hSB)
    · exact HS7.out k hk
    · exact HS9.out k hk
end Go.Proofs.YtcijflakldggaaaGreat

/-
  Walk: wide.Plus of a row of numbers; of three.
-/
namespace Go.Proofs.YtcijflakldggaaaGreat
set_option linter.unusedVariables false
set_option linter.unusedSimpArgs false
open Go.RowKit

set_option maxHeartbeats 400000 in
theorem plusn_any (xs : List Int) (b off cap : Nat) (w : World) (hm : xs.length ≤ maxLen) (hw : ∀ x ∈ xs, Word x)
    (hcell : ∀ i x, xs[i]? = some x → w.cell? ⟨b, off + i, none⟩ = some (.int .u64 x)) :
    Calls Tryz.prog 70 #[.slice (some ⟨b, off, none⟩) xs.length cap] w fun e w' =>
      e = .returned (.tuple #[.int .u64 (plQ xs), .bool (plB xs)]) ∧ w = w' := by
  unfold maxLen at hm
  have hpos : ∀ x ∈ xs, 0 ≤ x := fun x hx => (hw x hx).1
  have Hpos := Lib.hid hpos
  have Hw := Lib.hid hw
  have Hcell := Lib.hid hcell
  clear hpos hw hcell
  go_enter Tryz.func70, Tryz.ntmps70
  go_wp2_with fail
  go_loop [4, 9] (fun s i => ∃ k : Nat, k ≤ xs.length ∧ i = .int .i64 k ∧ s = .int .u64 (sumI (xs.take k)) ∧ sumI (xs.take k) ≤ 9223372036854775807) (fun _ i => xs.length - (intOf i).toNat)
  case atStart => exact ⟨0, Nat.zero_le _, rfl, rfl, by simp [sumI]⟩
  case round =>
    obtain ⟨k, hk, rfl, rfl, hs⟩ := hrel
    have s0 : 0 ≤ sumI (xs.take k) := sumI_nonneg (fun x hx => Hpos.out x (List.mem_of_mem_take hx))
    by_cases hlt : k < xs.length
    · obtain ⟨x, hx⟩ : ∃ x, xs[k]? = some x := ⟨_, List.getElem?_eq_getElem hlt⟩
      have e1 := Hcell.out k x hx
      have HS := Lib.hid (sumI_take hx)
      obtain ⟨x0, x1⟩ := Hw.out x (List.mem_of_getElem? hx)
      have HM := Lib.hid (sumI_mono Hpos.out (k + 1))
      clear hx
      generalize sumI (xs.take k) = s at *
      by_cases hg : 9223372036854775807 - s < x
      · have e : plB xs = false := by
          have a := HS.out; have b := HM.out
          unfold plB; apply decide_eq_false; omega
        have e2 : plQ xs = 0 := by unfold plQ; rw [e]; rfl
        have E := Lib.hid e; have E2 := Lib.hid e2
        clear e e2
        go_wp2_with fail
        exact bodyPost_ret (v := .tuple #[.int .u64 0, .bool false]) (by simp [results, Tryz.results70, go_sem]) rfl ⟨by rw [E.out, E2.out], rfl⟩
      · go_wp2_with fail
        go_round
        case rel => exact ⟨k + 1, by omega, by go_num, by rw [HS.out], by rw [HS.out]; omega⟩
        case measure => simp [intOf]; omega
    · obtain rfl : k = xs.length := by omega
      rw [List.take_length] at *
      have e : plB xs = true := by unfold plB; exact decide_eq_true hs
      have e2 : plQ xs = sumI xs := by unfold plQ; rw [if_pos e]
      have E := Lib.hid e; have E2 := Lib.hid e2
      clear e e2
      go_wp2_with fail
      exact bodyPost_ret (v := .tuple #[.int .u64 (sumI xs), .bool true]) (by simp [results, Tryz.results70, go_sem]) rfl ⟨by rw [E.out, E2.out], rfl⟩

theorem plus_three (a b c q : Int) (ok : Bool) (g cap : Nat) (w : World) (wa : Word a) (wb : Word b) (wc : Word c) (h0 : w.cell? ⟨g, 0, none⟩ = some (.int .u64 a)) (h1 : w.cell? ⟨g, 1, none⟩ = some (.int .u64 b)) (h2 : w.cell? ⟨g, 2, none⟩ = some (.int .u64 c)) (hb : decide (a + b + c ≤ 9223372036854775807) = ok) (hq : (if ok = true then a + b + c else 0) = q) :
    Calls Tryz.prog 70 #[.slice (some ⟨g, 0, none⟩) 3 cap] w fun e w' => e = .returned (.tuple #[.int .u64 q, .bool ok]) ∧ w = w' := by
  have e : sumI [a, b, c] = a + b + c := by simp [sumI]; omega
  have e1 : plB [a, b, c] = ok := by unfold plB; rw [e]; exact hb
  have e2 : plQ [a, b, c] = q := by unfold plQ; rw [e1, e]; exact hq
  have := plusn_any [a, b, c] g 0 cap w (by show 3 ≤ maxLen; decide) (fun x hx => by
    rcases List.mem_cons.1 hx with rfl | hx
    · exact wa
    rcases List.mem_cons.1 hx with rfl | hx
    · exact wb
    rcases List.mem_cons.1 hx with rfl | hx
    · exact wc
    cases hx) (fun i x hi => by
    match i, hi with
    | 0, hi => cases hi; exact h0
    | 1, hi => cases hi; exact h1
    | 2, hi => cases hi; exact h2
    | n + 3, hi => simp at hi)
  rw [e1, e2] at this
  exact this
end Go.Proofs.YtcijflakldggaaaGreat

/-
  Walks: package bins: Load.
-/
namespace Go.Proofs.YtcijflakldggaaaGreat
set_option linter.unusedVariables false
set_option linter.unusedSimpArgs false
open Go.RowKit

theorem pt_repq {w : World} {V : Value} {R : Nat → Prop} {P : Pt} (h : PtX w V R P) : ∃ t v g, V = .iface t v ∧ Mth "Rep" t g v ∧ ∀ (W : World) (i : Int), PtX W V R P → I64 i → Calls Tryz.prog g #[v, .int .i64 i] W fun e w' => e = .returned (.int .u64 (P.rep i)) ∧ ∃ n, w' = W.drewN n := by
  cases P with
  | cells u v n =>
    obtain ⟨B, rfl, _⟩ := h
    refine ⟨_, _, _, rfl, tmth_rep _, fun W i ⟨B', e, h'⟩ hi => ?_⟩
    cases e
    show Calls _ _ _ _ fun e w' => e = .returned (.int .u64 (if 0 ≤ i ∧ i < n then repC u v (lowC u v i.toNat) else 0)) ∧ _
    by_cases hc : 0 ≤ i ∧ i < n
    · rw [if_pos hc]
      obtain ⟨k, rfl⟩ : ∃ k : Nat, i = k := ⟨i.toNat, by omega⟩
      rw [Int.toNat_natCast]
      refine (trep_any W B R u v n k _ h' (by omega) rfl).mono ?_
      rintro e w' ⟨rfl, rfl⟩
      exact ⟨rfl, 0, rfl⟩
    · rw [if_neg hc]
      refine (trep_out W B R u v n i h' hi (by omega)).mono ?_
      rintro e w' ⟨rfl, rfl⟩
      exact ⟨rfl, 0, rfl⟩
  | spans d L T => exact False.elim h
theorem bnp_most {w : World} {B : Nat} {S R : Nat → Prop} {P : Pt} {s : Bool} {m : Int} {st : St} {V : Value} {t1 : Nat} {v1 : Value} {S1 : Nat → Prop} {t2 : Nat} {v2 : Value} {S2 : Nat → Prop} (h : BnP w B S R P s m st V t1 v1 S1 t2 v2 S2) : Calls Tryz.prog 88 #[.pointer (some ⟨B, 0, none⟩)] w fun e w' => e = .returned (.int .i64 m) ∧ Below w.heap.size w w' := by
  obtain ⟨g, hm, hc⟩ := sto_most h.a
  exact bmost_of w _ _ _ g _ _ m _ (has_at h.c) hm (fun W hb => hc W _ _ _ (sto_call h.a hb))
def okB (P : Pt) (p : PairV) : Bool := decide (0 ≤ p.1) && !(P.rep p.1 == 0)
theorem okb_take {P : Pt} {L : List PairV} {k : Nat} {p : PairV} (hx : L[k]? = some p) (h : (L.take k).all (okB P) = true) : (L.take (k + 1)).all (okB P) = okB P p := by
  have : L.take (k + 1) = L.take k ++ [p] := by
    obtain ⟨hk, e⟩ := List.getElem?_eq_some_iff.1 hx
    rw [List.take_succ_eq_append_getElem hk, e]
  rw [this, List.all_append, h]; simp
theorem okb_bad {P : Pt} {L : List PairV} {k : Nat} {p : PairV} (hx : L[k]? = some p) (h : okB P p = false) : L.all (okB P) = false := by
  cases hc : L.all (okB P) with
  | false => rfl
  | true => have := List.all_eq_true.1 hc p (List.mem_of_getElem? hx); rw [h] at this; cases this

set_option maxRecDepth 100000 in
set_option maxHeartbeats 2000000 in
theorem bload_any {w : World} {B : Nat} {S R : Nat → Prop} {P : Pt} {s : Bool} {m : Int} {st : St} {V : Value} {t1 : Nat} {v1 : Value} {S1 : Nat → Prop} {t2 : Nat} {v2 : Value} {S2 : Nat → Prop} (h : BnP w B S R P s m st V t1 v1 S1 t2 v2 S2) (a : Option Addr) (cap : Nat) (L : List PairV) (l : Int) (hL : Pairs w a L) (hl : L.length ≤ 200) (hw : Word l) (m1 : 1 ≤ m) (m2 : m ≤ 4096) :
    Calls Tryz.prog 72 #[.pointer (some ⟨B, 0, none⟩), .slice a L.length cap, .int .u64 l] w fun e w' =>
      ((L.all (okB P) && loadB m L l) = true ∧ ∃ t v S0, e = .returned (.tuple #[.iface t v, .bool true]) ∧ StoT w' t v S0 s m L (sumP L + l) ∧ (∀ k, S0 k → w.heap.size ≤ k) ∧ Below w.heap.size w w') ∨
      ((L.all (okB P) && loadB m L l) = false ∧ ∃ X, e = .returned (.tuple #[X, .bool false]) ∧ Below w.heap.size w w') := by
  have HX := Lib.hid h
  have HL := Lib.hid hL
  have HLL := Lib.hid hl
  have HW := Lib.hid hw
  obtain ⟨n, hn⟩ : ∃ n : Nat, L.length = n := ⟨_, rfl⟩
  have HN := Lib.hid hn
  rw [hn] at hl ⊢
  clear h hL hn hw
  go_enter Tryz.func72, Tryz.ntmps72
  go_wp2_with fail
  go_loopw [12] (fun j wr => ∃ k : Nat, k ≤ n ∧ j = .int .i64 k ∧ (L.take k).all (okB P) = true ∧ Below w.heap.size w wr) (fun j _ => n - (intOf j).toNat)
  case atStart => exact ⟨0, Nat.zero_le _, rfl, rfl, Below.refl _ _⟩
  case round =>
    obtain ⟨k, hk, rfl, hf, hb2⟩ := hrel
    have HF := Lib.hid hf
    have hbs := hb2.size
    clear hf
    by_cases hlt : k < n
    · have kk : (k : Int) < n := by omega
      obtain ⟨p, hxk⟩ : ∃ p, L[k]? = some p := ⟨L[k]'(by rw [HN.out]; exact hlt), List.getElem?_eq_getElem _⟩
      obtain ⟨xi, xc⟩ := p
      have HXK := Lib.hid hxk
      obtain ⟨b1, off, rfl, hbl, c0, c1⟩ := (HL.out.call hb2).at_ k _ hxk
      simp only at c0 c1
      have hok := HL.out.ok _ (List.mem_of_getElem? hxk)
      have HI : Hid (I64 xi) := Lib.hid hok.1
      obtain ⟨⟨o1, o2⟩, o3, o4⟩ := hok
      simp only at o1 o2 o3 o4
      have hb3 : Below w.heap.size w (wr.alloc (.cells #[.int .i64 xi, .int .u64 xc] 114)) := hb2.alloc hbs _
      have hX3 := bnp_call HX.out hb3
      have q0 := hX3.c.c0
      obtain ⟨tp, vp, gp, rfl, hm, hr⟩ := pt_repq hX3.p
      have hq := rep_bd (ptx_ok hX3.p) xi
      obtain ⟨q, hqe⟩ : ∃ q, P.rep xi = q := ⟨_, rfl⟩
      have HQE := Lib.hid hqe
      have HR := Lib.hid (fun j => hr _ xi (ptx_call (w' := (wr.alloc (.cells #[.int .i64 xi, .int .u64 xc] 114)).drewN j) hX3.p (below_drewN (Below.refl _ _) j)) HI.out)
      rw [hqe] at HR
      have v0 : (wr.alloc (.cells #[.int .i64 xi, .int .u64 xc] 114)).cell? ⟨wr.heap.size, 0, none⟩ = some (.int .i64 xi) := by go_simp
      have HM := Lib.hid hm
      have HB3 := Lib.hid hb3
      clear hxk hX3 hr hqe hm hb3
      by_cases hneg : xi < 0
      · have d1 : decide (xi < 0) = true := decide_eq_true hneg
        have hbad : okB P (xi, xc) = false := by unfold okB; simp; intro h; omega
        have HBAD := Lib.hid (okb_bad HXK.out hbad)
        go_wp2_with fail
        go_quiet (fail)
        go_wp2_with fail
        go_ret2
        exact Or.inr ⟨by rw [HBAD.out]; rfl, _, rfl, below_drewN HB3.out _⟩
      · have d1 : decide (xi < 0) = false := decide_eq_false hneg
        have hmm := HM.out.m
        have hme := HM.out.e
        by_cases hq0 : q = 0
        · have e0 : (q == 0) = true := by simp [hq0]
          have hbad : okB P (xi, xc) = false := by unfold okB; simp only [HQE.out]; simp [hq0]
          have HBAD := Lib.hid (okb_bad HXK.out hbad)
          clear hbad hq0
          go_wp2_with fail
          go_quiet ((exact Calls.quiet_of (HR.out _)))
          clear hmm hme
          go_wp2_with fail
          go_ret2
          exact Or.inr ⟨by rw [HBAD.out]; rfl, _, rfl, below_drewN HB3.out _⟩
        · have e0 : (q == 0) = false := by simp [hq0]
          have hgood : okB P (xi, xc) = true := by unfold okB; simp only [HQE.out]; simp [hq0]; omega
          have HG := Lib.hid ((okb_take HXK.out HF.out).trans hgood)
          have ew : IntKind.i64.wrap ((k : Int) + 1) = (k : Int) + 1 := by rw [IntKind.wrap_i64]; omega
          clear hgood hq0
          go_wp2_with fail
          go_quiet ((exact Calls.quiet_of (HR.out _)))
          clear hmm hme
          go_wp2_with fail
          go_roundw
          case rel => exact ⟨k + 1, by omega, by first | go_num | (simp; omega), HG.out, below_drewN HB3.out _⟩
          case measure => simp [intOf]; omega
    · obtain rfl : k = n := by omega
      have kk : ¬ (k : Int) < k := by omega
      have hall : L.all (okB P) = true := by
        have := HF.out
        rwa [← HN.out, List.take_length] at this
      have HALL := Lib.hid hall
      have hX2 := bnp_call HX.out hb2
      have q1 := hX2.c.c1
      have HMO := Lib.hid (fun W hb => bnp_most (bnp_call (w' := W) hX2 hb))
      obtain ⟨sd, hsd⟩ : ∃ sd, sideI s = sd := ⟨_, rfl⟩
      rw [hsd] at q1
      have HSD := Lib.hid hsd
      have HB2 := Lib.hid hb2
      have HPL := Lib.hid (fun W (hb : Below wr.heap.size wr W) => HL.out.call (HB2.out.trans (hb.mono HB2.out.size)))
      clear hall hX2 hb2 hsd
      have hbs := HB2.out.size
      by_cases hlo : loadB m L l = true
      · have HST : Hid (∀ W, Below wr.heap.size wr W → Calls Tryz.prog 76 #[.int .i64 sd, .int .i64 m, .slice a k cap, .int .u64 l] W fun e w' => ∃ t v S, e = .returned (.tuple #[.iface t v, .bool true]) ∧ StoT w' t v S s m L (sumP L + l) ∧ (∀ k, S k → W.heap.size ≤ k) ∧ Below W.heap.size W w') := Lib.hid (fun W hb => by
          have := bstoreof_good W s m a cap L l m1 m2 (HPL.out W hb) (by have := HLL.out; omega) HW.out hlo
          rw [HSD.out, HN.out] at this; exact this)
        have HLO := Lib.hid hlo
        clear hlo
        go_wp2_with fail
        go_region_held3 (fun w' => w'.cell? ⟨B, 1, none⟩ = some (.int .i64 sd) ∧ Below wr.heap.size wr w')
          (first | exact ⟨by go_simp, (Below.refl _ _).drew⟩ | exact ⟨cell_later hbA (And.left (by assumption)), Below.trans (And.right (by assumption)) (hbA.mono (Below.size (And.right (by assumption))))⟩ | exact ⟨cell_later hbM (And.left (by assumption)), Below.trans (And.right (by assumption)) (hbM.mono (Below.size (And.right (by assumption))))⟩ | assumption)
          ((first | (go_at_call 88; refine (HMO.out _ (And.right (by assumption))).mono ?_; rintro e wM ⟨rfl, hbM⟩) | (go_at_call 76; refine (HST.out _ (And.right (by assumption))).mono ?_; rintro e wA ⟨t, v, S0, rfl, hs0, hf0, hbA⟩)))
        all_goals
          rename_i hHeld
          obtain ⟨g0, bw⟩ := hHeld
          have HS0 := Lib.hid hs0
          have HF0 := Lib.hid hf0
          clear hs0 hf0
          go_wp2_with fail
          go_ret2
          refine Or.inl ⟨by rw [HALL.out, HLO.out]; rfl, _, _, _, rfl, HS0.out, fun k hk => ?_, HB2.out.trans (bw.mono hbs)⟩
          have h1 : wr.heap.size ≤ wM.heap.size := hbM.size
          have h2 := HF0.out k hk
          omega
      · have hlo : loadB m L l = false := by simpa using hlo
        have HST : Hid (∀ W, Below wr.heap.size wr W → Calls Tryz.prog 76 #[.int .i64 sd, .int .i64 m, .slice a k cap, .int .u64 l] W fun e w' => ∃ X, e = .returned (.tuple #[X, .bool false]) ∧ Below W.heap.size W w') := Lib.hid (fun W hb => by
          have := bstoreof_unfit W s m a cap L l m1 m2 (HPL.out W hb) (by have := HLL.out; omega) HW.out hlo
          rw [HSD.out, HN.out] at this; exact this)
        have HLO := Lib.hid hlo
        clear hlo
        go_wp2_with fail
        go_region_held3 (fun w' => w'.cell? ⟨B, 1, none⟩ = some (.int .i64 sd) ∧ Below wr.heap.size wr w')
          (first | exact ⟨by go_simp, (Below.refl _ _).drew⟩ | exact ⟨cell_later hbA (And.left (by assumption)), Below.trans (And.right (by assumption)) (hbA.mono (Below.size (And.right (by assumption))))⟩ | exact ⟨cell_later hbM (And.left (by assumption)), Below.trans (And.right (by assumption)) (hbM.mono (Below.size (And.right (by assumption))))⟩ | assumption)
          ((first | (go_at_call 88; refine (HMO.out _ (And.right (by assumption))).mono ?_; rintro e wM ⟨rfl, hbM⟩) | (go_at_call 76; refine (HST.out _ (And.right (by assumption))).mono ?_; rintro e wA ⟨X, rfl, hbA⟩)))
        all_goals
          rename_i hHeld
          obtain ⟨g0, bw⟩ := hHeld
          go_wp2_with fail
          go_ret2
          exact Or.inr ⟨by rw [HALL.out, HLO.out]; rfl, _, rfl, HB2.out.trans (bw.mono hbs)⟩

theorem three_words (w : World) (x y z : Value) (t : TypeId) : (w.alloc (.cells #[x, y, z] t)).cell? ⟨w.heap.size, 0, none⟩ = some x ∧ (w.alloc (.cells #[x, y, z] t)).cell? ⟨w.heap.size, 1, none⟩ = some y ∧ (w.alloc (.cells #[x, y, z] t)).cell? ⟨w.heap.size, 2, none⟩ = some z := ⟨by go_simp, by go_simp, by go_simp⟩
theorem fits_parts (P : Pt) (s : Bool) (m : Int) (L1 : List PairV) (l1 : Int) (L2 : List PairV) (l2 z : Int) :
    fitsSt P s m L1 l1 L2 l2 z = ((L1.all (okB P) && loadB m L1 l1) && ((L2.all (okB P) && loadB m L2 l2) && decide (sumP L1 + l1 + (sumP L2 + l2) + z ≤ 9223372036854775807))) := by
  unfold fitsSt
  have e : ∀ L : List PairV, (L.all fun p => decide (0 ≤ p.1) && !(P.rep p.1 == 0)) = L.all (okB P) := fun L => rfl
  rw [e, e]
  cases L1.all (okB P) <;> cases L2.all (okB P) <;> cases loadB m L1 l1 <;> cases loadB m L2 l2 <;> simp

set_option maxRecDepth 100000 in
set_option maxHeartbeats 2000000 in
theorem bLoad_any {w : World} {B : Nat} {S R : Nat → Prop} {P : Pt} {s : Bool} {m : Int} {st : St} {V : Value} {t1 : Nat} {v1 : Value} {S1 : Nat → Prop} {t2 : Nat} {v2 : Value} {S2 : Nat → Prop} (h : BnP w B S R P s m st V t1 v1 S1 t2 v2 S2) (a1 a2 : Option Addr) (c1 c2 : Nat) (L1 L2 : List PairV) (l1 l2 z : Int) (hL1 : Pairs w a1 L1) (hL2 : Pairs w a2 L2) (n1 : L1.length ≤ 200) (n2 : L2.length ≤ 200) (w1 : Word l1) (w2 : Word l2) (wz : Word z) (m1 : 1 ≤ m) (m2 : m ≤ 4096) :
    Calls Tryz.prog 49 #[.pointer (some ⟨B, 0, none⟩), .agg #[.slice a1 L1.length c1, .slice a2 L2.length c2], .agg #[.int .u64 l1, .int .u64 l2], .int .u64 z] w fun e w' =>
      (fitsSt P s m L1 l1 L2 l2 z = true ∧ ∃ S', e = .returned (.int .i64 0) ∧ BnX w' B S' R P s m (loadSt L1 l1 L2 l2 z) ∧ Keeps S w w' ∧ (∀ k, S' k → S k ∨ w.heap.size ≤ k)) ∨
      (fitsSt P s m L1 l1 L2 l2 z = false ∧ e = .returned (.int .i64 1) ∧ Below w.heap.size w w') := by
  have HX := Lib.hid h
  have HLA := Lib.hid hL1
  have HLB := Lib.hid hL2
  have H1 := Lib.hid (fun W (hb : Below w.heap.size w W) => bload_any (bnp_call h hb) a1 c1 L1 l1 (hL1.call hb) n1 w1 m1 m2)
  have H2 := Lib.hid (fun W (hb : Below w.heap.size w W) => bload_any (bnp_call h hb) a2 c2 L2 l2 (hL2.call hb) n2 w2 m1 m2)
  have HFP := Lib.hid (fits_parts P s m L1 l1 L2 l2 z)
  have HP1 : Hid (0 ≤ sumP L1) := Lib.hid (sumP_pos (ok_pos hL1.ok))
  have HP2 : Hid (0 ≤ sumP L2) := Lib.hid (sumP_pos (ok_pos hL2.ok))
  have HN1 := Lib.hid n1
  have HN2 := Lib.hid n2
  have HW1 := Lib.hid w1
  have HW2 := Lib.hid w2
  obtain ⟨z0, z1⟩ := wz
  obtain ⟨k1, hk1⟩ : ∃ k1 : Nat, L1.length = k1 := ⟨_, rfl⟩
  obtain ⟨k2, hk2⟩ : ∃ k2 : Nat, L2.length = k2 := ⟨_, rfl⟩
  rw [hk1] at H1 ⊢
  rw [hk2] at H2 ⊢
  clear h hL1 hL2 hk1 hk2 n1 n2 w1 w2
  have b0 : Below w.heap.size w ((w.alloc (.cells #[.slice a1 k1 c1, .slice a2 k2 c2] 101)).alloc (.cells #[.int .u64 l1, .int .u64 l2] 102)) := ((Below.refl _ _).alloc (Nat.le_refl _) _).alloc (by simp) _
  have p1 : ((w.alloc (.cells #[.slice a1 k1 c1, .slice a2 k2 c2] 101)).alloc (.cells #[.int .u64 l1, .int .u64 l2] 102)).cell? ⟨w.heap.size, 1, none⟩ = some (.slice a2 k2 c2) := by go_simp
  have p2 : ((w.alloc (.cells #[.slice a1 k1 c1, .slice a2 k2 c2] 101)).alloc (.cells #[.int .u64 l1, .int .u64 l2] 102)).cell? ⟨w.heap.size + 1, 1, none⟩ = some (.int .u64 l2) := by go_simp
  go_enter Tryz.func49, Tryz.ntmps49
  go_wp2_with fail
  generalize ((w.alloc (.cells #[.slice a1 k1 c1, .slice a2 k2 c2] 101)).alloc (.cells #[.int .u64 l1, .int .u64 l2] 102)) = wA at *
  refine (H1.out _ b0).mono ?_
  rintro e w2 (⟨f1, t1n, v1n, S1n, rfl, hs1, hf1, b2⟩ | ⟨f1, X, rfl, b2⟩)
  case inr =>
    have HF1 := Lib.hid f1
    have bb := b0.trans (b2.mono b0.size)
    clear f1
    go_wp2_with fail
    go_ret
    exact Or.inr ⟨by rw [HFP.out, HF1.out]; rfl, rfl, bb⟩
  have HF1 := Lib.hid f1
  have HS1 := Lib.hid hs1
  have HLT0 : Hid (∀ k, S1n k → k < w2.heap.size) := Lib.hid (sto_lt hs1)
  have HR1 := Lib.hid hf1
  have bb := b0.trans (b2.mono b0.size)
  have z0w := b0.size
  have p1 := cell_later b2 p1
  have p2 := cell_later b2 p2
  clear f1 hs1 hf1 b2 b0
  go_wp2_with fail
  refine (H2.out _ bb).mono ?_
  rintro e w3 (⟨f2, t2n, v2n, S2n, rfl, hs2, hf2, b3⟩ | ⟨f2, X, rfl, b3⟩)
  case inr =>
    have HF2 := Lib.hid f2
    have bb := bb.trans (b3.mono bb.size)
    clear f2
    go_wp2_with fail
    go_ret
    exact Or.inr ⟨by rw [HFP.out, HF1.out, HF2.out]; rfl, rfl, bb⟩
  have HF2 := Lib.hid f2
  have HR2 := Lib.hid hf2
  have HS1 := Lib.hid (sto_call HS1.out b3)
  have HS2 := Lib.hid hs2
  have hz2 := bb.size
  have hz3 := b3.size
  have bb := bb.trans (b3.mono bb.size)
  clear p1 p2 f2 hf2
  obtain ⟨_, u1, u2, u3, _⟩ := kept_pos (sto_kept HS1.out)
  obtain ⟨_, u4, u5, u6, _⟩ := kept_pos (sto_kept hs2)
  obtain ⟨g1, mm1, cc1⟩ := sto_total HS1.out
  obtain ⟨g2, mm2, cc2⟩ := sto_total hs2
  obtain ⟨T1, hT1⟩ : ∃ T1, sumP L1 + l1 = T1 := ⟨_, rfl⟩
  obtain ⟨T2, hT2⟩ : ∃ T2, sumP L2 + l2 = T2 := ⟨_, rfl⟩
  have M1 := Lib.hid mm1
  have M2 := Lib.hid mm2
  have C1 := Lib.hid (fun W (hb : Below w3.heap.size w3 W) => cc1 W _ _ _ (sto_call HS1.out hb) (by have := HN1.out; omega))
  have C2 := Lib.hid (fun W (hb : Below w3.heap.size w3 W) => cc2 W _ _ _ (sto_call HS2.out hb) (by have := HN2.out; omega))
  rw [hT1] at C1 u2 u3
  rw [hT2] at C2 u5 u6
  have HT1 := Lib.hid hT1
  have HT2 := Lib.hid hT2
  have v10 : 0 ≤ T1 := by omega
  have v20 : 0 ≤ T2 := by omega
  clear mm1 mm2 cc1 cc2 hT1 hT2 hs2 u1 u2 u4 u5
  go_wp2_with fail
  rw [M1.out.m]
  go_wp2_with fail
  rw [M1.out.e]
  show Calls _ _ _ _ _
  refine (C1.out _ (Below.refl _ _)).mono ?_
  rintro e w4 ⟨rfl, b4⟩
  go_wp2_with fail
  rw [M2.out.m]
  go_wp2_with fail
  rw [M2.out.e]
  show Calls _ _ _ _ _
  refine (C2.out _ b4).mono ?_
  rintro e w5 ⟨rfl, b5⟩
  have b5 := b4.trans (b5.mono b4.size)
  have b6 := b5.alloc b5.size (.cells #[.int .u64 T1, .int .u64 z, .int .u64 T2] 22)
  by_cases hsum : T1 + z + T2 ≤ 9223372036854775807
  case neg =>
    have HNO : Hid (decide (sumP L1 + l1 + (sumP L2 + l2) + z ≤ 9223372036854775807) = false) := Lib.hid (by rw [HT1.out, HT2.out]; exact decide_eq_false (by omega))
    have HPL := Lib.hid (plus_three T1 z T2 0 false w5.heap.size 3 _ ⟨by omega, by omega⟩ ⟨by omega, by omega⟩ ⟨by omega, by omega⟩ (three_words w5 _ _ _ 22).1 (three_words w5 _ _ _ 22).2.1 (three_words w5 _ _ _ 22).2.2 (decide_eq_false hsum) rfl)
    clear hsum
    go_wp2_with fail
    refine HPL.out.mono ?_
    rintro e w6 ⟨rfl, rfl⟩
    go_wp2_with fail
    go_ret
    exact Or.inr ⟨by rw [HFP.out, HF1.out, HF2.out, HNO.out]; rfl, rfl, bb.trans (b6.mono bb.size)⟩
  have HYES : Hid (decide (sumP L1 + l1 + (sumP L2 + l2) + z ≤ 9223372036854775807) = true) := Lib.hid (by rw [HT1.out, HT2.out]; exact decide_eq_true (by omega))
  have HPL := Lib.hid (plus_three T1 z T2 (T1 + z + T2) true w5.heap.size 3 _ ⟨by omega, by omega⟩ ⟨by omega, by omega⟩ ⟨by omega, by omega⟩ (three_words w5 _ _ _ 22).1 (three_words w5 _ _ _ 22).2.1 (three_words w5 _ _ _ 22).2.2 (decide_eq_true hsum) rfl)
  have HSUM := Lib.hid hsum
  clear hsum
  go_wp2_with fail
  refine HPL.out.mono ?_
  rintro e w6 ⟨rfl, rfl⟩
  generalize (w5.alloc (.cells #[.int .u64 T1, .int .u64 z, .int .u64 T2] 22)) = w6 at *
  have HB6 := Lib.hid (bb.trans (b6.mono bb.size))
  have HC6 := Lib.hid b6
  have hX6 := bnp_call HX.out HB6.out
  have q2 := hX6.c.c2
  have q3 := hX6.c.c3
  have q4 := hX6.c.c4
  have f2 := free8 hX6.c.b 2
  have f3 := free8 hX6.c.b 3
  have f4 := free8 hX6.c.b 4
  have HX6 := Lib.hid hX6
  clear hX6 b6 b5 b4 bb HPL
  go_wp2_with fail
  go_ret
  have hx := HX6.out
  have hh : ∀ k, k ≠ B → (((w6.setCell ⟨B, 2, none⟩ (.iface t1n v1n)).setCell ⟨B, 3, none⟩ (.iface t2n v2n)).setCell ⟨B, 4, none⟩ (.int .u64 z)).heap[k]? = w6.heap[k]? := fun k hk => by
    rw [Below.heap_setCell _ _ _ k hk, Below.heap_setCell _ _ _ k hk, Below.heap_setCell _ _ _ k hk]
  have hz6 := HC6.out.size
  have hBlt := lt_of_block HX.out.c.b
  have rr := ptx_lt HX.out.p
  have r2 := sto_lt HS2.out
  have hSB : S B := (HX.out.S B).2 (Or.inl rfl)
  have hkk := Keeps.of_below (S := S) HB6.out
  refine Or.inl ⟨by rw [HFP.out, HF1.out, HF2.out, HYES.out]; rfl, fun k => k = B ∨ S1n k ∨ S2n k, rfl, ⟨V, t1n, v1n, S1n, t2n, v2n, S2n, ?_⟩, ?_, ?_⟩
  · exact { c := ⟨set_cells11 (set_cells11 (set_cells11 hx.c.b 2 _) 3 _) 4 _⟩
            p := ptx_keep hx.p fun k hr => hh k (fun e => hx.nr (e ▸ hr))
            a := sto_keep (sto_call HS1.out HC6.out) fun k hr => hh k (fun e => by have := HR1.out k hr; omega)
            b := sto_keep (sto_call HS2.out HC6.out) fun k hr => hh k (fun e => by have := HR2.out k hr; omega)
            n1 := fun h => by have := HR1.out _ h; omega
            n2 := fun h => by have := HR2.out _ h; omega
            nr := hx.nr
            d := fun k h1 h2 => by have := HR2.out _ h2; have := HLT0.out _ h1; omega
            r1 := fun k h1 h2 => by have := rr _ h2; have := HR1.out _ h1; omega
            r2 := fun k h1 h2 => by have := rr _ h2; have := HR2.out _ h1; omega
            S := fun k => Iff.rfl
            z0 := z0
            all := by show sumP L1 + l1 + (sumP L2 + l2) + z ≤ _; rw [HT1.out, HT2.out]; have := HSUM.out; omega }
  · refine ⟨hkk.os, hkk.tape, hkk.output, by simpa [World.setCell] using hkk.size, fun k hlt hn => ?_⟩
    rw [hh k (fun e => hn (by rw [e]; exact hSB))]
    exact hkk.block k hlt hn
  · intro k hk
    rcases hk with hk | hk | hk
    · exact Or.inl (by rw [hk]; exact hSB)
    · have := HR1.out k hk; exact Or.inr (by omega)
    · have := HR2.out k hk; exact Or.inr (by omega)
set_option maxHeartbeats 1000000 in
theorem bLoad_nil (w : World) : Calls Tryz.prog 49 #[.pointer none, .agg #[.slice none 0 0, .slice none 0 0], .agg #[.int .u64 0, .int .u64 0], .int .u64 0] w fun e w' => e = .returned (.int .i64 2) ∧ Below w.heap.size w w' := by
  go_enter Tryz.func49, Tryz.ntmps49
  go_wp2_with fail
  go_ret
  exact ⟨rfl, by go_grown⟩
end Go.Proofs.YtcijflakldggaaaGreat

/-
  Package bins does what the laws ask of it.
-/
namespace Go.Proofs.YtcijflakldggaaaGreat
set_option linter.unusedVariables false
set_option linter.unusedSimpArgs false
open Go.RowKit

theorem bins_does : BinsDoes BnX where
  keep := fun w w' B S R P s m st ⟨V, t1, v1, S1, t2, v2, S2, h⟩ hk => ⟨V, t1, v1, S1, t2, v2, S2, bnp_keep h hk⟩
  lt := fun w B S R P s m st ⟨V, t1, v1, S1, t2, v2, S2, h⟩ => bnp_lt h
  ok := fun w B S R P s m st ⟨V, t1, v1, S1, t2, v2, S2, h⟩ => by
    refine ⟨ptx_ok h.p, ⟨sto_kept h.a, sto_kept h.b, h.z0, h.all⟩, fun k hk hr => ?_⟩
    rcases (h.S k).1 hk with rfl | hk | hk
    · exact h.nr hr
    · exact h.r1 k hk hr
    · exact h.r2 k hk hr
  new := fun w V R P s m hV m1 m2 => bnew_any w V R P s m hV m1 m2
  bad := fun w V R P sd m hV hs hm hb => by
    obtain ⟨t, v, _, rfl, _⟩ := pt_index hV
    exact bnew_bad w t v sd m hs hm hb
  nop := bnew_nop
  add := fun w B S R P s m st x c ⟨V, t1, v1, S1, t2, v2, S2, h⟩ l1 l2 hx hc => bnp_add h l1 l2 x c hx hc
  find := fun w B S R P s m st t ⟨V, t1, v1, S1, t2, v2, S2, h⟩ l1 l2 wt => bnp_find h l1 l2 t wt
  total := fun w B S R P s m st ⟨V, t1, v1, S1, t2, v2, S2, h⟩ l1 l2 => bnp_total h l1 l2
  lost := fun w B S R P s m st ⟨V, t1, v1, S1, t2, v2, S2, h⟩ => by
    obtain ⟨g1, m1, c1⟩ := sto_lost h.a
    obtain ⟨g2, m2, c2⟩ := sto_lost h.b
    exact blost_of w _ _ _ g1 g2 _ _ _ _ _ (has_at h.c) m1 m2 (fun W hb => c1 W _ _ _ (sto_call h.a hb)) (fun W hb => c2 W _ _ _ (sto_call h.b hb))
  zero := fun w B S R P s m st ⟨V, t1, v1, S1, t2, v2, S2, h⟩ => bzero_at w B st.z h.c.c4
  rows := fun w B S R P s m st ⟨V, t1, v1, S1, t2, v2, S2, h⟩ l1 l2 => by
    obtain ⟨g1, m1, c1⟩ := sto_pairs h.a
    obtain ⟨g2, m2, c2⟩ := sto_pairs h.b
    exact brows_of w _ _ _ g1 g2 _ _ _ _ _ (has_at h.c) m1 m2 (fun W hb => c1 W _ _ _ (sto_call h.a hb) (by omega)) (fun W hb => c2 W _ _ _ (sto_call h.b hb) (by omega))
  most := fun w B S R P s m st ⟨V, t1, v1, S1, t2, v2, S2, h⟩ => bnp_most h
  like := fun w B S R P s m st B' S' R' P' s' m' st' b ⟨V, t1, v1, S1, t2, v2, S2, h⟩ ⟨V', t1', v1', S1', t2', v2', S2', h'⟩ hb => blike_any h h' b hb
  merge := fun w B S R P s m st B' S' R' st' ⟨V, t1, v1, S1, t2, v2, S2, h⟩ ⟨V', t1', v1', S1', t2', v2', S2', h'⟩ hd l1 l2 l3 l4 hs => bmerge_any h h' hd l1 l2 l3 l4 hs
  other := fun w B S R P s m st B' S' R' P' s' m' st' ⟨V, t1, v1, S1, t2, v2, S2, h⟩ ⟨V', t1', v1', S1', t2', v2', S2', h'⟩ hne => bmerge_other h h' hne
  load := fun w B S R P s m st a1 a2 c1 c2 L1 L2 l1 l2 z ⟨V, t1, v1, S1, t2, v2, S2, h⟩ p1 p2 n1 n2 w1 w2 wz hf => by
    obtain ⟨_, _, _, _, m1, m2⟩ := kept_pos (sto_kept h.a)
    refine (bLoad_any h a1 a2 c1 c2 L1 L2 l1 l2 z p1 p2 n1 n2 w1 w2 wz m1 m2).mono fun e w' hh => ?_
    rcases hh with ⟨_, hh⟩ | ⟨hb, _⟩
    · exact hh
    · rw [hf] at hb; cases hb
  unfit := fun w B S R P s m st a1 a2 c1 c2 L1 L2 l1 l2 z ⟨V, t1, v1, S1, t2, v2, S2, h⟩ p1 p2 n1 n2 w1 w2 wz hf => by
    obtain ⟨_, _, _, _, m1, m2⟩ := kept_pos (sto_kept h.a)
    refine (bLoad_any h a1 a2 c1 c2 L1 L2 l1 l2 z p1 p2 n1 n2 w1 w2 wz m1 m2).mono fun e w' hh => ?_
    rcases hh with ⟨hb, _⟩ | ⟨_, hh⟩
    · rw [hf] at hb; cases hb
    · exact hh

theorem bins_nil : BinsNil where
  add := badd_nil
  find := fun w t wt => by
    refine bfind_of w _ _ _ _ _ _ 0 0 t 0 false wt (has_none w) (lmth_total none) (fun W _ => low_nil.total W) (by decide) (by decide) (by decide) (fun _ => ⟨rfl, rfl⟩) ?_ ?_ ?_
    · intro a b; omega
    · intro a b; omega
    · intro a W x hb hx
      have hw := wt
      obtain ⟨w0, w1⟩ := hw
      exact bstand_none W _ _ _ _ x false 0 (lmth_find none) (low_nil.find W x ⟨by omega, by omega⟩)
  total := fun w => btotal_of w _ _ _ _ _ _ _ 0 0 0 (has_none w) (lmth_total none) (lmth_total none) (fun W _ => low_nil.total W) (fun W _ => low_nil.total W) (by decide) (by decide) (by decide) (by decide)
  zero := bzero_none
  most := fun w => bmost_of w _ _ _ _ _ _ 0 _ (has_none w) (lmth_most none) (fun W _ => low_nil.most W)
  like := blike_nil
  merge := bmerge_nil
  load := bLoad_nil
end Go.Proofs.YtcijflakldggaaaGreat

/-
  How an argument of the laws is opened, and shut again: a wide number, a fraction, a word.
-/
namespace Go.Proofs.YtcijflakldggaaaGreat
set_option linter.unusedVariables false
set_option maxRecDepth 100000
open Go.ChangeShapes Go.WideShapes Go.ChangeAt Go.RowKit Go.Joins

theorem own : ownKnob Tryz.prog.godebug = none := by kernel_rfl
theorem laidOut : laidOutB Tryz.prog = true := by kernel_rfl
theorem word_of_wf {x : Int} (h : (Lit.int .u64 x).wf = true) : Word x := by
  simp [Lit.wf, IntKind.min, IntKind.max, IntKind.signed, IntKind.bits] at h
  exact ⟨by omega, by omega⟩
theorem cellsWide : Tryz.prog.cellsOf 93 = 2 := by kernel_rfl
theorem wide_reads {H : Type} {enc : TypeId × Value → H} {a b : Int} (wa : (Lit.int .u64 a).wf = true) (wb : (Lit.int .u64 b).wf = true) (W' : World) (sp : Nat → Bool) :
    DataW.Trod enc Tryz.prog W' 0 sp true 93 (.agg #[.int .u64 a, .int .u64 b]) (.agg [.lit (.int .u64 a), .lit (.int .u64 b)]) [] :=
  shut_agg2 (y0 := (.lit (.int .u64 a), [])) (y1 := (.lit (.int .u64 b), [])) Tryz.underlying93 (by kernel_rfl) cellsWide ⟨1, by simp [DataW.trod, Tryz.underlying22, wa]⟩ ⟨1, by simp [DataW.trod, Tryz.underlying22, wb]⟩
theorem wide_opens {H : Type} {enc : TypeId × Value → H} {W : World} {r : Reach} {b0 : Nat} {sp : Nat → Bool} {v : Value} {d : DataW H} {p : List MemPlace} (hv : Value.okWide Tryz.prog W r b0 93 v) (h : DataW.Trod enc Tryz.prog W 0 sp true 93 v d p) :
    ∃ a b : Int, v = .agg #[.int .u64 a, .int .u64 b] ∧ d = .agg [.lit (.int .u64 a), .lit (.int .u64 b)] ∧ p = [] ∧ (Lit.int .u64 a).wf = true ∧ (Lit.int .u64 b).wf = true := by
  obtain ⟨c0, c1, y0, y1, m, rfl, rfl, rfl, hy0, hy1⟩ := open_agg2 Tryz.underlying93 (by kernel_rfl) cellsWide hv h
  obtain ⟨a, e0, rfl, wa⟩ := DataW.trod_int Tryz.underlying22 hy0
  obtain ⟨b, e1, rfl, wb⟩ := DataW.trod_int Tryz.underlying22 hy1
  simp at e0 e1
  subst e0 e1
  exact ⟨a, b, rfl, rfl, rfl, wa, wb⟩
theorem cellsRatio : Tryz.prog.cellsOf 24 = 2 := by kernel_rfl
theorem ratio_reads {H : Type} {enc : TypeId × Value → H} {a b : Int} (wa : (Lit.int .u64 a).wf = true) (wb : (Lit.int .u64 b).wf = true) (W' : World) (sp : Nat → Bool) :
    DataW.Trod enc Tryz.prog W' 0 sp true 24 (.agg #[.int .u64 a, .int .u64 b]) (.agg [.lit (.int .u64 a), .lit (.int .u64 b)]) [] :=
  shut_agg2 (y0 := (.lit (.int .u64 a), [])) (y1 := (.lit (.int .u64 b), [])) Tryz.underlying24 (by kernel_rfl) cellsRatio ⟨1, by simp [DataW.trod, Tryz.underlying22, wa]⟩ ⟨1, by simp [DataW.trod, Tryz.underlying22, wb]⟩
theorem ratio_opens {H : Type} {enc : TypeId × Value → H} {W : World} {r : Reach} {b0 : Nat} {sp : Nat → Bool} {v : Value} {d : DataW H} {p : List MemPlace} (hv : Value.okWide Tryz.prog W r b0 24 v) (h : DataW.Trod enc Tryz.prog W 0 sp true 24 v d p) :
    ∃ a b : Int, v = .agg #[.int .u64 a, .int .u64 b] ∧ d = .agg [.lit (.int .u64 a), .lit (.int .u64 b)] ∧ p = [] ∧ (Lit.int .u64 a).wf = true ∧ (Lit.int .u64 b).wf = true := by
  obtain ⟨c0, c1, y0, y1, m, rfl, rfl, rfl, hy0, hy1⟩ := open_agg2 Tryz.underlying24 (by kernel_rfl) cellsRatio hv h
  obtain ⟨a, e0, rfl, wa⟩ := DataW.trod_int Tryz.underlying22 hy0
  obtain ⟨b, e1, rfl, wb⟩ := DataW.trod_int Tryz.underlying22 hy1
  simp at e0 e1
  subst e0 e1
  exact ⟨a, b, rfl, rfl, rfl, wa, wb⟩
end Go.Proofs.YtcijflakldggaaaGreat

/-
  How arguments are opened where the reach counts: bytes, half words, strings.
-/
namespace Go.Proofs.YtcijflakldggaaaGreat
set_option linter.unusedVariables false
open Go.ChangeShapes Go.WideShapes Go.ChangeAt Go.RowKit Go.Joins

theorem byte_of_wf {x : Int} (h : (Lit.int .u8 x).wf = true) : 0 ≤ x ∧ x < 256 := by
  simp [Lit.wf, IntKind.min, IntKind.max, IntKind.signed, IntKind.bits] at h
  exact ⟨by omega, by omega⟩
theorem half_of_wf {x : Int} (h : (Lit.int .u32 x).wf = true) : 0 ≤ x ∧ x < 4294967296 := by
  simp [Lit.wf, IntKind.min, IntKind.max, IntKind.signed, IntKind.bits] at h
  exact ⟨by omega, by omega⟩
theorem size_reach {s : ByteArray} (h : s.data.toList.length ≤ reachBytes) : s.size ≤ 140737488351232 := by
  rw [Lib.size_eq]; exact h
end Go.Proofs.YtcijflakldggaaaGreat

/-
  How a row of pairs, and a row of rows, that comes in as an argument is opened.
  How a pair that comes in as an argument by value is opened, and shut again.
-/
namespace Go.Proofs.YtcijflakldggaaaGreat
set_option linter.unusedVariables false
set_option linter.unusedSimpArgs false
set_option maxRecDepth 100000
open Go.ChangeShapes Go.WideShapes Go.ChangeAt Go.RowKit Go.Joins

instance : Inhabited RowV := ⟨⟨none, 0, []⟩⟩
theorem add_deep (a : Addr) (i j : Nat) : (a.add i).add j = a.add (i + j) := Go.Deep.add_add a i j
theorem cellsPair : Tryz.prog.cellsOf 114 = 2 := by kernel_rfl
theorem bytesPair : Tryz.prog.bytesOf 114 = 16 := by kernel_rfl
theorem cellsRow2 : Tryz.prog.cellsOf 72 = 1 := by kernel_rfl
theorem bytesRow2 : Tryz.prog.bytesOf 72 = 24 := by kernel_rfl
/-- Two cells that read as a pair. -/
theorem open_pair {H : Type} {enc : TypeId × Value → H} {W : World} {base n : Nat} {spare : Nat → Bool} {held : Bool} {ad : Addr} {cs : List Value} {d : DataW H} {pl : List MemPlace}
    (hc : W.cells? base ad 2 = some cs) (h : DataW.trod enc Tryz.prog W base spare held n 114 cs = some (d, pl)) :
    ∃ p : PairV, okP p ∧ W.cell? (ad.add 0) = some (.int .i64 p.1) ∧ W.cell? (ad.add 1) = some (.int .u64 p.2) := by
  obtain ⟨_, hl, hat⟩ := World.cells?_some hc
  obtain ⟨ys, m, _, hx, _, hyl, hf⟩ := DataW.trod_struct Tryz.underlying114 h
  match cs, hl with
  | [x0, x1], _ =>
    have h0 := hf 0 _ rfl
    have h1 := hf 1 _ rfl
    match ys, hyl with
    | [y0, y1], _ =>
      obtain ⟨i, e0, r0, w0⟩ := DataW.trod_int Tryz.underlying3 h0
      obtain ⟨c, e1, r1, w1⟩ := DataW.trod_int Tryz.underlying22 h1
      have g0 : [x0] = [.int .i64 i] := e0
      have g1 : [x1] = [.int .u64 c] := e1
      simp only [List.cons.injEq, and_true] at g0 g1
      subst g0 g1
      exact ⟨(i, c), ⟨i64_of_wf w0, word_of_wf w1⟩, hat 0 (by omega), hat 1 (by omega)⟩
/-- Cells that read as a row of pairs. -/
theorem open_row {H : Type} {enc : TypeId × Value → H} {W : World} {n : Nat} {cs : List Value} {d : DataW H} {pl : List MemPlace}
    (hf : DataW.trod enc Tryz.prog W 0 (fun _ => true) true n 72 cs = some (d, pl)) (hz : ∀ n ∈ DataW.weights Tryz.prog 72 d, n ≤ reachBytes) :
    ∃ A cap L, cs = [.slice A (List.length L) cap] ∧ Pairs W A L ∧ L.length ≤ 140737488351232 := by
  rcases Go.Deep.open_slice Tryz.underlying72 hf with ⟨hcs, hx⟩ | ⟨a, len, cap, m, n, D, Pl, hcs, _, hl, hm, hmm, hx, hi⟩
  · exact ⟨none, 0, [], hcs, Pairs.nil W, Nat.zero_le _⟩
  · simp only [if_true] at hmm
    obtain rfl : cap = m := hmm.symm
    simp only [Prod.mk.injEq] at hx
    obtain ⟨rfl, rfl⟩ := hx
    have hw : DataW.weights Tryz.prog 72 (.slice ((List.range len).map D) ((List.range (cap - len)).map fun j => D (len + j))) =
        (((List.range len).map D).length + ((List.range (cap - len)).map fun j => D (len + j)).length) * Tryz.prog.bytesOf 114 ::
        (DataW.weightsAll Tryz.prog 114 ((List.range len).map D) ++ DataW.weightsAll Tryz.prog 114 ((List.range (cap - len)).map fun j => D (len + j))) := by
      conv => lhs; unfold DataW.weights
      rw [Tryz.underlying72]
    have hlen : len ≤ 140737488351232 := by
      have := hz _ (by rw [hw]; exact List.mem_cons_self)
      rw [bytesPair] at this
      simp only [List.length_map, List.length_range, reachBytes] at this
      omega
    have hall : ∀ i, i < len → ∃ p : PairV, okP p ∧ W.cell? (a.add (i * 2)) = some (.int .i64 p.1) ∧ W.cell? (a.add (i * 2 + 1)) = some (.int .u64 p.2) := by
      intro i hi'
      obtain ⟨cs', hc, ht⟩ := hi i (by omega)
      rw [cellsPair] at hc
      obtain ⟨p, i1, c0, c1⟩ := open_pair hc ht
      rw [add_deep] at c0 c1
      exact ⟨p, i1, c0, c1⟩
    obtain ⟨f, hf'⟩ := Go.Deep.choose_lt hall
    refine ⟨some a, cap, (List.range len).map f, by rw [hcs]; simp, ⟨?_, ?_⟩, by simpa using hlen⟩
    · intro p hp
      obtain ⟨i, hi1, rfl⟩ := List.mem_map.1 hp
      exact (hf' i (List.mem_range.1 hi1)).1
    · intro i p hp
      have hil : i < len := by
        rcases Nat.lt_or_ge i len with h | h
        · exact h
        · rw [List.getElem?_eq_none (by simpa using h)] at hp; cases hp
      simp only [List.getElem?_map, List.getElem?_range hil, Option.map_some, Option.some.injEq] at hp
      subst hp
      obtain ⟨_, c0, c1⟩ := hf' i hil
      obtain ⟨b, off, spot⟩ := a
      have hspot : spot = none := by
        have z0 := (hf' 0 (by omega)).2.1
        simpa [Addr.add] using World.cell?_spot z0
      subst hspot
      have hb : b < W.heap.size := by
        have := World.block_lt_of_cell? W _ c0
        revert this; unfold Addr.add; split <;> simp
      refine ⟨b, off, rfl, hb, ?_, ?_⟩
      · rw [← add_flat]; exact c0
      · rw [Nat.add_assoc, ← add_flat]; exact c1

theorem open_pairs {H : Type} {enc : TypeId × Value → H} {W : World} {base : Nat} {v : Value} {d : DataW H} {p : List MemPlace}
    (hv : Value.okWide Tryz.prog W .any base 72 v) (h : DataW.Trod enc Tryz.prog W 0 (fun _ => true) true 72 v d p)
    (hz : ∀ n ∈ DataW.weights Tryz.prog 72 d, n ≤ reachBytes) :
    ∃ A cap L, v = .slice A (List.length L) cap ∧ Pairs W A L ∧ L.length ≤ 140737488351232 := by
  obtain ⟨a0, len, cap, rfl⟩ := okWide_slice Tryz.underlying72 hv
  obtain ⟨fuel, hf⟩ := h
  obtain ⟨A, cap', L, hcs, hP, hl⟩ := open_row hf hz
  simp [Value.cells] at hcs
  obtain ⟨rfl, rfl, rfl⟩ := hcs
  exact ⟨_, _, L, rfl, hP, hl⟩

end Go.Proofs.YtcijflakldggaaaGreat

namespace Go.Proofs.YtcijflakldggaaaGreat
set_option maxRecDepth 100000
set_option linter.unusedVariables false
set_option linter.unusedSimpArgs false
open Go.ChangeShapes Go.WideShapes Go.ChangeAt Go.RowKit Go.Joins

theorem pair_reads {H : Type} {enc : TypeId × Value → H} {a b : Int} (wa : (Lit.int .i64 a).wf = true) (wb : (Lit.int .u64 b).wf = true) (W' : World) (sp : Nat → Bool) :
    DataW.Trod enc Tryz.prog W' 0 sp true 114 (.agg #[.int .i64 a, .int .u64 b]) (.agg [.lit (.int .i64 a), .lit (.int .u64 b)]) [] :=
  shut_agg2 (y0 := (.lit (.int .i64 a), [])) (y1 := (.lit (.int .u64 b), [])) Tryz.underlying114 (by kernel_rfl) cellsPair ⟨1, by simp [DataW.trod, Tryz.underlying3, wa]⟩ ⟨1, by simp [DataW.trod, Tryz.underlying22, wb]⟩
theorem pair_opens {H : Type} {enc : TypeId × Value → H} {W : World} {r : Reach} {b0 : Nat} {sp : Nat → Bool} {v : Value} {d : DataW H} {p : List MemPlace} (hv : Value.okWide Tryz.prog W r b0 114 v) (h : DataW.Trod enc Tryz.prog W 0 sp true 114 v d p) :
    ∃ a b : Int, v = .agg #[.int .i64 a, .int .u64 b] ∧ d = .agg [.lit (.int .i64 a), .lit (.int .u64 b)] ∧ p = [] ∧ (Lit.int .i64 a).wf = true ∧ (Lit.int .u64 b).wf = true := by
  obtain ⟨c0, c1, y0, y1, m, rfl, rfl, rfl, hy0, hy1⟩ := open_agg2 Tryz.underlying114 (by kernel_rfl) cellsPair hv h
  obtain ⟨a, e0, rfl, wa⟩ := DataW.trod_int Tryz.underlying3 hy0
  obtain ⟨b, e1, rfl, wb⟩ := DataW.trod_int Tryz.underlying22 hy1
  simp at e0 e1
  subst e0 e1
  exact ⟨a, b, rfl, rfl, rfl, wa, wb⟩
end Go.Proofs.YtcijflakldggaaaGreat

/-
  How a row of values, and a case of layer 13's laws, that come in as arguments are opened.
-/
namespace Go.Proofs.YtcijflakldggaaaGreat
set_option linter.unusedVariables false
set_option linter.unusedSimpArgs false
set_option maxRecDepth 100000
open Go.ChangeShapes Go.WideShapes Go.ChangeAt Go.RowKit Go.Joins

theorem cellsVal : Tryz.prog.cellsOf 52 = 2 := by kernel_rfl
theorem bytesVal : Tryz.prog.bytesOf 52 = 16 := by kernel_rfl
/-- Two cells that read as a pair. -/
theorem open_val {H : Type} {enc : TypeId × Value → H} {W : World} {base n : Nat} {spare : Nat → Bool} {held : Bool} {ad : Addr} {cs : List Value} {d : DataW H} {pl : List MemPlace}
    (hc : W.cells? base ad 2 = some cs) (h : DataW.trod enc Tryz.prog W base spare held n 52 cs = some (d, pl)) :
    ∃ p : PairV, okP p ∧ W.cell? (ad.add 0) = some (.int .i64 p.1) ∧ W.cell? (ad.add 1) = some (.int .u64 p.2) := by
  obtain ⟨_, hl, hat⟩ := World.cells?_some hc
  obtain ⟨ys, m, _, hx, _, hyl, hf⟩ := DataW.trod_struct Tryz.underlying52 h
  match cs, hl with
  | [x0, x1], _ =>
    have h0 := hf 0 _ rfl
    have h1 := hf 1 _ rfl
    match ys, hyl with
    | [y0, y1], _ =>
      obtain ⟨i, e0, r0, w0⟩ := DataW.trod_int Tryz.underlying2 h0
      obtain ⟨c, e1, r1, w1⟩ := DataW.trod_int Tryz.underlying22 h1
      have g0 : [x0] = [.int .i64 i] := e0
      have g1 : [x1] = [.int .u64 c] := e1
      simp only [List.cons.injEq, and_true] at g0 g1
      subst g0 g1
      exact ⟨(i, c), ⟨i64_of_wf w0, word_of_wf w1⟩, hat 0 (by omega), hat 1 (by omega)⟩
/-- Cells that read as a row of pairs. -/
theorem open_vrow {H : Type} {enc : TypeId × Value → H} {W : World} {n : Nat} {cs : List Value} {d : DataW H} {pl : List MemPlace}
    (hf : DataW.trod enc Tryz.prog W 0 (fun _ => true) true n 25 cs = some (d, pl)) (hz : ∀ n ∈ DataW.weights Tryz.prog 25 d, n ≤ reachBytes) :
    ∃ A cap L, cs = [.slice A (List.length L) cap] ∧ Pairs W A L ∧ L.length ≤ 140737488351232 := by
  rcases Go.Deep.open_slice Tryz.underlying25 hf with ⟨hcs, hx⟩ | ⟨a, len, cap, m, n, D, Pl, hcs, _, hl, hm, hmm, hx, hi⟩
  · exact ⟨none, 0, [], hcs, Pairs.nil W, Nat.zero_le _⟩
  · simp only [if_true] at hmm
    obtain rfl : cap = m := hmm.symm
    simp only [Prod.mk.injEq] at hx
    obtain ⟨rfl, rfl⟩ := hx
    have hw : DataW.weights Tryz.prog 25 (.slice ((List.range len).map D) ((List.range (cap - len)).map fun j => D (len + j))) =
        (((List.range len).map D).length + ((List.range (cap - len)).map fun j => D (len + j)).length) * Tryz.prog.bytesOf 52 ::
        (DataW.weightsAll Tryz.prog 52 ((List.range len).map D) ++ DataW.weightsAll Tryz.prog 52 ((List.range (cap - len)).map fun j => D (len + j))) := by
      conv => lhs; unfold DataW.weights
      rw [Tryz.underlying25]
    have hlen : len ≤ 140737488351232 := by
      have := hz _ (by rw [hw]; exact List.mem_cons_self)
      rw [bytesVal] at this
      simp only [List.length_map, List.length_range, reachBytes] at this
      omega
    have hall : ∀ i, i < len → ∃ p : PairV, okP p ∧ W.cell? (a.add (i * 2)) = some (.int .i64 p.1) ∧ W.cell? (a.add (i * 2 + 1)) = some (.int .u64 p.2) := by
      intro i hi'
      obtain ⟨cs', hc, ht⟩ := hi i (by omega)
      rw [cellsVal] at hc
      obtain ⟨p, i1, c0, c1⟩ := open_val hc ht
      rw [add_deep] at c0 c1
      exact ⟨p, i1, c0, c1⟩
    obtain ⟨f, hf'⟩ := Go.Deep.choose_lt hall
    refine ⟨some a, cap, (List.range len).map f, by rw [hcs]; simp, ⟨?_, ?_⟩, by simpa using hlen⟩
    · intro p hp
      obtain ⟨i, hi1, rfl⟩ := List.mem_map.1 hp
      exact (hf' i (List.mem_range.1 hi1)).1
    · intro i p hp
      have hil : i < len := by
        rcases Nat.lt_or_ge i len with h | h
        · exact h
        · rw [List.getElem?_eq_none (by simpa using h)] at hp; cases hp
      simp only [List.getElem?_map, List.getElem?_range hil, Option.map_some, Option.some.injEq] at hp
      subst hp
      obtain ⟨_, c0, c1⟩ := hf' i hil
      obtain ⟨b, off, spot⟩ := a
      have hspot : spot = none := by
        have z0 := (hf' 0 (by omega)).2.1
        simpa [Addr.add] using World.cell?_spot z0
      subst hspot
      have hb : b < W.heap.size := by
        have := World.block_lt_of_cell? W _ c0
        revert this; unfold Addr.add; split <;> simp
      refine ⟨b, off, rfl, hb, ?_, ?_⟩
      · rw [← add_flat]; exact c0
      · rw [Nat.add_assoc, ← add_flat]; exact c1

theorem open_vals {H : Type} {enc : TypeId × Value → H} {W : World} {base : Nat} {v : Value} {d : DataW H} {p : List MemPlace}
    (hv : Value.okWide Tryz.prog W .any base 25 v) (h : DataW.Trod enc Tryz.prog W 0 (fun _ => true) true 25 v d p)
    (hz : ∀ n ∈ DataW.weights Tryz.prog 25 d, n ≤ reachBytes) :
    ∃ A cap L, v = .slice A (List.length L) cap ∧ Pairs W A L ∧ L.length ≤ 140737488351232 := by
  obtain ⟨a0, len, cap, rfl⟩ := okWide_slice Tryz.underlying25 hv
  obtain ⟨fuel, hf⟩ := h
  obtain ⟨A, cap', L, hcs, hP, hl⟩ := open_vrow hf hz
  simp [Value.cells] at hcs
  obtain ⟨rfl, rfl, rfl⟩ := hcs
  exact ⟨_, _, L, rfl, hP, hl⟩

end Go.Proofs.YtcijflakldggaaaGreat
/-
  How a case of layer 14's laws, that comes in as an argument, is opened.
-/
namespace Go.Proofs.YtcijflakldggaaaGreat
set_option linter.unusedVariables false
set_option linter.unusedSimpArgs false
set_option maxRecDepth 100000
open Go.ChangeShapes Go.WideShapes Go.ChangeAt Go.RowKit Go.Joins

/-- A case by value. -/
theorem open_case14 {H : Type} {enc : TypeId × Value → H} {W : World} {base : Nat} {v : Value} {d : DataW H} {p : List MemPlace}
    (hv : Value.okWide Tryz.prog W .any base 27 v) (h : DataW.Trod enc Tryz.prog W 0 (fun _ => true) true 27 v d p)
    (hz : ∀ n ∈ DataW.weights Tryz.prog 27 d, n ≤ reachBytes) :
    ∃ (u x sd m : Int) (A : Option Addr) (cap : Nat) (L : List PairV), v = .agg #[.int .u64 u, .int .u64 x, .int .i64 sd, .int .i64 m, .slice A (List.length L) cap] ∧ Word u ∧ Word x ∧ I64 sd ∧ I64 m ∧ Pairs W A L ∧ L.length ≤ 140737488351232 := by
  obtain ⟨cs, rfl, hcs⟩ := okWide_struct Tryz.underlying27 hv
  obtain ⟨fuel, hf⟩ := h
  obtain ⟨ys, m, _, hx, hlen, hyl, hfi⟩ := DataW.trod_struct Tryz.underlying27 hf
  have hc6 : cs.size = 5 := hcs.trans (by kernel_rfl)
  obtain ⟨l⟩ := cs
  match l, hc6 with
  | [x0, x1, x2, x3, x4], _ =>
    have h0 := hfi 0 _ rfl
    have h1 := hfi 1 _ rfl
    have h2 := hfi 2 _ rfl
    have h3 := hfi 3 _ rfl
    match ys, hyl with
    | [y0, y1, y2, y3], _ =>
      obtain ⟨zs, m', _, hx', _, hzl, hgi⟩ := DataW.trod_struct Tryz.underlying24 h0
      have g0 := hgi 0 _ rfl
      have g1 := hgi 1 _ rfl
      match zs, hzl with
      | [z0, z1], _ =>
        obtain ⟨a, e0, r0, w0⟩ := DataW.trod_int Tryz.underlying22 g0
        obtain ⟨b, e1, r1, w1⟩ := DataW.trod_int Tryz.underlying22 g1
        obtain ⟨sd, e3, r3, w3⟩ := DataW.trod_int Tryz.underlying3 h1
        obtain ⟨mm, e4, r4, w4⟩ := DataW.trod_int Tryz.underlying3 h2
        have q0 : [x0] = [.int .u64 a] := e0
        have q1 : [x1] = [.int .u64 b] := e1
        have q3 : [x2] = [.int .i64 sd] := e3
        have q4 : [x3] = [.int .i64 mm] := e4
        simp only [List.cons.injEq, and_true] at q0 q1 q3 q4
        subst q0 q1 q3 q4
        have h4' : DataW.trod enc Tryz.prog W 0 (fun _ => true) true m 25 [x4] = some (y3.1, y3.2) := h3
        simp only [Prod.mk.injEq] at hx
        obtain ⟨A, cap, L, e5, hP, hl⟩ := open_vrow h4' (fun n hn => hz n (by
          rw [hx.1]
          unfold DataW.weights
          rw [Tryz.underlying27]
          exact DataW.weights_mem_each (j := 3) (t := 25) (d := y3.1) rfl rfl _ hn))
        simp only [List.cons.injEq, and_true] at e5
        subst e5
        exact ⟨a, b, sd, mm, A, cap, L, rfl, word_of_wf w0, word_of_wf w1, i64_of_wf w3, i64_of_wf w4, hP, hl⟩
end Go.Proofs.YtcijflakldggaaaGreat

/-
  Walks: the laws' alive, empty, build and same of layer 13, from what package bins is to do.
-/
namespace Go.Proofs.YtcijflakldggaaaGreat
set_option linter.unusedVariables false
set_option linter.unusedSimpArgs false
open Go.RowKit

theorem alive_bins : binErr stNil 1 = 0 ∧ binErr (addSt (.spans 1 4 10) false 100 stNil 100 1) 1 = 0 ∧
    (findSt (.spans 1 4 10) false (addSt (.spans 1 4 10) false 100 (addSt (.spans 1 4 10) false 100 stNil 100 1) (-100) 1) 1).getD 0 = -101 ∧
    (findSt (.spans 1 4 10) false (addSt (.spans 1 4 10) false 100 (addSt (.spans 1 4 10) false 100 stNil 100 1) (-100) 1) 1).isSome = true ∧
    (addSt (.spans 1 4 10) false 100 stNil 100 1).k1.length ≤ 500 ∧ (addSt (.spans 1 4 10) false 100 stNil 100 1).k2.length ≤ 500 ∧
    (addSt (.spans 1 4 10) false 100 (addSt (.spans 1 4 10) false 100 stNil 100 1) (-100) 1).k1.length ≤ 500 ∧ (addSt (.spans 1 4 10) false 100 (addSt (.spans 1 4 10) false 100 stNil 100 1) (-100) 1).k2.length ≤ 500 := by decide +kernel

abbrev BnT := World → Nat → (Nat → Prop) → (Nat → Prop) → Pt → Bool → Int → St → Prop

end Go.Proofs.YtcijflakldggaaaGreat
/-
  Walks: the laws' build of layer 13, from what package bins is to do.
-/
namespace Go.Proofs.YtcijflakldggaaaGreat
set_option linter.unusedVariables false
set_option linter.unusedSimpArgs false
open Go.RowKit

/-- The reference's bins, all of whose blocks lie below n. -/
structure RefK (n : Nat) (w : World) (M : Nat) (P : Pt) (s : Bool) (m : Int) (A : List PairV) : Prop where
  ref : RefN w M P s m A
  stay : ∀ w', (∀ k, k < n → w'.heap[k]? = w.heap[k]?) → n ≤ w'.heap.size → RefN w' M P s m A
theorem cell_same {w w' : World} {b : Nat} (h : w'.heap[b]? = w.heap[b]?) (o : Nat) : w'.cell? ⟨b, o, none⟩ = w.cell? ⟨b, o, none⟩ := by
  unfold World.cell?; simp only [h]
theorem refk_of {n : Nat} {w : World} {M : Nat} {P : Pt} {s : Bool} {m : Int} {A : List PairV} (h : RefN w M P s m A) (hn : n = w.heap.size) : RefK n w M P s m A := by
  subst hn
  refine ⟨h, fun w' hk hs => ?_⟩
  obtain ⟨lo, re, dg, a, cap, h1, h2, h3⟩ := h.ex
  refine ⟨lo, re, dg, a, cap, ?_, ⟨h2.ok, fun i p hp => ?_⟩, (hk M h.lt).trans h3⟩
  · cases P with
    | cells u v k =>
      obtain ⟨h0, g, q, c, c', e1, e2, n1, n2, e3, e4⟩ := h1
      refine ⟨h0, g, q, c, c', e1, e2, n1, n2, fun i hi => ?_, fun i hi => ?_⟩
      · have hb := World.block_lt_of_cell? (a := ⟨g, i, none⟩) w (e3 i hi)
        rw [cell_same (hk g hb)]; exact e3 i hi
      · have hb := World.block_lt_of_cell? (a := ⟨q, i, none⟩) w (e4 i hi)
        rw [cell_same (hk q hb)]; exact e4 i hi
    | spans d L T => exact h1
  · obtain ⟨b, off, ha, hb, c0, c1⟩ := h2.at_ i p hp
    exact ⟨b, off, ha, by omega, by rw [cell_same (hk b hb)]; exact c0, by rw [cell_same (hk b hb)]; exact c1⟩
theorem RefK.keep {n : Nat} {w w' : World} {M : Nat} {P : Pt} {s : Bool} {m : Int} {A : List PairV} (h : RefK n w M P s m A) (hk : ∀ k, k < n → w'.heap[k]? = w.heap[k]?) (hn : n ≤ w'.heap.size) : RefK n w' M P s m A :=
  ⟨h.stay w' hk hn, fun w2 hk2 hs2 => h.stay w2 (fun k hkk => (hk2 k hkk).trans (hk k hkk)) hs2⟩
theorem RefK.call {n : Nat} {w w' : World} {M : Nat} {P : Pt} {s : Bool} {m : Int} {A : List PairV} (h : RefK n w M P s m A) (hb : Below w.heap.size w w') (hn : n ≤ w.heap.size) : RefK n w' M P s m A :=
  h.keep (fun k hk => hb.block k (by omega)) (by have := hb.size; omega)
theorem RefK.past {n : Nat} {w w' : World} {M : Nat} {P : Pt} {s : Bool} {m : Int} {A : List PairV} {S : Nat → Prop} (h : RefK n w M P s m A) (hk : Keeps S w w') (hS : ∀ k, S k → n ≤ k) (hn : n ≤ w.heap.size) : RefK n w' M P s m A :=
  h.keep (fun k hkk => hk.block k (by omega) fun hs => by have := hS k hs; omega) (by have := hk.size; omega)
/-- All values set, in a world that has grown. -/
theorem refk_vals {w0 w2 w : World} {M : Nat} {P : Pt} {s : Bool} {m : Int} {A : List PairV} {a : Option Addr} {cap : Nat} (h : RefN w2 M P s m []) (hv : Pairs w0 a A) (h02 : Below w0.heap.size w0 w2) (hM : w0.heap.size ≤ M) (hb : Below w2.heap.size w2 w) :
    RefK w2.heap.size (w.setCell ⟨M, 5, none⟩ (.slice a A.length cap)) M P s m A := by
  have e : ∀ (z : World), (∀ k, k < w2.heap.size → z.heap[k]? = (w2.setCell ⟨M, 5, none⟩ (.slice a A.length cap)).heap[k]?) → w2.heap.size ≤ z.heap.size → RefN z M P s m A := by
    have h1 : RefN (w2.setCell ⟨M, 5, none⟩ (.slice a A.length cap)) M P s m A := h.vals hv h02 hM
    have hs : (w2.setCell ⟨M, 5, none⟩ (.slice a A.length cap)).heap.size = w2.heap.size := by simp [World.setCell]
    exact fun z hz hs' => (refk_of h1 hs.symm).stay z hz hs'
  have hlt := h.lt
  have key : ∀ k, k < w2.heap.size → (w.setCell ⟨M, 5, none⟩ (.slice a A.length cap)).heap[k]? = (w2.setCell ⟨M, 5, none⟩ (.slice a A.length cap)).heap[k]? := by
    intro k hk
    obtain ⟨lo, re, dg, a0, cap0, _, _, h3⟩ := h.ex
    by_cases c : k = M
    · subst c
      rw [Joins.block_setCell h3, Joins.block_setCell ((hb.block k hk).trans h3)]
    · have f : ∀ x : World, (x.setCell ⟨M, 5, none⟩ (.slice a A.length cap)).heap[k]? = x.heap[k]? := fun x => Below.heap_setCell x _ _ k c
      rw [f, f]; exact hb.block k hk
  have hs : (w.setCell ⟨M, 5, none⟩ (.slice a A.length cap)).heap.size = w.heap.size := by simp [World.setCell]
  have h9 := hb.size
  exact ⟨e _ key (by rw [hs]; exact h9), fun z hz hs' => e z (fun k hk => (hz k hk).trans (key k hk)) hs'⟩
theorem stv_len {P : Pt} (hP : P.ok) (s : Bool) (m : Int) {A : List PairV} (h : FineV A) (hl : A.length ≤ 1000) : (stV P s m A).k1.length ≤ A.length ∧ (stV P s m A).k2.length ≤ A.length := by
  have a := keeps_le s m (rowV P true A)
  have b := keeps_le s m (rowV P false A)
  have c := (row_sum50 hP true h hl).len
  have d := (row_sum50 hP false h hl).len
  exact ⟨Nat.le_trans a c, Nat.le_trans b d⟩
/-- One value more. -/
theorem bin_step {P : Pt} (hP : P.ok) (s : Bool) {m : Int} (hm : 0 < m) {A : List PairV} {k : Nat} {v : PairV} (h : A[k]? = some v) (hf : FineV (A.take k)) (hk : k ≤ 900) (hv : I64 v.1 ∧ 0 < v.2 ∧ v.2 ≤ 1125899906842624) :
    FineV (A.take (k + 1)) ∧ binErr (stV P s m (A.take k)) v.2 = 0 ∧ binSt P s m (stV P s m (A.take k)) v.1 v.2 = stV P s m (A.take (k + 1)) := by
  have hl : (A.take k).length ≤ k := List.length_take_le k A
  have hft : FineV (A.take (k + 1)) := by
    rw [take_snocP h]
    exact fine_app hf fun u hu => by
      have : u = v := by simpa using hu
      rw [this]; exact hv
  have he : binErr (stV P s m (A.take k)) v.2 = 0 := by
    unfold binErr lwErr
    rw [stv_all hP s m hf (by omega)]
    have := fine_sum hf
    have : ((A.take k).length : Int) * 1125899906842624 ≤ 900 * 1125899906842624 := Int.mul_le_mul_of_nonneg_right (by omega) (by omega)
    rw [if_neg (by omega), if_neg (by omega)]
  refine ⟨hft, he, ?_⟩
  unfold binSt
  rw [if_pos he, take_snocP h, stv_snoc hP s hm hf (by omega) hv]

/-- What build tells: bins with all values, and what they must be; or that such aren't played. -/
def BuildN (Bn : BnT) (w : World) (u v dg sd m : Int) (A : List PairV) (a : Option Addr) (cap : Nat) (e : Ending) (w' : World) : Prop :=
  (∃ B S R M P s n, e = .returned (.tuple #[.pointer (some ⟨B, 0, none⟩), .pointer (some ⟨M, 0, none⟩), .bool true]) ∧ sideI s = sd ∧ P.ok ∧ PtOf dg u v P ∧ 1 ≤ m ∧ m ≤ 4096 ∧ FineV A ∧ A.length ≤ 60 ∧ Bn w' B S R P s m (stV P s m A) ∧ RefK n w' M P s m A ∧ (∀ k, S k ∨ R k → n ≤ k) ∧ w.heap.size ≤ n ∧ n ≤ w'.heap.size ∧ 0 ≤ dg ∧ dg ≤ 4 ∧ Below w.heap.size w w' ∧ Far w.heap.size w' M ∧ w'.cell? ⟨M, 5, none⟩ = some (.slice a A.length cap)) ∨
  (e = .returned (.tuple #[.pointer none, .pointer none, .bool false]) ∧ Below w.heap.size w w')

end Go.Proofs.YtcijflakldggaaaGreat
/-
  Plain mathematics of a sketch over bins by a closeness: ends, what is answered, how close it lies: no program in sight.
-/
namespace Go.Proofs.YtcijflakldggaaaGreat
set_option linter.unusedVariables false
set_option linter.unusedSimpArgs false

/-- The least and the greatest of values, from one on. -/
def loF (x : Int) (A : List PairV) : Int := A.foldl (fun a v => min a v.1) x
def hiF (x : Int) (A : List PairV) : Int := A.foldl (fun a v => max a v.1) x
theorem lof_snoc (x : Int) (A : List PairV) (v : PairV) : loF x (A ++ [v]) = min (loF x A) v.1 := by unfold loF; rw [List.foldl_append]; rfl
theorem hif_snoc (x : Int) (A : List PairV) (v : PairV) : hiF x (A ++ [v]) = max (hiF x A) v.1 := by unfold hiF; rw [List.foldl_append]; rfl
theorem lof_app (x : Int) (A B : List PairV) : loF x (A ++ B) = loF (loF x A) B := by unfold loF; rw [List.foldl_append]
theorem hif_app (x : Int) (A B : List PairV) : hiF x (A ++ B) = hiF (hiF x A) B := by unfold hiF; rw [List.foldl_append]
theorem lof_le : ∀ (A : List PairV) (x : Int), loF x A ≤ x ∧ ∀ v, v ∈ A → loF x A ≤ v.1 := by
  intro A
  induction A with
  | nil => intro x; exact ⟨Int.le_refl _, fun v h => (by cases h)⟩
  | cons a r ih =>
    intro x
    obtain ⟨h1, h2⟩ := ih (min x a.1)
    have e : loF x (a :: r) = loF (min x a.1) r := rfl
    rw [e]
    refine ⟨by omega, fun v hv => ?_⟩
    rcases List.mem_cons.1 hv with rfl | hv
    · omega
    · exact h2 v hv
theorem hif_ge : ∀ (A : List PairV) (x : Int), x ≤ hiF x A ∧ ∀ v, v ∈ A → v.1 ≤ hiF x A := by
  intro A
  induction A with
  | nil => intro x; exact ⟨Int.le_refl _, fun v h => (by cases h)⟩
  | cons a r ih =>
    intro x
    obtain ⟨h1, h2⟩ := ih (max x a.1)
    have e : hiF x (a :: r) = hiF (max x a.1) r := rfl
    rw [e]
    refine ⟨by omega, fun v hv => ?_⟩
    rcases List.mem_cons.1 hv with rfl | hv
    · omega
    · exact h2 v hv
theorem lof_mem : ∀ (A : List PairV) (x : Int), loF x A = x ∨ ∃ v, v ∈ A ∧ v.1 = loF x A := by
  intro A
  induction A with
  | nil => intro x; exact Or.inl rfl
  | cons a r ih =>
    intro x
    have e : loF x (a :: r) = loF (min x a.1) r := rfl
    rw [e]
    rcases ih (min x a.1) with h | ⟨v, hv, h⟩
    · by_cases c : x ≤ a.1
      · exact Or.inl (by omega)
      · exact Or.inr ⟨a, by simp, by omega⟩
    · exact Or.inr ⟨v, by simp [hv], h⟩
theorem hif_mem : ∀ (A : List PairV) (x : Int), hiF x A = x ∨ ∃ v, v ∈ A ∧ v.1 = hiF x A := by
  intro A
  induction A with
  | nil => intro x; exact Or.inl rfl
  | cons a r ih =>
    intro x
    have e : hiF x (a :: r) = hiF (max x a.1) r := rfl
    rw [e]
    rcases ih (max x a.1) with h | ⟨v, hv, h⟩
    · by_cases c : a.1 ≤ x
      · exact Or.inl (by omega)
      · exact Or.inr ⟨a, by simp, by omega⟩
    · exact Or.inr ⟨v, by simp [hv], h⟩
/-- The ends of all values: noughts, if there are none. -/
def loV (A : List PairV) : Int := match A with | [] => 0 | v :: r => loF v.1 (v :: r)
def hiV (A : List PairV) : Int := match A with | [] => 0 | v :: r => hiF v.1 (v :: r)
theorem lov_of {A : List PairV} {x : Int} (h : ∃ v, v ∈ A ∧ v.1 = x) (hx : ∀ v, v ∈ A → x ≤ v.1) : loV A = x := by
  obtain ⟨v, hv, e⟩ := h
  cases A with
  | nil => cases hv
  | cons a r =>
    show loF a.1 (a :: r) = x
    have h1 := (lof_le (a :: r) a.1).2 v hv
    rcases lof_mem (a :: r) a.1 with h | ⟨u, hu, h⟩
    · have := hx a (by simp); omega
    · have := hx u hu; omega
theorem hiv_of {A : List PairV} {x : Int} (h : ∃ v, v ∈ A ∧ v.1 = x) (hx : ∀ v, v ∈ A → v.1 ≤ x) : hiV A = x := by
  obtain ⟨v, hv, e⟩ := h
  cases A with
  | nil => cases hv
  | cons a r =>
    show hiF a.1 (a :: r) = x
    have h1 := (hif_ge (a :: r) a.1).2 v hv
    rcases hif_mem (a :: r) a.1 with h | ⟨u, hu, h⟩
    · have := hx a (by simp); omega
    · have := hx u hu; omega
theorem lov_facts {A : List PairV} (h : A ≠ []) : (∃ v, v ∈ A ∧ v.1 = loV A) ∧ ∀ v, v ∈ A → loV A ≤ v.1 := by
  cases A with
  | nil => exact absurd rfl h
  | cons a r =>
    refine ⟨?_, (lof_le (a :: r) a.1).2⟩
    rcases lof_mem (a :: r) a.1 with h | ⟨u, hu, h⟩
    · exact ⟨a, by simp, h.symm⟩
    · exact ⟨u, hu, h⟩
theorem hiv_facts {A : List PairV} (h : A ≠ []) : (∃ v, v ∈ A ∧ v.1 = hiV A) ∧ ∀ v, v ∈ A → v.1 ≤ hiV A := by
  cases A with
  | nil => exact absurd rfl h
  | cons a r =>
    refine ⟨?_, (hif_ge (a :: r) a.1).2⟩
    rcases hif_mem (a :: r) a.1 with h | ⟨u, hu, h⟩
    · exact ⟨a, by simp, h.symm⟩
    · exact ⟨u, hu, h⟩
theorem ends_app {A B : List PairV} (hA : A ≠ []) (hB : B ≠ []) : loV (A ++ B) = min (loV A) (loV B) ∧ hiV (A ++ B) = max (hiV A) (hiV B) := by
  obtain ⟨⟨a, ha, ea⟩, la⟩ := lov_facts hA
  obtain ⟨⟨b, hb, eb⟩, lb⟩ := lov_facts hB
  obtain ⟨⟨c, hc, ec⟩, hc'⟩ := hiv_facts hA
  obtain ⟨⟨d, hd, ed⟩, hd'⟩ := hiv_facts hB
  constructor
  · refine lov_of ?_ fun v hv => ?_
    · by_cases h : loV A ≤ loV B
      · exact ⟨a, by simp [ha], by omega⟩
      · exact ⟨b, by simp [hb], by omega⟩
    · rcases List.mem_append.1 hv with h | h
      · have := la v h; omega
      · have := lb v h; omega
  · refine hiv_of ?_ fun v hv => ?_
    · by_cases h : hiV B ≤ hiV A
      · exact ⟨c, by simp [hc], by omega⟩
      · exact ⟨d, by simp [hd], by omega⟩
    · rcases List.mem_append.1 hv with h | h
      · have := hc' v h; omega
      · have := hd' v h; omega
theorem ends_one (v : PairV) : loV [v] = v.1 ∧ hiV [v] = v.1 := by
  constructor
  · show min v.1 v.1 = v.1; omega
  · show max v.1 v.1 = v.1; omega
theorem ends_snoc {A : List PairV} (hA : A ≠ []) (v : PairV) : loV (A ++ [v]) = min (loV A) v.1 ∧ hiV (A ++ [v]) = max (hiV A) v.1 := by
  have h := ends_app hA (B := [v]) (by simp)
  rw [(ends_one v).1, (ends_one v).2] at h
  exact h

/-- Between the ends. -/
def clampV (lo hi x : Int) : Int := min (max x lo) hi
theorem clamp_in {lo hi : Int} (h : lo ≤ hi) (x : Int) : lo ≤ clampV lo hi x ∧ clampV lo hi x ≤ hi := by unfold clampV; omega
theorem clamp_mono {lo hi x y : Int} (h : x ≤ y) : clampV lo hi x ≤ clampV lo hi y := by unfold clampV; omega
theorem clamp_near {lo hi r x n d : Int} (h1 : lo ≤ x) (h2 : x ≤ hi) (hd : 0 ≤ d) (h : nearB r x n d = true) : nearB (clampV lo hi r) x n d = true := by
  unfold nearB at h ⊢
  have h := of_decide_eq_true h
  apply decide_eq_true
  have hg : gap (clampV lo hi r) x ≤ gap r x := by unfold clampV gap; split <;> split <;> omega
  exact Int.le_trans (Int.mul_le_mul_of_nonneg_right hg hd) h

/-- What stands for a value lies close to it. -/
theorem stand_near {u v : Int} {n : Nat} (hP : (Pt.cells u v n).ok) {x : Int} (hx : I64 x) : nearB (standV (.cells u v n) x) x u v = true := by
  unfold nearB
  apply decide_eq_true
  obtain ⟨g, t, hn⟩ := hP
  have v0 : 0 ≤ v := by obtain ⟨a, b, c⟩ := g; omega
  by_cases h0 : x = 0
  · subst h0
    have : standV (.cells u v n) 0 = 0 := by unfold standV; rw [if_pos rfl]
    rw [this]
    show (if (0 : Int) < 0 then (0 : Int) - 0 else 0 - 0) * v ≤ u * (if (0 : Int) < 0 then -0 else 0)
    simp
  · obtain ⟨m1, m2⟩ := mag_in hx h0
    obtain ⟨i, hi, e, a, b⟩ := idx_at g t m1 m2
    have hlo := low_pos g i
    have hrep : (Pt.cells u v n).rep ((Pt.cells u v n).idx (mag x)) = repC u v (lowC u v i) := by
      show (if 0 ≤ ((idxC u v n (mag x) : Nat) : Int) ∧ ((idxC u v n (mag x) : Nat) : Int) < n then repC u v (lowC u v ((idxC u v n (mag x) : Nat) : Int).toNat) else 0) = _
      rw [e, if_pos ⟨by omega, by omega⟩, Int.toNat_natCast]
    have hc := rep_close g hlo a b
    have hw := rep_word g hlo
    have hg : gap (standV (.cells u v n) x) x ≤ gapC (repC u v (lowC u v i)) (mag x) := by
      unfold standV; rw [if_neg h0, hrep]
      obtain ⟨x0, x1⟩ := hx
      unfold gap gapC mag
      by_cases hn : x < 0
      · rw [if_pos hn, if_pos hn]; split <;> omega
      · rw [if_neg hn, if_neg hn]; split <;> omega
    have := Int.mul_le_mul_of_nonneg_right hg v0
    rw [Int.mul_comm u]
    omega
/-- .. and never falls. -/
theorem rep_rise {u v : Int} {n : Nat} (hP : (Pt.cells u v n).ok) {x y : Int} (h1 : 1 ≤ x) (h2 : x ≤ y) (h3 : y ≤ 9223372036854775808) : (Pt.cells u v n).rep ((Pt.cells u v n).idx x) ≤ (Pt.cells u v n).rep ((Pt.cells u v n).idx y) := by
  have hm := pt_mono hP h1 h2 h3
  obtain ⟨g, t, hn⟩ := hP
  obtain ⟨i, hi, e, _, _⟩ := idx_at g t h1 (by omega : x ≤ 9223372036854775808)
  obtain ⟨j, hj, e2, _, _⟩ := idx_at g t (by omega : 1 ≤ y) h3
  have ex : (Pt.cells u v n).idx x = i := by show ((idxC u v n x : Nat) : Int) = i; rw [e]
  have ey : (Pt.cells u v n).idx y = j := by show ((idxC u v n y : Nat) : Int) = j; rw [e2]
  rw [ex, ey] at hm ⊢
  show (if 0 ≤ (i : Int) ∧ (i : Int) < n then repC u v (lowC u v (i : Int).toNat) else 0) ≤ (if 0 ≤ (j : Int) ∧ (j : Int) < n then repC u v (lowC u v (j : Int).toNat) else 0)
  rw [if_pos ⟨by omega, by omega⟩, if_pos ⟨by omega, by omega⟩, Int.toNat_natCast, Int.toNat_natCast]
  have := raw_mono g (Int.le_refl u) (low_pos g i) (low_mono g (show i ≤ j by omega))
  unfold repC; omega
theorem stand_rise {u v : Int} {n : Nat} (hP : (Pt.cells u v n).ok) {x y : Int} (hx : I64 x) (hy : I64 y) (h : x ≤ y) : standV (.cells u v n) x ≤ standV (.cells u v n) y := by
  have pos : ∀ z, I64 z → z ≠ 0 → 1 ≤ (Pt.cells u v n).rep ((Pt.cells u v n).idx (mag z)) := fun z hz h0 => (pt_idx hP (mag_in hz h0).1 (mag_in hz h0).2).2.2.1
  have mono : ∀ a b, I64 a → I64 b → a ≠ 0 → b ≠ 0 → mag a ≤ mag b → (Pt.cells u v n).rep ((Pt.cells u v n).idx (mag a)) ≤ (Pt.cells u v n).rep ((Pt.cells u v n).idx (mag b)) := fun a b ha hb a0 b0 hab => rep_rise hP (mag_in ha a0).1 hab (mag_in hb b0).2
  unfold standV
  by_cases x0 : x = 0
  · rw [if_pos x0]
    by_cases y0 : y = 0
    · rw [if_pos y0]; exact Int.le_refl _
    · have := pos y hy y0
      rw [if_neg y0, if_neg (by omega)]; omega
  · rw [if_neg x0]
    by_cases y0 : y = 0
    · have := pos x hx x0
      rw [if_pos y0, if_pos (by omega)]; omega
    · rw [if_neg y0]
      have px := pos x hx x0
      have py := pos y hy y0
      by_cases xn : x < 0
      · rw [if_pos xn]
        by_cases yn : y < 0
        · rw [if_pos yn]
          have := mono y x hy hx y0 x0 (by unfold mag; rw [if_pos xn, if_pos yn]; omega)
          omega
        · rw [if_neg yn]; omega
      · rw [if_neg xn, if_neg (by omega)]
        have := mono x y hx hy x0 y0 (by unfold mag; rw [if_neg xn, if_neg (by omega)]; omega)
        omega

/-- Values that are the same, however they are told. -/
theorem row_same {P : Pt} (hP : P.ok) (b : Bool) {A D : List PairV} (hA : FineV A) (hD : FineV D) (lA : A.length ≤ 1000) (lD : D.length ≤ 1000) (h : ∀ f, cntV f A = cntV f D) : rowV P b A = rowV P b D :=
  good_ext (row_fold hP b hA lA).sums.good (row_fold hP b hD lD).sums.good fun j => by rw [row_count hP b hA lA, row_count hP b hD lD]; exact h _
theorem stv_same {P : Pt} (hP : P.ok) (s : Bool) (m : Int) {A D : List PairV} (hA : FineV A) (hD : FineV D) (lA : A.length ≤ 1000) (lD : D.length ≤ 1000) (h : ∀ f, cntV f A = cntV f D) : stV P s m A = stV P s m D := by
  unfold stV
  rw [row_same hP true hA hD lA lD h, row_same hP false hA hD lA lD h]
  have : zeroV A = zeroV D := h _
  rw [this]
theorem mem_same {A D : List PairV} (hA : FineV A) (hD : FineV D) (h : ∀ f, cntV f A = cntV f D) {v : PairV} (hv : v ∈ A) : ∃ u, u ∈ D ∧ u.1 = v.1 := by
  by_cases hc : ∃ u, u ∈ D ∧ u.1 = v.1
  · exact hc
  · exfalso
    have e : cntV (fun x => x == v.1) D = 0 := by
      unfold cntV
      rw [List.filter_eq_nil_iff.2 (fun u hu hh => hc ⟨u, hu, by simpa using hh⟩)]; rfl
    have h1 : 0 < cntV (fun x => x == v.1) A := by
      obtain ⟨B, C, rfl⟩ := List.append_of_mem hv
      have hp := fine_pos hA
      have p1 := cnt_bd (f := fun x => x == v.1) (A := B) (fun u hu => hp u (by simp [hu]))
      have p2 := cnt_bd (f := fun x => x == v.1) (A := C) (fun u hu => hp u (by simp [hu]))
      have p3 := hA v (by simp)
      rw [cnt_app, cnt_cons, if_pos (by simp)]; omega
    have := h (fun x => x == v.1)
    omega
theorem ends_same {A D : List PairV} (hA : FineV A) (hD : FineV D) (h : ∀ f, cntV f A = cntV f D) : loV A = loV D ∧ hiV A = hiV D := by
  by_cases hn : A = []
  · have : D = [] := by
      cases D with
      | nil => rfl
      | cons d r =>
        obtain ⟨u, hu, _⟩ := mem_same hD hA (fun f => (h f).symm) (v := d) (by simp)
        rw [hn] at hu; cases hu
    rw [hn, this]; exact ⟨rfl, rfl⟩
  · have hd : D ≠ [] := by
      rintro rfl
      cases A with
      | nil => exact hn rfl
      | cons a r =>
        obtain ⟨u, hu, _⟩ := mem_same hA hD h (v := a) (by simp)
        cases hu
    obtain ⟨⟨a, ha, ea⟩, la⟩ := lov_facts hd
    obtain ⟨⟨c, hc, ec⟩, lc⟩ := hiv_facts hd
    constructor
    · refine lov_of ?_ fun v hv => ?_
      · obtain ⟨u, hu, e⟩ := mem_same hD hA (fun f => (h f).symm) ha
        exact ⟨u, hu, by omega⟩
      · obtain ⟨u, hu, e⟩ := mem_same hA hD h hv
        have := la u hu; omega
    · refine hiv_of ?_ fun v hv => ?_
      · obtain ⟨u, hu, e⟩ := mem_same hD hA (fun f => (h f).symm) hc
        exact ⟨u, hu, by omega⟩
      · obtain ⟨u, hu, e⟩ := mem_same hA hD h hv
        have := lc u hu; omega

/-- A value whose part is lost: there are others, further out. -/
theorem lost_far {P : Pt} (hP : P.ok) (s : Bool) {m : Int} (hm : 0 < m) {A : List PairV} (h : FineV A) (hl : A.length ≤ 1000) {x : Int} (hx : I64 x) (h0 : x ≠ 0) (hin : ∃ v, v ∈ A ∧ v.1 = x)
    (hlost : countP (keepS s m (rowV P (decide (x < 0)) A)) (P.idx (mag x)) = 0) :
    ∃ v, v ∈ A ∧ v.1 ≠ 0 ∧ decide (v.1 < 0) = decide (x < 0) ∧ (if s = true then mag v.1 < mag x else mag x < mag v.1) := by
  obtain ⟨v0, hv0, e0⟩ := hin
  obtain ⟨m1, m2⟩ := mag_in hx h0
  have F := row_fold hP (decide (x < 0)) h hl
  have hg := F.sums.good
  have hcx : 1 ≤ countP (rowV P (decide (x < 0)) A) (P.idx (mag x)) := by
    rw [row_count hP _ h hl]
    obtain ⟨B, C, rfl⟩ := List.append_of_mem hv0
    have hp := fine_pos h
    have p1 := cnt_bd (f := fun y => sideV (decide (x < 0)) y && (P.idx (mag y) == P.idx (mag x))) (A := B) (fun u hu => hp u (by simp [hu]))
    have p2 := cnt_bd (f := fun y => sideV (decide (x < 0)) y && (P.idx (mag y) == P.idx (mag x))) (A := C) (fun u hu => hp u (by simp [hu]))
    have p3 := h v0 (by simp)
    have hs : (sideV (decide (x < 0)) v0.1 && (P.idx (mag v0.1) == P.idx (mag x))) = true := by
      rw [e0]; unfold sideV; simp [h0]
    rw [cnt_app, cnt_cons, if_pos hs]; omega
  have key : ∀ j, 1 ≤ countP (rowV P (decide (x < 0)) A) j → ∃ v, v ∈ A ∧ v.1 ≠ 0 ∧ decide (v.1 < 0) = decide (x < 0) ∧ P.idx (mag v.1) = j := by
    intro j hj
    rw [row_count hP _ h hl] at hj
    by_cases hc : ∃ v, v ∈ A ∧ (sideV (decide (x < 0)) v.1 && (P.idx (mag v.1) == j)) = true
    · obtain ⟨v, hv, hh⟩ := hc
      simp only [Bool.and_eq_true, beq_iff_eq] at hh
      have hside := hh.1
      unfold sideV at hside
      simp only [Bool.and_eq_true, Bool.not_eq_true', beq_eq_false_iff_ne, beq_iff_eq] at hside
      exact ⟨v, hv, hside.1, hside.2, hh.2⟩
    · exfalso
      have e : cntV (fun y => sideV (decide (x < 0)) y && (P.idx (mag y) == j)) A = 0 := by
        unfold cntV
        rw [List.filter_eq_nil_iff.2 (fun v hv hh => hc ⟨v, hv, hh⟩)]; rfl
      omega
  have hne : rowV P (decide (x < 0)) A ≠ [] := ne_of_count hcx
  unfold keepS at hlost
  cases s with
  | false =>
    rw [if_neg (by decide), keep_count] at hlost
    have hend : P.idx (mag x) ≤ endP (rowV P (decide (x < 0)) A) - m := by
      by_cases hc : endP (rowV P (decide (x < 0)) A) - m < P.idx (mag x)
      · rw [if_pos hc] at hlost; omega
      · omega
    obtain ⟨v, hv, v0, vs, vi⟩ := key _ (count_end hg hne)
    refine ⟨v, hv, v0, vs, ?_⟩
    rw [if_neg (by decide)]
    by_cases hc : mag x < mag v.1
    · exact hc
    · have := pt_mono hP (mag_in (h v hv).1 v0).1 (show mag v.1 ≤ mag x by omega) m2
      omega
  | true =>
    rw [if_pos rfl, keeph_count] at hlost
    have hbeg : begP (rowV P (decide (x < 0)) A) + m ≤ P.idx (mag x) := by
      by_cases hc : P.idx (mag x) < begP (rowV P (decide (x < 0)) A) + m
      · rw [if_pos hc] at hlost; omega
      · omega
    obtain ⟨q, hq, eq⟩ := beg_mem hne
    have hcb : 1 ≤ countP (rowV P (decide (x < 0)) A) (begP (rowV P (decide (x < 0)) A)) := by rw [← eq]; exact mem_count hg hq
    obtain ⟨v, hv, v0, vs, vi⟩ := key _ hcb
    refine ⟨v, hv, v0, vs, ?_⟩
    rw [if_pos rfl]
    by_cases hc : mag v.1 < mag x
    · exact hc
    · have := pt_mono hP m1 (show mag x ≤ mag v.1 by omega) (mag_in (h v hv).1 v0).2
      omega

/-- What a sketch answers, of the t-th value; what is asked for rises with t. -/
def quanV (P : Pt) (s : Bool) (m : Int) (A : List PairV) (t : Int) : Option Int := (findSt P s (stV P s m A) t).map fun x => clampV (loV A) (hiV A) x
theorem exact_rise {A : List PairV} (h : FineV A) {t u x y : Int} (hx : exactV A t = some x) (hy : exactV A u = some y) (htu : t ≤ u) : x ≤ y := by
  obtain ⟨v, _, _, h1, h2⟩ := exact_of hx
  obtain ⟨w, _, _, h3, h4⟩ := exact_of hy
  by_cases hc : x ≤ y
  · exact hc
  · exfalso
    have : upV A y ≤ ltV A x := cnt_le (fine_pos h) fun q _ hq => by
      have := of_decide_eq_true hq
      exact decide_eq_true (by omega)
    omega
end Go.Proofs.YtcijflakldggaaaGreat

/-
  Plain mathematics of parts: greatest divisors, places, digits, texts: no program in sight.
-/
namespace Go.Proofs.YtcijflakldggaaaGreat
set_option linter.unusedVariables false
set_option linter.unusedSimpArgs false

/-- The greatest common divisor. -/
def gcdI (a b : Int) : Int := (Nat.gcd a.toNat b.toNat : Nat)
theorem gcd_zero {a : Int} (h : 0 ≤ a) : gcdI a 0 = a := by
  unfold gcdI; simp; omega
theorem gcd_step {a b : Int} (ha : 0 ≤ a) (hb : 0 ≤ b) (h : ¬ b = 0) : gcdI b (a % b) = gcdI a b := by
  obtain ⟨m, rfl⟩ := Int.eq_ofNat_of_zero_le ha
  obtain ⟨n, rfl⟩ := Int.eq_ofNat_of_zero_le hb
  unfold gcdI
  rw [← Int.natCast_emod]
  simp only [Int.toNat_natCast]
  rw [Nat.gcd_comm n, ← Nat.gcd_rec, Nat.gcd_comm]
theorem gcd_word {a b : Int} (wa : Word a) (wb : Word b) : Word (gcdI a b) := by
  obtain ⟨a0, a1⟩ := wa; obtain ⟨b0, b1⟩ := wb
  obtain ⟨m, rfl⟩ := Int.eq_ofNat_of_zero_le a0
  obtain ⟨n, rfl⟩ := Int.eq_ofNat_of_zero_le b0
  unfold gcdI Word
  simp only [Int.toNat_natCast]
  refine ⟨by omega, ?_⟩
  rcases Nat.eq_zero_or_pos n with h | h
  · subst h; simp; omega
  · have := Nat.gcd_le_right m h; omega
theorem gcd_none {a b : Int} (ha : 0 ≤ a) (hb : 0 ≤ b) : gcdI a b = 0 ↔ a = 0 ∧ b = 0 := by
  unfold gcdI
  rw [Int.natCast_eq_zero, Nat.gcd_eq_zero_iff]; omega
theorem gcd_fst {a b : Int} (ha : 0 ≤ a) : ∃ q, 0 ≤ q ∧ a = q * gcdI a b := by
  obtain ⟨m, rfl⟩ := Int.eq_ofNat_of_zero_le ha
  obtain ⟨q, h⟩ := Nat.gcd_dvd_left m b.toNat
  refine ⟨q, by omega, ?_⟩
  unfold gcdI
  simp only [Int.toNat_natCast]
  rw [Int.mul_comm, ← Int.natCast_mul, ← h]
theorem gcd_snd {a b : Int} (hb : 0 ≤ b) : ∃ q, 0 ≤ q ∧ b = q * gcdI a b := by
  obtain ⟨m, rfl⟩ := Int.eq_ofNat_of_zero_le hb
  obtain ⟨q, h⟩ := Nat.gcd_dvd_right a.toNat m
  refine ⟨q, by omega, ?_⟩
  unfold gcdI
  simp only [Int.toNat_natCast]
  rw [Int.mul_comm, ← Int.natCast_mul, ← h]
/-- Whatever divides both divides it. -/
theorem gcd_all {a b k : Int} (ha : 0 ≤ a) (hb : 0 ≤ b) (hk : 0 ≤ k) (h1 : a % k = 0) (h2 : b % k = 0) : gcdI a b % k = 0 := by
  obtain ⟨m, rfl⟩ := Int.eq_ofNat_of_zero_le ha
  obtain ⟨n, rfl⟩ := Int.eq_ofNat_of_zero_le hb
  obtain ⟨j, rfl⟩ := Int.eq_ofNat_of_zero_le hk
  unfold gcdI
  simp only [Int.toNat_natCast]
  rw [← Int.natCast_emod, Int.natCast_eq_zero] at h1 h2 ⊢
  exact Nat.mod_eq_zero_of_dvd (Nat.dvd_gcd (Nat.dvd_of_mod_eq_zero h1) (Nat.dvd_of_mod_eq_zero h2))
/-- The numbers that are left have no divisor in common. -/
theorem gcd_left {a b : Int} (ha : 0 ≤ a) (hb : 0 ≤ b) (h : ¬ gcdI a b = 0) : gcdI (a / gcdI a b) (b / gcdI a b) = 1 := by
  obtain ⟨m, rfl⟩ := Int.eq_ofNat_of_zero_le ha
  obtain ⟨n, rfl⟩ := Int.eq_ofNat_of_zero_le hb
  unfold gcdI at *
  simp only [Int.toNat_natCast] at *
  rw [← Int.natCast_ediv, ← Int.natCast_ediv]
  simp only [Int.toNat_natCast]
  have hp : 0 < Nat.gcd m n := by omega
  rw [Nat.gcd_div (Nat.gcd_dvd_left m n) (Nat.gcd_dvd_right m n), Nat.div_self hp]
  rfl
theorem div_exact {a b : Int} {g : Int} (hg : g = gcdI a b) (ha : 0 ≤ a) (h : ¬ g = 0) : a / g * g = a ∧ a % g = 0 := by
  subst hg
  obtain ⟨q, q0, e⟩ := gcd_fst (b := b) ha
  generalize gcdI a b = g at *
  subst e
  exact ⟨by rw [Int.mul_ediv_cancel _ h], by simp⟩
theorem div_exact2 {a b : Int} {g : Int} (hg : g = gcdI a b) (hb : 0 ≤ b) (h : ¬ g = 0) : b / g * g = b ∧ b % g = 0 := by
  subst hg
  obtain ⟨q, q0, e⟩ := gcd_snd (a := a) hb
  generalize gcdI a b = g at *
  subst e
  exact ⟨by rw [Int.mul_ediv_cancel _ h], by simp⟩

/-- Whether a part can be. -/
def gdB (a b : Int) : Bool := (b != 0) && decide (a ≤ b)
theorem gd_iff {a b : Int} : gdB a b = true ↔ ¬ b = 0 ∧ a ≤ b := by
  unfold gdB; simp

/-- A digit. -/
def digB (b : UInt8) : Bool := decide (48 ≤ b.toNat) && decide (b.toNat ≤ 57)
/-- The number that digits tell. -/
def valN : List UInt8 → Int → Int
  | [], n => n
  | b :: l, n => valN l (10 * n + ((b.toNat : Int) - 48))
theorem valN_app (l m : List UInt8) (n : Int) : valN (l ++ m) n = valN m (valN l n) := by
  induction l generalizing n with
  | nil => rfl
  | cons b l ih => simp only [List.cons_append, valN, ih]
theorem valN_take {l : List UInt8} {k : Nat} {x : UInt8} (h : l[k]? = some x) : valN (l.take (k + 1)) 0 = 10 * valN (l.take k) 0 + ((x.toNat : Int) - 48) := by
  have hk : k < l.length := by
    rcases Nat.lt_or_ge k l.length with h' | h'
    · exact h'
    · rw [List.getElem?_eq_none h'] at h; cases h
  rw [List.take_succ_eq_append_getElem hk, valN_app]
  have : l[k] = x := by rw [List.getElem?_eq_getElem hk] at h; exact Option.some.inj h
  rw [this]; simp [valN]
theorem all_take {l : List UInt8} {k : Nat} {x : UInt8} (h : l[k]? = some x) : (l.take (k + 1)).all digB = ((l.take k).all digB && digB x) := by
  have hk : k < l.length := by
    rcases Nat.lt_or_ge k l.length with h' | h'
    · exact h'
    · rw [List.getElem?_eq_none h'] at h; cases h
  rw [List.take_succ_eq_append_getElem hk, List.all_append]
  have : l[k] = x := by rw [List.getElem?_eq_getElem hk] at h; exact Option.some.inj h
  rw [this]; simp
theorem all_not {l : List UInt8} {k : Nat} {x : UInt8} (h : l[k]? = some x) (hx : digB x = false) : l.all digB = false := by
  rw [List.all_eq_false]
  exact ⟨x, List.mem_of_getElem? h, by simp [hx]⟩
/-- So many digits tell no more than so much. -/
theorem valN_bd {l : List UInt8} (h : l.all digB = true) : 0 ≤ valN l 0 ∧ valN l 0 < (10 : Int) ^ l.length := by
  have key : ∀ (l : List UInt8) (n : Int), l.all digB = true → 0 ≤ n → n * 10 ^ l.length ≤ valN l n ∧ valN l n < (n + 1) * (10 : Int) ^ l.length := by
    intro l
    induction l with
    | nil => intro n _ h0; simp [valN]; omega
    | cons b l ih =>
      intro n h h0
      simp only [List.all_cons, Bool.and_eq_true] at h
      obtain ⟨hb, hl⟩ := h
      unfold digB at hb
      simp only [Bool.and_eq_true, decide_eq_true_eq] at hb
      have h1 := ih (10 * n + ((b.toNat : Int) - 48)) hl (by omega)
      simp only [valN, List.length_cons]
      have p : (0 : Int) < 10 ^ l.length := Int.pow_pos (by omega)
      have e : (10 : Int) ^ (l.length + 1) = 10 * 10 ^ l.length := by rw [Int.pow_succ, Int.mul_comm]
      rw [e]
      generalize (10 : Int) ^ l.length = P at *
      have e1 : n * (10 * P) ≤ (10 * n + ((b.toNat : Int) - 48)) * P := by
        have : n * (10 * P) = (10 * n) * P := by rw [← Int.mul_assoc, Int.mul_comm n 10]
        rw [this]
        exact Int.mul_le_mul_of_nonneg_right (by omega) (by omega)
      have e2 : (10 * n + ((b.toNat : Int) - 48) + 1) * P ≤ (n + 1) * (10 * P) := by
        have : (n + 1) * (10 * P) = (10 * n + 10) * P := by
          rw [← Int.mul_assoc]; congr 1; omega
        rw [this]
        exact Int.mul_le_mul_of_nonneg_right (by omega) (by omega)
      omega
  have h2 := key l 0 h (by omega)
  simp at h2
  omega
theorem valN_small {l : List UInt8} {k : Nat} (h : (l.take k).all digB = true) (hk : k ≤ 18) : 0 ≤ valN (l.take k) 0 ∧ valN (l.take k) 0 < 1000000000000000000 := by
  have h1 := valN_bd h
  refine ⟨h1.1, Int.lt_of_lt_of_le h1.2 ?_⟩
  have h2 : (l.take k).length ≤ 18 := by rw [List.length_take]; omega
  have h3 : (10 : Int) ^ (l.take k).length ≤ 10 ^ 18 := by
    have := Nat.pow_le_pow_right (show 0 < 10 by omega) h2
    exact_mod_cast this
  simpa using h3

/-- Whether a text is a number's; the number. -/
def numH (l : List UInt8) : Bool := (l.length == 0) || decide (18 < l.length) || (decide (1 < l.length) && (l.getD 0 0 == 48))
def numO (l : List UInt8) : Bool := !numH l && l.all digB
def numV (l : List UInt8) : Int := if numO l = true then valN l 0 else 0
theorem num_head {l : List UInt8} (h : numH l = true) : numO l = false ∧ numV l = 0 := by
  have e : numO l = false := by unfold numO; rw [h]; rfl
  exact ⟨e, by unfold numV; rw [e]; rfl⟩
theorem num_not {l : List UInt8} (h : l.all digB = false) : numO l = false ∧ numV l = 0 := by
  have e : numO l = false := by unfold numO; rw [h]; simp
  exact ⟨e, by unfold numV; rw [e]; rfl⟩
theorem num_all {l : List UInt8} (h : numH l = false) (h' : l.all digB = true) : numO l = true ∧ numV l = valN l 0 := by
  have e : numO l = true := by unfold numO; rw [h, h']; rfl
  exact ⟨e, by unfold numV; rw [if_pos e]⟩
theorem num_len {l : List UInt8} (h : numH l = false) : 1 ≤ l.length ∧ l.length ≤ 18 := by
  unfold numH at h
  simp only [Bool.or_eq_false_iff, beq_eq_false_iff_ne, decide_eq_false_iff_not] at h
  omega
theorem num_word (l : List UInt8) : Word (numV l) := by
  unfold numV
  split
  · rename_i h
    unfold numO at h
    simp only [Bool.and_eq_true, Bool.not_eq_true'] at h
    have h1 := valN_small (l := l) (k := l.length) (by rw [List.take_length]; exact h.2) (num_len h.1).2
    rw [List.take_length] at h1
    exact ⟨h1.1, by omega⟩
  · exact ⟨by omega, by omega⟩
end Go.Proofs.YtcijflakldggaaaGreat

/-
  Walks: share.Good and its reference, share.Divisor, share.Least.
-/
namespace Go.Proofs.YtcijflakldggaaaGreat
set_option linter.unusedVariables false
set_option linter.unusedSimpArgs false
open Go.RowKit

theorem ret_pair3 {k : IntKind} {a b : Int} {c d : Bool} (h : a = b) (h' : c = d) : Ending.returned (.tuple #[.int k a, .bool c]) = .returned (.tuple #[.int k b, .bool d]) := by rw [h, h']

set_option maxHeartbeats 400000 in
theorem good_any (a b : Int) (wa : Word a) (wb : Word b) (w : World) :
    Calls Tryz.prog 56 #[.agg #[.int .u64 a, .int .u64 b]] w fun e w' =>
      e = .returned (.bool (gdB a b)) ∧ Below w.heap.size w w' := by
  by_cases h : b = 0
  · subst h
    have E : Hid (false = gdB a 0) := Lib.hid rfl
    go_enter Tryz.func56, Tryz.ntmps56
    go_wp2_with fail
    go_ret
    exact ⟨ret_bool E.out, (Below.refl _ _).alloc (Nat.le_refl _) _⟩
  · have hb0 : (b != 0) = true := by simp [h]
    have hb1 : (!b == 0) = true := by simp [h]
    have E : Hid (decide (a ≤ b) = gdB a b) := Lib.hid (by unfold gdB; simp [h])
    go_enter Tryz.func56, Tryz.ntmps56
    go_wp2_with fail
    go_ret
    exact ⟨ret_bool E.out, (Below.refl _ _).alloc (Nat.le_refl _) _⟩

set_option maxHeartbeats 400000 in
theorem rgood_any (a b : Int) (wa : Word a) (wb : Word b) (w : World) :
    Calls Tryz.prog 15 #[.agg #[.int .u64 a, .int .u64 b]] w fun e w' =>
      e = .returned (.bool (gdB a b)) ∧ Below w.heap.size w w' := by
  by_cases h : b = 0
  · subst h
    have E : Hid (false = gdB a 0) := Lib.hid rfl
    go_enter Tryz.func15, Tryz.ntmps15
    go_wp2_with fail
    go_ret
    exact ⟨ret_bool E.out, (Below.refl _ _).alloc (Nat.le_refl _) _⟩
  · have hb0 : (b != 0) = true := by simp [h]
    have hb1 : (!b == 0) = true := by simp [h]
    have E : Hid ((!decide (b < a)) = gdB a b) := Lib.hid (by unfold gdB; rw [hb0, Bool.true_and, Bool.eq_iff_iff]; simp)
    go_enter Tryz.func15, Tryz.ntmps15
    go_wp2_with fail
    go_ret
    exact ⟨ret_bool E.out, (Below.refl _ _).alloc (Nat.le_refl _) _⟩

theorem mod_word {a b : Int} (wa : Word a) (wb : Word b) (h : ¬ b = 0) : Word (a % b) ∧ a % b < b := by
  obtain ⟨a0, a1⟩ := wa; obtain ⟨b0, b1⟩ := wb
  have h1 := Int.emod_nonneg a h
  have h2 := Int.emod_lt_of_pos a (show 0 < b by omega)
  exact ⟨⟨h1, by omega⟩, h2⟩
theorem div_u64 {a g : Int} (wa : Word a) (wg : Word g) : IntKind.u64.wrap (a.tdiv g) = a / g := by
  rw [Int.tdiv_eq_ediv_of_nonneg wa.1, IntKind.wrap_u64]
  have h1 := Int.ediv_nonneg wa.1 wg.1
  have h2 := Int.ediv_le_self g wa.1
  have := wa.2
  exact Int.emod_eq_of_lt h1 (by omega)
def intU : Value → Nat | .int _ q => q.toNat | _ => 0

end Go.Proofs.YtcijflakldggaaaGreat
/-
  Walks: share.Place and the reference's; what places are.
-/
namespace Go.Proofs.YtcijflakldggaaaGreat
set_option linter.unusedVariables false
set_option linter.unusedSimpArgs false
open Go.RowKit

/-- The place that a part asks for, of so many; the error's number. -/
def plV (a b n : Int) : Int := if gdB a b = true ∧ ¬ n = 0 then (if clQ (a * n) b < 1 then 1 else clQ (a * n) b) else 0
def plE (a b n : Int) : Int := if gdB a b = true then (if n = 0 then 5 else 0) else 1
theorem pl_bad {a b n : Int} (h : gdB a b = false) : plV a b n = 0 ∧ plE a b n = 1 := by
  unfold plV plE; rw [h]; simp
theorem pl_none {a b : Int} (h : gdB a b = true) : plV a b 0 = 0 ∧ plE a b 0 = 5 := by
  unfold plV plE; rw [h]; simp
theorem pl_good {a b n : Int} (h : gdB a b = true) (hn : ¬ n = 0) : plV a b n = (if clQ (a * n) b < 1 then 1 else clQ (a * n) b) ∧ plE a b n = 0 := by
  unfold plV plE; rw [h]; simp [hn]

/-- Rounded up, of a part that can be. -/
theorem cl_spec {a b n : Int} (wa : Word a) (wb : Word b) (wn : Word n) (h : gdB a b = true) :
    a * n ≤ clQ (a * n) b * b ∧ (clQ (a * n) b - 1) * b < a * n ∧ 0 ≤ clQ (a * n) b ∧ clQ (a * n) b ≤ n := by
  obtain ⟨hb, hab⟩ := gd_iff.1 h
  obtain ⟨a0, a1⟩ := wa; obtain ⟨b0, b1⟩ := wb; obtain ⟨n0, n1⟩ := wn
  have bp : 0 < b := by omega
  have N0 : 0 ≤ a * n := Int.mul_nonneg a0 n0
  have hle : a * n ≤ n * b := by rw [Int.mul_comm n b]; exact Int.mul_le_mul_of_nonneg_right hab n0
  have hd := Int.ediv_mul_add_emod (a * n) b
  have hr0 := Int.emod_nonneg (a * n) hb
  have hr1 := Int.emod_lt_of_pos (a * n) bp
  have hq0 := Int.ediv_nonneg N0 (show 0 ≤ b by omega)
  have hqn : a * n / b ≤ n := Int.ediv_le_of_le_mul bp hle
  have hov : ovB (a * n) b = true := by unfold ovB; apply decide_eq_true; exact ⟨bp, by omega⟩
  have eQ : ovQ (a * n) b = a * n / b := by unfold ovQ; rw [if_pos hov]
  have eR : ovR (a * n) b = a * n % b := by unfold ovR; rw [if_pos hov]
  by_cases hz : a * n % b = 0
  · have e : clQ (a * n) b = a * n / b := by rw [(cl_zero (by rw [eR]; exact hz)).2, eQ]
    rw [e]
    generalize a * n / b = q at *
    generalize a * n % b = r at *
    rw [Int.sub_mul]
    omega
  · have hlt : a * n / b < n := by
      rcases Int.lt_or_eq_of_le hqn with h1 | h1
      · exact h1
      · rw [h1] at hd; omega
    have e : clQ (a * n) b = a * n / b + 1 := by
      rw [(cl_up hov (by rw [eR]; omega) (by rw [eQ]; omega)).2, eQ]
    rw [e]
    generalize a * n / b = q at *
    generalize a * n % b = r at *
    rw [Int.sub_mul, Int.add_mul]
    omega

/-- Places are from 1 to n. -/
theorem pl_spec {a b n : Int} (wa : Word a) (wb : Word b) (wn : Word n) (h : gdB a b = true) (hn : ¬ n = 0) :
    1 ≤ plV a b n ∧ plV a b n ≤ n ∧ a * n ≤ plV a b n * b ∧ (plV a b n = 1 ∨ (plV a b n - 1) * b < a * n) := by
  obtain ⟨h1, h2, h3, h4⟩ := cl_spec wa wb wn h
  obtain ⟨hb, hab⟩ := gd_iff.1 h
  rw [(pl_good h hn).1]
  have n0 := wn.1
  have bp : 0 < b := by have := wb.1; omega
  generalize clQ (a * n) b = c at *
  split
  · rename_i hc
    have : c = 0 := by omega
    subst this
    refine ⟨by omega, by omega, by omega, Or.inl rfl⟩
  · exact ⟨by omega, h4, h1, Or.inr h2⟩
theorem pl_word {a b n : Int} (wa : Word a) (wb : Word b) (wn : Word n) : Word (plV a b n) := by
  by_cases h : gdB a b = true ∧ ¬ n = 0
  · have := pl_spec wa wb wn h.1 h.2
    exact ⟨by omega, by have := wn.2; omega⟩
  · unfold plV; rw [if_neg h]; exact ⟨by omega, by omega⟩
/-- The whole asks for the last one. -/
theorem pl_whole {a b n : Int} (wb : Word b) (wn : Word n) (h : gdB a b = true) (hn : ¬ n = 0) : plV b b n = n := by
  obtain ⟨hb, hab⟩ := gd_iff.1 h
  have hg : gdB b b = true := gd_iff.2 ⟨hb, Int.le_refl _⟩
  obtain ⟨h1, h2, h3, h4⟩ := pl_spec wb wb wn hg hn
  have bp : 0 < b := by have := wb.1; omega
  rw [Int.mul_comm b n] at h3
  have := Int.le_of_mul_le_mul_right h3 bp
  omega
/-- They rise with the part. -/
theorem pl_rise {a b c d n : Int} (wa : Word a) (wb : Word b) (wc : Word c) (wd : Word d) (wn : Word n) (h : gdB a b = true) (h' : gdB c d = true) (hn : ¬ n = 0) (hlt : plV a b n < plV c d n) : fewB a b c d = true := by
  obtain ⟨hb, hab⟩ := gd_iff.1 h
  obtain ⟨hd, hcd⟩ := gd_iff.1 h'
  obtain ⟨p1, p2, p3, p4⟩ := pl_spec wa wb wn h hn
  obtain ⟨q1, q2, q3, q4⟩ := pl_spec wc wd wn h' hn
  have bp : 0 < b := by have := wb.1; omega
  have dp : 0 < d := by have := wd.1; omega
  have np : 0 < n := by have := wn.1; omega
  have q5 : (plV c d n - 1) * d < c * n := by
    rcases q4 with q4 | q4
    · omega
    · exact q4
  rw [few_c hb hd]
  apply decide_eq_true
  generalize plV a b n = t at *
  generalize plV c d n = u at *
  have e1 : a * n * d ≤ t * b * d := Int.mul_le_mul_of_nonneg_right p3 (by omega)
  have e2 : t * (b * d) ≤ (u - 1) * (b * d) := Int.mul_le_mul_of_nonneg_right (by omega) (Int.mul_nonneg (by omega) (by omega))
  have e3 : (u - 1) * d * b < c * n * b := Int.mul_lt_mul_of_pos_right q5 bp
  have e4 : a * d * n < c * b * n := by
    have x1 : a * n * d = a * d * n := by rw [Int.mul_assoc, Int.mul_comm n, ← Int.mul_assoc]
    have x2 : t * b * d = t * (b * d) := Int.mul_assoc ..
    have x3 : (u - 1) * d * b = (u - 1) * (b * d) := by rw [Int.mul_assoc, Int.mul_comm d]
    have x4 : c * n * b = c * b * n := by rw [Int.mul_assoc, Int.mul_comm n, ← Int.mul_assoc]
    omega
  exact Int.lt_of_mul_lt_mul_right e4 (by omega)
/-- Fewer than the part of all lie ahead of the place. -/
theorem pl_ahead {a b n : Int} (wa : Word a) (wb : Word b) (wn : Word n) (h : gdB a b = true) (hn : ¬ n = 0) (ht : ¬ plV a b n = 1) : fewB (plV a b n - 1) n a b = true := by
  obtain ⟨hb, hab⟩ := gd_iff.1 h
  obtain ⟨p1, p2, p3, p4⟩ := pl_spec wa wb wn h hn
  rw [few_c hn hb]
  apply decide_eq_true
  rcases p4 with p4 | p4
  · omega
  · exact p4
theorem pl_upto {a b n : Int} (wa : Word a) (wb : Word b) (wn : Word n) (h : gdB a b = true) (hn : ¬ n = 0) : fewB (plV a b n) n a b = false := by
  obtain ⟨hb, hab⟩ := gd_iff.1 h
  obtain ⟨p1, p2, p3, p4⟩ := pl_spec wa wb wn h hn
  rw [few_c hn hb]
  apply decide_eq_false
  omega
/-- The same part in its least numbers asks for the same place. -/
theorem cl_least {a b n g : Int} (wa : Word a) (wb : Word b) (wn : Word n) (hg : g = gcdI a b) (h : gdB a b = true) : gdB (a / g) (b / g) = true ∧ plV (a / g) (b / g) n = plV a b n ∧ plE (a / g) (b / g) n = plE a b n := by
  obtain ⟨hb, hab⟩ := gd_iff.1 h
  have hg0 : ¬ g = 0 := by
    intro e; rw [hg] at e
    exact hb ((gcd_none wa.1 wb.1).1 e).2
  have gw := gcd_word wa wb
  rw [← hg] at gw
  have gp : 0 < g := by have := gw.1; omega
  have e1 := (div_exact hg wa.1 hg0).1
  have e2 := (div_exact2 hg wb.1 hg0).1
  have w1 : Word (a / g) := ⟨Int.ediv_nonneg wa.1 gw.1, by have := Int.ediv_le_self g wa.1; have := wa.2; omega⟩
  have w2 : Word (b / g) := ⟨Int.ediv_nonneg wb.1 gw.1, by have := Int.ediv_le_self g wb.1; have := wb.2; omega⟩
  have hG : gdB (a / g) (b / g) = true := by
    refine gd_iff.2 ⟨?_, Int.ediv_le_ediv gp hab⟩
    intro e; rw [e] at e2; omega
  refine ⟨hG, ?_, ?_⟩
  · by_cases hn : n = 0
    · subst hn; rw [(pl_none hG).1, (pl_none h).1]
    · have c1 := cl_spec wa wb wn h
      have c2 := cl_spec w1 w2 wn hG
      have E : clQ (a / g * n) (b / g) = clQ (a * n) b := by
        obtain ⟨x1, x2, x3, x4⟩ := c1
        obtain ⟨y1, y2, y3, y4⟩ := c2
        generalize clQ (a / g * n) (b / g) = u at *
        generalize clQ (a * n) b = t at *
        have f1 : a / g * n * g = a * n := by rw [Int.mul_assoc, Int.mul_comm n, ← Int.mul_assoc, e1]
        have f2 : u * (b / g) * g = u * b := by rw [Int.mul_assoc, e2]
        have f3 : (u - 1) * (b / g) * g = (u - 1) * b := by rw [Int.mul_assoc, e2]
        have z1 := Int.mul_le_mul_of_nonneg_right y1 (show 0 ≤ g by omega)
        have z2 := Int.mul_lt_mul_of_pos_right y2 gp
        rw [f1, f2] at z1
        rw [f1, f3] at z2
        have bp : 0 < b := by have := wb.1; omega
        have k1 : u - 1 < t := Int.lt_of_mul_lt_mul_right (show (u - 1) * b < t * b by omega) (by omega)
        have k2 : t - 1 < u := Int.lt_of_mul_lt_mul_right (show (t - 1) * b < u * b by omega) (by omega)
        omega
      rw [(pl_good hG hn).1, (pl_good h hn).1, E]
  · unfold plE; rw [hG, h]

theorem ret_place {x y a b : Int} (h : a = x) (h' : b = y) : Ending.returned (.tuple #[.int .u64 a, .int .i64 b]) = .returned (.tuple #[.int .u64 x, .int .i64 y]) := by rw [h, h']

set_option maxHeartbeats 1000000 in
theorem place_any (a b n : Int) (wa : Word a) (wb : Word b) (wn : Word n) (w : World) :
    Calls Tryz.prog 36 #[.agg #[.int .u64 a, .int .u64 b], .int .u64 n] w fun e w' =>
      e = .returned (.tuple #[.int .u64 (plV a b n), .int .i64 (plE a b n)]) ∧ Below w.heap.size w w' := by
  cases hg : gdB a b with
  | false =>
    have E := Lib.hid (pl_bad (n := n) hg)
    have G := Lib.hid hg
    clear hg
    go_enter Tryz.func36, Tryz.ntmps36
    go_wp2_with fail
    refine (good_any a b wa wb _).mono ?_
    rw [G.out]
    rintro e wA ⟨rfl, hbA⟩
    go_wp2_with fail
    go_ret2
    exact ⟨ret_place E.out.1.symm E.out.2.symm, ((Below.refl _ _).alloc (Nat.le_refl _) _).trans (hbA.mono (by simp))⟩
  | true =>
    by_cases hn : n = 0
    · subst hn
      have E := Lib.hid (pl_none hg)
      have G := Lib.hid hg
      clear hg
      go_enter Tryz.func36, Tryz.ntmps36
      go_wp2_with fail
      refine (good_any a b wa wb _).mono ?_
      rw [G.out]
      rintro e wA ⟨rfl, hbA⟩
      go_wp2_with fail
      go_ret2
      exact ⟨ret_place E.out.1.symm E.out.2.symm, ((Below.refl _ _).alloc (Nat.le_refl _) _).trans (hbA.mono (by simp))⟩
    · have E := Lib.hid (pl_good hg hn)
      have hn0 : (n == 0) = false := by simp [hn]
      have G := Lib.hid hg
      have c0 := (cl_spec wa wb wn hg).2.2.1
      clear hg hn
      go_enter Tryz.func36, Tryz.ntmps36
      go_wp2_with fail
      have c1 : (w.alloc (.cells #[.int .u64 a, .int .u64 b] 24)).cell? ⟨w.heap.size, 0, none⟩ = some (.int .u64 a) := by go_simp
      have c2 : (w.alloc (.cells #[.int .u64 a, .int .u64 b] 24)).cell? ⟨w.heap.size, 1, none⟩ = some (.int .u64 b) := by go_simp
      refine (good_any a b wa wb _).mono ?_
      rw [G.out]
      rintro e wA ⟨rfl, hbA⟩
      have d1 := cell_later hbA c1
      have d2 := cell_later hbA c2
      have hBA := ((Below.refl _ _).alloc (Nat.le_refl _) _).trans (hbA.mono (by simp))
      clear c1 c2 hbA
      go_wp2_with fail
      refine (ceil_any a n b wa wn wb _).mono ?_
      rintro e wB ⟨rfl, hbB⟩
      generalize clQ (a * n) b = c at *
      go_wp2_with fail
      go_ret2
      refine ⟨ret_place ?_ E.out.2.symm, hBA.trans (hbB.mono hBA.size)⟩
      rw [E.out.1]
      split <;> omega

set_option maxHeartbeats 1000000 in
theorem rplace_any (a b n : Int) (wa : Word a) (wb : Word b) (wn : Word n) (w : World) :
    Calls Tryz.prog 16 #[.agg #[.int .u64 a, .int .u64 b], .int .u64 n] w fun e w' =>
      e = .returned (.tuple #[.int .u64 (plV a b n), .int .i64 (plE a b n)]) ∧ Below w.heap.size w w' := by
  cases hg : gdB a b with
  | false =>
    have E := Lib.hid (pl_bad (n := n) hg)
    have G := Lib.hid hg
    clear hg
    go_enter Tryz.func16, Tryz.ntmps16
    go_wp2_with fail
    refine (rgood_any a b wa wb _).mono ?_
    rw [G.out]
    rintro e wA ⟨rfl, hbA⟩
    go_wp2_with fail
    go_ret2
    exact ⟨ret_place E.out.1.symm E.out.2.symm, ((Below.refl _ _).alloc (Nat.le_refl _) _).trans (hbA.mono (by simp))⟩
  | true =>
    by_cases hn : n = 0
    · subst hn
      have E := Lib.hid (pl_none hg)
      have G := Lib.hid hg
      clear hg
      go_enter Tryz.func16, Tryz.ntmps16
      go_wp2_with fail
      refine (rgood_any a b wa wb _).mono ?_
      rw [G.out]
      rintro e wA ⟨rfl, hbA⟩
      go_wp2_with fail
      go_ret2
      exact ⟨ret_place E.out.1.symm E.out.2.symm, ((Below.refl _ _).alloc (Nat.le_refl _) _).trans (hbA.mono (by simp))⟩
    · have E := Lib.hid (pl_good hg hn)
      have hn0 : (n == 0) = false := by simp [hn]
      have G := Lib.hid hg
      have c0 := (cl_spec wa wb wn hg).2.2.1
      clear hg hn
      go_enter Tryz.func16, Tryz.ntmps16
      go_wp2_with fail
      have c1 : (w.alloc (.cells #[.int .u64 a, .int .u64 b] 24)).cell? ⟨w.heap.size, 0, none⟩ = some (.int .u64 a) := by go_simp
      have c2 : (w.alloc (.cells #[.int .u64 a, .int .u64 b] 24)).cell? ⟨w.heap.size, 1, none⟩ = some (.int .u64 b) := by go_simp
      refine (rgood_any a b wa wb _).mono ?_
      rw [G.out]
      rintro e wA ⟨rfl, hbA⟩
      have d1 := cell_later hbA c1
      have d2 := cell_later hbA c2
      have hBA := ((Below.refl _ _).alloc (Nat.le_refl _) _).trans (hbA.mono (by simp))
      clear c1 c2 hbA
      go_wp2_with fail
      refine (rceil_any a n b wa wn wb _).mono ?_
      rintro e wB ⟨rfl, hbB⟩
      generalize clQ (a * n) b = c at *
      by_cases hc : c = 0
      · subst hc
        go_wp2_with fail
        go_ret2
        exact ⟨ret_place (by rw [E.out.1]; rfl) E.out.2.symm, hBA.trans (hbB.mono hBA.size)⟩
      · have hc0 : (c == 0) = false := by simp [hc]
        go_wp2_with fail
        go_ret2
        exact ⟨ret_place (by rw [E.out.1, if_neg (by omega)]) E.out.2.symm, hBA.trans (hbB.mono hBA.size)⟩
end Go.Proofs.YtcijflakldggaaaGreat

/-
  Walks: package logsk, over bins that do what they are to do: a sketch in memory; Bins, Ends, Config, reach, Put, Set, Reset, Quantile.
-/
namespace Go.Proofs.YtcijflakldggaaaGreat
set_option linter.unusedVariables false
set_option linter.unusedSimpArgs false
open Go.RowKit

/-- A sketch in memory: at block B its seven cells, at block C its bins. -/
structure SkX (Bn : BnT) (w : World) (B C : Nat) (S R : Nat → Prop) (P : Pt) (u v : Int) (s : Bool) (m : Int) (st : St) (lo hi : Int) : Prop where
  blk : w.heap[B]? = some (.cells #[.int .u64 u, .int .u64 v, .int .i64 (sideI s), .int .i64 m, .pointer (some ⟨C, 0, none⟩), .int .i64 lo, .int .i64 hi] 84 (0, 0))
  bins : Bn w C S R P s m st
  sep : ¬ S B ∧ ¬ R B
  ends : I64 lo ∧ I64 hi
/-- What is read of it. -/
structure SkC (w : World) (B C : Nat) (u v : Int) (s : Bool) (m lo hi : Int) : Prop where
  c0 : w.cell? ⟨B, 0, none⟩ = some (.int .u64 u)
  c1 : w.cell? ⟨B, 1, none⟩ = some (.int .u64 v)
  c2 : w.cell? ⟨B, 2, none⟩ = some (.int .i64 (sideI s))
  c3 : w.cell? ⟨B, 3, none⟩ = some (.int .i64 m)
  c4 : w.cell? ⟨B, 4, none⟩ = some (.pointer (some ⟨C, 0, none⟩))
  c5 : w.cell? ⟨B, 5, none⟩ = some (.int .i64 lo)
  c6 : w.cell? ⟨B, 6, none⟩ = some (.int .i64 hi)
theorem SkX.cells {Bn : BnT} {w : World} {B C : Nat} {S R : Nat → Prop} {P : Pt} {u v : Int} {s : Bool} {m : Int} {st : St} {lo hi : Int} (h : SkX Bn w B C S R P u v s m st lo hi) : SkC w B C u v s m lo hi := by
  have hb := h.blk
  exact ⟨by rw [Joins.cell_of_block hb]; rfl, by rw [Joins.cell_of_block hb]; rfl, by rw [Joins.cell_of_block hb]; rfl, by rw [Joins.cell_of_block hb]; rfl, by rw [Joins.cell_of_block hb]; rfl, by rw [Joins.cell_of_block hb]; rfl, by rw [Joins.cell_of_block hb]; rfl⟩
theorem SkC.call {w w' : World} {B C : Nat} {u v : Int} {s : Bool} {m lo hi : Int} (h : SkC w B C u v s m lo hi) (hb : Below w.heap.size w w') : SkC w' B C u v s m lo hi :=
  ⟨cell_later hb h.c0, cell_later hb h.c1, cell_later hb h.c2, cell_later hb h.c3, cell_later hb h.c4, cell_later hb h.c5, cell_later hb h.c6⟩
/-- The blocks of a sketch: its own one, and those of its bins. -/
def skB (B : Nat) (S : Nat → Prop) : Nat → Prop := fun k => k = B ∨ S k
theorem SkX.lt {Bn : BnT} {w : World} {B C : Nat} {S R : Nat → Prop} {P : Pt} {u v : Int} {s : Bool} {m : Int} {st : St} {lo hi : Int} (h : SkX Bn w B C S R P u v s m st lo hi) : B < w.heap.size := lt_of_block h.blk
theorem SkX.keep {Bn : BnT} (D : BinsDoes Bn) {w w' : World} {B C : Nat} {S R : Nat → Prop} {P : Pt} {u v : Int} {s : Bool} {m : Int} {st : St} {lo hi : Int} (h : SkX Bn w B C S R P u v s m st lo hi) (hk : ∀ k, skB B S k ∨ R k → w'.heap[k]? = w.heap[k]?) : SkX Bn w' B C S R P u v s m st lo hi :=
  ⟨(hk B (Or.inl (Or.inl rfl))).trans h.blk, D.keep _ _ _ _ _ _ _ _ _ h.bins fun k hk' => hk k (by rcases hk' with a | a; exact Or.inl (Or.inr a); exact Or.inr a), h.sep, h.ends⟩
theorem SkX.all_lt {Bn : BnT} (D : BinsDoes Bn) {w : World} {B C : Nat} {S R : Nat → Prop} {P : Pt} {u v : Int} {s : Bool} {m : Int} {st : St} {lo hi : Int} (h : SkX Bn w B C S R P u v s m st lo hi) : ∀ k, skB B S k ∨ R k → k < w.heap.size := by
  intro k hk
  rcases hk with (rfl | hk) | hk
  · exact h.lt
  · exact D.lt _ _ _ _ _ _ _ _ h.bins k (Or.inl hk)
  · exact D.lt _ _ _ _ _ _ _ _ h.bins k (Or.inr hk)
theorem SkX.call {Bn : BnT} (D : BinsDoes Bn) {w w' : World} {B C : Nat} {S R : Nat → Prop} {P : Pt} {u v : Int} {s : Bool} {m : Int} {st : St} {lo hi : Int} (h : SkX Bn w B C S R P u v s m st lo hi) (hb : Below w.heap.size w w') : SkX Bn w' B C S R P u v s m st lo hi :=
  h.keep D fun k hk => hb.block k (h.all_lt D k hk)
/-- .. when its bins have turned. -/
theorem SkX.turn {Bn : BnT} {w w' : World} {B C : Nat} {S S' R : Nat → Prop} {P : Pt} {u v : Int} {s : Bool} {m : Int} {st st' : St} {lo hi : Int} (h : SkX Bn w B C S R P u v s m st lo hi) (hk : Keeps S w w') (hb : Bn w' C S' R P s m st') (hS : ∀ k, S' k → S k ∨ w.heap.size ≤ k) : SkX Bn w' B C S' R P u v s m st' lo hi :=
  ⟨(hk.block B h.lt h.sep.1).trans h.blk, hb, ⟨fun x => by rcases hS B x with a | a; exact h.sep.1 a; have := h.lt; omega, h.sep.2⟩, h.ends⟩
/-- .. when its ends have turned. -/
theorem sk_block {w : World} {B C : Nat} {u v : Int} {s : Bool} {m lo hi lo' hi' : Int} (h : w.heap[B]? = some (.cells #[.int .u64 u, .int .u64 v, .int .i64 (sideI s), .int .i64 m, .pointer (some ⟨C, 0, none⟩), .int .i64 lo, .int .i64 hi] 84 (0, 0))) :
    ((w.setCell ⟨B, 5, none⟩ (.int .i64 lo')).setCell ⟨B, 6, none⟩ (.int .i64 hi')).heap[B]? = some (.cells #[.int .u64 u, .int .u64 v, .int .i64 (sideI s), .int .i64 m, .pointer (some ⟨C, 0, none⟩), .int .i64 lo', .int .i64 hi'] 84 (0, 0)) := by
  rw [Joins.block_setCell (Joins.block_setCell h _)]; rfl
theorem keeps_set {w : World} {B o : Nat} {x : Value} {S : Nat → Prop} (h : S B) : Keeps S w (w.setCell ⟨B, o, none⟩ x) :=
  ⟨rfl, rfl, rfl, by simp [World.setCell], fun k _ hk => Below.heap_setCell w _ _ k (fun e => hk (by show S k; rw [show k = B from e]; exact h))⟩
theorem keeps_trans {S T : Nat → Prop} {w w1 w2 : World} (h : Keeps S w w1) (h' : Keeps T w1 w2) (hS : ∀ k, k < w.heap.size → T k → S k) : Keeps S w w2 :=
  ⟨h'.os.trans h.os, h'.tape.trans h.tape, h'.output.trans h.output, Nat.le_trans h.size h'.size, fun k hk hn => (h'.block k (Nat.lt_of_lt_of_le hk h.size) (fun x => hn (hS k hk x))).trans (h.block k hk hn)⟩
theorem keeps_wide {S T : Nat → Prop} {w w1 : World} (h : Keeps S w w1) (hS : ∀ k, k < w.heap.size → S k → T k) : Keeps T w w1 :=
  ⟨h.os, h.tape, h.output, h.size, fun k hk hn => h.block k hk (fun x => hn (hS k hk x))⟩

set_option maxHeartbeats 400000 in
theorem kbins_at {w : World} {B C : Nat} (h : w.cell? ⟨B, 4, none⟩ = some (.pointer (some ⟨C, 0, none⟩))) :
    Calls Tryz.prog 26 #[.pointer (some ⟨B, 0, none⟩)] w fun e w' => e = .returned (.pointer (some ⟨C, 0, none⟩)) ∧ Below w.heap.size w w' := by
  go_enter Tryz.func26, Tryz.ntmps26
  go_wp2_with fail
  go_ret
  exact ⟨rfl, Below.refl _ _⟩

set_option maxHeartbeats 400000 in
theorem kbins_nil (w : World) : Calls Tryz.prog 26 #[.pointer none] w fun e w' => e = .returned (.pointer none) ∧ Below w.heap.size w w' := by
  go_enter Tryz.func26, Tryz.ntmps26
  go_wp2_with fail
  go_ret
  exact ⟨rfl, Below.refl _ _⟩

/-- What Ends tells. -/
def endE (st : St) (lo hi : Int) : Int × Int × Bool := if st.all = 0 then (0, 0, false) else (lo, hi, true)

set_option maxHeartbeats 1000000 in
theorem kends_any {Bn : BnT} (D : BinsDoes Bn) {w : World} {B C : Nat} {S R : Nat → Prop} {P : Pt} {u v : Int} {s : Bool} {m : Int} {st : St} {lo hi : Int} (h : SkX Bn w B C S R P u v s m st lo hi) (l1 : st.k1.length ≤ 500) (l2 : st.k2.length ≤ 500) (a b : Int) (c : Bool) (he : endE st lo hi = (a, b, c)) :
    Calls Tryz.prog 24 #[.pointer (some ⟨B, 0, none⟩)] w fun e w' => e = .returned (.tuple #[.int .i64 a, .int .i64 b, .bool c]) ∧ Below w.heap.size w w' := by
  have HB := Lib.hid (kbins_at h.cells.c4)
  have HT := Lib.hid (fun W (hb : Below w.heap.size w W) => D.total W C S R P s m st (D.call h.bins hb) l1 l2)
  have HC := Lib.hid h.cells
  obtain ⟨n, hn⟩ : ∃ n, st.all = n := ⟨_, rfl⟩
  have HE := Lib.hid he
  unfold endE at he
  rw [hn] at HT he
  clear h
  by_cases z : n = 0
  · subst z
    rw [if_pos rfl] at he
    obtain ⟨rfl, rfl, rfl⟩ : 0 = a ∧ 0 = b ∧ false = c := by simpa using he
    clear he
    go_enter Tryz.func24, Tryz.ntmps24
    go_wp2_with fail
    refine HB.out.mono ?_
    rintro e w2 ⟨rfl, b2⟩
    go_wp2_with fail
    refine (HT.out _ b2).mono ?_
    rintro e w3 ⟨rfl, b3⟩
    go_wp2_with fail
    go_ret3
    exact ⟨rfl, b2.trans (b3.mono b2.size)⟩
  · have z1 : (n == 0) = false := by simp [z]
    rw [if_neg z] at he
    obtain ⟨rfl, rfl, rfl⟩ : lo = a ∧ hi = b ∧ true = c := by simpa using he
    clear he
    go_enter Tryz.func24, Tryz.ntmps24
    go_wp2_with fail
    refine HB.out.mono ?_
    rintro e w2 ⟨rfl, b2⟩
    go_wp2_with fail
    refine (HT.out _ b2).mono ?_
    rintro e w3 ⟨rfl, b3⟩
    have b3' := b2.trans (b3.mono b2.size)
    have hc5 := (HC.out.call b3').c5
    have hc6 := (HC.out.call b3').c6
    go_wp2_with fail
    go_region
    all_goals go_wp2_with fail
    all_goals go_ret3
    all_goals exact ⟨rfl, b3'.drew⟩

set_option maxHeartbeats 400000 in
theorem kends_nil (NB : BinsNil) (w : World) : Calls Tryz.prog 24 #[.pointer none] w fun e w' => e = .returned (.tuple #[.int .i64 0, .int .i64 0, .bool false]) ∧ Below w.heap.size w w' := by
  have HN := Lib.hid NB
  go_enter Tryz.func24, Tryz.ntmps24
  go_wp2_with fail
  refine (kbins_nil _).mono ?_
  rintro e w2 ⟨rfl, b2⟩
  go_wp2_with fail
  refine (HN.out.total _).mono ?_
  rintro e w3 ⟨rfl, b3⟩
  go_wp2_with fail
  go_ret3
  exact ⟨rfl, b2.trans (b3.mono b2.size)⟩

set_option maxHeartbeats 400000 in
theorem kconfig_any {w : World} {B C : Nat} {u v : Int} {s : Bool} {m lo hi : Int} (h : SkC w B C u v s m lo hi) :
    Calls Tryz.prog 27 #[.pointer (some ⟨B, 0, none⟩)] w fun e w' => e = .returned (.agg #[.int .u64 u, .int .u64 v, .int .i64 (sideI s), .int .i64 m]) ∧ Below w.heap.size w w' := by
  have hb : Below w.heap.size w (w.alloc (.cells #[.int .u64 0, .int .u64 0, .int .i64 0, .int .i64 0] 64)) := (Below.refl _ _).alloc (Nat.le_refl _) _
  obtain ⟨c0, c1, c2, c3, c4, c5, c6⟩ := h.call hb
  go_enter Tryz.func27, Tryz.ntmps27
  go_wp2_with fail
  refine bodyPost_ret (v := .agg #[.int .u64 u, .int .u64 v, .int .i64 (sideI s), .int .i64 m]) (by simp [results, Tryz.results27, go_sem]) rfl ⟨rfl, ?_⟩
  exact (Below.refl _ _).alloc (Nat.le_refl _) _

set_option maxHeartbeats 400000 in
theorem kconfig_nil (w : World) : Calls Tryz.prog 27 #[.pointer none] w fun e w' => e = .returned (.agg #[.int .u64 0, .int .u64 0, .int .i64 0, .int .i64 0]) ∧ Below w.heap.size w w' := by
  go_enter Tryz.func27, Tryz.ntmps27
  go_wp2_with fail
  refine bodyPost_ret (v := .agg #[.int .u64 0, .int .u64 0, .int .i64 0, .int .i64 0]) (by simp [results, Tryz.results27, go_sem]) rfl ⟨rfl, ?_⟩
  exact (Below.refl _ _).alloc (Nat.le_refl _) _

/-- What reach leaves as the ends. -/
def reachL (b : Bool) (x lo : Int) : Int := if b = true then min x lo else x
def reachH (b : Bool) (x hi : Int) : Int := if b = true then max x hi else x

set_option maxHeartbeats 1000000 in
theorem kreach_any {Bn : BnT} (D : BinsDoes Bn) {w : World} {B C : Nat} {S R : Nat → Prop} {P : Pt} {u v : Int} {s : Bool} {m : Int} {st : St} {lo hi : Int} (h : SkX Bn w B C S R P u v s m st lo hi) (x y : Int) (b : Bool) (hx : I64 x) (hy : I64 y) (x' y' : Int) (ex : reachL b x lo = x') (ey : reachH b y hi = y') :
    Calls Tryz.prog 48 #[.pointer (some ⟨B, 0, none⟩), .int .i64 x, .int .i64 y, .bool b] w fun e w' => e = .returned (.tuple #[]) ∧ SkX Bn w' B C S R P u v s m st x' y' ∧ Keeps (skB B S) w w' := by
  have HX := Lib.hid h
  have HD := Lib.hid D
  obtain ⟨c0, c1, c2, c3, c4, c5, c6⟩ := h.cells
  obtain ⟨⟨l0, l1⟩, h0, h1⟩ := id h.ends
  have HIX := Lib.hid hx
  have HIY := Lib.hid hy
  obtain ⟨x0, x1⟩ := hx
  obtain ⟨y0, y1⟩ := hy
  have f5 : w.frozen? ⟨B, 5, none⟩ = false := Joins.unfrozen_of_block h.blk 5
  have f6 : w.frozen? ⟨B, 6, none⟩ = false := Joins.unfrozen_of_block h.blk 6
  have key : ∀ (W : World) (z t : Int), W.heap[B]? = w.heap[B]? → (∀ k, skB B S k ∨ R k → W.heap[k]? = w.heap[k]?) → I64 z → I64 t → SkX Bn ((W.setCell ⟨B, 5, none⟩ (.int .i64 z)).setCell ⟨B, 6, none⟩ (.int .i64 t)) B C S R P u v s m st z t := fun W z t hW hk hz ht => by
    have hb := HX.out.blk
    refine ⟨sk_block (lo := lo) (hi := hi) (hW.trans hb), HD.out.keep _ _ _ _ _ _ _ _ _ HX.out.bins fun k hk' => ?_, HX.out.sep, ⟨hz, ht⟩⟩
    have hne : k ≠ B := by
      rintro rfl
      rcases hk' with a | a
      · exact HX.out.sep.1 a
      · exact HX.out.sep.2 a
    rw [Below.heap_setCell _ _ _ k hne, Below.heap_setCell _ _ _ k hne]
    exact hk k (by rcases hk' with a | a; exact Or.inl (Or.inr a); exact Or.inr a)
  have HK := Lib.hid key
  clear key h
  cases b with
  | true =>
    have ex' : min x lo = x' := ex
    have ey' : max y hi = y' := ey
    subst ex' ey'
    clear ex ey
    go_enter Tryz.func48, Tryz.ntmps48
    go_wp2_with fail
    go_quiet (fail)
    go_wp2_with fail
    have hdr : Below w.heap.size w (w.drewN nq) := below_drewN (Below.refl _ _) nq
    have hkk : Keeps (skB B S) w (((w.drewN nq).setCell ⟨B, 5, none⟩ (.int .i64 (min x lo))).setCell ⟨B, 6, none⟩ (.int .i64 (max y hi))) := keeps_trans (Keeps.of_below hdr) (keeps_trans (keeps_set (S := skB B S) (Or.inl rfl)) (keeps_set (S := skB B S) (Or.inl rfl)) (fun k _ hk => hk)) (fun k _ hk => hk)
    have hxx := HK.out (w.drewN nq) (min x lo) (max y hi) (hdr.block B HX.out.lt) (fun k hk => hdr.block k (HX.out.all_lt HD.out k hk)) (by unfold I64; omega) (by unfold I64; omega)
    first | exact bodyPost_ret (results_none rfl _ _ _) rfl ⟨rfl, hxx, hkk⟩ | exact bodyPost_end (results_none rfl _ _ _) rfl ⟨rfl, hxx, hkk⟩
  | false =>
    have ex' : x = x' := ex
    have ey' : y = y' := ey
    subst ex' ey'
    clear ex ey
    go_enter Tryz.func48, Tryz.ntmps48
    go_wp2_with fail
    have hkk : Keeps (skB B S) w ((w.setCell ⟨B, 5, none⟩ (.int .i64 x)).setCell ⟨B, 6, none⟩ (.int .i64 y)) := keeps_trans (keeps_set (S := skB B S) (Or.inl rfl)) (keeps_set (S := skB B S) (Or.inl rfl)) (fun k _ hk => hk)
    have hxx := HK.out w x y rfl (fun k hk => rfl) HIX.out HIY.out
    first | exact bodyPost_ret (results_none rfl _ _ _) rfl ⟨rfl, hxx, hkk⟩ | exact bodyPost_end (results_none rfl _ _ _) rfl ⟨rfl, hxx, hkk⟩
end Go.Proofs.YtcijflakldggaaaGreat
